import PyProof.Rows.All
import Wide.All
import OpenK.AllK
import Wide.FinOn
import Lean
import PyProof.EqAt
import PyProof.EqKinds
import PyProof.TupleCall
import PyProof.Rows.IntBool
import PySem.Challenge.RW_rankseals_k07_seats_by_sums
set_option Elab.async false
set_option linter.all false
set_option maxRecDepth 100000
set_option maxHeartbeats 4000000
set_option autoImplicit true
open PySem.Value renaming isInt->Wq,isStrOf->aeG,int->zR,str->HN,isInt_shape->adM,none->iW,bool->qN,float->Wr,ref->cM,type->ug,notImplemented->UJ
open PySem renaming World->bu,Program->bA,KeyKind->vo,Addr->ao,Heap->aU,sizeLine->bL,sysModules->lV,tupleKind->nM,Within->aeU,mainGlobals->fV,bootBuiltins->rR,Around->bV,Shared->aA,Scope->jF,GenState->OD,Drawn->yt,wpAny->aH,backTo->gO,starEach->bD,Stmt->dZ,wpAny_mono->pZ,wpAny_Name->WM,wpAny_truthy_bool->BR,wpAny_execs_nil->Mr,wpAny_execs_cons->ad2,swapsWith->vz,assignInOrder->Cr,assignEach->rU,wpAny_assign_Name->Gu,holding->oV,standAt->zZ,wpAny_bind->az,wpAny_holding->jB,wpAny_standAt->zF,swapsWithSole->xu,swappedStores->xx,wpAny_pure->aM,wpAny_newObj_type->jz,bindName->uo,wpAny_rule->rW,wpAny_bindName->GX,PassesOwn->Oa,wpAny_passesOwn->zu,pyNext->gZ,letOwnedTupleGo->xm,pyIter->Aj,wpAny_load->Hz,rawInt->fW,wpAny_pyIter_list->BV,wpAny_pyIter_tuple->U3,foldedSetIterable->wY,binaryOp->lW,compareOp->gb,behindInMarks->Cu,sizeLine_eq->jo,cLine->dB,Result->nP,FuncData->fB,BindsTo->xW,codeAny->j9,wpAny_call->WQ,codeAny_mono->zJ,wpAny_Call_Name_kw->Gp,Keyword->su,NameKind->zU,bindL->yu,bindC->yw,mem_of_lookup->u5,concat_meets->Wd,noFill_tuple_add->Vo,seq_tuple_add->V4,IsPart->sS,wpAny_field->nJ,getItem->vH,wpAny_sequenceKey->adS,wpAny_callSpecial?_slot->pR,wpAny_call_entry->lR,wpAny_typeOf->xJ,seqIndex_of->Wt,seqIndex_neg->We,subscripted->Wu,typeIs_str->WT,sliceBounds->zK,typeIs_int->zP,attributeBase->G4,backToKw->Ib,keywordEach->Hh,call_meets->xM,valueAt->z9,atKey->vU,tupleKind_room_in1->Gq,call_meetsIn->Wg,callerA->Aa,call->WW,DictEntry->xN,compTurn->Ih,wpAny_newFunctionEnv->adm,lookup_relabel_local->adn,wpAny_comprehension_free->Uo,exec_Assign_Name_used->adb,Walks->ux,PyData->au,wpAny_dictSet_pairs->ady,ZipApart->O1,IsZip->qt,IsPair->lZ,wpAny_pyIter_zip->Mj,Builtin->gY,wpAny_newList->V5,wpAny_pyIter_slot->Vc,wpAny_notOrdered_dict->Uy,wpAny_dictEntries->Mi,wpAny_dictEpoch->Vz,wpAny_attempt->xF,wpAny_typeNameOfWhole_keyiter->Lj,wpAny_fieldsOf->xr,wpAny_typeNameOf_keyiter->Lr,wpAny_isOneOf_keyiter->Uz,wpAny_setField->ue,newExc->Dv,newTuple->O3,firstArgMember->Cm,wpAny_of_eq->Hj,raiseNew->O4,wpAny_handled->V7,wpAny_throw->Wx,wpAny_isInstance->Ml,isSubtype_stop->VN,wpAny_pyIter_keyiter->ado,wpAny_runValue->VP,codeAny_builtin->nH,plainId_quiet->oM,richCompare->zM,wpAny_loadPart'->Mv,wpAny_forIn_list->aed,richCompare_meets_room->ac6,seqSlot_of->aee,wpAny_binaryOp_repeat_ref->Uj,SetTable->uq,relayAll->GZ,scanBound->p7,wpAny_setState_of->Ca,wpAny_storeSet_of->adY,fits_of_scanBound->Vj,checkBuiltinCall->aef,wpAny_askSetting->Vs,codeAny_call_builtin->adp,builtinLookup_eq_fast->adh,isSubtype_type->VV,entryFor->Ij,entryFor_of_tree->aeg,argsOk->Dy,setNext->Di,wpAny_setEntries_of->Gm,wpAny_ite_split->Mw,pickOrder->xO,wpAny_seqItems->pX,wpAny_setEpoch_of->adZ,updateSeq->Oj,wpAny_updateSeq->GP,seqItems?->HX,wpAny_setField_rec->Gr,wpAny_onRaise->V8,wpAny_updateSeq_pair->adw,wpAny_letGo->zO,getattributeRaised->adK,wpAny_tryCatch->Cp,kt_code_dict_new->aen,argBest->jD
open Sum renaming inl->zY,inr->xV
open Sum.inr renaming inj->afa
open PySem.SeqAt.EqAt renaming int_str->adC,str_int->adD,int_int->adH
open Option.some renaming inj->fU,injEq->Mh
open PySem.W renaming instObj->zq,methodObj->U8,Frag->aF,lookIn->VM,plainGet->ad3,findIn->zy,takerIn->aeo,specialIn->adO,isFn->aeW,keepIn->vh,emptyDict->wZ,kitOne->zA,kia_one->rP,kitx_none->adP,kitx_bool->adQ,kitx_int->ad4,kitx_str->ad5,kitx_float->adF,kitx_list->Ma,kitx_tuple->adG,kitx_dict->Mf,kitx_own->ad6,cellsFrom_some->ac3,fnOf->xH,codeIn->MF,OpenLaw->Vx,WalkO->aeI,kitAny->MJ,kia_tup->rQ,nsIn->kZ,mg_of->V9,mg_none_of->lQ
open PySem.Heap renaming lt_size->bO,SameBut->xG,get?_push_of_some->bH,get?_push_size->dI,size_push->oJ,get?_update_self->u0,get?_update_other->rM,ExtBut->Hi,IsTuple->ae7
open Nat renaming lt_of_lt_of_le->lN,lt_irrefl->zE,ne_of_lt->cW,le_trans->ir,le_of_lt->zH,ne_of_gt->qL,le_refl->bK,le_of_eq->Wc,lt_succ_self->Gz,zero_le->iI,succ_mul->ae1,lt_trans->xK,sub_self->Wi,lt_succ_of_lt->xg,not_lt->CG,le_succ->uf,mul_comm->ae3,add_zero->ae5,lt_trichotomy->Vk,zero_add->M7,min_self->M9,succ_le_succ->Vu,not_lt_zero->VG,le_add_right->rN
open Array renaming append_assoc->adE,length_toList->j8,toList->aeV,getD->afD,getElem?_eq_getElem->jM,getElem?_eq_none->Uv,getElem?_toList->LC,getD_eq_getD_getElem?->t6,toList_push->Vi,getElem?_eq_some_iff->acU,mem_of_getElem?->adk
open List renaming range->dX,mem_filter->rO,mem_range->ud,filterMap_cons->U0,mem_cons_self->cV,mem_cons_of_mem->dg,mem_cons->bI,mem_append->cF,mem_append_left->gK,getElem?_eq_some_iff->f9,getElem?_set_self->ac2,getElem?_set_ne->zg,set_comm->MK,mem_filterMap->LK,mem_append_right->eF,size_toArray->fj,any_eq_false->adN,append_nil->pU,nodup_cons->j0,of_mem_zip->Ms,replicate->cC,length->qM,length_take->vf,getElem?_append_right->oh,getElem?_replicate->Us,getElem?_append_left->ou,getElem?_map->ie,take_sublist->Mg,mem_of_getElem?->jY,length_append->lO,length_map->bh,length_replicate->Gi,length_drop->ad7,map_nil->pY,map_cons->cB,length_set->vg,all_cons->MN,any_cons->G3,reverse_cons->adT,replicate_succ->t7,flatten_cons->BW,foldl->Nu,append_assoc->oG,foldl_cons->GK,find?_cons->pW,length_cons->cL,length_nil->Mt,filter_cons->xj,nodup_nil->mQ,forIn_cons->Vy,lookup_cons->zp,map_map->gM,all_eq_true->jO,getElem_of_mem->t8,getElem?_eq_getElem->gJ,getElem_mem->Cg,mem_singleton->fQ,not_mem_nil->gU,getD->oR,ext_getElem->GC,length_range->oH,map_congr_left->BL,zip_cons_cons->U4,mem_map->dW,ext_getElem?->adW,getElem?_eq_none->Gj,getElem?_set->BZ,nil_append->jn,pairwise_iff_getElem->uY,pairwise_lt_range->ac7,pairwise_append->UL,getElem_take->adX,pairwise_cons->uc,map_append->j4,length_eq_zero_iff->ac1,length_eraseIdx->adq,take_zero->aez,nodup_append->jZ,Sublist->Wk,any_map->Wl,length_zip->zx,getElem?_range->adB,getElem?_eq_none_iff->Uk,drop_length->aeh,drop_eq_getElem_cons->Ul,getElem?_mapIdx->adt,sublist_nil->aei,eq_of_mem_replicate->Ur,getElem?_take->LR,map_id->Nj,take_of_length_le->ac8,sum_cons->aeO,mem_erase_of_ne->adu,length_erase_of_mem->acX,length_pos_of_mem->Lz,pairwise_map->Vm,any_eq_true->Vt,mem_of_mem_take->UT,filter_eq_self->zj,take_add_one->Vn,find?_eq_none->U7,map_take->aeP,getElem_map->GD,zipIdx_cons->ael,zipIdx_nil->aet,forIn_nil->aeD,zip_map'->aeQ,cons_append->kY,isEmpty_nil->Mq,isEmpty_cons->Gy,length_filter_le->Gk,take_length->Vw
open Ne renaming symm->jr
open PySem.Calls renaming Name_function_global->acR,spliced_nil->U9,spliced_cons->LQ,callWith_builtin->ac4,evalArgs_plain->adl,call_function_entry->Ui
open False renaming elim->qO
open PySem.Flow renaming next->N8
open Bool renaming false_ne_true->gr,false_and->VL,eq_iff_iff->qK,and_eq_true->iT,not_eq_true->ad9,false_eq_true->oF,not_true->aeN,not_false->aew,true_and->aeT,true->aq,false->aB
open PySem.Builtin.Range renaming rangeSize->aos
open PyProof.Rows renaming callWith_type1->Gg,callWith_builtin1->acI,slot_tuple_getitem->Li,boot_zip->ade,toString_length_le->anV
open PySem.EqNone renaming eq_none_none->an1,eq_none_bool->an2,eq_none_int->aoe,eq_none_str->aof,eq_bool_none->an3,eq_int_none->aog,eq_str_none->aoi,ne_none_none->an6,ne_none_bool->an7,ne_none_int->aok,ne_none_str->aol,ne_bool_none->an8,ne_int_none->aom,ne_str_none->aoo
open PySem.EqMixed renaming eq_bool_str->an4,eq_int_str->aoh,eq_str_bool->an5,eq_str_int->aoj,ne_bool_str->an9,ne_int_str->aon,ne_str_bool->aoa,ne_str_int->aop
open True renaming intro->mU
open Option renaming isSome_iff_exists->wW,getD_none->ad8,isSome_some->adJ,isSome_map->Va,map_eq_some_iff->wX,none->mR,map_some->jA,getD_some->Cd,bind_some->mO,some_ne_none->vd,map->afS,map_map->aeC,bind_eq_some_iff->uZ,map_eq_none_iff->ac9,some->aa,none->aj
open PySem.SeqAt renaming EqAt->Nt,shaped->jN
open PySem.F renaming slot_tuple_add->Uu,entry_tuple_add->Ut,args_tuple_add_2->Um,slot_list_append->adI,slot_dict_get->Ux,entry_dict_get->ac5,args_dict_get_3->ac0,slot_dict_iter->aea,slot_dict_keyiterator_next->Lk,entry_dict_keyiterator_next->acK,args_dict_keyiterator_next_1->acJ,plain_proto_collect->acN,plain_list_iadd->Ls,fills_int_mul->VD,slot_int_rmul->Cj,entry_int_rmul->Vq,args_int_rmul_2->Ve,slot_tuple_mul->Vr,entry_tuple_mul->Vf,args_tuple_mul_2->U5,plain_set_new->adg,slot_set_iter->aes,plain_extend_loop->acV,slot_tuple_iterator_next->Lp,entry_tuple_iterator_next->acP,args_tuple_iterator_next_1->acM,slot_zip_next->Mx,entry_zip_next->aek,args_zip_next_1->ad0,kt_called_dict->aem,kt_typeCall_dict_1->adx,entry_dict_init->ad1,args_dict_init_2->adL,entry_max_loop->Uw,plain_max_loop->zf,slot_dict_len->aev
open PySem.Builtin.Slice renaming sliceAdjust->Uh,slicePlaces->Lq,slicePartIndex->anW,sliceApplied->acS,sliceFields->aob
open Int renaming ediv_one->aeX,toNat_natCast->Gv,toNat_of_nonneg->adA,le_refl->vq,emod_nonneg->GR,emod_lt_of_pos->Gs
open PySem.Str renaming ofString->bM
open PySem.Builtin.Tuple renaming tupleItemsOf->acT,tupleExact->Gh,tupleCompareSizes->anU,tupleIsExact->anZ,tupleTooMany->Ug
open PySem.Heap.IsSliceOf renaming new->aow
open PySem.Obj renaming mapSeq->lg,mapFields->V6,isFreed_of_fields->UG,data_mapFields->BP,cls_mapFields->Vd,putSet->Ny
open List.Pairwise renaming nil->BX,filterMap->aot,imp->aox,of_map->aov
open PySem.Data renaming seq->Yh
open Or renaming inl->di,inr->sU
open PySem.NameKind renaming free->oK,cell->MP
open ForInStep renaming yield->aeq
open PySem.Code renaming compLoop->Cv
open PySem.Walks renaming list->HD
open PySem.PyData renaming hasDict->Ck,hasDictAll->Vb,shown->Cy,showable->Mu,noDict_hsm->adU,int->mV,str->jq,eqv->CJ,tuple->G7,depth->G8,shown_str->aej,showableAll->U6,depthAll->xq,shownAll->GQ,strOk->G9,canLayAll0->Gx,canLay0->aeB
open PySem.WalksT renaming zip2->afh
open List.Perm renaming refl->vm,of_eq->aer,swap->V0,append_left->adi
open List.cons renaming inj->G5,injEq->VF
open PySem.Heap.SameBut renaming update->oE,refl->Vh
open PySem.Builtin.Dict renaming dictSlotNone->aoc,showsAll->adf,pairItems->ada,addKeywords->acY,selfAndRest->acZ,updateFrom->Lw,pendingCount->aod
open PySem.Builtin.Dict_items renaming ownsTuple->acL
open PySem.Around renaming under_plainId->oA
open PySem.Builtin.List renaming listExtendWith->Ln,listLengthHint->acO,listSameRef->Uq
open PySem.AutoSeq1 renaming sub_tuple_tuple->acW
open PySem.SetTable.below renaming go->Gw
open PySem.SetTable renaming below->iU,has->ae4,slot->aeK,grown->zB
open PySem.SetTable.probe renaming go->Vg
open PySem.SetTable.Met.empty renaming injEq->aoq
open Prod.mk renaming injEq->aeL
open PyProof.Rows.F renaming entry_set_update_loop->acG,plain_set_update_loop->Ue
open PySem.Builtin.Frozenset renaming newClass->an0,updateFrom->anY,slot0->aou,sizeOf->aor
open PySem.Shared renaming TypeIs->aeM,heap->afm
open PySem.pickOrder renaming go->Wj
open PySem.Bind renaming checkArgs->aey
open List.Sublist renaming refl->zm,append->Gn
open PySem.Builtin.Str renaming strSliceIndices->BK,reprChar->UW
open PySem.Builtin.SmallTypes renaming nextOf->zc,ownedTupleIsFree->Lh,ownedTupleHandOut->acH
open PySem.Heap.IsTuple renaming push->aoy
open PySem.Heap.DictOf renaming new->aeu
open PySem.Builtin.Builtins renaming bindParams->acQ
open PySem.PassesOwn renaming never->lU
theorem aY{c:Prop}[i:Decidable c](h:c){α:Sort _}{t e:α}:ite c t e=t:=if_pos h
theorem bw{c:Prop}[i:Decidable c](h:¬c){α:Sort _}{t e:α}:ite c t e=e:=if_neg h
theorem fP{p:Prop}[i:Decidable p](h:p):decide p=true:=decide_eq_true h
theorem jk{p:Prop}[i:Decidable p](h:¬p):decide p=false:=decide_eq_false h
noncomputable section
namespace L2
open PySem PySem.Spec PyProof.Rows
abbrev Key:=Sum Int Str
def Ax:Key->Value->Bool
 |.inl k,v=>Wq k v
 |.inr x,v=>aeG x v
def alW(w:bu):Key->Int
 |.inl k=>hashInt k
 |.inr x=>hashStr w x
theorem rT:∀{k:Key}{v:Value},Ax k v=aq->(∃i t,k=zY i/\v=zR i t)\/(∃x t,k=xV x/\v=HN x t)
 |.inl i,v,h=>by
  obtain⟨t,e⟩:=adM (k:=i) (v:=v) h
  exact .inl ⟨i,t,rfl,e⟩
 |.inr x,v,h=>by
  obtain⟨t,e⟩:=Value.isStrOf_shape (x:=x) (v:=v) h
  exact .inr ⟨x,t,rfl,e⟩
theorem af9(i:Int)(t:Tok):Ax (.inl i) (.int i t)=aq:=by simp[Ax,Wq]
theorem aga(x:Str)(t:Tok):Ax (.inr x) (.str x t)=aq:=by simp[Ax,aeG]
theorem ajR(a b:Int):decide ((zY a:Key)=zY b)=(a==b):=by
 by_cases e:a=b
 .subst e;simp
 .have h:¬(zY a:Key)=zY b:=λq=>e (Sum.inl.inj q)
  rw[jk h]
  exact(beq_eq_false_iff_ne.mpr e).symm
theorem ajS(a b:Str):decide ((xV a:Key)=xV b)=decide (a=b):=by
 by_cases e:a=b
 .subst e;simp
 .have h:¬(xV a:Key)=xV b:=λq=>e (afa q)
  rw[jk h,jk e]
theorem ajT(a:Int)(b:Str):decide ((zY a:Key)=xV b)=aB:=jk (λq=>nomatch q)
theorem ajU(a:Str)(b:Int):decide ((xV a:Key)=zY b)=aB:=jk (λq=>nomatch q)
def fD(prog:bA)(w:bu):vo prog w Key where
 is:=Ax
 hash:=alW w
 inj:=λv a b ha hb=>by
  rcases rT ha with⟨i,t,rfl,rfl⟩|⟨x,t,rfl,rfl⟩
  .rcases rT hb with⟨j,u,rfl,e⟩|⟨y,u,rfl,e⟩
   .injection e with e1 _;rw[e1]
   .exact nomatch e
  .rcases rT hb with⟨j,u,rfl,e⟩|⟨y,u,rfl,e⟩
   .exact nomatch e
   .injection e with e1 _;rw[e1]
 byValue:=λk v h=>by
  rcases rT h with⟨i,t,rfl,rfl⟩|⟨x,t,rfl,rfl⟩<;>rfl
 pyHash:=λhv h=>by
  rcases rT hv with⟨i,t,rfl,rfl⟩|⟨x,t,rfl,rfl⟩
  .exact wpAny_pyHash_int h
  .exact wpAny_pyHash_str h
 eqBool:=λhu hv h=>by
  rcases rT hu with⟨i,t,rfl,rfl⟩|⟨x,t,rfl,rfl⟩
  .rcases rT hv with⟨j,u,rfl,rfl⟩|⟨y,u,rfl,rfl⟩
   .rw[ajR] at h;exact wpAny_eqBool_int h
   .rw[ajT] at h;exact adC i t y u _ _ _ _ h
  .rcases rT hv with⟨j,u,rfl,rfl⟩|⟨y,u,rfl,rfl⟩
   .rw[ajU] at h;exact adD x t j u _ _ _ _ h
   .rw[ajS] at h;exact wpAny_eqBool_str h
 «strs»:=λk x t v h=>by
  rcases rT h with⟨i,u,rfl,e⟩|⟨y,u,rfl,e⟩
  .exact nomatch e
  .injection e with e1 _
   subst e1;cases v<;>rfl
theorem afb(prog:bA)(w:bu)(i:Int)(t:Tok):(fD prog w).is (.inl i) (.int i t)=aq:=af9 i t
theorem afc(prog:bA)(w:bu)(x:Str)(t:Tok):(fD prog w).is (.inr x) (.str x t)=aq:=aga x t
inductive V where
 |non|bl (b:Bool)|int (i:Int)|str (x:Str)|pM (b:Array UInt8)|flt (b:UInt64)|ref (a:ao)|ty (n:String)
 deriving DecidableEq
def RelV:V->Value->Prop
 |.non,u=>u=iW
 |.bl b,u=>u=qN b
 |.int i,u=>∃t,u=zR i t
 |.str x,u=>∃t,u=HN x t
 |.pM b,u=>∃t,u=Value.bytes b t
 |.flt b,u=>∃t,u=Wr b t
 |.ref a,u=>u=cM a
 |.ty n,u=>u=ug n
abbrev Vals:List V->List Value->Prop:=Paired RelV
theorem Vals.length{xs:List V}{us:List Value}(r:Vals xs us):xs.length=us.length:=Paired.length r
theorem Vals.get:∀{xs:List V}{us:List Value}{i:Nat}{x:V},Vals xs us->xs[i]?=aa x->∃u,us[i]?=aa u/\RelV x u
 |_,_,_,_,.nil,e=>by simp at e
 |_,_,0,_,.cons r _,e=>by simp at e;subst e;exact⟨_,rfl,r⟩
 |_,_,i+1,x,.cons _ t,e=>by
  obtain⟨u,h1,h2⟩:=Vals.get (i:=i) (x:=x) t (by simpa using e)
  exact⟨u,by simpa using h1,h2⟩
theorem Vals.set{x:V}{u:Value}(r:RelV x u):∀{xs:List V}{us:List Value}(i:Nat),Vals xs us->Vals (xs.set i x) (us.set i u)
 |_,_,_,.nil=>.nil
 |_,_,0,.cons _ t=>.cons r t
 |_,_,i+1,.cons q t=>.cons q (Vals.set r i t)
theorem Vals.append:∀{xs ys:List V}{us ws:List Value},Vals xs us->Vals ys ws->Vals (xs++ys) (us++ws)
 |_,_,_,_,.nil,s=>s
 |_,_,_,_,.cons r t,s=>.cons r (Vals.append t s)
theorem Vals.take:∀{xs:List V}{us:List Value}(n:Nat),Vals xs us->Vals (xs.take n) (us.take n)
 |_,_,0,_=>.nil
 |_,_,_+1,.nil=>.nil
 |_,_,n+1,.cons r t=>.cons r (Vals.take n t)
theorem Vals.drop:∀{xs:List V}{us:List Value}(n:Nat),Vals xs us->Vals (xs.drop n) (us.drop n)
 |_,_,0,r=>r
 |_,_,_+1,.nil=>.nil
 |_,_,n+1,.cons _ t=>Vals.drop n t
def pG:Option V->Option Value->Prop
 |some v,some u=>RelV v u
 |none,none=>True
 |_,_=>False
def KV{κ:Type}:List (κ×V)->List (κ×Value)->Prop:=Paired λ(p:κ×V)(q:κ×Value)=>p.1=q.1/\RelV p.2 q.2
def kV:Key->V
 |.inl i=>.int i
 |.inr x=>.str x
inductive HO where
 |lst (xs:List V)
 |tup (xs:List V)
 |dK (kvs:List (Key×V)) (ep:Nat)|dT (kvs:List (List Key×V)) (ep:Nat)
 |set (S:Int->Bool) (n:Nat)
 |ins (C dx:ao) (fs:List (Str×V))
 |own (x:ao)
 |xd (fs:List (Str×V))
 |met (f x:ao)
 |S7 (lo hi:Int)
 |kJ (o:Obj) (u:HO)
 |yQ (ps:Array Value)
 |ext (φ:aU->Prop)
abbrev Hp:=ao->Option HO
def upd(H:Hp)(a:ao)(o:HO):Hp:=λb=>if b=a then aa o else H b
theorem eN{H:Hp}{a:ao}{o:HO}:upd H a o a=aa o:=by unfold upd;rw[aY rfl]
theorem cI{H:Hp}{a b:ao}{o:HO}(h:b≠a):upd H a o b=H b:=by unfold upd;rw[bw h]
theorem Zd{H:Hp}{a:ao}{o u:HO}:upd (upd H a o) a u=upd H a u:=by
 funext b;unfold upd;split<;>rfl
theorem Rx{H:Hp}{a b:ao}{o u:HO}(h:H a=aa o)(h':H b=aa u)(d:o≠u):a≠b:=by
 intro e;subst e;rw[h] at h';exact d (fU h')
theorem oO{H:Hp}{a b:ao}{o:HO}(h:H a=aa o)(h':H b=aj):a≠b:=by
 intro e;subst e;rw[h] at h';cases h'
section
variable(P:bA)(w:bu)
def dN(H:Hp)(h:aU)(a:ao):HO->Prop
 |.lst xs=>xs.length<=bL/\∃(its:List Value)(n:Nat),Vals xs its/\h.get? a=aa {cls:=.type "list",data:=.seq its.toArray n}
 |.tup xs=>xs.length<=bL/\∃its:List Value,Vals xs its/\IsTup h a its.toArray
 |.dK kvs ep=>kvs.length<=bL/\(a==lV)=aB/\∃vs,KV kvs vs/\h.DictAt (fD P w) a vs ep
 |.dT kvs ep=>kvs.length<=bL/\(a==lV)=aB/\∃xs:List (List Key×ao×Value),
   Paired (λ(p:List Key×V)(q:List Key×ao×Value)=>p.1=q.1/\H q.2.1=aa (.tup (p.1.map kV))/\RelV p.2 q.2.2) kvs xs/\
   ∃o es,h.get? a=aa o/\o.ExactDict/\o.data=.dict es ep/\es.toList=xs.map (entryOfKey (nM (fD P w)))/\(xs.map (·.1)).Nodup
 |.set S n=>h.SetOf (intKind P w) a S n
 |.ins C dx fs=>H dx=aa (.own a)/\fs.length<=1000/\dx≠a/\h.get? a=aa (zq C dx)/\
   ∃mA,h.Ns1 dx mA/\(∀f,pG (fs.lookup f) (mA f))/\aeU mA (fs.map (·.1))
 |.own _=>∃o,h.get? a=aa o
 |.xd fs=>∃mA,h.Ns1 a mA/\∀f,pG (fs.lookup f) (mA f)
 |.S7 lo hi=>∃t u v,h.get? a=aa {cls:=.type "range",data:=.fields #[.int lo t,.int hi u,.int 1 v]}
 |.kJ o u=>h.get? a=aa o/\dN H h a u
 |.yQ ps=>h.get? a=aa {cls:=.none,data:=.fields ps}
 |.met f x=>h.get? a=aa (U8 (.ref f) (.ref x))
 |.ext φ=>φ h/\(∃o,h.get? a=aa o)/\∀h1 h2:aU,φ h1->(∀o,h1.get? a=aa o->h2.get? a=aa o)->φ h2
def gm(H:Hp)(h:aU):Prop:=∀a o,H a=aa o->dN P w H h a o
end
section
variable{P:bA}{w:bu}{H H':Hp}{h h':aU}{a:ao}{o:HO}
theorem dN.lt(x:dN P w H h a o):a<h.objs.size:=by
 cases o with
 |lst xs=>obtain⟨_,_,_,_,e⟩:=x;exact bO e
 |tup xs=>obtain⟨_,_,_,p⟩:=x;exact p.lt
 |dK kvs ep=>obtain⟨_,_,_,_,o,_,e,_⟩:=x;exact bO e
 |dT kvs ep=>obtain⟨_,_,_,_,o,_,e,_⟩:=x;exact bO e
 |set S n=>obtain⟨o,_,_,_,e,_⟩:=x;exact bO e
 |ins C dx fs=>obtain⟨_,_,_,e,_⟩:=x;exact bO e
 |own y=>obtain⟨_,e⟩:=x;exact bO e
 |xd fs=>obtain⟨_,⟨_,_,_,e,_⟩,_⟩:=x;exact bO e
 |S7 lo hi=>obtain⟨_,_,_,e⟩:=x;exact bO e
 |kJ ob u=>obtain⟨e,_⟩:=x;exact bO e
 |yQ ps=>exact bO (show h.get? a=aa _ from x)
 |met f y=>exact bO (show h.get? a=aa _ from x)
 |ext φ=>obtain⟨_,⟨_,e⟩,_⟩:=x;exact bO e
theorem Paired.R4{α β:Type}{F G:α->β->Prop}:∀{l₁:List α}{l₂:List β},Paired F l₁ l₂->(∀a b,F a b->G a b)->Paired G l₁ l₂
 |_,_,.nil,_=>.nil
 |_,_,.cons r t,f=>.cons (f _ _ r) (Paired.R4 t f)
theorem dN.stay(x:dN P w H h a o)(k:∀b u,(b=a\/H b=aa (.own a))->h.get? b=aa u->h'.get? b=aa u)
  (ho:∀b,H b=aa (.own a)->H' b=aa (.own a))(ht:∀b xs,H b=aa (.tup xs)->H' b=aa (.tup xs)):dN P w H' h' a o:=by
 induction o with
 |lst xs=>obtain⟨z,its,n,r,e⟩:=x;exact⟨z,its,n,r,k _ _ (.inl rfl) e⟩
 |tup xs=>obtain⟨z,its,r,ob,e,c⟩:=x;exact⟨z,its,r,ob,k _ _ (.inl rfl) e,c⟩
 |dK kvs ep=>obtain⟨z,y,vs,r,ob,es,e,c⟩:=x;exact⟨z,y,vs,r,ob,es,k _ _ (.inl rfl) e,c⟩
 |dT kvs ep=>
  obtain⟨z,y,xs,r,ob,es,e,c⟩:=x
  exact⟨z,y,xs,Paired.R4 r λp q z=>⟨z.1,ht _ _ z.2.1,z.2.2⟩,ob,es,k _ _ (.inl rfl) e,c⟩
 |set S n=>obtain⟨ob,es,ep,t,e,c⟩:=x;exact⟨ob,es,ep,t,k _ _ (.inl rfl) e,c⟩
 |ins C dx fs=>
  obtain⟨d,z,ne,e,mA,⟨od,es,ep,e2,c⟩,r⟩:=x
  exact⟨ho _ d,z,ne,k _ _ (.inl rfl) e,mA,⟨od,es,ep,k _ _ (.inr d) e2,c⟩,r⟩
 |own y=>obtain⟨ob,e⟩:=x;exact⟨ob,k _ _ (.inl rfl) e⟩
 |xd fs=>obtain⟨mA,⟨od,es,ep,e,c⟩,r⟩:=x;exact⟨mA,⟨od,es,ep,k _ _ (.inl rfl) e,c⟩,r⟩
 |S7 lo hi=>obtain⟨t,u,v,e⟩:=x;exact⟨t,u,v,k _ _ (.inl rfl) e⟩
 |kJ ob u ih=>obtain⟨e,q⟩:=x;exact⟨k _ _ (.inl rfl) e,ih q⟩
 |yQ ps=>
  have e:h.get? a=aa {cls:=.none,data:=.fields ps}:=x;show h'.get? a=aa {cls:=.none,data:=.fields ps};exact k a _ (.inl rfl) e
 |met f y=>
  have e:h.get? a=aa (U8 (.ref f) (.ref y)):=x;show h'.get? a=aa (U8 (.ref f) (.ref y));exact k a _ (.inl rfl) e
 |ext φ=>obtain⟨p,⟨o,e⟩,st⟩:=x;exact⟨st _ _ p λo q=>k _ _ (.inl rfl) q,⟨o,k _ _ (.inl rfl) e⟩,st⟩
theorem gm.lt(x:gm P w H h)(e:H a=aa o):a<h.objs.size:=(x a o e).lt
theorem gm.fresh(x:gm P w H h)(e:h.objs.size<=a):H a=aj:=by
 cases q:H a with
 |none=>rfl
 |some u=>exact absurd (lN (x.lt q) e) (zE _)
theorem gm.kept(x:gm P w H h)(k:∀b u,h.get? b=aa u->h'.get? b=aa u):gm P w H h':=λa o e=>
 (x a o e).stay (λb u _ q=>k b u q) (λ_ q=>q) λ_ _ q=>q
theorem gm.laid(x:gm P w H h)(k:∀b u,h.get? b=aa u->h'.get? b=aa u)(hp:h.objs.size<=a)(new:dN P w (upd H a o) h' a o):gm P w (upd H a o) h':=λb u e=>by
 have hn:=x.fresh hp;by_cases hb:b=a
 .subst hb;rw[eN] at e;cases e;exact new
 .rw[cI hb] at e
  exact(x b u e).stay (λc v _ q=>k c v q) (λc q=>by rw[cI (oO q hn)];exact q) λc xs q=>by rw[cI (oO q hn)];exact q
end
def Rd(H:Hp)(a:ao)(u:HO):Prop:=H a=aa u\/∃o,H a=aa (.kJ o u)
theorem Rd.of{H:Hp}{a:ao}{u:HO}(h:H a=aa u):Rd H a u:=.inl h
theorem Rd.ok{P:bA}{w:bu}{H:Hp}{h:aU}{a:ao}{u:HO}(r:Rd H a u)(x:gm P w H h):dN P w H h a u:=by
 rcases r with r|⟨o,r⟩
 .exact x a u r
 .obtain⟨_,q⟩:=x a _ r
  exact q
def Ff:Option HO->Prop
 |some (.lst _)=>True
 |some (.dK _ _)=>True
 |some (.dT _ _)=>True
 |some (.set _ _)=>True
 |some (.ins _ _ _)=>True
 |some (.ext _)=>True
 |_=>False
section
variable{P:bA}{w:bu}{H:Hp}{h h':aU}{x e:ao}{o':HO}
theorem gm.write(ok:gm P w H h)(mu:Ff (H x))(he:e=x\/H e=aa (.own x))(k:∀b u,b≠e->h.get? b=aa u->h'.get? b=aa u)(heo:∃u,h'.get? e=aa u)
  (new:dN P w (upd H x o') h' x o'):gm P w (upd H x o') h':=λb u q=>by
 have abo:∀c y,H c=aa (.own y)->c≠x:=λc y r z=>by subst z;rw[r] at mu;exact mu
 have alX:∀c xs,H c=aa (.tup xs)->c≠x:=λc xs r z=>by subst z;rw[r] at mu;exact mu
 by_cases hb:b=x
 .subst hb;rw[eN] at q;cases q;exact new
 .rw[cI hb] at q;by_cases hbe:b=e
  .have q':H b=aa (.own x):=by
    rcases he with z|z
    .exact absurd (hbe.trans z) hb
    .rw[hbe];exact z
   rw[q] at q';cases q'
   obtain⟨v,hv⟩:=heo
   exact⟨v,by rw[hbe];exact hv⟩
  .refine(ok b u q).stay (λc v hc r=>k c v ?_ r) (λc r=>by rw[cI (abo c b r)];exact r) λc xs r=>by rw[cI (alX c xs r)];exact r
   rcases hc with rfl|hc
   .exact hbe
   .rintro rfl;rcases he with z|z
    .exact abo c b hc z
    .rw[hc] at z;cases z;exact hb rfl
end
structure Un(fs ex:List ao)(H H':Hp)(h h':aU):Prop where
 keep:∀b o,h.get? b=aa o->H b=aj->b∉fs->b∉ex->h'.get? b=aa o
 slot:∀b o,h.get? b=aa o->H b=aj->b∈fs->b∉ex->∃sl,h'.get? b=aa {o with slots:=sl}
 free:∀b o,h.get? b=aa o->H b=aj->b∉ex->H' b=aj
 there:∀b o,h.get? b=aa o->b∉ex->∃o',h'.get? b=aa o'
 tups:∀b xs,H b=aa (.tup xs)->H' b=aa (.tup xs)
 pH:∀b o u,H b=aa (.kJ o u)->H' b=aa (.kJ o u)
 qw:∀b ps,H b=aa (.yQ ps)->∃more,H' b=aa (.yQ (ps++more))
section
variable{fs fs' ex ex':List ao}{H H1 H2:Hp}{h h1 h2 h':aU}{a x e:ao}{o:HO}
theorem Un.any(u:Un fs ex H H1 h h1){b:ao}{ob:Obj}(q:h.get? b=aa ob)(n:H b=aj)(hx:b∉ex):∃sl,h1.get? b=aa {ob with slots:=sl}:=by
 by_cases hb:b∈fs
 .exact u.slot b ob q n hb hx
 .exact⟨ob.slots,u.keep b ob q n hb hx⟩
theorem Un.trans(a:Un fs ex H H1 h h1)(b:Un fs ex H1 H2 h1 h2):Un fs ex H H2 h h2 where
 keep:=λc ob q n hc hx=>b.keep c ob (a.keep c ob q n hc hx) (a.free c ob q n hx) hc hx
 slot:=λc ob q n hc hx=>by
  obtain⟨sl,e1⟩:=a.slot c ob q n hc hx
  obtain⟨sl',e2⟩:=b.slot c _ e1 (a.free c ob q n hx) hc hx
  exact⟨sl',e2⟩
 free:=λc ob q n hx=>by
  obtain⟨o',e1⟩:=a.there c ob q hx
  exact b.free c o' e1 (a.free c ob q n hx) hx
 there:=λc ob q hx=>by
  obtain⟨o',e1⟩:=a.there c ob q hx
  exact b.there c o' e1 hx
 tups:=λc xs q=>b.tups c xs (a.tups c xs q)
 pH:=λc ob xs q=>b.pH c ob xs (a.pH c ob xs q)
 qw:=λc ps q=>by
  obtain⟨m1,e1⟩:=a.qw c ps q
  obtain⟨m2,e2⟩:=b.qw c _ e1
  exact⟨m1++m2,by rw[e2,adE]⟩
theorem Un.kept(k:∀b u,h.get? b=aa u->h'.get? b=aa u):Un fs ex H H h h':=
 ⟨λb ob q _ _ _=>k b ob q,λb ob q _ _ _=>⟨ob.slots,k b ob q⟩,λ_ _ _ n _=>n,λb ob q _=>⟨ob,k b ob q⟩,λ_ _ q=>q,λ_ _ _ q=>q,λ_ ps q=>⟨#[],by rw[q];simp⟩⟩
theorem Un.refl:Un fs ex H H h h:=Un.kept λ_ _ q=>q
theorem Un.laid(k:∀b u,h.get? b=aa u->h'.get? b=aa u)(hp:h.objs.size<=a)(hn:H a=aj):Un fs ex H (upd H a o) h h' where
 keep:=λb u q _ _ _=>k b u q
 slot:=λb u q _ _ _=>⟨u.slots,k b u q⟩
 free:=λb u q n _=>by rw[cI (cW (lN (bO q) hp))];exact n
 there:=λb u q _=>⟨u,k b u q⟩
 tups:=λb xs q=>by rw[cI (oO q hn)];exact q
 pH:=λb u xs q=>by rw[cI (oO q hn)];exact q
 qw:=λb ps q=>⟨#[],by rw[cI (oO q hn),q];simp⟩
theorem Un.write(mu:Ff (H x))(he:e=x\/H e=aa (.own x))(k:∀b u,b≠e->h.get? b=aa u->h'.get? b=aa u)(heo:∃u,h'.get? e=aa u):Un fs ex H (upd H x o) h h':=by
 have hx:∀b,H b=aj->b≠x:=λb n z=>by subst z;rw[n] at mu;exact mu
 have hb:∀b,H b=aj->b≠e:=λb n z=>by
  subst z;rcases he with r|r
  .exact hx b n r
  .rw[n] at r;cases r
 have hm:∀b u,H b=aa u->¬Ff (aa u)->b≠x:=λb u q nm z=>by subst z;rw[q] at mu;exact nm mu
 refine⟨λb u q n _ _=>k b u (hb b n) q,λb u q n _ _=>⟨u.slots,k b u (hb b n) q⟩,λb u q n _=>by rw[cI (hx b n)];exact n,λb u q _=>?_,
  λb xs q=>by rw[cI (hm b _ q λz=>z)];exact q,λb u xs q=>by rw[cI (hm b _ q λz=>z)];exact q,λb ps q=>⟨#[],by rw[cI (hm b _ q λz=>z),q];simp⟩⟩
 by_cases hbe:b=e
 .subst hbe;exact heo
 .exact⟨u,k b u hbe q⟩
theorem Un.mono(u:Un fs ex H H1 h h1)(hs:∀b∈fs,b∈fs')(hx:∀b∈ex,b∈ex'):Un fs' ex' H H1 h h1:=
 ⟨λb ob q n hb he=>u.keep b ob q n (λz=>hb (hs b z)) λz=>he (hx b z),λ_ _ q n _ he=>u.any q n λz=>he (hx _ z),λb ob q n he=>u.free b ob q n λz=>he (hx b z),λb ob q he=>u.there b ob q λz=>he (hx b z),u.tups,u.pH,u.qw⟩
end
def KC(h:aU)(H:Hp):List ao:=(dX h.objs.size).filter λa=>(H a).isSome
def uC(h:aU)(H:Hp):aU:=PySem.W.hideAll h (KC h H)
theorem agb(h:aU)(H:Hp):(uC h H).objs.size=h.objs.size:=PySem.W.hideAll_size _ _
theorem ag3{h:aU}{H:Hp}{b:ao}{o:Obj}(e:h.get? b=aa o)(n:H b=aj):(uC h H).get? b=aa o:=
 PySem.W.hideAll_get _ e λhm=>by
  have q:(H b).isSome=aq:=(rO.mp hm).2;rw[n] at q;simp at q
theorem ah9{h:aU}{H:Hp}{b:ao}{o:Obj}(e:(uC h H).get? b=aa o):h.get? b=aa o/\H b=aj:=by
 have e':h.get? b=aa o:=PySem.W.of_hideAll (KC h H) e
 refine⟨e',?_⟩
 cases q:H b with
 |none=>rfl
 |some x=>
  have hm:b∈KC h H:=rO.mpr ⟨ud.mpr (bO e'),by simp[q]⟩;have z:(uC h H).get? b=aj:=PySem.W.hideAll_none (KC h H) hm;rw[z] at e;cases e
def aia(g h:aU)(L:ao):List (ao×Obj):=(dX h.objs.size).filterMap λa=>if a=L\/(g.get? a).isSome=aq then aj else(h.get? a).map λo=>(a,o)
def rest(g h:aU)(L d:ao):List (ao×Obj):=(aia g h L).filter λp=>decide (p.1≠d)
structure Mod(K:aF)(mg:Str->Option Value)(base:aU):Prop where
 S8:K.In base
 glob:base.Ns fV mg
 blt:∃mb,base.Ns builtinsNs mb/\∀x:Str,x≠"__name__"->mb x=rR x
 nolimit:base.NoLimit
structure Cx where
 prog:bA
 w:bu
 K:aF
 mg:Str->Option Value
 base:aU
 A:bV
 N:List Str
 s₀:aA
 H₀:Hp
 env:Env
 outer:List Env
 stack:List Env
 ex:List ao
 fn:Str->Bool
 calm:Bool
 pn:List (ao×Obj)
 xe:Value->aA->Prop
def frs(l:List Env):List ao:=l.filterMap (·.frame)
abbrev Cx.fs(X:Cx):List ao:=frs X.outer
def S9(sc:jF)(x:Str):Prop:=sc.names.lookup x=aa .local\/sc.names.lookup x=aa .cell\/sc.names.lookup x=aa .free
def Loc(sc:jF)(x:Str):Prop:=sc.names.lookup x=aa .local\/sc.names.lookup x=aa .cell
def Look(env:Env)(h:aU)(m:Str->Option Value)(x:Str)(u:Value):Prop:=
 (env.kindOf x=aa .local/\m x=aa u)\/((env.kindOf x=aa .cell\/env.kindOf x=aa .free)/\∃c,env.cells.lookup x=aa c/\h.IsCell c (aa u))
structure Cx.Ok(X:Cx):Prop where
 mod:Mod X.K X.mg X.base
 kind:X.env.scope.kind=.function
 glob:X.env.globals=fV
 blt:X.env.builtins=builtinsNs
 above:X.s₀.heap.objs.size<=X.env.locals
 inj:∀x y c,X.env.cells.lookup x=aa c->X.env.cells.lookup y=aa c->x=y
 has:∀x,(X.env.kindOf x=aa .cell\/X.env.kindOf x=aa .free)->∃c,X.env.cells.lookup x=aa c
 cab:∀x c,X.fn x=aq->X.env.cells.lookup x=aa c->X.s₀.heap.objs.size<=c
 hd:X.calm=aq->X.A.handled=aj
 frames:X.A.frames=aa X.stack
 stk:X.stack=X.outer\/(X.stack=X.env::X.outer/\X.env.frame=aa X.env.locals)
 exf:∀b∈X.ex,b≠X.env.locals/\∀x c,X.env.cells.lookup x=aa c->c≠b
 bs:∀b o,X.base.get? b=aa o->X.s₀.heap.get? b=aa o/\X.H₀ b=aj
 tR:X.base.objs.size<=X.s₀.heap.objs.size
 Es:∀b o,X.base.get? b=aa o->b∉X.ex
 Km:∀b∈X.ex,b∉X.fs
 qx:X.s₀.heap.FunFrames X.base X.outer
 yR:∀b∈X.fs,X.H₀ b=aj
structure Inv(X:Cx)(pins:List (ao×Obj))(σ:List (Option V))(H:Hp)(s:aA):Prop where
 ok:X.Ok
 os:s.os=X.s₀.os
 bare:AllBare s.gens
 base:Un X.fs X.ex X.H₀ H X.s₀.heap s.heap
 loc:∃m,s.heap.Ns X.env.locals m/\∀(i:Nat)(x:Str)(v:V),X.N[i]?=aa x->σ[i]?=aa (aa v)->S9 X.env.scope x->∃u,RelV v u/\Look X.env s.heap m x u
 cell:∀x c,X.env.cells.lookup x=aa c->∃v,s.heap.IsCell c v
 free:H X.env.locals=aj
 qU:∀x c,X.env.cells.lookup x=aa c->H c=aj
 pin:∀p∈X.pn++pins,s.heap.get? p.1=aa p.2/\H p.1=aj/\p.1≠X.env.locals/\p.1∉X.fs/\∀v,p.2.data≠.cell v
 hok:gm X.prog X.w H s.heap
 len:σ.length=X.N.length
section
variable{X:Cx}{pins:List (ao×Obj)}{σ:List (Option V)}{H H':Hp}{s:aA}{h':aU}
theorem Cx.Ok.alY(ok:X.Ok){b:ao}{o:Obj}(e:X.base.get? b=aa o):b∉X.fs:=λhb=>by
 have:=(ok.qx.mem hb).1;rw[e] at this;cases this
theorem Inv.bs(I:Inv X pins σ H s):∀b o,X.base.get? b=aa o->s.heap.get? b=aa o/\H b=aj:=λb o e=>
 ⟨I.base.keep b o (I.ok.bs b o e).1 (I.ok.bs b o e).2 (I.ok.alY e) (I.ok.Es b o e),I.base.free b o (I.ok.bs b o e).1 (I.ok.bs b o e).2 (I.ok.Es b o e)⟩
theorem Inv.bk(I:Inv X pins σ H s):∀b o,X.base.get? b=aa o->s.heap.get? b=aa o:=λb o e=>(I.bs b o e).1
theorem Inv.mod(I:Inv X pins σ H s):Mod X.K X.mg X.base:=I.ok.mod
theorem Inv.gQ(I:Inv X pins σ H s):X.K.In s.heap:=I.ok.mod.S8.keeps I.bk
theorem Inv.nolimit(I:Inv X pins σ H s):s.heap.NoLimit:=I.ok.mod.nolimit.keeps I.bk
theorem Inv.fr(I:Inv X pins σ H s):∃m,Fr X.base X.env.locals s.heap m:=
 let ⟨m,hn,_⟩:=I.loc
 ⟨m,hn,I.bk,ir I.ok.tR I.ok.above⟩
theorem Inv.lt(I:Inv X pins σ H s):X.env.locals<s.heap.objs.size:=let ⟨_,hn,_⟩:=I.loc;hn.lt
theorem Inv.sz(I:Inv X pins σ H s):X.s₀.heap.objs.size<=s.heap.objs.size:=ir I.ok.above (zH I.lt)
theorem Inv.alZ(I:Inv X pins σ H s){a:ao}(h:s.heap.objs.size<=a):a∉X.fs:=λhb=>by
 obtain⟨_,o,ho,_⟩:=I.ok.qx.mem hb
 exact absurd (lN (bO ho) (ir I.sz h)) (zE _)
theorem Inv.yS(I:Inv X pins σ H s):∀x c,X.env.cells.lookup x=aa c->c≠X.env.locals:=λx c e z=>by
 obtain⟨v,o,ho,hd⟩:=I.cell x c e
 obtain⟨m,⟨o',es,ep,ho',hd',_⟩,_⟩:=I.loc
 rw[z,ho'] at ho;cases ho;rw[hd'] at hd;cases hd
theorem Inv.qx(I:Inv X pins σ H s):s.heap.FunFrames X.base X.outer:=by
 have all:∀(l:List Env),(∀b∈frs l,b∈X.fs)->X.s₀.heap.FunFrames X.base l->s.heap.FunFrames X.base l:=by
  intro l;induction l with
  |nil=>intro _ _;trivial
  |cons env r ih=>
   intro hs hl
   obtain⟨hk,⟨L,o,hf,hn,ho,hd⟩,hr⟩:=hl
   have hL:L∈X.fs:=hs L (by unfold frs;rw[U0,hf];exact cV)
   obtain⟨sl,e⟩:=I.base.slot L o ho (I.ok.yR L hL) hL λz=>I.ok.Km L z hL
   exact⟨hk,⟨L,_,hf,hn,e,hd⟩,ih (λb hb=>hs b (by unfold frs;rw[U0,hf];exact dg _ hb)) hr⟩
 exact all X.outer (λ_ hb=>hb) I.ok.qx
theorem Inv.stack(I:Inv X pins σ H s):s.heap.FunFrames X.base X.stack:=by
 rcases I.ok.stk with e|⟨e,hf⟩
 .rw[e];exact I.qx
 .rw[e]
  obtain⟨m,hn,_⟩:=I.loc
  refine .cons (by rw[I.ok.kind];decide) hf hn ?_ I.qx;exact Heap.get?_none_of_le (ir I.ok.tR I.ok.above)
theorem Inv.Dq(I:Inv X pins σ H s):∀b∈frs X.stack,b∈X.env.locals::X.fs:=λb hb=>by
 rcases I.ok.stk with e|⟨e,hf⟩
 .rw[e] at hb;exact dg _ hb
 .rw[e] at hb;unfold frs at hb;rw[U0,hf] at hb;exact hb
theorem Inv.Ze(I:Inv X pins σ H s):∀b∈frs X.stack,H b=aj:=λb hb=>by
 rcases bI.mp (I.Dq b hb) with e|hb
 .rw[e];exact I.free
 .obtain⟨_,o,ho,_⟩:=I.ok.qx.mem hb
  exact I.base.free b o ho (I.ok.yR b hb) λz=>I.ok.Km b z hb
theorem Inv.step{g':Array OD}{t':Nat}{d':yt}{ch:List ao}(I:Inv X pins σ H s)
  (hch:∀b∈ch,(b∈X.ex\/X.s₀.heap.objs.size<=b)/\b≠X.env.locals/\(∀x c,X.env.cells.lookup x=aa c->c≠b)/\∀p∈X.pn++pins,p.1≠b)
  (keep:∀b o,b≠X.env.locals->b∉X.fs->b∉ch->s.heap.get? b=aa o->H b=aj->h'.get? b=aa o)
  (slot:∀b o,b≠X.env.locals->b∈X.fs->b∉ch->s.heap.get? b=aa o->H b=aj->∃sl,h'.get? b=aa {o with slots:=sl})(free:∀b o,b∉ch->s.heap.get? b=aa o->H b=aj->H' b=aj)
  (there:∀b o,b∉ch->s.heap.get? b=aa o->∃o',h'.get? b=aa o')
  (tups:∀b xs,H b=aa (.tup xs)->H' b=aa (.tup xs))(pH:∀b o u,H b=aa (.kJ o u)->H' b=aa (.kJ o u))(qw:∀b ps,H b=aa (.yQ ps)->∃more,H' b=aa (.yQ (ps++more)))
  (ns:∀m,s.heap.Ns X.env.locals m->h'.Ns X.env.locals m)(hok:gm X.prog X.w H' h')(hg:AllBare g'):
  Inv X pins σ H' {s with heap:=h',gens:=g',drawn:=d',toks:=t'}:=by
 have neL:∀b o,X.s₀.heap.get? b=aa o->b≠X.env.locals:=λb o e=>cW (lN (bO e) I.ok.above)
 have KD:∀b o,X.s₀.heap.get? b=aa o->b∉X.ex->b∉ch:=λb o e hx hb=>by
  rcases(hch b hb).1 with z|z
  .exact hx z
  .exact absurd (lN (bO e) z) (zE _)
 have cellK:∀x c,X.env.cells.lookup x=aa c->∀v,s.heap.IsCell c v->h'.IsCell c v:=λx c e v aK=>by
  obtain⟨o,ho,hd⟩:=aK
  have Fg:c∉ch:=λz=>(hch c z).2.2.1 x c e rfl
  by_cases hc:c∈X.fs
  .obtain⟨sl,q⟩:=slot c o (I.yS x c e) hc Fg ho (I.qU x c e)
   exact⟨_,q,hd⟩
  .exact⟨o,keep c o (I.yS x c e) hc Fg ho (I.qU x c e),hd⟩
 refine⟨I.ok,I.os,hg,⟨λb o e n hb hx=>?_,λb o e n hb hx=>?_,λb o e n hx=>?_,λb o e hx=>?_,λb xs e=>tups b xs (I.base.tups b xs e),λb o xs e=>pH b o xs (I.base.pH b o xs e),λb ps e=>?_⟩,?_,λx c e=>?_,?_,λx c e=>?_,λp hp=>?_,hok,I.len⟩
 .exact keep b o (neL b o e) hb (KD b o e hx) (I.base.keep b o e n hb hx) (I.base.free b o e n hx)
 .obtain⟨sl,e1⟩:=I.base.slot b o e n hb hx
  obtain⟨sl',e2⟩:=slot b _ (neL b o e) hb (KD b o e hx) e1 (I.base.free b o e n hx)
  exact⟨sl',e2⟩
 .obtain⟨o',e1⟩:=I.base.there b o e hx
  exact free b o' (KD b o e hx) e1 (I.base.free b o e n hx)
 .obtain⟨o',e1⟩:=I.base.there b o e hx
  exact there b o' (KD b o e hx) e1
 .obtain⟨m1,e1⟩:=I.base.qw b ps e
  obtain⟨m2,e2⟩:=qw b _ e1
  exact⟨m1++m2,by rw[e2,adE]⟩
 .obtain⟨m,hn,hl⟩:=I.loc
  refine⟨m,ns m hn,λi x v e1 e2 e3=>?_⟩
  obtain⟨u,r,l⟩:=hl i x v e1 e2 e3
  refine⟨u,r,?_⟩
  rcases l with l|⟨k,c,e,z⟩
  .exact .inl l
  .exact .inr ⟨k,c,e,cellK x c e _ z⟩
 .obtain⟨v,z⟩:=I.cell x c e
  exact⟨v,cellK x c e v z⟩
 .obtain⟨m,⟨o,_,_,ho,_⟩,_⟩:=I.loc
  exact free _ o (λz=>(hch _ z).2.1 rfl) ho I.free
 .obtain⟨v,o,ho,hd⟩:=I.cell x c e
  exact free c o (λz=>(hch c z).2.2.1 x c e rfl) ho (I.qU x c e)
 .obtain⟨e,n,ne,nf,d⟩:=I.pin p hp
  have Fg:p.1∉ch:=λz=>(hch p.1 z).2.2.2 p hp rfl
  exact⟨keep p.1 p.2 ne nf Fg e n,free p.1 p.2 Fg e n,ne,nf,d⟩
theorem Inv.un{t':Nat}(I:Inv X pins σ H s)(u:Un X.fs [] H H' s.heap h')(hok:gm X.prog X.w H' h'):Inv X pins σ H' {s with heap:=h',toks:=t'}:=by
 obtain⟨m,⟨o,es,ep,ho,r⟩,_⟩:=id I.loc
 obtain⟨sl,hL⟩:=u.any ho I.free (by simp)
 exact I.step (g':=s.gens) (d':=s.drawn) (ch:=[]) (λ_ z=>nomatch z) (λb o _ hb _ e n=>u.keep b o e n hb (by simp)) (λb o _ hb _ e n=>u.slot b o e n hb (by simp)) (λb o _ e n=>u.free b o e n (by simp)) (λb o _ e=>u.there b o e (by simp)) u.tups u.pH u.qw (λm' hm=>by
  obtain⟨o',es',ep',ho',r'⟩:=hm
  rw[ho] at ho';cases ho'
  exact⟨_,es',ep',hL,r'⟩) hok I.bare
theorem Inv.call{g':Array OD}{t':Nat}{d':yt}{ch:List ao}(I:Inv X pins σ H s)(u:Un (frs X.stack) ch H H' s.heap h')(hok:gm X.prog X.w H' h')(hg:AllBare g')
  (hch:∀b∈ch,(b∈X.ex\/X.s₀.heap.objs.size<=b)/\b≠X.env.locals/\(∀x c,X.env.cells.lookup x=aa c->c≠b)/\∀p∈X.pn++pins,p.1≠b):
  Inv X pins σ H' {s with heap:=h',gens:=g',drawn:=d',toks:=t'}:=by
 obtain⟨m,⟨o,es,ep,ho,r⟩,_⟩:=id I.loc
 obtain⟨sl,hL⟩:=u.any ho I.free λz=>(hch _ z).2.1 rfl
 exact I.step (ch:=ch) hch (λb o hL hb hc e n=>u.keep b o e n (λz=>(bI.mp (I.Dq b z)).elim hL hb) hc) (λb o _ _ hc e n=>u.any e n hc) (λb o hc e n=>u.free b o e n hc) (λb o hc e=>u.there b o e hc) u.tups u.pH u.qw (λm' hm=>by
  obtain⟨o',es',ep',ho',r'⟩:=hm
  rw[ho] at ho';cases ho'
  exact⟨_,es',ep',hL,r'⟩) hok hg
theorem Inv.turned{t':Nat}{it:ao}(I:Inv X pins σ H s)(k:∀b o,b≠it->s.heap.get? b=aa o->h'.get? b=aa o)(hn:H it=aj)(hL:it≠X.env.locals)
  (h1:it∈X.ex\/X.s₀.heap.objs.size<=it)(h2:∀x c,X.env.cells.lookup x=aa c->c≠it)(h3:∀p∈X.pn++pins,p.1≠it):Inv X pins σ H {s with heap:=h',toks:=t'}:=by
 have Fi:∀b u,H b=aa u->b≠it:=λb u e z=>by rw[z,hn] at e;cases e
 refine I.step (g':=s.gens) (d':=s.drawn) (ch:=[it]) (λb hb=>?_) (λb o _ _ hc e _=>k b o (λz=>hc (by simp[z])) e) (λb o _ _ hc e _=>⟨o.slots,k b o (λz=>hc (by simp[z])) e⟩) (λ_ _ _ _ n=>n)
  (λb o hc e=>⟨o,k b o (λz=>hc (by simp[z])) e⟩) (λ_ _ e=>e) (λ_ _ _ e=>e) (λb ps e=>⟨#[],by rw[e];simp⟩) (λm hm=>?_) (λb u e=>?_) I.bare
 .have e:b=it:=by simpa using hb
  subst e
  exact⟨h1,hL,h2,h3⟩
 .obtain⟨o,es,ep,ho,r⟩:=hm
  exact⟨o,es,ep,k _ o (jr hL) ho,r⟩
 .refine(I.hok b u e).stay (λc v hc q=>k c v ?_ q) (λ_ q=>q) λ_ _ q=>q
  rcases hc with z|z
  .rw[z];exact Fi b u e
  .exact Fi c _ z
theorem Inv.tok(I:Inv X pins σ H s)(t:Nat):Inv X pins σ H {s with toks:=t}:=I.un (h':=s.heap) (t':=t) Un.refl I.hok
theorem Inv.kept{t':Nat}(I:Inv X pins σ H s)(k:∀b u,s.heap.get? b=aa u->h'.get? b=aa u):Inv X pins σ H {s with heap:=h',toks:=t'}:=I.un (Un.kept k) (I.hok.kept k)
theorem Inv.laid{a:ao}{o:HO}{t':Nat}(I:Inv X pins σ H s)(k:∀b u,s.heap.get? b=aa u->h'.get? b=aa u)(hp:s.heap.objs.size<=a)(new:dN X.prog X.w (upd H a o) h' a o):
  Inv X pins σ (upd H a o) {s with heap:=h',toks:=t'}:=I.un (Un.laid k hp (I.hok.fresh hp)) (I.hok.laid k hp new)
theorem Inv.write{x e:ao}{o:HO}{t':Nat}(I:Inv X pins σ H s)(mu:Ff (H x))(he:e=x\/H e=aa (.own x))(k:∀b u,b≠e->s.heap.get? b=aa u->h'.get? b=aa u)(heo:∃u,h'.get? e=aa u)
  (new:dN X.prog X.w (upd H x o) h' x o):Inv X pins σ (upd H x o) {s with heap:=h',toks:=t'}:=I.un (Un.write mu he k heo) (I.hok.write mu he k heo new)
theorem Inv.weak{σ':List (Option V)}(I:Inv X pins σ H s)(hl:σ'.length=σ.length)(w:∀(i:Nat) v,σ'[i]?=aa (aa v)->σ[i]?=aa (aa v)):Inv X pins σ' H s:=
 ⟨I.ok,I.os,I.bare,I.base,let ⟨m,hn,hl'⟩:=I.loc;⟨m,hn,λi x v e1 e2 e3=>hl' i x v e1 (w i v e2) e3⟩,I.cell,I.free,I.qU,I.pin,I.hok,hl.trans I.len⟩
theorem Inv.Zf{Ry:List (ao×Obj)}(I:Inv X pins σ H s)(h:∀p∈Ry,s.heap.get? p.1=aa p.2/\H p.1=aj/\p.1≠X.env.locals/\p.1∉X.fs/\∀v,p.2.data≠.cell v):Inv X Ry σ H s:=
 ⟨I.ok,I.os,I.bare,I.base,I.loc,I.cell,I.free,I.qU,λp hp=>(cF.mp hp).elim (λz=>I.pin p (gK _ z)) (h p),I.hok,I.len⟩
theorem Yb{N:List Str}(hN:N.Nodup){i j:Nat}{x:Str}(a:N[i]?=aa x)(b:N[j]?=aa x):i=j:=by
 obtain⟨h1,e1⟩:=f9.mp a
 obtain⟨h2,e2⟩:=f9.mp b
 exact(List.getElem_inj hN).mp (e1.trans e2.symm)
theorem N6{M:Model}{A:bV}{E:Value->aA->Prop}{i:Nat}{x:Str}{v:V}{u:Value}{Q:Unit->aA->Prop}(I:Inv X pins σ H s)(hN:X.N.Nodup)(hi:X.N[i]?=aa x)(hx:Loc X.env.scope x)(r:RelV v u)
  (h:∀s',Inv X pins (σ.set i (aa v)) H s'->(∃a,xG a s.heap s'.heap/\(a=X.env.locals\/X.env.cells.lookup x=aa a))->Q () s')(hf:X.fn x=aq\/X.env.scope.names.lookup x=aa .local:=by first|exact .inl rfl|exact .inr rfl|assumption):aH M A (storeName X.env x u) Q E s:=by
 obtain⟨m,hn,hl⟩:=id I.loc
 have hcls:(X.env.scope.kind==.class||(X.env.scope.kind==.module&&X.env.locals != X.env.globals))=aB:=by rw[I.ok.kind];rfl
 have hiσ:i<σ.length:=by rw[I.len];exact(f9.mp hi).1
 have yS:=I.yS;have tracked:∀{a:ao}{h':aU},(∃o,s.heap.get? a=aa o/\H a=aj)->xG a s.heap h'->gm X.prog X.w H h':=λ{a h'} ha hs b ob e=>by
  obtain⟨_,_,hfree⟩:=ha
  refine(I.hok b ob e).stay (λc w' hc q=>(hs.2 c ?_).trans q) (λ_ q=>q) λ_ _ q=>q
  rintro rfl;rcases hc with rfl|hc
  .rw[hfree] at e;cases e
  .rw[hfree] at hc;cases hc
 rcases hx with hk|hk
 .refine wpAny_storeName_local hk hn (λh' hn' hs=>?_) hcls
  obtain⟨oL,_,_,hoL,_⟩:=id hn
  refine h _ ⟨I.ok,I.os,I.bare,⟨λb o e n hb hx=>?_,λb o e n hb hx=>?_,I.base.free,λb o e hx=>?_,I.base.tups,I.base.pH,I.base.qw⟩,⟨_,hn',λj y v' e1 e2 e3=>?_⟩,λy c e=>?_,I.free,I.qU,λp hp=>?_,tracked ⟨oL,hoL,I.free⟩ hs,by simpa using I.len⟩ ⟨_,hs,.inl rfl⟩
  .exact(hs.2 b (cW (lN (bO e) I.ok.above))).trans (I.base.keep b o e n hb hx)
  .obtain⟨sl,e1⟩:=I.base.slot b o e n hb hx
   exact⟨sl,(hs.2 b (cW (lN (bO e) I.ok.above))).trans e1⟩
  .obtain⟨o',e1⟩:=I.base.there b o e hx
   exact⟨o',(hs.2 b (cW (lN (bO e) I.ok.above))).trans e1⟩
  .by_cases hj:j=i
   .subst hj;rw[hi] at e1;cases e1;rw[ac2 hiσ] at e2;cases e2
    exact⟨u,r,.inl ⟨hk,by simp⟩⟩
   .rw[zg (jr hj)] at e2
    obtain⟨u',r',q⟩:=hl j y v' e1 e2 e3
    refine⟨u',r',?_⟩
    rcases q with⟨k,e⟩|⟨k,c,e,z⟩
    .refine .inl ⟨k,?_⟩;have:y≠x:=λe=>hj (Yb hN e1 (e▸hi))
     simp[this,e]
    .exact .inr ⟨k,c,e,z.sameBut hs (yS y c e)⟩
  .obtain⟨w',z⟩:=I.cell y c e
   exact⟨w',z.sameBut hs (yS y c e)⟩
  .obtain⟨e,n,ne,nf,d⟩:=I.pin p hp
   exact⟨(hs.2 p.1 ne).trans e,n,ne,nf,d⟩
 .have hfn:X.fn x=aq:=by
   rcases hf with z|z
   .exact z
   .rw[z] at hk;cases hk
  obtain⟨c,hc⟩:=I.ok.has x (.inl hk)
  obtain⟨w',z⟩:=I.cell x c hc
  refine wpAny_storeName_cell I.ok.kind hk hc z (λh' hc' hs=>?_)
  obtain⟨oc,hoc,al0⟩:=id z
  refine h {s with heap:=h'} ⟨I.ok,I.os,I.bare,⟨λb o e n hb hx=>?_,λb o e n hb hx=>?_,I.base.free,λb o e hx=>?_,I.base.tups,I.base.pH,I.base.qw⟩,⟨m,hn.sameBut hs (jr (yS x c hc)),λj y v' e1 e2 e3=>?_⟩,λy c' e=>?_,I.free,I.qU,λp hp=>?_,tracked ⟨oc,hoc,I.qU x c hc⟩ hs,by simpa using I.len⟩ ⟨c,hs,.inr hc⟩
  .exact(hs.2 b (cW (lN (bO e) (I.ok.cab x c hfn hc)))).trans (I.base.keep b o e n hb hx)
  .obtain⟨sl,e1⟩:=I.base.slot b o e n hb hx
   exact⟨sl,(hs.2 b (cW (lN (bO e) (I.ok.cab x c hfn hc)))).trans e1⟩
  .obtain⟨o',e1⟩:=I.base.there b o e hx
   exact⟨o',(hs.2 b (cW (lN (bO e) (I.ok.cab x c hfn hc)))).trans e1⟩
  .by_cases hj:j=i
   .subst hj;rw[hi] at e1;cases e1;rw[ac2 hiσ] at e2;cases e2
    exact⟨u,r,.inr ⟨.inl hk,c,hc,hc'⟩⟩
   .rw[zg (jr hj)] at e2
    obtain⟨u',r',q⟩:=hl j y v' e1 e2 e3
    refine⟨u',r',?_⟩
    rcases q with q|⟨k,c',e,z'⟩
    .exact .inl q
    .refine .inr ⟨k,c',e,z'.sameBut hs ?_⟩;rintro rfl;exact hj (Yb hN e1 (I.ok.inj _ _ _ e hc▸hi))
  .by_cases hcc:c'=c
   .subst hcc;exact⟨_,hc'⟩
   .obtain⟨w2,z2⟩:=I.cell y c' e
    exact⟨w2,z2.sameBut hs hcc⟩
  .obtain⟨e,n,ne,nf,d⟩:=I.pin p hp
   refine⟨(hs.2 p.1 ?_).trans e,n,ne,nf,d⟩
   intro q;rw[q,hoc] at e;have q':oc=p.2:=fU e;exact d w' (by rw[<-q'];exact al0)
theorem um{M:Model}{A:bV}{E:Value->aA->Prop}{i:Nat}{x:Str}{v:V}{u:Value}{Q:Unit->aA->Prop}(I:Inv X pins σ H s)(hN:X.N.Nodup)(hi:X.N[i]?=aa x)(hx:Loc X.env.scope x)(r:RelV v u)
  (h:∀s',Inv X pins (σ.set i (aa v)) H s'->Q () s')(hf:X.fn x=aq\/X.env.scope.names.lookup x=aa .local:=by first|exact .inl rfl|exact .inr rfl|assumption):aH M A (storeName X.env x u) Q E s:=
 N6 I hN hi hx r (λs' I' _=>h s' I') hf
theorem Inv.call'{s':aA}{ch:List ao}(I:Inv X pins σ H s)(ho:s'.os=s.os)(u:Un (frs X.stack) ch H H' s.heap s'.heap)(hok:gm X.prog X.w H' s'.heap)(hg:AllBare s'.gens)
  (hch:∀b∈ch,(b∈X.ex\/X.s₀.heap.objs.size<=b)/\b≠X.env.locals/\(∀x c,X.env.cells.lookup x=aa c->c≠b)/\∀p∈X.pn++pins,p.1≠b):Inv X pins σ H' s':=by
 obtain⟨h',g',d',t',o'⟩:=s'
 have e:o'=s.os:=ho;subst e;exact I.call (g':=g') (t':=t') (d':=d') u hok hg hch
end
abbrev XK:=Value->Option ao->Hp->Prop
abbrev St:=List (Option V)
abbrev VK:=V->Hp->Prop
abbrev TE:=St->Hp->VK->Prop
abbrev TT:=St->Hp->(Bool->Hp->Prop)->Prop
abbrev TA:=St->Hp->(List V->Hp->Prop)->Prop
structure Ends where
 nx:St->Hp->Prop
 rt:VK
 bk:St->Hp->Prop:=λ_ _=>False
 ct:St->Hp->Prop:=λ_ _=>False
abbrev TS:=Ends->St->Hp->Prop
def EP(X:Cx)(pins:List (ao×Obj))(σ:St)(Q:VK)(u:Value)(s':aA):Prop:=∃v H',Inv X pins σ H' s'/\RelV v u/\Q v H'
def TP(X:Cx)(pins:List (ao×Obj))(σ:St)(Q:Bool->Hp->Prop)(b:Bool)(s':aA):Prop:=∃H',Inv X pins σ H' s'/\Q b H'
def AP(X:Cx)(pins:List (ao×Obj))(σ:St)(Q:List V->Hp->Prop)(us:List Value)(s':aA):Prop:=∃vs H',Inv X pins σ H' s'/\Vals vs us/\Q vs H'
def SP(X:Cx)(pins:List (ao×Obj))(D:Ends)(f:Flow)(s':aA):Prop:=
 match f with
 |.next=>∃σ' H',Inv X pins σ' H' s'/\D.nx σ' H'
 |.brk=>∃σ' H',Inv X pins σ' H' s'/\D.bk σ' H'
 |.cont=>∃σ' H',Inv X pins σ' H' s'/\D.ct σ' H'
 |.ret u=>∃v σ' H',Inv X pins σ' H' s'/\RelV v u/\D.rt v H'
def PE(X:Cx)(e:Expr)(t:TE):Prop:=
 ∀(pins:List (ao×Obj))(s:aA)(σ:St)(H:Hp)(Q:VK),Inv X pins σ H s->t σ H Q->aH (model X.prog X.w) X.A (eval e X.env) (EP X pins σ Q) X.xe s
def PT(X:Cx)(e:Expr)(t:TT):Prop:=
 ∀(pins:List (ao×Obj))(s:aA)(σ:St)(H:Hp)(Q:Bool->Hp->Prop),Inv X pins σ H s->t σ H Q->aH (model X.prog X.w) X.A (isTrue e X.env (eval e X.env)) (TP X pins σ Q) X.xe s
def PW(X:Cx)(e:Expr)(t:TT):Prop:=
 ∀(whole:Sem Value)(pins:List (ao×Obj))(s:aA)(σ:St)(H:Hp)(Q:Bool->Hp->Prop),Inv X pins σ H s->t σ H Q->aH (model X.prog X.w) X.A (isTrue e X.env whole) (TP X pins σ Q) X.xe s
theorem PW.pt{X:Cx}{e:Expr}{t:TT}(h:PW X e t):PT X e t:=h _
def PA(X:Cx)(es:List Expr)(t:TA):Prop:=
 ∀(pos:Pos)(pins:List (ao×Obj))(s:aA)(σ:St)(H:Hp)(Q:List V->Hp->Prop),Inv X pins σ H s->t σ H Q->aH (model X.prog X.w) X.A (spliced (gO pos (bD es X.env))) (AP X pins σ Q) X.xe s
def PS(X:Cx)(st:dZ)(t:TS):Prop:=
 ∀(pins:List (ao×Obj))(s:aA)(σ:St)(H:Hp)(D:Ends),Inv X pins σ H s->t D σ H->aH (model X.prog X.w) X.A (exec st X.env) (SP X pins D) X.xe s
def iR(X:Cx)(st:List dZ)(t:TS):Prop:=
 ∀(pins:List (ao×Obj))(s:aA)(σ:St)(H:Hp)(D:Ends),Inv X pins σ H s->t D σ H->aH (model X.prog X.w) X.A (execs st X.env) (SP X pins D) X.xe s
theorem bQ{α:Type}{t:Sem α}{Q Q':α->aA->Prop}{M:Model}{A:bV}{E:Value->aA->Prop}{s:aA}(h:aH M A t Q E s)(hQ:∀a s,Q a s->Q' a s):aH M A t Q' E s:=pZ h hQ λ_ _ x=>x
section
variable{X:Cx}
def tK(i:Nat):TE:=λσ H Q=>∃v,σ[i]?=aa (aa v)/\Q v H
def tC(v:V):TE:=λ_ H Q=>Q v H
theorem ajV{i:Nat}{x:Str}{pos:Pos}(hN:X.N[i]?=aa x)(hv:S9 X.env.scope x)(hd:(x==("__debug__":Str))=aB:=by decide)(hcd:(x==("__classdict__":Str))=aB:=by decide):PE X (.Name x pos) (tK i):=by
 intro pins s σ H Q I h
 obtain⟨v,e,h⟩:=h
 obtain⟨m,hn,hl⟩:=I.loc
 obtain⟨u,r,l⟩:=hl i x v hN e hv
 have fin:EP X pins σ Q u s:=⟨v,H,I,r,h⟩
 rcases l with⟨hk,hm⟩|⟨hk,c,hc,hcell⟩
 .exact WM (wpAny_loadName_local I.ok.kind hk hn hm fin) hd
 .rcases hk with hk|hk
  .exact WM (wpAny_loadName_cell I.ok.kind hk hc hcell fin) hd
  .exact WM (wpAny_loadName_free I.ok.kind hk hc hcell fin hcd) hd
theorem aR{i j pos}:PE X (.Constant (.int i) j pos) (tC (.int i)):=λ_ _ _ H _ I h=>wpAny_Constant_int ⟨.int i,H,I.tok _,⟨_,rfl⟩,h⟩
theorem Ed{b j pos}:PE X (.Constant (.bool b) j pos) (tC (.bl b)):=λ_ _ _ H _ I h=>Constant_bool ⟨.bl b,H,I,rfl,h⟩
theorem Dr{j pos}:PE X (.Constant .none j pos) (tC .non):=λ_ _ _ H _ I h=>Constant_none ⟨.non,H,I,rfl,h⟩
theorem sI{x j pos}:PE X (.Constant (.str x) j pos) (tC (.str x)):=λ_ _ _ H _ I h=>Calls.Constant_str ⟨.str x,H,I.tok _,⟨_,rfl⟩,h⟩
def Gl(X:Cx)(x:Str):Prop:=X.env.kindOf x=aa .globalImplicit
theorem aib{E:Value->aA->Prop}{pins:List (ao×Obj)}{s:aA}{σ:St}{H:Hp}{x:Str}{u:Value}{pos:Pos}{Q:Value->aA->Prop}(I:Inv X pins σ H s)(hg:Gl X x)(hm:X.mg x=aa u)(h:Q u s)
  (hd:(x==("__debug__":Str))=aB:=by decide):aH (model X.prog X.w) X.A (eval (.Name x pos) X.env) Q E s:=
 acR I.ok.kind hg (Calls.loadGlobal_global (by rw[I.ok.glob];exact I.mod.glob.keeps I.bk) hm h) hd
theorem vL{E:Value->aA->Prop}{pins:List (ao×Obj)}{s:aA}{σ:St}{H:Hp}{x:Str}{u:Value}{pos:Pos}{Q:Value->aA->Prop}(I:Inv X pins σ H s)(hg:Gl X x)(hm:X.mg x=aj)(hv:rR x=aa u)(h:Q u s)
  (hn:x≠"__name__":=by decide)(hd:(x==("__debug__":Str))=aB:=by decide):aH (model X.prog X.w) X.A (eval (.Name x pos) X.env) Q E s:=by
 obtain⟨mb,h1,h2⟩:=I.mod.blt
 exact acR I.ok.kind hg (Calls.loadGlobal_builtin (by rw[I.ok.glob];exact I.mod.glob.keeps I.bk) hm (by rw[I.ok.blt];exact h1.keeps I.bk) ((h2 x hn).trans hv) h) hd
theorem qj{x:Str}{v:V}{u:Value}{pos:Pos}(hg:Gl X x)(hm:X.mg x=aj)(hv:rR x=aa u)(r:RelV v u)(hn:x≠"__name__":=by decide)(hd:(x==("__debug__":Str))=aB:=by decide):PE X (.Name x pos) (tC v):=
 λ_ _ _ H _ I h=>vL I hg hm hv ⟨v,H,I,r,h⟩ hn hd
variable{a b:Expr}{ta tb:TE}{pos:Pos}
variable{tA KH:TT}{rest:List Expr}
def abp(t u:TT):TT:=λσ H Q=>t σ H λc H1=>if c=aq then u σ H1 Q else Q aB H1
def tOr(t u:TT):TT:=λσ H Q=>t σ H λc H1=>if c=aq then Q aq H1 else u σ H1 Q
def al1(t:TT):TT:=λσ H Q=>t σ H λc H1=>Q (!c) H1
theorem pw_and1(ha:PT X a tA):PW X (.BoolOp .And [a] pos) tA:=by
 intro wh pins s σ H Q I h;refine isTrue_and (bQ (ha pins s σ H Q I h) λc s1 e=>?_);cases c with
 |true=>exact isTrue_and_nil e
 |false=>exact e
theorem pw_or1(ha:PT X a tA):PW X (.BoolOp .Or [a] pos) tA:=by
 intro wh pins s σ H Q I h;refine isTrue_or (bQ (ha pins s σ H Q I h) λc s1 e=>?_);cases c with
 |false=>exact isTrue_or_nil e
 |true=>exact e
theorem pw_and(ha:PT X a tA)(hb:PW X (.BoolOp .And (b::rest) pos) KH):PW X (.BoolOp .And (a::b::rest) pos) (abp tA KH):=by
 intro wh pins s σ H Q I h;refine isTrue_and (bQ (ha pins s σ H _ I h) λc s1 aK=>?_)
 obtain⟨H1,I1,q1⟩:=aK
 cases c with
 |true=>exact hb wh pins s1 σ H1 Q I1 q1
 |false=>exact⟨H1,I1,q1⟩
theorem pw_or(ha:PT X a tA)(hb:PW X (.BoolOp .Or (b::rest) pos) KH):PW X (.BoolOp .Or (a::b::rest) pos) (tOr tA KH):=by
 intro wh pins s σ H Q I h;refine isTrue_or (bQ (ha pins s σ H _ I h) λc s1 aK=>?_)
 obtain⟨H1,I1,q1⟩:=aK
 cases c with
 |true=>exact⟨H1,I1,q1⟩
 |false=>exact hb wh pins s1 σ H1 Q I1 q1
theorem ajW(ha:PT X a tA):PT X (.UnaryOp .Not a pos) (al1 tA):=by
 intro pins s σ H Q I h;exact isTrue_not (ha pins s σ H (λc H1=>Q (!c) H1) I h)
def ak1(ta tb:TE):TE:=λσ H Q=>ta σ H λx H1=>∃c,x=.bl c/\if c=aq then tb σ H1 Q else Q (.bl aB) H1
def ak2(ta:TE):TE:=λσ H Q=>ta σ H λx H1=>∃c,x=.bl c/\Q (.bl (!c)) H1
theorem ajX{op}{t:TE}(h:PE X a t):PE X (.BoolOp op [a] pos) t:=λpins s σ H Q I hw=>BoolOp_one (h pins s σ H Q I hw)
theorem ajY(ha:PE X a ta)(hb:PE X (.BoolOp .And (b::rest) pos) tb):PE X (.BoolOp .And (a::b::rest) pos) (ak1 ta tb):=by
 intro pins s σ H Q I h;refine BoolOp_and (bQ (ha pins s σ H _ I h) λv s1 aK=>?_)
 obtain⟨x,H1,I1,r1,q1⟩:=aK
 obtain⟨c,rfl,q1⟩:=q1
 cases r1;refine BR ?_;cases c with
 |true=>exact hb pins s1 σ H1 Q I1 q1
 |false=>exact⟨.bl aB,H1,I1,rfl,q1⟩
theorem ajZ(ha:PE X a ta):PE X (.UnaryOp .Not a pos) (ak2 ta):=by
 intro pins s σ H Q I h;refine UnaryOp_ (bQ (ha pins s σ H _ I h) λv s1 aK=>?_)
 obtain⟨x,H1,I1,r1,q1⟩:=aK
 obtain⟨c,rfl,q1⟩:=q1
 cases r1;exact not_of (BR ⟨.bl (!c),H1,I1,rfl,q1⟩)
def tIf(t:TT)(ta tb:TE):TE:=λσ H Q=>t σ H λc H1=>if c=aq then ta σ H1 Q else tb σ H1 Q
theorem ag4{c:Expr}(hc:PT X c tA)(ha:PE X a ta)(hb:PE X b tb):PE X (.IfExp c a b pos) (tIf tA ta tb):=by
 intro pins s σ H Q I h;refine wpAny_IfExp (bQ (hc pins s σ H _ I h) λd s1 aK=>?_)
 obtain⟨H1,I1,q1⟩:=aK
 cases d with
 |true=>exact ha pins s1 σ H1 Q I1 q1
 |false=>exact hb pins s1 σ H1 Q I1 q1
end
def bG(K:aF)(H:Hp)(a:ao)(xs:List V):Prop:=
 Rd H a (.lst xs)\/
  ∃(o:Obj)(its:Array Value)(n:Nat),K.lookup a=aa o/\o.cls=.type "list"/\o.dict=aj/\o.data=.seq its n/\its.size<=bL/\Vals xs its.toList
def bW(K:aF)(H:Hp)(a:ao)(xs:List V):Prop:=
 Rd H a (.tup xs)\/
  ∃(o:Obj)(its:Array Value)(n:Nat),K.lookup a=aa o/\o.cls=.type "tuple"/\o.data=.seq its n/\its.size<=bL/\Vals xs its.toList
def al2:Value->Option V
 |.none=>aa .non
 |.bool b=>aa (.bl b)
 |.int i _=>aa (.int i)
 |.str x _=>aa (.str x)
 |.bytes b _=>aa (.pM b)
 |.float b _=>aa (.flt b)
 |.ref a=>aa (.ref a)
 |.type n=>aa (.ty n)
 |_=>aj
theorem RelV.abs{x:V}{u:Value}(r:RelV x u):al2 u=aa x:=by
 cases x with
 |non=>cases r;rfl
 |bl _=>cases r;rfl
 |int _=>obtain⟨t,rfl⟩:=r;rfl
 |str _=>obtain⟨t,rfl⟩:=r;rfl
 |pM _=>obtain⟨t,rfl⟩:=r;rfl
 |flt _=>obtain⟨t,rfl⟩:=r;rfl
 |ref _=>cases r;rfl
 |ty _=>cases r;rfl
theorem RelV.inj{x y:V}{u:Value}(r:RelV x u)(q:RelV y u):x=y:=fU (r.abs.symm.trans q.abs)
theorem Vals.inj:∀{xs ys:List V}{us:List Value},Vals xs us->Vals ys us->xs=ys
 |_,_,_,.nil,.nil=>rfl
 |_,_,_,.cons r t,.cons r' t'=>by rw[r.inj r',Vals.inj t t']
section
variable{X:Cx}{pins:List (ao×Obj)}{σ:St}{H:Hp}{s:aA}{a:ao}{xs ys:List V}
theorem bG.of{K:aF}(h:H a=aa (.lst xs)):bG K H a xs:=.inl (.inl h)
theorem bW.of{K:aF}(h:H a=aa (.tup xs)):bW K H a xs:=.inl (.inl h)
theorem Inv.list(I:Inv X pins σ H s)(h:bG X.K H a xs):∃its:List Value,Vals xs its/\PlainL s.heap a its.toArray/\xs.length<=bL:=by
 rcases h with h|⟨o,its,n,hk,hc,hd,hs,hz,r⟩
 .obtain⟨z,its,n,r,e⟩:=h.ok I.hok
  exact⟨its,r,⟨_,n,e,rfl,rfl,rfl⟩,z⟩
 .refine⟨its.toList,r,⟨o,n,I.gQ a o hk,hc,hd,by simpa using hs⟩,?_⟩
  have e:=r.length;simp only[j8] at e;lia
theorem Inv.tuple(I:Inv X pins σ H s)(h:bW X.K H a xs):∃its:List Value,Vals xs its/\IsTup s.heap a its.toArray/\xs.length<=bL:=by
 rcases h with h|⟨o,its,n,hk,hc,hs,hz,r⟩
 .obtain⟨z,its,r,p⟩:=h.ok I.hok
  exact⟨its,r,p,z⟩
 .refine⟨its.toList,r,⟨o,I.gQ a o hk,hc,n,by simpa using hs⟩,?_⟩
  have e:=r.length;simp only[j8] at e;lia
theorem Inv.OJ(I:Inv X pins σ H s)(h:bG X.K H a xs)(h':bG X.K H a ys):xs=ys:=by
 obtain⟨its,r,⟨o,n,e,_,_,d⟩,_⟩:=I.list h
 obtain⟨its',r',⟨o',n',e',_,_,d'⟩,_⟩:=I.list h'
 rw[e] at e';cases e';rw[d] at d';injection d' with d1 _
 have:its=its':=by simpa using congrArg aeV d1
 subst this;exact r.inj r'
theorem Inv.N7(I:Inv X pins σ H s)(h:bW X.K H a xs)(h':bW X.K H a ys):xs=ys:=by
 obtain⟨its,r,⟨o,e,_,n,d⟩,_⟩:=I.tuple h
 obtain⟨its',r',⟨o',e',_,n',d'⟩,_⟩:=I.tuple h'
 rw[e] at e';cases e';rw[d] at d';injection d' with d1 _
 have:its=its':=by simpa using congrArg aeV d1
 subst this;exact r.inj r'
end
abbrev Cx.wish(X:Cx)(E:Value->aA->Prop):Cx:={X with xe:=E}
abbrev Cx.uN(X:Cx):Cx:=X.wish λ_ _=>False
theorem Cx.Ok.wish{X:Cx}(ok:X.Ok)(E:Value->aA->Prop):(X.wish E).Ok:=
 ⟨ok.mod,ok.kind,ok.glob,ok.blt,ok.above,ok.inj,ok.has,ok.cab,ok.hd,ok.frames,ok.stk,ok.exf,ok.bs,ok.tR,ok.Es,ok.Km,ok.qx,ok.yR⟩
theorem Cx.Ok.sJ{X:Cx}{E:Value->aA->Prop}(ok:(X.wish E).Ok):X.Ok:=
 ⟨ok.mod,ok.kind,ok.glob,ok.blt,ok.above,ok.inj,ok.has,ok.cab,ok.hd,ok.frames,ok.stk,ok.exf,ok.bs,ok.tR,ok.Es,ok.Km,ok.qx,ok.yR⟩
section
variable{X:Cx}{pins:List (ao×Obj)}{σ:St}{H:Hp}{s:aA}{E:Value->aA->Prop}
theorem Inv.wish(I:Inv X pins σ H s)(E:Value->aA->Prop):Inv (X.wish E) pins σ H s:=⟨I.ok.wish E,I.os,I.bare,I.base,I.loc,I.cell,I.free,I.qU,I.pin,I.hok,I.len⟩
theorem Inv.sJ(I:Inv (X.wish E) pins σ H s):Inv X pins σ H s:=⟨I.ok.sJ,I.os,I.bare,I.base,I.loc,I.cell,I.free,I.qU,I.pin,I.hok,I.len⟩
theorem SP.sJ{D:Ends}{f:Flow}{s':aA}(h:SP (X.wish E) pins D f s'):SP X pins D f s':=by
 cases f with
 |next=>obtain⟨σ',H',I,q⟩:=h;exact⟨σ',H',I.sJ,q⟩
 |brk=>obtain⟨σ',H',I,q⟩:=h;exact⟨σ',H',I.sJ,q⟩
 |cont=>obtain⟨σ',H',I,q⟩:=h;exact⟨σ',H',I.sJ,q⟩
 |ret u=>obtain⟨v,σ',H',I,r,q⟩:=h;exact⟨v,σ',H',I.sJ,r,q⟩
theorem PE.uN{e:Expr}{t:TE}(h:PE X.uN e t):PE X e t:=λpins s σ H Q I hw=>
 pZ (h pins s σ H Q (I.wish _) hw) (λ_ _ ⟨v,H',I',r,q⟩=>⟨v,H',I'.sJ,r,q⟩) λ_ _ z=>qO z
theorem PT.uN{e:Expr}{t:TT}(h:PT X.uN e t):PT X e t:=λpins s σ H Q I hw=>
 pZ (h pins s σ H Q (I.wish _) hw) (λ_ _ ⟨H',I',q⟩=>⟨H',I'.sJ,q⟩) λ_ _ z=>qO z
theorem iR.uN{st:List dZ}{t:TS}(h:iR X.uN st t):iR X st t:=λpins s σ H D I hw=>
 pZ (h pins s σ H D (I.wish _) hw) (λ_ _ q=>q.sJ) λ_ _ z=>qO z
end
section
variable{X:Cx}{st:dZ}{rest:List dZ}{t u:TS}{e:Expr}{te:TE}{pos:Pos}
def ak3:TS:=λD σ H=>D.nx σ H
def abq(t u:TS):TS:=λD σ H=>t {D with nx:=u D} σ H
theorem aic:iR X [] ak3:=λ_ _ σ H _ I h=>Mr ⟨σ,H,I,h⟩
theorem ag5(h1:PS X st t)(h2:iR X rest u):iR X (st::rest) (abq t u):=by
 intro pins s σ H D I h;refine ad2 (bQ (h1 pins s σ H {D with nx:=u D} I h) λf s1 q=>?_);cases f with
 |next=>
  obtain⟨σ',H',I',q⟩:=q
  exact h2 pins s1 σ' H' D I' q
 |ret v=>exact q
 |brk=>exact q
 |cont=>exact q
theorem aid(h1:PS X st t):iR X [st] t:=by
 intro pins s σ H D I h;refine ad2 (bQ (h1 pins s σ H D I h) λf s1 q=>?_);cases f with
 |next=>exact Mr q
 |ret v=>exact q
 |brk=>exact q
 |cont=>exact q
theorem Inv.quiet{pins:List (ao×Obj)}{σ:St}{H:Hp}{s:aA}(I:Inv X pins σ H s):interactive X.env=aB:=by simp[interactive,I.ok.kind]
def ak4(te:TE):TS:=λD σ H=>te σ H λ_ H1=>D.nx σ H1
theorem aie(he:PE X e te)(hs:vz e aj pos.line X.env=pure aB:=by rfl):PS X (.Expr e pos) (ak4 te):=by
 intro pins s σ H D I h;exact wpAny_Expr_any (bQ (he pins s σ H _ I h) λv s1 ⟨x,H1,I1,r1,q1⟩=>⟨σ,H1,I1,q1⟩) I.quiet hs
def al3(te:TE):TS:=λD σ H=>te σ H D.rt
theorem aao(he:PE X e te):PS X (.Return (aa e) pos) (al3 te):=by
 intro pins s σ H D I h;exact wpAny_Return_some (bQ (he pins s σ H _ I h) λv s1 ⟨x,H1,I1,r1,q1⟩=>⟨x,σ,H1,I1,r1,q1⟩)
def al4(c:TT)(t u:TS):TS:=λD σ H=>c σ H λb H1=>if b=aq then t D σ H1 else u D σ H1
theorem ak5{c:Expr}{a b:List dZ}{tc:TT}(hc:PT X c tc)(ha:iR X a t)(hb:iR X b u):PS X (.If c a b pos) (al4 tc t u):=by
 intro pins s σ H D I h;refine wpAny_If (bQ (hc pins s σ H _ I h) λd s1 aK=>?_)
 obtain⟨H1,I1,q1⟩:=aK
 cases d with
 |true=>exact ha pins s1 σ H1 D I1 q1
 |false=>exact hb pins s1 σ H1 D I1 q1
end
abbrev TG:=V->St->Hp->(St->Hp->Prop)->Prop
abbrev uO:=List V->St->Hp->(St->Hp->Prop)->Prop
def PG(X:Cx)(target:Expr)(t:TG):Prop:=
 ∀(pins:List (ao×Obj))(s:aA)(σ:St)(H:Hp)(v:V)(u:Value)(Q:St->Hp->Prop),Inv X pins σ H s->RelV v u->t v σ H Q->
  aH (model X.prog X.w) X.A (assign target X.env u) (λ_ s'=>∃σ' H',Inv X pins σ' H' s'/\Q σ' H') X.xe s
def KJ(X:Cx)(ts:List Expr)(t:uO):Prop:=
 ∀(pins:List (ao×Obj))(s:aA)(σ:St)(H:Hp)(vs:List V)(us:List Value)(Q:St->Hp->Prop),Inv X pins σ H s->Vals vs us->t vs σ H Q->
  aH (model X.prog X.w) X.A (Cr ((rU ts X.env).map (·.2)) us) (λ_ s'=>∃σ' H',Inv X pins σ' H' s'/\Q σ' H') X.xe s
abbrev R7:=V->V->V->Hp->(Hp->Prop)->Prop
def uD(X:Cx)(t:R7):Prop:=
 ∀(pins:List (ao×Obj))(s:aA)(σ:St)(H:Hp)(o i v:V)(ov iv u:Value)(Q:Hp->Prop),Inv X pins σ H s->RelV o ov->RelV i iv->RelV v u->t o i v H Q->
  aH (model X.prog X.w) X.A (setItem ov iv u) (λ_ s'=>∃H',Inv X pins σ H' s'/\Q H') X.xe s
section
variable{X:Cx}{pos:Pos}
def vQ(i:Nat):TG:=λv σ H Q=>Q (σ.set i (aa v)) H
theorem gW{i:Nat}{x:Str}(hN:X.N.Nodup)(hi:X.N[i]?=aa x)(hx:Loc X.env.scope x)(hf:X.fn x=aq\/X.env.scope.names.lookup x=aa .local:=by first|exact .inl rfl|exact .inr rfl|assumption):PG X (.Name x pos) (vQ i):=by
 intro pins s σ H v u Q I r h;exact Gu (um I hN hi hx r (λs' I'=>⟨_,H,I',h⟩) hf)
def R8:uO:=λvs σ H Q=>vs=[]/\Q σ H
def Rz(t:TG)(u:uO):uO:=λvs σ H Q=>∃v r,vs=v::r/\t v σ H λσ' H'=>u r σ' H' Q
theorem Df:KJ X [] R8:=by
 intro pins s σ H vs us Q I r h
 obtain⟨e,h⟩:=h
 subst e;cases r;exact assignInOrder_nil ⟨σ,H,I,h⟩
theorem qb{e:Expr}{es:List Expr}{t:TG}{u:uO}(h1:PG X e t)(h2:KJ X es u)
  (hs:(rU (e::es) X.env).map (·.2)=assign e X.env::(rU es X.env).map (·.2):=by rfl):KJ X (e::es) (Rz t u):=by
 intro pins s σ H vs us Q I r h
 obtain⟨v,vr,e1,h⟩:=h
 subst e1;cases r with
 |cons r rr=>
  rw[hs];refine assignInOrder_cons (bQ (h1 pins s σ H _ _ _ I r h) λ_ s1 aK=>?_)
  obtain⟨σ1,H1,I1,q1⟩:=aK
  exact h2 pins s1 σ1 H1 _ _ Q I1 rr q1
def R9(K:aF)(n:Nat)(t:uO):TG:=λv σ H Q=>∃a xs,v=.ref a/\bW K H a xs/\xs.length=n/\t xs σ H Q
theorem Ds{es:List Expr}{k:Nat}{t:uO}{n:Nat}(hc:X.calm=aq)(h:KJ X es t)
  (hn:(rU es X.env).length=n:=by rfl)(hst:(rU es X.env).findIdx? (·.1)=aj:=by rfl):PG X (.Tuple es k pos) (R9 X.K n t):=by
 intro pins s σ H v u Q I r hw
 obtain⟨a,xs,e1,hq,hl,hw⟩:=hw
 subst e1;cases r
 obtain⟨its,rv,ht,hz⟩:=I.tuple hq
 refine assign_Tuple_tuple (I.ok.hd hc) ht (by simp[hn,<-hl,rv.length]) hst λh' hx=>?_
 have I1:Inv X pins σ H {s with heap:=h'}:=I.kept (t':=s.toks) λb o e=>hx b o (cW (bO e)) e
 exact h pins _ σ H xs _ Q I1 (by simpa using rv) hw
def al5(to ti:TE)(t:R7):TG:=λv σ H Q=>to σ H λo H1=>ti σ H1 λi H2=>t o i v H2 λH3=>Q σ H3
theorem aj0{o i:Expr}{to ti:TE}{t:R7}(ho:PE X o to)(hi:PE X i ti)(hs:uD X t)
  (ha:∀v,assign (.Subscript o i pos) X.env v=(do
   let ov <-oV [v] (eval o X.env)
   let iv <-oV [v,ov] (eval i X.env)
   zZ pos
   oV [v,ov,iv] (setItem ov iv v)
   release [v,ov,iv] []):=by intro _;rfl):PG X (.Subscript o i pos) (al5 to ti t):=by
 intro pins s σ H v u Q I r h;rw[ha];refine az (jB (bQ (ho pins s σ H _ I h) λov s1 aK=>?_))
 obtain⟨x,H1,I1,r1,q1⟩:=aK
 refine az (jB (bQ (hi pins s1 σ H1 _ I1 q1) λiv s2 aK=>?_))
 obtain⟨y,H2,I2,r2,q2⟩:=aK
 refine az (zF (az (jB (bQ (hs pins s2 σ H2 x y v ov iv u _ I2 r1 r2 r q2) λ_ s3 aK=>?_))))
 obtain⟨H3,I3,q3⟩:=aK
 exact wpAny_release ⟨σ,H3,I3,q3⟩
def Be(te:TE)(g:TG):TS:=λD σ H=>te σ H λx H1=>g x σ H1 D.nx
theorem QK{tg e:Expr}{te:TE}{g:TG}(he:PE X e te)(hg:PG X tg g)(hs:xu [tg] e pos.line X.env=pure aB:=by rfl)(hw:xx [tg] e X.env=pure aj:=by rfl)
  (h1:(rU [tg] X.env).map (·.2)=[assign tg X.env]:=by rfl):PS X (.Assign [tg] e pos) (Be te g):=by
 intro pins s σ H D I h;refine wpAny_Assign_stores (bQ (he pins s σ H _ I h) λv s1 aK=>?_) hs hw
 obtain⟨x,H1,I1,r1,q1⟩:=aK
 rw[h1];exact bQ (hg pins s1 σ H1 x v _ I1 r1 q1) λ_ s2 q=>q
theorem aap{i:Nat}{x:Str}{e:Expr}{te:TE}{pos':Pos}(hN:X.N.Nodup)(hi:X.N[i]?=aa x)(hx:Loc X.env.scope x)(he:PE X e te)(hs:vz e (aa (.Name x pos')) pos.line X.env=pure aB:=by rfl)(hf:X.fn x=aq\/X.env.scope.names.lookup x=aa .local:=by first|exact .inl rfl|exact .inr rfl|assumption):
  PS X (.Assign [.Name x pos'] e pos) (Be te (vQ i)):=by
 intro pins s σ H D I h;refine wpAny_Assign_Name (bQ (he pins s σ H _ I h) λv s1 aK=>?_) hs
 obtain⟨y,H1,I1,r1,q1⟩:=aK
 exact um I1 hN hi hx r1 (λs2 I2=>⟨_,H1,I2,q1⟩) hf
def al6(i j:Nat)(ta:TA):TS:=λD σ H=>ta σ H λvs H1=>∃v w,vs=[v,w]/\D.nx ((σ.set i (aa v)).set j (aa w)) H1
theorem aj1{i j:Nat}{x y:Str}{a b:Expr}{ta:TA}{px py pt:Pos}{kt k2 nC}(hc:X.calm=aq)(hN:X.N.Nodup)(hi:X.N[i]?=aa x)(hj:X.N[j]?=aa y)(hij:i≠j)
  (hx:X.env.scope.names.lookup x=aa .local)(hy:X.env.scope.names.lookup y=aa .local)(ha:PA X [a,b] ta)
  (hw:xx [.Tuple [.Name x px,.Name y py] kt pt] (.Tuple [a,b] k2 nC) X.env=pure (aa [x,y]))
  (hs:xu [.Tuple [.Name x px,.Name y py] kt pt] (.Tuple [a,b] k2 nC) pos.line X.env=pure aB:=by rfl):
  PS X (.Assign [.Tuple [.Name x px,.Name y py] kt pt] (.Tuple [a,b] k2 nC) pos) (al6 i j ta):=by
 intro pins s σ H D I h;rw[exec_Assign_arm];refine az (zF ?_);rw[hs];refine az (aM ?_);rw[bw (by decide)];refine az (Tuple_ (bQ (ha _ pins s σ H _ I h) λus s1 aK=>?_))
 obtain⟨vs,H1,I1,r1,q1⟩:=aK
 obtain⟨v,w,e1,q1⟩:=q1
 subst e1
 obtain⟨u1,u2,rfl,rv,rw'⟩:∃u1 u2,us=[u1,u2]/\RelV v u1/\RelV w u2:=by
  cases r1 with
  |cons p q=>
   cases q with
   |cons p' q'=>
    cases q'
    exact⟨_,_,rfl,p,p'⟩
 refine jz ?_ (by show 2<=bL;decide);have I2:Inv X pins σ H1 {s1 with heap:=s1.heap.push {cls:=.type "tuple",data:=.seq [u1,u2].toArray}}:=I1.kept (t':=s1.toks) λb o e=>bH _ e
 rw[hw];refine az (aM ?_);show aH (model X.prog X.w) X.A (do rule "assign.swapped-stores";let items <-unpackItems (.ref s1.heap.objs.size) 2 aj;Cr [λv=>uo X.env y v,λv=>uo X.env x v] items.reverse;pure N8) _ _ _;refine az (rW (az (unpackItems_tuple (items:=#[u1,u2]) (I.ok.hd hc) (IsTup.new s1.heap _) λh' hx'=>?_)));have I3:=I2.kept (h':=h') (t':=s1.toks) λb o e=>hx' b o (cW (bO e)) e
 show aH _ _ (Cr [λv=>uo X.env y v,λv=>uo X.env x v] [u2,u1] >>= λ_=>pure N8) _ _ _;refine az (assignInOrder_cons (GX (um I3 hN hj (.inl hy) rw' (λs2 I4=>?_) (.inr hy))));refine assignInOrder_cons (GX (um I4 hN hi (.inl hx) rv (λs3 I5=>assignInOrder_nil (aM ?_)) (.inr hx)));rw[MK _ _ (jr hij)] at I5
 exact⟨_,H1,I5,q1⟩
end
section
variable{X:Cx}{pos:Pos}
def aaq(c:TT)(tb:TS):TS:=λD σ H=>∃W:Nat->St->Hp->Prop,(∃m,W m σ H)/\∀m σ H,W m σ H->
 c σ H λb H1=>if b=aq then ∃N:St->Hp->Prop,(∀σ' H',N σ' H'->∃m',m'<m/\W m' σ' H')/\tb {D with nx:=N,ct:=N,bk:=D.nx} σ H1 else D.nx σ H1
theorem ag6{c:Expr}{body:List dZ}{tc:TT}{tb:TS}(hp:Oa (model X.prog X.w) X.A X.env X.xe)(hc:PT X c tc)(hb:iR X body tb):PS X (.While c body [] pos) (aaq tc tb):=by
 intro pins s σ H D I h
 obtain⟨W,⟨m0,w0⟩,turn⟩:=h
 refine wpAny_While (codeAny_whileLoop (λn s'=>∃σ' H',Inv X pins σ' H' s'/\W n σ' H') ?_ m0 ⟨σ,H,I,w0⟩);rintro n s1 ⟨σ1,H1,I1,w1⟩;refine zu hp (bQ (hc pins s1 σ1 H1 _ I1 (turn n σ1 H1 w1)) λb s2 aK=>?_)
 obtain⟨H2,I2,q2⟩:=aK
 cases b with
 |true=>
  obtain⟨N,hN,q2⟩:=q2
  rw[aY rfl];refine zu hp (bQ (hb pins s2 σ1 H2 _ I2 q2) λf s3 q3=>?_);cases f with
  |next=>
   obtain⟨σ3,H3,I3,n3⟩:=q3
   obtain⟨m',hm,w3⟩:=hN σ3 H3 n3
   exact⟨m',hm,σ3,H3,I3,w3⟩
  |cont=>
   obtain⟨σ3,H3,I3,n3⟩:=q3
   obtain⟨m',hm,w3⟩:=hN σ3 H3 n3
   exact⟨m',hm,σ3,H3,I3,w3⟩
  |brk=>exact q3
  |ret v=>exact q3
 |false=>
  rw[bw gr];exact Mr ⟨σ1,H2,I2,q2⟩
end
structure It where
 go:Nat->Hp->Prop
 uP:Nat->Hp->V->Hp->Prop
 stop:Nat->Hp->Prop
def jG(X:Cx)(pins:List (ao×Obj))(H:Hp)(b:ao):Prop:=
 H b=aj/\b≠X.env.locals/\b∉X.fs/\(b∈X.ex\/X.s₀.heap.objs.size<=b)/\(∀x c,X.env.cells.lookup x=aa c->c≠b)/\∀p∈X.pn++pins,p.1≠b
theorem Inv.uE{X:Cx}{pins:List (ao×Obj)}{σ:St}{H H':Hp}{s:aA}{b:ao}(I:Inv X pins σ H s)(hb:s.heap.objs.size<=b)(hn:H' b=aj):jG X pins H' b:=by
 refine⟨hn,qL (lN I.lt hb),I.alZ hb,.inr (ir I.sz hb),λx c e z=>?_,λp hp z=>?_⟩
 .obtain⟨v,q⟩:=I.cell x c e
  exact absurd (lN q.lt (by rw[z];exact hb)) (zE _)
 .exact absurd (lN (bO (I.pin p hp).1) (by rw[z];exact hb)) (zE _)
structure Turn(P:bA)(w:bu)(K:aF)(tg:Expr)(J:It)(fp:List ao)(it:ao)(tn:Nat->aU->Prop):Prop where
 mem:it∈fp
 obj:∀i h,tn i h->∀b∈fp,∃o,h.get? b=aa o/\∀v,o.data≠.cell v
 keep:∀i h h',tn i h->(∀b∈fp,∀o,h.get? b=aa o->h'.get? b=aa o)->tn i h'
 item:∀(X:Cx),X.prog=P->X.w=w->X.K=K->X.calm=aq->∀(i:Nat)(pins:List (ao×Obj))(s:aA)(σ:St)(H:Hp)(E:Value->aA->Prop),Inv X pins σ H s->(∀b∈fp,jG X pins H b)->tn i s.heap->J.go i H->
  aH (model P w) X.A (gZ (.ref it)) (λr s1=>∃u,r=aa u/\
   aH (model P w) X.A (xm tg (.ref it) u) (λ_ s2=>∃x H',Inv X pins σ H' s2/\RelV x u/\J.uP i H x H'/\tn (i+1) s2.heap/\∀b∈fp,H' b=aj) E s1) E s
 done:∀(X:Cx),X.prog=P->X.w=w->X.K=K->X.calm=aq->∀(i:Nat)(pins:List (ao×Obj))(s:aA)(σ:St)(H:Hp)(E:Value->aA->Prop),Inv X pins σ H s->(∀b∈fp,jG X pins H b)->tn i s.heap->J.stop i H->
  aH (model P w) X.A (gZ (.ref it)) (λr s1=>r=aj/\Inv X pins σ H s1) E s
 self:∀(A:bV)(i:Nat)(s:aA)(Q:Value->aA->Prop)(E:Value->aA->Prop),tn i s.heap->Q (.ref it) s->aH (model P w) A (Aj (.ref it)) Q E s
abbrev TI:=St->Hp->(It->Hp->Prop)->Prop
def PIE(X:Cx)(pins:List (ao×Obj))(σ:St)(tg:Expr)(R:It->Hp->Prop)(itv:Value)(s2:aA):Prop:=
 ∃(it:ao)(fp:List ao)(tn:Nat->aU->Prop)(J:It)(H':Hp),itv=.ref it/\Inv X pins σ H' s2/\Turn X.prog X.w X.K tg J fp it tn/\tn 0 s2.heap/\(∀b∈fp,jG X pins H' b)/\R J H'
def PI(X:Cx)(tg iter:Expr)(wi:TI):Prop:=
 ∀(pins:List (ao×Obj))(s:aA)(σ:St)(H:Hp)(R:It->Hp->Prop),Inv X pins σ H s->wi σ H R->
  aH (model X.prog X.w) X.A (eval iter X.env) (λv s1=>aH (model X.prog X.w) X.A (Aj v) (PIE X pins σ tg R) X.xe s1) X.xe s
theorem JX{M:Model}{A:bV}{E:Value->aA->Prop}{s:aA}{tg:Expr}{it:ao}{u:Value}{o:Obj}{n:String}{vs:Array Value}{Q:Unit->aA->Prop}(ho:s.heap.get? it=aa o)(hc:o.cls=.type n)(hd:o.data=.fields vs)
  (hn:["enumerate","zip","dict_itemiterator","dict_reverseitemiterator","odict_iterator","itertools.zip_longest","itertools.pairwise"].contains n=aB)(hQ:Q () s):aH M A (xm tg (.ref it) u) Q E s:=by
 unfold xm;cases tg<;>first
  |exact aM hQ
  |(cases u<;>first
    |exact aM hQ
    |(refine az (Hz ho ?_)
      rw[hc,hd];show aH M A (if(["enumerate","zip","dict_itemiterator","dict_reverseitemiterator","odict_iterator","itertools.zip_longest","itertools.pairwise"].contains n&&vs[0]?==aa (fW _))=aq then _ else _) Q E s;rw[bw (by intro h;rw[hn,VL] at h;cases h)];exact aM hQ))
def Tc(K:aF)(a:ao):It:=
 ⟨λi H=>∃xs x,bG K H a xs/\xs[i]?=aa x,λi H x H'=>H'=H/\∀xs,bG K H a xs->xs[i]?=aa x,λi H=>∃xs,bG K H a xs/\xs.length<=i⟩
def Td(K:aF)(a:ao):It:=
 ⟨λi H=>∃xs x,bW K H a xs/\xs[i]?=aa x,λi H x H'=>H'=H/\∀xs,bW K H a xs->xs[i]?=aa x,λi H=>∃xs,bW K H a xs/\xs.length<=i⟩
def KN(lo:Int)(n:Nat):It:=⟨λi _=>i<n,λi H x H'=>H'=H/\x=.int (lo+i),λi _=>n<=i⟩
theorem agc{P:bA}{w:bu}{K:aF}{tg:Expr}(a it:ao):Turn P w K tg (Tc K a) [it] it (λi h=>h.IsListIter it a i) where
 mem:=by simp
 obj:=λi h st b hb=>by
  have e:b=it:=by simpa using hb
  subst e
  obtain⟨o,e,c,d⟩:=st
  exact⟨o,e,λv z=>by rw[d] at z;cases z⟩
 keep:=λi h h' st k=>st.at λo e=>k it (by simp) o e
 item:=by
  intro X hP hw hK hc i pins s σ H E I hf st hg;subst hP hw hK
  obtain⟨xs,x,hq,hx⟩:=hg
  obtain⟨its,rv,p,hz⟩:=I.list hq
  obtain⟨u,hu,ru⟩:=rv.get hx
  obtain⟨f0,f1,f2,f3,f4,f5⟩:=hf it (by simp)
  refine wpAny_pyNext_list_item st p.isList (x:=u) (by simpa using hu) λh' st' sb=>?_
  have I1:Inv X pins σ H {s with heap:=h'}:=I.turned (t':=s.toks) (λb o hb e=>(sb.2 b hb).trans e) f0 f1 f3 f4 f5
  obtain⟨o,e,c,d⟩:=id st'
  exact⟨u,rfl,JX (s:={s with heap:=h'}) e c d (by decide) ⟨x,H,I1,ru,⟨rfl,λys hy=>by rw[I.OJ hy hq];exact hx⟩,st',λb hb=>(hf b hb).1⟩⟩
 done:=by
  intro X hP hw hK hc i pins s σ H E I hf st hg;subst hP hw hK
  obtain⟨xs,hq,hx⟩:=hg
  obtain⟨its,rv,p,hz⟩:=I.list hq
  obtain⟨f0,f1,f2,f3,f4,f5⟩:=hf it (by simp)
  have hl:=rv.length;exact wpAny_pyNext_list_end (I.ok.hd hc) st p.isList (by simp;lia) λh' eb=>⟨rfl,I.turned (t':=s.toks) (λb o hb e=>eb b o hb e) f0 f1 f3 f4 f5⟩
 self:=λ_ _ _ _ _ st h=>wpAny_pyIter_listiter st h
theorem aft{P:bA}{w:bu}{K:aF}{tg:Expr}(a it:ao):Turn P w K tg (Td K a) [it] it (λi h=>h.IsTupleIter it a i) where
 mem:=by simp
 obj:=λi h st b hb=>by
  have e:b=it:=by simpa using hb
  subst e
  obtain⟨o,e,c,d⟩:=st
  exact⟨o,e,λv z=>by rw[d] at z;cases z⟩
 keep:=λi h h' st k=>st.at λo e=>k it (by simp) o e
 item:=by
  intro X hP hw hK hc i pins s σ H E I hf st hg;subst hP hw hK
  obtain⟨xs,x,hq,hx⟩:=hg
  obtain⟨its,rv,p,hz⟩:=I.tuple hq
  obtain⟨u,hu,ru⟩:=rv.get hx
  obtain⟨f0,f1,f2,f3,f4,f5⟩:=hf it (by simp)
  refine wpAny_pyNext_tuple_item st (show s.heap.IsTuple a its.toArray from p) (x:=u) (by simpa using hu) λh' st' sb=>?_
  have I1:Inv X pins σ H {s with heap:=h'}:=I.turned (t':=s.toks) (λb o hb e=>(sb.2 b hb).trans e) f0 f1 f3 f4 f5
  obtain⟨o,e,c,d⟩:=id st'
  exact⟨u,rfl,JX (s:={s with heap:=h'}) e c d (by decide) ⟨x,H,I1,ru,⟨rfl,λys hy=>by rw[I.N7 hy hq];exact hx⟩,st',λb hb=>(hf b hb).1⟩⟩
 done:=by
  intro X hP hw hK hc i pins s σ H E I hf st hg;subst hP hw hK
  obtain⟨xs,hq,hx⟩:=hg
  obtain⟨its,rv,p,hz⟩:=I.tuple hq
  obtain⟨f0,f1,f2,f3,f4,f5⟩:=hf it (by simp)
  have hl:=rv.length;exact wpAny_pyNext_tuple_end (I.ok.hd hc) st (show s.heap.IsTuple a its.toArray from p) (by simp;lia) λh' eb=>⟨rfl,I.turned (t':=s.toks) (λb o hb e=>eb b o hb e) f0 f1 f3 f4 f5⟩
 self:=λ_ _ _ _ _ st h=>wpAny_pyIter_tupleiter st h
theorem afu{P:bA}{w:bu}{K:aF}{tg:Expr}(it:ao)(lo:Int)(n:Nat):Turn P w K tg (KN lo n) [it] it (λi h=>IsRangeIter h it (lo+(i:Nat)*1) ((n:Int)-(i:Nat)) 1) where
 mem:=by simp
 obj:=λi h st b hb=>by
  have e:b=it:=by simpa using hb
  subst e
  exact⟨_,st,λv z=>by
   have z':Data.fields _=Data.cell v:=z;cases z'⟩
 keep:=λi h h' st k=>k it (by simp) _ st
 item:=by
  intro X hP hw hK hc i pins s σ H E I hf st hg;subst hP hw hK
  obtain⟨f0,f1,f2,f3,f4,f5⟩:=hf it (by simp)
  have W:=Walks.range (prog:=X.prog) (w:=X.w) (I.ok.hd hc) it lo 1 n;refine W.item i s _ _ hg st λv h' tk hv st' kk=>?_
  obtain⟨t,rfl⟩:=hv
  have I1:Inv X pins σ H {s with heap:=h',toks:=tk}:=I.turned (λb o hb e=>kk b o (by simpa using hb) e) f0 f1 f3 f4 f5
  refine⟨_,rfl,JX (s:={s with heap:=h',toks:=tk}) (n:="range_iterator") st' rfl rfl (by decide) ⟨.int (lo+i),H,I1,⟨t,?_⟩,⟨rfl,rfl⟩,st',λb hb=>(hf b hb).1⟩⟩
  rw[Int.mul_one]
 done:=by
  intro X hP hw hK hc i pins s σ H E I hf st hg;subst hP hw hK
  obtain⟨f0,f1,f2,f3,f4,f5⟩:=hf it (by simp)
  exact wpAny_pyNext_range_end (I.ok.hd hc) st (by have:n<=i:=hg;lia) λh' eb=>⟨rfl,I.turned (t':=s.toks) (λb o hb e=>eb b o hb e) f0 f1 f3 f4 f5⟩
 self:=λ_ _ _ _ _ st h=>wpAny_pyIter_rangeiter st h
section
variable{X:Cx}{tg:Expr}
def ak6(K:aF)(tl:TE):TI:=λσ H R=>tl σ H λx H1=>∃a,x=.ref a/\(∃xs,bG K H1 a xs)/\R (Tc K a) H1
def al7(K:aF)(tl:TE):TI:=λσ H R=>tl σ H λx H1=>∃a,x=.ref a/\(∃xs,bW K H1 a xs)/\R (Td K a) H1
theorem Jb{l:Expr}{tl:TE}(hl:PE X l tl):PI X tg l (ak6 X.K tl):=by
 intro pins s σ H R I h;refine bQ (hl pins s σ H _ I h) λv s1 aK=>?_
 obtain⟨x,H1,I1,r1,q1⟩:=aK
 obtain⟨a,e,⟨xs,hq⟩,q⟩:=q1
 subst e;cases r1
 obtain⟨its,rv,p,hz⟩:=I1.list hq
 refine BV p.isList ?_
 refine⟨s1.heap.objs.size,[s1.heap.objs.size],_,_,H1,rfl,I1.kept (t':=s1.toks) λb o e=>bH _ e,agc a _,⟨_,dI _ rfl,rfl,rfl⟩,λb hb=>?_,q⟩
 have e:b=s1.heap.objs.size:=by simpa using hb
 subst e;exact I1.uE (bK _) (I1.hok.fresh (bK _))
theorem Ju{l:Expr}{tl:TE}(hl:PE X l tl):PI X tg l (al7 X.K tl):=by
 intro pins s σ H R I h;refine bQ (hl pins s σ H _ I h) λv s1 aK=>?_
 obtain⟨x,H1,I1,r1,q1⟩:=aK
 obtain⟨a,e,⟨xs,hq⟩,q⟩:=q1
 subst e;cases r1
 obtain⟨its,rv,p,hz⟩:=I1.tuple hq
 refine U3 (show s1.heap.IsTuple a its.toArray from p) ?_
 refine⟨s1.heap.objs.size,[s1.heap.objs.size],_,_,H1,rfl,I1.kept (t':=s1.toks) λb o e=>bH _ e,aft a _,⟨_,dI _ rfl,rfl,rfl⟩,λb hb=>?_,q⟩
 have e:b=s1.heap.objs.size:=by simpa using hb
 subst e;exact I1.uE (bK _) (I1.hok.fresh (bK _))
theorem ag7{pins:List (ao×Obj)}{σ:St}{H:Hp}{s:aA}{R:It->Hp->Prop}{E:Value->aA->Prop}{lo hi:Int}{t u v:Tok}{tk:Nat}(I:Inv X pins σ H s)(h1:-(2^62)<=lo)(h2:lo<2^62)(h3:-(2^62)<=hi)(h4:hi<2^62)
  (q:R (KN lo (hi-lo).toNat) H):aH (model X.prog X.w) X.A (Aj (.ref s.heap.objs.size)) (PIE X pins σ tg R) E {s with heap:=s.heap.push {cls:=.type "range",data:=.fields #[.int lo t,.int hi u,.int 1 v]},toks:=tk}:=by
 refine wpAny_pyIter_range (IsRange.new ..) (small_one h1 h2 h3 h4) ?_;have I1:Inv X pins σ H {s with heap:=s.heap.push {cls:=.type "range",data:=.fields #[.int lo t,.int hi u,.int 1 v]},toks:=tk}:=I.kept λb o e=>bH _ e
 refine⟨(s.heap.push {cls:=.type "range",data:=.fields #[.int lo t,.int hi u,.int 1 v]}).objs.size,[(s.heap.push {cls:=.type "range",data:=.fields #[.int lo t,.int hi u,.int 1 v]}).objs.size],_,_,H,rfl,
  I1.kept (t':=tk) λb o e=>bH _ e,afu _ lo (hi-lo).toNat,?_,λb hb=>?_,q⟩
 .have e1:lo+((0:Nat):Int)*1=lo:=by simp
  have e2:(((hi-lo).toNat:Nat):Int)-((0:Nat):Int)=aos lo hi 1:=by rw[rangeSize_one];split<;>lia
  show IsRangeIter _ _ (lo+((0:Nat):Int)*1) ((((hi-lo).toNat:Nat):Int)-((0:Nat):Int)) 1;rw[e1,e2];exact dI _ rfl
 .have e:b=(s.heap.push {cls:=.type "range",data:=.fields #[.int lo t,.int hi u,.int 1 v]}).objs.size:=by simpa using hb
  subst e;exact I1.uE (bK _) (I1.hok.fresh (bK _))
def ak7(ta:TA):TI:=λσ H R=>ta σ H λvs H1=>∃j:Int,vs=[.int j]/\-(2^62)<=j/\j<2^62/\R (KN 0 j.toNat) H1
theorem agd{a:Expr}{ta:TA}{p pos:Pos}(hg:Gl X "range")(hm:X.mg "range"=aj)(ha:PA X [a] ta)(hs:bD [a] X.env=[(aB,eval a X.env)]:=by rfl):PI X tg (.Call (.Name "range" p) [a] [] pos) (ak7 ta):=by
 intro pins s σ H R I h;refine Call_ (vL I hg hm boot_range (Gg (bQ (ha pos pins s σ H _ I h) λus s1 aK=>?_) hs rfl))
 obtain⟨vs,H1,I1,r1,q1⟩:=aK
 obtain⟨j,e,q1,q2,q⟩:=q1
 subst e;cases r1 with
 |cons r rr=>
  cases rr
  obtain⟨t,rfl⟩:=r
  exact call_range_1 (ag7 I1 (by lia) (by lia) q1 q2 (by simpa using q))
def abr(wi:TI)(g:TG)(tb:TS):TS:=λD σ H=>wi σ H λJ H1=>∃W:Nat->Nat->St->Hp->Prop,(∃m,W 0 m σ H1)/\∀i m σ H,W i m σ H->
 (J.stop i H/\D.nx σ H)\/(J.go i H/\∃N:St->Hp->Prop,(∀σ' H',N σ' H'->∃m',m'<m/\W (i+1) m' σ' H')/\∀x H',J.uP i H x H'->g x σ H' λσ2 H2=>tb {D with nx:=N,ct:=N,bk:=D.nx} σ2 H2)
def Dt(fp:List ao)(h:aU):List (ao×Obj):=fp.filterMap λb=>(h.get? b).map λo=>(b,o)
theorem HB{fp:List ao}{h:aU}{b:ao}{o:Obj}(hb:b∈fp)(e:h.get? b=aa o):(b,o)∈Dt fp h:=LK.mpr ⟨b,hb,by rw[e];rfl⟩
theorem age{fp:List ao}{h:aU}{p:ao×Obj}(hp:p∈Dt fp h):p.1∈fp/\h.get? p.1=aa p.2:=by
 obtain⟨b,hb,e⟩:=LK.mp hp
 cases q:h.get? b with
 |none=>rw[q] at e;cases e
 |some o=>
  rw[q] at e;have e':(b,o)=p:=fU e;subst e'
  exact⟨hb,q⟩
theorem Inv.pinned{pins:List (ao×Obj)}{σ:St}{H:Hp}{s:aA}{fp:List ao}(I:Inv X pins σ H s)(hf:∀b∈fp,jG X pins H b)(ho:∀b∈fp,∃o,s.heap.get? b=aa o/\∀v,o.data≠.cell v):Inv X (pins++Dt fp s.heap) σ H s:=
 I.Zf λp hp=>(cF.mp hp).elim (λz=>I.pin p (eF _ z)) λz=>by
  obtain⟨hb,e⟩:=age z
  obtain⟨f0,f1,f2,_⟩:=hf p.1 hb
  obtain⟨o,e',d⟩:=ho p.1 hb
  rw[e] at e';cases e'
  exact⟨e,f0,f1,f2,d⟩
theorem Inv.H9{pins pl:List (ao×Obj)}{σ:St}{H:Hp}{s:aA}(I:Inv X (pins++pl) σ H s):Inv X pins σ H s:=I.Zf λp hp=>I.pin p (eF _ (gK _ hp))
theorem aj2{iter:Expr}{body:List dZ}{wi:TI}{g:TG}{tb:TS}{pos:Pos}(hp:Oa (model X.prog X.w) X.A X.env X.xe)(hc:X.calm=aq)(hi:PI X tg iter wi)(hg:PG X tg g)(hb:iR X body tb)
  (hs:∀x,wY iter X.env x=pure x:=by intro _;rfl):PS X (.For tg iter body [] pos) (abr wi g tb):=by
 intro pins s σ H D I h;refine wpAny_For (bQ (hi pins s σ H _ I h) λv s1 h1=>bQ h1 λitv s2 h2=>?_) hs
 obtain⟨it,fp,tn,J,H2,e,I2,T,st2,f2,W,⟨m0,w0⟩,turn⟩:=h2
 subst e;have stat:∀{H':Hp},(∀b∈fp,H' b=aj)->∀b∈fp,jG X pins H' b:=λhn b hb=>⟨hn b hb,(f2 b hb).2⟩
 refine codeAny_forLoop_any (λn s'=>∃i σ' H',Inv X pins σ' H' s'/\tn i s'.heap/\(∀b∈fp,H' b=aj)/\W i n σ' H') ?_ m0 ⟨0,σ,H2,I2,st2,λb hb=>(f2 b hb).1,w0⟩;rintro n s3 ⟨i,σ3,H3,I3,st3,Fj,w3⟩;rcases turn i n σ3 H3 w3 with⟨stop,qn⟩|⟨go,N,hN,step⟩
 .refine zu hp (bQ (T.done X rfl rfl rfl hc i pins s3 σ3 H3 X.xe I3 (stat Fj) st3 stop) λr s4 aK=>?_)
  obtain⟨hr,I4⟩:=aK
  subst hr;exact Mr ⟨σ3,H3,I4,qn⟩
 .refine zu hp (bQ (T.item X rfl rfl rfl hc i pins s3 σ3 H3 X.xe I3 (stat Fj) st3 go) λr s4 aK=>?_)
  obtain⟨u,hr,h4⟩:=aK
  subst hr;refine zu hp (bQ h4 λ_ s5 aK=>?_)
  obtain⟨x,H5,I5,r5,y5,yU,Te⟩:=aK
  have Tf:=I5.pinned (stat Te) (T.obj _ _ yU);refine zu hp (bQ (hg _ s5 σ3 H5 x u _ Tf r5 (step x H5 y5)) λ_ s6 aK=>?_)
  obtain⟨σ6,H6,I6,q6⟩:=aK
  refine zu hp (bQ (hb _ s6 σ6 H6 _ I6 q6) λf s7 q7=>?_);have again:∀{σ7:St}{H7:Hp},Inv X (pins++Dt fp s5.heap) σ7 H7 s7->N σ7 H7->∃m,m<n/\∃i σ' H',Inv X pins σ' H' s7/\tn i s7.heap/\(∀b∈fp,H' b=aj)/\W i m σ' H':=λ{σ7 H7} I7 n7=>by
   obtain⟨m',hm,w7⟩:=hN σ7 H7 n7
   refine⟨m',hm,i+1,σ7,H7,I7.H9,T.keep _ _ _ yU λb hb o e=>(I7.pin (b,o) (eF _ (eF _ (HB hb e)))).1,λb hb=>?_,w7⟩
   obtain⟨o,e,d⟩:=T.obj _ _ yU b hb
   exact(I7.pin (b,o) (eF _ (eF _ (HB hb e)))).2.1
  cases f with
  |next=>obtain⟨σ7,H7,I7,n7⟩:=q7;exact again I7 n7
  |cont=>obtain⟨σ7,H7,I7,n7⟩:=q7;exact again I7 n7
  |brk=>obtain⟨σ7,H7,I7,q7⟩:=q7;exact⟨σ7,H7,I7.H9,q7⟩
  |ret v=>obtain⟨x7,σ7,H7,I7,r7,q7⟩:=q7;exact⟨x7,σ7,H7,I7.H9,r7,q7⟩
end
abbrev R2:=V->V->Hp->VK->Prop
def cY(X:Cx)(f:Value->Value->Sem Value)(r:R2):Prop:=
 ∀(pins:List (ao×Obj))(s:aA)(σ:St)(H:Hp)(x y:V)(v u:Value)(Q:VK),Inv X pins σ H s->RelV x v->RelV y u->r x y H Q->
  aH (model X.prog X.w) X.A (f v u) (EP X pins σ Q) X.xe s
def fO(X:Cx)(f:Value)(r:List V->Hp->VK->Prop):Prop:=
 ∀(pins:List (ao×Obj))(s:aA)(σ:St)(H:Hp)(xs:List V)(us:List Value)(Q:VK),Inv X pins σ H s->Vals xs us->r xs H Q->
  aH (model X.prog X.w) X.A (call f us) (EP X pins σ Q) X.xe s
def al8(X:Cx)(r:V->Hp->(Bool->Hp->Prop)->Prop):Prop:=
 ∀(pins:List (ao×Obj))(s:aA)(σ:St)(H:Hp)(x:V)(v:Value)(Q:Bool->Hp->Prop),Inv X pins σ H s->RelV x v->r x H Q->
  aH (model X.prog X.w) X.A (truthy v) (TP X pins σ Q) X.xe s
def Fo(r:R2)(ta tb:TE):TE:=λσ H Q=>ta σ H λx H1=>tb σ H1 λy H2=>r x y H2 Q
def rI(C:Int->Int->Prop)(g:Int->Int->V):R2:=λx y H Q=>∃i j,x=.int i/\y=.int j/\C i j/\Q (g i j) H
def pN(g:Int->Int->V):R2:=λx y H Q=>∃i j,x=.int i/\y=.int j/\Q (g i j) H
section
variable{X:Cx}{a b c:Expr}{ta tb tc:TE}{pos:Pos}
theorem Sd(ha:PE X a ta)(hb:PE X b tb){pins:List (ao×Obj)}{s:aA}{σ:St}{H:Hp}{R:V->V->Hp->Prop}(I:Inv X pins σ H s)
  (h:ta σ H λx H1=>tb σ H1 λy H2=>R x y H2){Q:Value->aA->Prop}{f:Value->Value->Sem Value}
  (hf:∀v u s2 x y H2,Inv X pins σ H2 s2->RelV x v->RelV y u->R x y H2->aH (model X.prog X.w) X.A (f v u) Q X.xe s2):
  aH (model X.prog X.w) X.A (eval a X.env) (λv s₁=>aH (model X.prog X.w) X.A (eval b X.env) (λu s₂=>aH (model X.prog X.w) X.A (f v u) Q X.xe s₂) X.xe s₁) X.xe s:=by
 refine bQ (ha pins s σ H _ I h) λv s1 aK=>?_
 obtain⟨x,H1,I1,r1,q1⟩:=aK
 refine bQ (hb pins s1 σ H1 _ I1 q1) λu s2 aK=>?_
 obtain⟨y,H2,I2,r2,q2⟩:=aK
 exact hf v u s2 x y H2 I2 r1 r2 q2
theorem ak8{op:Operator}{r:R2}(ho:cY X (lW op) r)(ha:PE X a ta)(hb:PE X b tb):PE X (.BinOp a op b pos) (Fo r ta tb):=by
 intro pins s σ H Q I h;exact wpAny_BinOp (Sd ha hb I h λv u s2 x y H2 I2 rx ry q=>ho pins s2 σ H2 x y v u Q I2 rx ry q)
theorem KQ{f:Value->Value->Sem Value}{C:Int->Int->Prop}{g:Int->Int->Int}
  (rule:∀(i j:Int)(t u:Tok)(s:aA)(Q:Value->aA->Prop)(E:Value->aA->Prop),C i j->Q (.int (g i j) s.toks) {s with toks:=s.toks+1}->aH (model X.prog X.w) X.A (f (.int i t) (.int j u)) Q E s):
  cY X f (rI C λi j=>.int (g i j)):=by
 intro pins s σ H x y v u Q I rx ry h
 obtain⟨i,j,rfl,rfl,hc,q⟩:=h
 obtain⟨t,rfl⟩:=rx
 obtain⟨t',rfl⟩:=ry
 exact rule i j t t' s _ _ hc ⟨.int (g i j),H,I.tok _,⟨_,rfl⟩,q⟩
theorem abt{f:Value->Value->Sem Value}{g:Int->Int->Int}
  (rule:∀(i j:Int)(t u:Tok)(s:aA)(Q:Value->aA->Prop)(E:Value->aA->Prop),Q (.int (g i j) s.toks) {s with toks:=s.toks+1}->aH (model X.prog X.w) X.A (f (.int i t) (.int j u)) Q E s):
  cY X f (pN λi j=>.int (g i j)):=by
 intro pins s σ H x y v u Q I rx ry h
 obtain⟨i,j,rfl,rfl,q⟩:=h
 obtain⟨t,rfl⟩:=rx
 obtain⟨t',rfl⟩:=ry
 exact rule i j t t' s _ _ ⟨.int (g i j),H,I.tok _,⟨_,rfl⟩,q⟩
theorem Sg{f:Value->Value->Sem Value}{g:Int->Int->Bool}
  (rule:∀(i j:Int)(t u:Tok)(s:aA)(Q:Value->aA->Prop)(E:Value->aA->Prop),Q (.bool (g i j)) s->aH (model X.prog X.w) X.A (f (.int i t) (.int j u)) Q E s):
  cY X f (pN λi j=>.bl (g i j)):=by
 intro pins s σ H x y v u Q I rx ry h
 obtain⟨i,j,rfl,rfl,q⟩:=h
 obtain⟨t,rfl⟩:=rx
 obtain⟨t',rfl⟩:=ry
 exact rule i j t t' s _ _ ⟨.bl (g i j),H,I,rfl,q⟩
def abu(i j:Int):Prop:=0<j/\j<1073741824
def abv(i j:Int):Prop:=0<=j/\j<=1000000/\i.natAbs<2^64
def Ko(i j:Int):Prop:=(-(2^64)<i/\i<2^64)\/(-(2^64)<j/\j<2^64)
theorem Ko.ok{i j:Int}(h:Ko i j):IntMulOk i j:=by
 rcases h with⟨h1,h2⟩|⟨h1,h2⟩
 .exact .of_left (intBits_le_64 h1 h2)
 .exact .of_right (intBits_le_64 h1 h2)
theorem aj3:cY X (lW .Add) (pN λi j=>.int (i+j)):=abt λ_ _ _ _ _ _ _ q=>add_int q
theorem Jv:cY X (lW .Sub) (pN λi j=>.int (i-j)):=abt λ_ _ _ _ _ _ _ q=>sub_int q
theorem xY:cY X (lW .Mult) (rI Ko λi j=>.int (i*j)):=KQ λ_ _ _ _ _ _ _ hc q=>mul_int q hc.ok
theorem Zg:cY X (lW .FloorDiv) (rI abu λi j=>.int (i / j)):=KQ λi j _ _ _ _ _ hc q=>by
 have h1:(0:Int)<j:=hc.1;have h2:j<1073741824:=hc.2;exact floordiv_int (by lia) (by rw[Int.fdiv_eq_ediv_of_nonneg i (by lia)];exact q) (.inl (PyProof.noPylong_small (by lia)))
theorem xZ:cY X (lW .Mod) (rI (λ_ j=>0<j) λi j=>.int (i%j)):=KQ λi j _ _ _ _ _ hc q=>by
 have h1:(0:Int)<j:=hc;exact mod_int' (by lia) (by rw[Int.fmod_eq_emod_of_nonneg i (by lia)];exact q)
theorem Du:cY X (lW .Pow) (rI abv λi j=>.int (i^j.toNat)):=KQ λ_ _ _ _ _ _ _ hc q=>pow_int_small hc.1 hc.2.1 hc.2.2 q
end
def Sh:V->V->Bool
 |.non,.non=>aq|.non,.int _=>aq|.int _,.non=>aq|.non,.bl _=>aq|.bl _,.non=>aq|.non,.str _=>aq|.str _,.non=>aq
 |.int _,.int _=>aq|.bl _,.bl _=>aq|.str _,.str _=>aq|.pM _,.pM _=>aq
 |.int _,.str _=>aq|.str _,.int _=>aq|.bl _,.str _=>aq|.str _,.bl _=>aq
 |_,_=>aB
def rEq:R2:=λx y H Q=>Sh x y=aq/\Q (.bl (decide (x=y))) H
def rNe:R2:=λx y H Q=>Sh x y=aq/\Q (.bl (!decide (x=y))) H
theorem Qe{i j:Int}:decide (V.int i=V.int j)=(i==j):=by
 rw[qK];simp
theorem QL{i j:Bool}:decide (V.bl i=V.bl j)=(i==j):=by
 rw[qK];simp
theorem Qf{i j:Str}:decide (V.str i=V.str j)=(i==j):=by
 rw[qK];simp
theorem Zh{i j:Array UInt8}:decide (V.pM i=V.pM j)=(i.toList==j.toList):=by
 rw[qK];cases i;cases j;simp
section
variable{X:Cx}{a b c:Expr}{ta tb tc:TE}{pos:Pos}
theorem fK{pins:List (ao×Obj)}{σ:St}{H:Hp}{s:aA}{Q:VK}{k k':Bool}(I:Inv X pins σ H s)(q:Q (.bl k) H)(e:k=k'):EP X pins σ Q (.bool k') s:=by
 subst e
 exact⟨.bl k,H,I,rfl,q⟩
theorem ak9:cY X (gb .Eq) rEq:=by
 intro pins s σ H x y v u Q I rx ry h
 obtain⟨hs,q⟩:=h
 cases x with
 |non=>
  cases rx;cases y with
  |non=>cases ry;exact an1 (fK I q (by simp))
  |bl j=>cases ry;exact an2 (fK I q (by simp))
  |int j=>obtain⟨t',rfl⟩:=ry;exact aoe (fK I q (by simp))
  |str j=>obtain⟨t',rfl⟩:=ry;exact aof (fK I q (by simp))
  |_=>exact absurd (show aB=aq from hs) gr
 |bl i=>
  cases rx;cases y with
  |non=>cases ry;exact an3 (fK I q (by simp))
  |bl j=>cases ry;exact eq_bool (fK I q QL)
  |str j=>obtain⟨t',rfl⟩:=ry;exact an4 (fK I q (by simp))
  |_=>exact absurd (show aB=aq from hs) gr
 |int i=>
  obtain⟨t,rfl⟩:=rx
  cases y with
  |non=>cases ry;exact aog (fK I q (by simp))
  |int j=>obtain⟨t',rfl⟩:=ry;exact eq_int (fK I q Qe)
  |str j=>obtain⟨t',rfl⟩:=ry;exact aoh (fK I q (by simp))
  |_=>exact absurd (show aB=aq from hs) gr
 |str i=>
  obtain⟨t,rfl⟩:=rx
  cases y with
  |non=>cases ry;exact aoi (fK I q (by simp))
  |bl j=>cases ry;exact an5 (fK I q (by simp))
  |int j=>obtain⟨t',rfl⟩:=ry;exact aoj (fK I q (by simp))
  |str j=>obtain⟨t',rfl⟩:=ry;exact eq_str (fK I q Qf)
  |_=>exact absurd (show aB=aq from hs) gr
 |pM i=>
  obtain⟨t,rfl⟩:=rx
  cases y with
  |pM j=>obtain⟨t',rfl⟩:=ry;exact PySem.W.eq_bytes (fK I q Zh)
  |_=>exact absurd (show aB=aq from hs) gr
 |_=>cases y<;>exact absurd (show aB=aq from hs) gr
theorem ala:cY X (gb .NotEq) rNe:=by
 intro pins s σ H x y v u Q I rx ry h
 obtain⟨hs,q⟩:=h
 cases x with
 |non=>
  cases rx;cases y with
  |non=>cases ry;exact an6 (fK I q (by simp))
  |bl j=>cases ry;exact an7 (fK I q (by simp))
  |int j=>obtain⟨t',rfl⟩:=ry;exact aok (fK I q (by simp))
  |str j=>obtain⟨t',rfl⟩:=ry;exact aol (fK I q (by simp))
  |_=>exact absurd (show aB=aq from hs) gr
 |bl i=>
  cases rx;cases y with
  |non=>cases ry;exact an8 (fK I q (by simp))
  |bl j=>cases ry;exact ne_bool (fK I q (congrArg not QL))
  |str j=>obtain⟨t',rfl⟩:=ry;exact an9 (fK I q (by simp))
  |_=>exact absurd (show aB=aq from hs) gr
 |int i=>
  obtain⟨t,rfl⟩:=rx
  cases y with
  |non=>cases ry;exact aom (fK I q (by simp))
  |int j=>obtain⟨t',rfl⟩:=ry;exact ne_int (fK I q (congrArg not Qe))
  |str j=>obtain⟨t',rfl⟩:=ry;exact aon (fK I q (by simp))
  |_=>exact absurd (show aB=aq from hs) gr
 |str i=>
  obtain⟨t,rfl⟩:=rx
  cases y with
  |non=>cases ry;exact aoo (fK I q (by simp))
  |bl j=>cases ry;exact aoa (fK I q (by simp))
  |int j=>obtain⟨t',rfl⟩:=ry;exact aop (fK I q (by simp))
  |str j=>obtain⟨t',rfl⟩:=ry;exact ne_str (fK I q (congrArg not Qf))
  |_=>exact absurd (show aB=aq from hs) gr
 |pM i=>
  obtain⟨t,rfl⟩:=rx
  cases y with
  |pM j=>obtain⟨t',rfl⟩:=ry;exact PySem.W.ne_bytes (fK I q (congrArg not Zh))
  |_=>exact absurd (show aB=aq from hs) gr
 |_=>cases y<;>exact absurd (show aB=aq from hs) gr
theorem alb:cY X (gb .LtE) (pN λi j=>.bl (decide (i<=j))):=Sg λ_ _ _ _ _ _ _ q=>le_int q
theorem aaY:cY X (gb .Gt) (pN λi j=>.bl (decide (j<i))):=Sg λ_ _ _ _ _ _ _ q=>gt_int q
theorem alc:cY X (gb .GtE) (pN λi j=>.bl (decide (j<=i))):=Sg λ_ _ _ _ _ _ _ q=>ge_int q
theorem Jw:cY X (gb .Is) (λx y H Q=>y=.non/\Q (.bl (decide (x=.non))) H):=by
 intro pins s σ H x y v u Q I rx ry h
 obtain⟨rfl,q⟩:=h
 cases ry;refine is_none_gen (fK I q ?_);cases x<;>first
  |(cases rx;rfl)
  |(obtain⟨t,rfl⟩:=rx;rfl)
theorem cY.or{f:Value->Value->Sem Value}{r r':R2}(h:cY X f r)(h':cY X f r'):cY X f (λx y H Q=>r x y H Q\/r' x y H Q):=by
 intro pins s σ H x y v u Q I rx ry q;rcases q with q|q
 .exact h pins s σ H x y v u Q I rx ry q
 .exact h' pins s σ H x y v u Q I rx ry q
theorem iC(b:Expr){op:CmpOp}(h:op≠.In:=by decide)(h2:op≠.NotIn:=by decide):Cu op b=aB:=by
 have e1:(op==CmpOp.In)=aB:=by cases op<;>first|rfl|exact absurd rfl h
 have e2:(op==CmpOp.NotIn)=aB:=by cases op<;>first|rfl|exact absurd rfl h2
 cases b<;>simp[Cu,e1,e2]
theorem aif{op:CmpOp}{r:R2}(ho:cY X (gb op) r)(ha:PE X a ta)(hb:PE X b tb)(hm:Cu op b=aB):PE X (.Compare a [op] [b] pos) (Fo r ta tb):=by
 intro pins s σ H Q I h;exact wpAny_Compare1 (Sd ha hb I h λv u s2 x y H2 I2 rx ry q=>ho pins s2 σ H2 x y v u Q I2 rx ry q) hm
def aaZ(t:TE):TT:=λσ H Q=>t σ H λx H'=>∃k,x=.bl k/\Q k H'
theorem aih{op:CmpOp}{r:R2}(ho:cY X (gb op) r)(ha:PE X a ta)(hb:PE X b tb)(hm:Cu op b=aB):PT X (.Compare a [op] [b] pos) (aaZ (Fo r ta tb)):=by
 intro pins s σ H Q I h;refine wpAny_isTrue_Compare1 (bQ (ha pins s σ H _ I h) λv s1 ⟨x,H1,I1,r1,q1⟩=>bQ (hb pins s1 σ H1 _ I1 q1) λu s2 ⟨y,H2,I2,r2,q2⟩=>
  bQ (ho pins s2 σ H2 x y v u _ I2 r1 r2 q2) λc s3 ⟨z,H3,I3,r3,k,e,q3⟩=>?_) hm
 subst e;cases r3;exact BR ⟨H3,I3,q3⟩
def Sq(K:aF)(x:V)(H:Hp)(k:Bool):Prop:=
 match x with
 |.non=>k=aB
 |.bl b=>k=b
 |.int i=>k=(i != 0)
 |.str y=>y.length<=bL/\k=((y.length:Int) != 0)
 |.pM y=>y.size<=bL/\k=((y.size:Int) != 0)
 |.ref p=>(∃xs,bG K H p xs/\k=!xs.isEmpty)\/(∃xs,bW K H p xs/\k=!xs.isEmpty)\/∃kvs ep,H p=aa (.dK kvs ep)/\k=!kvs.isEmpty
 |_=>False
theorem afv{κ:Type}{kvs:List (κ×V)}{vs:List (κ×Value)}(r:KV kvs vs):(!vs.isEmpty)=!kvs.isEmpty:=by
 cases r<;>rfl
theorem WN{xs:List V}{its:List Value}(r:Vals xs its):(!its.toArray.isEmpty)=!xs.isEmpty:=by
 cases r<;>simp
theorem vM:(bL:Nat)<2^63:=by rw[jo];decide
theorem aj4:al8 X (λx H Q=>∃k,Sq X.K x H k/\Q k H):=by
 intro pins s σ H x v Q I rx h
 obtain⟨k,e,q⟩:=h
 have hl:=vM;have hs:bL=16777216:=jo;cases x with
 |non=>
  cases rx;have e':k=aB:=e;subst e';exact truthy_none ⟨H,I,q⟩
 |bl b=>
  cases rx;have e':k=b:=e;subst e';exact BR ⟨H,I,q⟩
 |int i=>
  obtain⟨t,rfl⟩:=rx
  have e':k=(i != 0):=e;subst e';exact PySem.P.truthy_int ⟨H,I,q⟩
 |str y=>
  obtain⟨t,rfl⟩:=rx
  obtain⟨hy,e'⟩:y.length<=bL/\k=((y.length:Int) != 0):=e
  subst e';exact PySem.P.truthy_str (by lia) ⟨H,I.tok _,q⟩
 |pM y=>
  obtain⟨t,rfl⟩:=rx
  obtain⟨hy,e'⟩:y.size<=bL/\k=((y.size:Int) != 0):=e
  subst e';exact PySem.W.truthy_bytes (by lia) ⟨H,I.tok _,q⟩
 |ref p=>
  cases rx;have e':(∃xs,bG X.K H p xs/\k=!xs.isEmpty)\/(∃xs,bW X.K H p xs/\k=!xs.isEmpty)\/∃kvs ep,H p=aa (.dK kvs ep)/\k=!kvs.isEmpty:=e;rcases e' with⟨xs,hx,e'⟩|⟨xs,hx,e'⟩|⟨kvs,ep,hx,e'⟩
  .subst e'
   obtain⟨its,r,pl,hz⟩:=I.list hx
   have hlen:=r.length;exact wpAny_truthy_list pl.isList (by simp only[fj];lia) ⟨H,I.tok _,by rw[WN r];exact q⟩
  .subst e'
   obtain⟨its,r,pl,hz⟩:=I.tuple hx
   have hlen:=r.length;exact truthy_tuple pl (by simp only[fj];lia) ⟨H,I.tok _,by rw[WN r];exact q⟩
  .subst e'
   obtain⟨hz,hS,vs,r,m⟩:kvs.length<=bL/\(p==lV)=aB/\∃vs,KV kvs vs/\s.heap.DictAt (fD X.prog X.w) p vs ep:=I.hok p _ hx
   have hlen:kvs.length=vs.length:=Paired.length r;exact wpAny_truthy_dict hS m.dictOf (by lia) ⟨H,I.tok _,by rw[afv r];exact q⟩
 |_=>exact(show False from e).elim
theorem ag8(ha:PE X a ta)(he:∀whole,isTrue a X.env whole=(do let v <-whole;zZ a.pos;oV [v] (truthy v))):
  PT X a (λσ H Q=>ta σ H λx H'=>∃k,Sq X.K x H' k/\Q k H'):=by
 intro pins s σ H Q I h;exact isTrue_plain (bQ (ha pins s σ H _ I h) λv s1 ⟨x,H1,I1,r1,q1⟩=>aj4 pins s1 σ H1 x v Q I1 r1 q1) (he _)
theorem afw:cY X (lW .Add) (λx y H Q=>∃i j,x=.str i/\y=.str j/\i.length+j.length<=bL/\Q (.str (i++j)) H):=by
 intro pins s σ H x y v u Q I rx ry h
 obtain⟨i,j,rfl,rfl,hz,q⟩:=h
 obtain⟨t,rfl⟩:=rx
 obtain⟨t',rfl⟩:=ry
 exact add_str (λt' tk=>⟨.str (i++j),H,I.tok _,⟨_,rfl⟩,q⟩) hz
theorem vals1{x:V}{us:List Value}(r:Vals [x] us):∃u,us=[u]/\RelV x u:=by
 cases r with
 |cons r1 r2=>cases r2;exact⟨_,rfl,r1⟩
theorem vals2{x y:V}{us:List Value}(r:Vals [x,y] us):∃u w',us=[u,w']/\RelV x u/\RelV y w':=by
 cases r with
 |cons r1 r2=>
  cases r2 with
  |cons r3 r4=>cases r4;exact⟨_,_,rfl,r1,r3⟩
theorem Yc:fO X (.builtin "abs") (λxs H Q=>∃i,xs=[.int i]/\Q (.int (if i<0 then -i else i)) H):=by
 intro pins s σ H xs us Q I r h
 obtain⟨i,rfl,q⟩:=h
 obtain⟨u,rfl,t,rfl⟩:=vals1 r
 exact call_abs_int λu tk=>⟨.int (if i<0 then -i else i),H,I.tok _,⟨_,rfl⟩,q⟩
theorem Xc(hc:X.calm=aq):fO X (.builtin "max") (λxs H Q=>∃i j,xs=[.int i,.int j]/\Q (.int (if j>i then j else i)) H):=by
 intro pins s σ H xs us Q I r h
 obtain⟨i,j,rfl,q⟩:=h
 obtain⟨u,w',rfl,⟨t,rfl⟩,⟨t',rfl⟩⟩:=vals2 r
 refine max_two_ints (I.ok.hd hc) λh' tk k=>⟨_,H,I.kept k,?_,q⟩
 by_cases hj:j>i
 .rw[aY hj,aY hj];exact⟨_,rfl⟩
 .rw[bw hj,bw hj];exact⟨_,rfl⟩
theorem Oc(hc:X.calm=aq):fO X (.builtin "min") (λxs H Q=>∃i j,xs=[.int i,.int j]/\Q (.int (if j<i then j else i)) H):=by
 intro pins s σ H xs us Q I r h
 obtain⟨i,j,rfl,q⟩:=h
 obtain⟨u,w',rfl,⟨t,rfl⟩,⟨t',rfl⟩⟩:=vals2 r
 refine min_two_ints (I.ok.hd hc) λh' tk k=>⟨_,H,I.kept k,?_,q⟩
 by_cases hj:j<i
 .rw[aY hj,aY hj];exact⟨_,rfl⟩
 .rw[bw hj,bw hj];exact⟨_,rfl⟩
theorem agf:fO X (.type "int") (λxs H Q=>(∃i,xs=[.int i]/\Q (.int i) H)\/∃k,xs=[.bl k]/\Q (.int (if k then 1 else 0)) H):=by
 intro pins s σ H xs us Q I r h;rcases h with⟨i,rfl,q⟩|⟨k,rfl,q⟩
 .obtain⟨u,rfl,t,rfl⟩:=vals1 r
  exact call_int_int ⟨.int i,H,I,⟨_,rfl⟩,q⟩
 .obtain⟨u,rfl,r1⟩:=vals1 r
  cases r1;exact call_int_bool ⟨.int (if k then 1 else 0),H,I.tok _,⟨_,rfl⟩,q⟩
end
structure Ss(h:aU)(x dx C:ao)(mA:Str->Option Value):Prop where
 obj:h.get? x=aa (zq C dx)
 ns:h.Ns1 dx mA
 ne:dx≠x
theorem agg{h:aU}{dx:ao}{mA:Str->Option Value}(n:h.Ns1 dx mA):∃od,h.get? dx=aa od/\∀name,VM name od=aa (mA name):=by
 obtain⟨o,es,ep,ho,hd,hk,_,hm⟩:=n
 refine⟨o,ho,λname=>?_⟩
 have e:=hm name;unfold nsFind findBy at e;rw[<-Array.find?_toList] at e;unfold VM;rw[hd];dsimp only;split
 .rename_i y q;rw[q] at e;exact congrArg aa e
 .rename_i q;rw[q] at e;have a:es.toList.any (·.refKey)=aB:=by
   rw[adN];intro y hy
   obtain⟨z,t,hkey⟩:=hk y (Array.mem_toList_iff.mp hy)
   simp[DictEntry.refKey,hkey]
  have a':¬es.toList.any (·.refKey)=aq:=by rw[a];exact gr
  rw[bw a'];exact congrArg aa e
theorem Ss.look{h:aU}{x dx C:ao}{mA:Str->Option Value}(I:Ss h x dx C mA):∃od,PySem.W.InstAt h x (zq C dx) C (aa od)/\∀name,VM name od=aa (mA name):=
 let ⟨od,ho,hl⟩:=agg I.ns
 ⟨od,⟨I.obj,rfl,rfl,ho⟩,hl⟩
section
variable{prog:bA}{w:bu}{A:bV}{E:Value->aA->Prop}{s:aA}{K:aF}{x dx C f:ao}{mA:Str->Option Value}{name:Str}{v:Value}
end
theorem pG.some_of{v:V}{o:Option Value}(r:pG (aa v) o):∃u,o=aa u/\RelV v u:=by
 cases o with
 |none=>exact(show False from r).elim
 |some u=>exact⟨u,rfl,r⟩
section
variable{P:bA}{w:bu}{H H':Hp}{h h':aU}{a C dx:ao}{fs fs':List (Str×V)}
theorem Zi(hok:gm P w H h)(e:H a=aa (.ins C dx fs)):∃mA,Ss h a dx C mA/\(∀f,pG (fs.lookup f) (mA f))/\aeU mA (fs.map (·.1))/\fs.length<=1000/\H dx=aa (.own a):=by
 obtain⟨d,z,ne,ob,mA,n,r,q⟩:=(show dN P w H h a (.ins C dx fs) from hok a _ e)
 exact⟨mA,⟨ob,n,ne⟩,r,q,z,d⟩
end
structure Tg(K:aF)(C:ao):Prop where
 pg:ad3 K C Str.empty=aq
 hd:PySem.W.hasDictIn K C=aq
 po:PySem.W.plainOver K C=aq
 sa:zy K (.ref C) "__setattr__"=aa (aa (.builtin "object.__setattr__"))
theorem Tg.get{K:aF}{C:ao}(c:Tg K C)(f:Str):ad3 K C f=aq:=c.pg
def aar(K:aF)(C:ao)(f:Str):Prop:=zy K (.ref C) f=aa aj
theorem aar.taker{K:aF}{C:ao}{f:Str}(n:aar K C f):aeo K C f=aa aj:=by
 unfold aeo;rw[show zy K (.ref C) f=aa aj from n];rfl
structure Con(K:aF)(C:ao)(f:Str)(v:V)(u:Value):Prop where
 at_:zy K (.ref C) f=aa (aa u)
 rel:RelV v u
 get:adO K u "__get__"=aa aj
 cp:PySem.W.copiedNames.contains f=aB
structure Meth(K:aF)(C:ao)(m:Str)(f:ao):Prop where
 at_:zy K (.ref C) m=aa (aa (.ref f))
 fn:aeW K (.ref f)=aq
 kp:vh K (.ref f)=aq
section
variable{X:Cx}{pins:List (ao×Obj)}{σ:St}{H:Hp}{s:aA}{a C dx:ao}{fs:List (Str×V)}{f:Str}{v:V}{A:bV}{E:Value->aA->Prop}
theorem Inv.made(I:Inv X pins σ H s):Inv X pins σ (upd (upd H s.heap.objs.size (.own (s.heap.objs.size+1))) (s.heap.objs.size+1) (.ins C s.heap.objs.size []))
  {s with heap:=(s.heap.push wZ).push (zq C s.heap.objs.size)}:=by
 have e1:(s.heap.push wZ).get? s.heap.objs.size=aa wZ:=dI s.heap rfl;have e2:((s.heap.push wZ).push (zq C s.heap.objs.size)).get? (s.heap.objs.size+1)=aa (zq C s.heap.objs.size):=by
  have:=dI (s.heap.push wZ) (o:=zq C s.heap.objs.size) rfl
  rwa [oJ] at this
 have e3:(s.heap.push wZ).Ns s.heap.objs.size (λ_=>aj):=⟨wZ,#[],_,e1,rfl,(λe he=>absurd he (by simp)),λ_=>rfl⟩
 have I1:=I.laid (a:=s.heap.objs.size) (o:=.own (s.heap.objs.size+1)) (h':=s.heap.push wZ) (t':=s.toks) (λb u q=>bH _ q) (bK _) ⟨_,e1⟩;refine I1.laid (a:=s.heap.objs.size+1) (o:=.ins C s.heap.objs.size []) (t':=s.toks) (λb u q=>bH _ q) (Wc (oJ _ _)) ?_;have ne:s.heap.objs.size≠s.heap.objs.size+1:=cW (Gz _)
 refine⟨by rw[cI ne,eN],iI _,ne,e2,λ_=>aj,(Heap.Ns1.of_empty e3).at λo q=>bH _ q,λ_=>mU,λy hy=>absurd rfl hy⟩
end
section
variable{X:Cx}{o e value:Expr}{f:Str}{pos pos' tpos:Pos}{ta tv:TE}
end
section
variable{X:Cx}{pins:List (ao×Obj)}{σ:St}{H:Hp}{s:aA}{A:bV}{E:Value->aA->Prop}{Q:Value->aA->Prop}{c:Value}{b:Bool}
inductive lD(K:aF)(H:Hp):V->Value->Prop where
 |non:lD K H .non (.type "NoneType")
 |bl (x:Bool):lD K H (.bl x) (.type "bool")
 |int (i:Int):lD K H (.int i) (.type "int")
 |str (x:Str):lD K H (.str x) (.type "str")
 |flt (x:UInt64):lD K H (.flt x) (.type "float")
 |lst {a:ao} {xs:List V} (e:H a=aa (.lst xs)):lD K H (.ref a) (.type "list")
 |kJ {a:ao} {o:Obj} {xs:List V} (e:H a=aa (.kJ o (.lst xs))):lD K H (.ref a) (.type "list")
 |tup {a:ao} {xs:List V} (e:H a=aa (.tup xs)):lD K H (.ref a) (.type "tuple")
 |dK {a:ao} {kvs:List (Key×V)} {ep:Nat} (e:H a=aa (.dK kvs ep)):lD K H (.ref a) (.type "dict")
 |dT {a:ao} {kvs:List (List Key×V)} {ep:Nat} (e:H a=aa (.dT kvs ep)):lD K H (.ref a) (.type "dict")
 |ins {a C dx:ao} {fs:List (Str×V)} (e:H a=aa (.ins C dx fs)) (cl:Tg K C) (ha:zy K (.ref C) "__class__"=aa (aa (.builtin "object.__class__")))
   (hn:adO K (.builtin "object.__class__") "__get__"=aa (aa (.builtin "getset_descriptor.__get__"))) (htk:PySem.W.takesIn K (.builtin "object.__class__")=aa aq)
   (hm:PySem.W.mroIn K C (.type "object")=aa aq):lD K H (.ref a) (.ref C)
theorem agh{x:V}{u t:Value}(I:Inv X pins σ H s)(rx:RelV x u)(ty:lD X.K H x t)(e:zA X.K t c=aa b)(h:∀tk,Q (.bool b) {s with toks:=tk}):
  aH (model X.prog X.w) A (call (.builtin "isinstance") [u,c]) Q E s:=by
 cases ty with
 |non=>cases(show u=iW from rx);exact rP adP I.gQ mU e (λz=>nomatch z) h
 |bl y=>cases(show u=qN y from rx);exact rP adQ I.gQ mU e (λz=>nomatch z) h
 |int i=>obtain⟨t,q⟩:=(show ∃t,u=zR i t from rx);cases q;exact rP ad4 I.gQ mU e (λz=>nomatch z) h
 |str y=>obtain⟨t,q⟩:=(show ∃t,u=HN y t from rx);cases q;exact rP ad5 I.gQ mU e (λz=>nomatch z) h
 |flt y=>obtain⟨t,q⟩:=(show ∃t,u=Wr y t from rx);cases q;exact rP adF I.gQ mU e (λz=>nomatch z) h
 |@lst a xs ea=>
  cases(show u=cM a from rx)
  obtain⟨_,_,n,_,h1⟩:=(show dN X.prog X.w H s.heap a (.lst xs) from I.hok a _ ea)
  exact rP Ma I.gQ ⟨_,h1,rfl⟩ e (λz=>nomatch z) h
 |@kJ a ob xs ea=>
  cases(show u=cM a from rx)
  obtain⟨_,_,_,n,_,h1⟩:=(show dN X.prog X.w H s.heap a (.kJ ob (.lst xs)) from I.hok a _ ea)
  exact rP Ma I.gQ ⟨_,h1,rfl⟩ e (λz=>nomatch z) h
 |@tup a xs ea=>
  cases(show u=cM a from rx)
  obtain⟨_,_,_,p⟩:=(show dN X.prog X.w H s.heap a (.tup xs) from I.hok a _ ea)
  obtain⟨o,h1,h2,_⟩:=p
  exact rP adG I.gQ ⟨o,h1,h2⟩ e (λz=>nomatch z) h
 |@dK a kvs epo ea=>
  cases(show u=cM a from rx)
  obtain⟨_,_,vs,_,p⟩:=(show dN X.prog X.w H s.heap a (.dK kvs epo) from I.hok a _ ea)
  obtain⟨o,es,h1,h2,_⟩:=p
  exact rP Mf I.gQ ⟨o,h1,h2.1⟩ e (λz=>nomatch z) h
 |@dT a kvs epo ea=>
  cases(show u=cM a from rx)
  obtain⟨_,_,xs,_,o,es,h1,h2,_⟩:=(show dN X.prog X.w H s.heap a (.dT kvs epo) from I.hok a _ ea)
  exact rP Mf I.gQ ⟨o,h1,h2.1⟩ e (λz=>nomatch z) h
 |@ins a C dx fs ea cl ha hn htk hm=>
  cases(show u=cM a from rx)
  obtain⟨mA,O,_⟩:=Zi I.hok ea
  obtain⟨od,J,_⟩:=O.look
  exact rP (ad6 (cl.get _) cl.hd ha hn htk hm) I.gQ J e (λz=>nomatch z) h
end
structure gC(k:Nat)(A:bV):Prop where
 hd:A.handled=aj
 dp:A.depth+3*k+5<recursionLimit
 un:A.units+16*k+200<dB
 gd:A.guards=aa []
theorem gC.mono{j k:Nat}{A:bV}(r:gC k A)(h:j<=k):gC j A:=⟨r.hd,by have:=r.dp;lia,by have:=r.un;lia,r.gd⟩
theorem gC.deeper{k:Nat}{A:bV}(r:gC (k+1) A)(env:Env):gC k (A.deeper env):=
 ⟨r.hd,by have:=r.dp;show A.depth+1+3*k+5<_;lia,by have:=r.un;show A.units+3+16*k+200<_;lia,r.gd⟩
theorem gC.in1{k:Nat}{A:bV}(r:gC (k+1) A):gC k A.in1:=
 ⟨r.hd,by have:=r.dp;show A.depth+3*k+5<_;lia,by have:=r.un;show A.units+1+16*k+200<_;lia,r.gd⟩
theorem gC.depth{k:Nat}{A:bV}(r:gC k A):A.depth<recursionLimit:=by have:=r.dp;lia
theorem gC.units{k:Nat}{A:bV}(r:gC k A):A.units+64<dB:=by have:=r.un;lia
theorem gC.aj5{k:Nat}{A:bV}(r:gC k A):A.units<dB:=by have:=r.un;lia
def al9:TA:=λ_ H Q=>Q [] H
def ald(ta:TE)(tr:TA):TA:=λσ H Q=>ta σ H λx H1=>tr σ H1 λxs H2=>Q (x::xs) H2
section
variable{X:Cx}{e:Expr}{es:List Expr}{te:TE}{t:TA}{pos:Pos}
theorem sO:PA X [] al9:=λ_ _ _ _ H Q I h=>U9 ⟨[],H,I,.nil,h⟩
theorem oW(ha:PE X e te)(hr:PA X es t)(hs:bD (e::es) X.env=(aB,eval e X.env)::bD es X.env:=by rfl):PA X (e::es) (ald te t):=by
 intro pos pins s σ H Q I h;rw[hs];show aH _ _ (spliced ((aB,eval e X.env)::gO pos (bD es X.env))) _ _ s;refine LQ (bQ (ha pins s σ H _ I h) λu s1 aK=>?_)
 obtain⟨x,H1,I1,r1,q1⟩:=aK
 exact bQ (hr pos pins s1 σ H1 _ I1 q1) λus s2 ⟨xs,H2,I2,r2,q2⟩=>⟨x::xs,H2,I2,.cons r1 r2,q2⟩
def ama(t:TA):TE:=λσ H Q=>t σ H λxs H1=>xs.length<=bL/\∀p,H1 p=aj->Q (.ref p) (upd H1 p (.tup xs))
def amb(t:TA):TE:=λσ H Q=>t σ H λxs H1=>xs.length<=bL/\∀p,H1 p=aj->Q (.ref p) (upd H1 p (.lst xs))
theorem QM{x1}(h:PA X es t):PE X (.Tuple es x1 pos) (ama t):=by
 intro pins s σ H Q I hq;refine wpAny_Tuple_spliced (bQ (h pos pins s σ H _ I hq) λus s1 ⟨xs,H1,I1,r,z,q⟩=>⟨by rw[<-r.length];exact z,?_⟩);have hf:H1 s1.heap.objs.size=aj:=I1.hok.fresh (bK _)
 refine⟨.ref s1.heap.objs.size,upd H1 s1.heap.objs.size (.tup xs),I1.laid (t':=s1.toks) (λb u e=>bH _ e) (bK _) ?_,rfl,q _ hf⟩
 exact⟨z,us,r,⟨_,dI _ rfl,rfl,_,rfl⟩⟩
theorem aj6(h:PA X es t):PE X (.List es pos) (amb t):=by
 intro pins s σ H Q I hq;refine wpAny_List_spliced (bQ (h pos pins s σ H _ I hq) λus s1 ⟨xs,H1,I1,r,z,q⟩=>⟨by rw[<-r.length];exact z,?_⟩);have hf:H1 s1.heap.objs.size=aj:=I1.hok.fresh (bK _)
 refine⟨.ref s1.heap.objs.size,upd H1 s1.heap.objs.size (.lst xs),I1.laid (t':=s1.toks) (λb u e=>bH _ e) (bK _) ?_,rfl,q _ hf⟩
 exact⟨z,us,0,r,dI _ rfl⟩
end
abbrev Sp:=List V->Hp->VK->XK->Prop
abbrev pO:=List Env->Hp->aA->XK->Value->aA->Prop
structure yG(P:bA)(w:bu)(K:aF)(mg:Str->Option Value)(base:aU)(A:bV)(outer:List Env)(s:aA)(H:Hp):Prop where
 frames:A.frames=aa outer
 mod:Mod K mg base
 bs:∀b o,base.get? b=aa o->s.heap.get? b=aa o/\H b=aj
 tR:base.objs.size<=s.heap.objs.size
 qx:s.heap.FunFrames base outer
 yR:∀b∈frs outer,H b=aj
 hok:gm P w H s.heap
 bare:AllBare s.gens
def CE(outer:List Env)(P:bA)(w:bu)(H:Hp)(s:aA)(Q:VK)(u:Value)(s':aA):Prop:=
 ∃v H',s'.os=s.os/\AllBare s'.gens/\Un (frs outer) [] H H' s.heap s'.heap/\gm P w H' s'.heap/\RelV v u/\Q v H'
def CR(CX:pO)(outer:List Env)(P:bA)(w:bu)(H:Hp)(s:aA)(Q:VK)(E:XK)(r:nP)(s':aA):Prop:=
 match r with
 |.ok (.ret u)=>CE outer P w H s Q u s'
 |.ok _=>False
 |.error e=>CX outer H s E e s'
structure eX(P:bA)(w:bu)(K:aF)(mg:Str->Option Value)(base:aU)(CX:pO)(k:Nat)(f:ao)(fd:fB)(ps:List Str)(sp:Sp):Prop where
 len:∀vs H Q E,sp vs H Q E->vs.length=ps.length
 run:∀(A:bV)(outer:List Env)(s:aA)(H:Hp)(args:Args)(us:List Value)(vs:List V)(Q:VK)(E:XK),gC k A->yG P w K mg base A outer s H->xW s fd args (ps.zip us)->Vals vs us->sp vs H Q E->
  j9 (model P w) A (.call (.ref f) args) (CR CX outer P w H s Q E) s
theorem eX.mono{P:bA}{w:bu}{K:aF}{mg:Str->Option Value}{base:aU}{CX:pO}{j k:Nat}{f:ao}{fd:fB}{ps:List Str}{sp:Sp}(F:eX P w K mg base CX j f fd ps sp)(h:j<=k):
  eX P w K mg base CX k f fd ps sp:=⟨F.len,λA outer s H args us vs Q E hr=>F.run A outer s H args us vs Q E (hr.mono h)⟩
theorem eX.imp{P:bA}{w:bu}{K:aF}{mg:Str->Option Value}{base:aU}{CX:pO}{k:Nat}{f:ao}{fd:fB}{ps:List Str}{sp sp':Sp}(F:eX P w K mg base CX k f fd ps sp)
  (h:∀vs H Q E,sp' vs H Q E->sp vs H Q E):eX P w K mg base CX k f fd ps sp':=
 ⟨λvs H Q E q=>F.len vs H Q E (h _ _ _ _ q),λA outer s H args us vs Q E hr he hb hv hs=>F.run A outer s H args us vs Q E hr he hb hv (h _ _ _ _ hs)⟩
theorem yG.in1{P:bA}{w:bu}{K:aF}{mg:Str->Option Value}{base:aU}{A:bV}{outer:List Env}{s:aA}{H:Hp}(e:yG P w K mg base A outer s H):
  yG P w K mg base A.in1 outer s H:=⟨e.frames,e.mod,e.bs,e.tR,e.qx,e.yR,e.hok,e.bare⟩
section
variable{X:Cx}{pins:List (ao×Obj)}{σ:St}{H:Hp}{s s':aA}
theorem Inv.env0(I:Inv X pins σ H s):yG X.prog X.w X.K X.mg X.base X.A X.stack s H:=
 ⟨I.ok.frames,I.ok.mod,I.bs,ir I.ok.tR I.sz,I.stack,I.Ze,I.hok,I.bare⟩
theorem Inv.after{Q:VK}{u:Value}(I:Inv X pins σ H s)(h:CE X.stack X.prog X.w H s Q u s'):EP X pins σ Q u s':=by
 obtain⟨v,H',os,bare,un,hok,r,q⟩:=h
 obtain⟨hh,g,d,t,os'⟩:=s'
 obtain rfl:os'=s.os:=os
 exact⟨v,H',I.call (h':=hh) (g':=g) (d':=d) (t':=t) (ch:=[]) un hok bare (λb z=>absurd z (by simp)),r,q⟩
end
def RB(sp:Sp)(wG:List V)(E:XK)(t:TA):TE:=λσ H Q=>t σ H λvs H1=>sp (vs++wG) H1 Q E
def Binds(K:aF)(fd:fB)(ps:List Str)(ds:List Value):Prop:=
 ∀(s:aA)(us:List Value),K.In s.heap->(us++ds).length=ps.length->xW s fd ⟨us,[]⟩ (ps.zip (us++ds))
theorem Binds.all{K:aF}{fd:fB}{ps:List Str}(h:∀us:List Value,us.length=ps.length->bindArgs fd ⟨us,[]⟩=pure (ps.zip us)):Binds K fd ps []:=λs us _ hl=>by
 rw[pU] at hl⊢;exact .of_eq (h us hl)
def Passes(CX:pO)(X:Cx)(E:XK):Prop:=∀(pins:List (ao×Obj))(σ:St)(H:Hp)(s:aA)(e:Value)(s':aA),Inv X pins σ H s->CX X.stack H s E e s'->X.xe e s'
section
variable{X:Cx}{CX:pO}{k:Nat}{f C:ao}{fd:fB}{ps:List Str}{sp:Sp}{wG:List V}{ds:List Value}{E:XK}{x m:Str}{p pos apos:Pos}{e o:Expr}{es:List Expr}{ta:TE}{t:TA}
theorem aj7{pins:List (ao×Obj)}{σ:St}{H:Hp}{s:aA}{Q:VK}{us:List Value}{vs:List V}(F:eX X.prog X.w X.K X.mg X.base CX k f fd ps sp)(hr:gC k X.A)(hb:Binds X.K fd ps ds)(hd:Vals wG ds)(hx:Passes CX X E)
  (I:Inv X pins σ H s)(r:Vals vs us)(h:sp (vs++wG) H Q E):aH (model X.prog X.w) X.A (call (.ref f) us) (EP X pins σ Q) X.xe s:=by
 have r2:Vals (vs++wG) (us++ds):=r.append hd;have hl:(us++ds).length=ps.length:=by rw[<-r2.length];exact F.len _ _ _ _ h
 refine WQ (zJ (F.run X.A X.stack s H ⟨us,[]⟩ (us++ds) (vs++wG) Q E hr I.env0 (hb s us I.gQ hl) r2 h) λr s' hq=>?_);cases r with
 |error e=>exact hx pins σ H s e s' I hq
 |ok fl=>
  cases fl with
  |ret u=>exact I.after hq
  |next=>exact qO hq
  |brk=>exact qO hq
  |cont=>exact qO hq
theorem aii(F:eX X.prog X.w X.K X.mg X.base CX k f fd ps sp)(hr:gC k X.A)(hg:Gl X x)(hm:X.mg x=aa (.ref f))(hk:vh X.K (.ref f)=aq)(hb:Binds X.K fd ps ds)(hd:Vals wG ds)(hx:Passes CX X E)
  (ha:PA X (e::es) t)(hdb:(x==("__debug__":Str))=aB:=by decide)(he:bD (e::es) X.env=(aB,eval e X.env)::bD es X.env:=by rfl)(hpl:(gO pos (bD es X.env)).any (·.1)=aB:=by rfl):
  PE X (.Call (.Name x p) (e::es) [] pos) (RB sp wG E t):=by
 intro pins s σ H Q I h;refine Gp (aib I hg hm ?_ hdb);refine PySem.W.callWith_K (h₀:=X.base) I.ok.mod.S8 hk (bQ (ha pos pins s σ H _ I h) λus s1 ⟨vs,H1,I1,r,q⟩=>⟨I1.gQ,?_⟩) he hpl;exact aj7 F hr hb hd hx I1 r q
structure Mk(K:aF)(C f:ao):Prop where
 makes:PySem.W.makesIn K C=aq
 init:zy K (.ref C) "__init__"=aa (aa (.ref f))
 fn:aeW K (.ref f)=aq
 kp:vh K (.ref C)=aq
end
section
variable{X:Cx}{CX:pO}{k:Nat}{f C:ao}{fd:fB}{ps ks:List Str}{sp:Sp}{E:XK}{x m:Str}{p pos apos kpos:Pos}{e o:Expr}{es:List Expr}{kws:List su}{te ta:TE}{t tk:TA}{nm:Option Str}
structure aoz(K:aF)(fd:fB)(ps ks:List Str)(g:List Value->List Value->List Value)(gV:List V->List V->List V):Prop where
 to:∀(s:aA)(us ws:List Value),K.In s.heap->(g us ws).length=ps.length->xW s fd ⟨us,ks.zip ws⟩ (ps.zip (g us ws))
 rel:∀{vs:List V}{us:List Value}{zs:List V}{ws:List Value},Vals vs us->Vals zs ws->Vals (gV vs zs) (g us ws)
variable{g:List Value->List Value->List Value}{gV:List V->List V->List V}
end
structure jP(N P:List Str)(sc:jF):Prop where
 kind:sc.kind=.function
 co:sc.isCoroutine=aB
 gen:sc.isGenerator=aB
 nd:N.Nodup
 pre:N.take P.length=P
 par:∀x∈P,sc.names.lookup x=aa .local\/sc.names.lookup x=aa .cell
 aj8:∀y∈sc.names,y.2≠.free
theorem Xd{kindOf:Str->Option zU}{x:Str}:∀{binds:List (Str×Value)}{m:Str->Option Value},(∀v,(x,v)∉binds)->yu kindOf binds m x=m x
 |[],_,_=>rfl
 |(n,v)::r,m,h=>by
  unfold yu;rw[Xd λw hw=>h w (dg _ hw)];split
  .have:x≠n:=by rintro rfl;exact h v cV
   simp[this]
  .rfl
theorem Xe{kindOf:Str->Option zU}{x:Str}:∀{binds:List (Str×Value)}{m:Str->Option Value},(∀v,(x,v)∉binds)->yw kindOf binds m x=m x
 |[],_,_=>rfl
 |(n,v)::r,m,h=>by
  unfold yw;rw[Xe λw hw=>h w (dg _ hw)];split
  .rfl
  .have:x≠n:=by rintro rfl;exact h v cV
   simp[this]
theorem Xf{kindOf:Str->Option zU}{x:Str}{v:Value}:∀{P:List Str}{vs:List Value}{i:Nat}{m:Str->Option Value},P.Nodup->P[i]?=aa x->vs[i]?=aa v->kindOf x=aa .local->
  yu kindOf (P.zip vs) m x=aa v
 |[],_,_,_,_,h,_,_=>by simp at h
 |_::_,[],_,_,_,_,h,_=>by simp at h
 |p::P,w::vs,0,m,nd,h1,h2,hk=>by
  simp at h1 h2;subst h1;subst h2;show yu kindOf ((p,w)::P.zip vs) m p=_;unfold yu;rw[Xd λv hv=>(j0.mp nd).1 (Ms hv).1,aY hk];simp
 |p::P,w::vs,i+1,m,nd,h1,h2,hk=>by
  show yu kindOf ((p,w)::P.zip vs) m x=_;unfold yu;exact Xf (i:=i) (j0.mp nd).2 (by simpa using h1) (by simpa using h2) hk
theorem Xg{kindOf:Str->Option zU}{x:Str}{v:Value}:∀{P:List Str}{vs:List Value}{i:Nat}{m:Str->Option Value},P.Nodup->P[i]?=aa x->vs[i]?=aa v->kindOf x≠aa .local->
  yw kindOf (P.zip vs) m x=aa v
 |[],_,_,_,_,h,_,_=>by simp at h
 |_::_,[],_,_,_,_,h,_=>by simp at h
 |p::P,w::vs,0,m,nd,h1,h2,hk=>by
  simp at h1 h2;subst h1;subst h2;show yw kindOf ((p,w)::P.zip vs) m p=_;unfold yw;rw[Xe λv hv=>(j0.mp nd).1 (Ms hv).1,bw hk];simp
 |p::P,w::vs,i+1,m,nd,h1,h2,hk=>by
  show yw kindOf ((p,w)::P.zip vs) m x=_;unfold yw;exact Xg (i:=i) (j0.mp nd).2 (by simpa using h1) (by simpa using h2) hk
def start(N:List Str)(vs:List V):St:=vs.map aa++cC (N.length-vs.length) aj
def yH(CX:pO)(P:bA)(w:bu)(K:aF)(mg:Str->Option Value)(base:aU)(N:List Str)(qual:Str)(scope:jF)(f:ao)(cd:Value)(A:bV)(outer:List Env)(s:aA)(H:Hp)(E:XK):Cx where
 prog:=P
 w:=w
 K:=K
 mg:=mg
 base:=base
 A:=A.deeper (envOfC qual scope s.heap.objs.size f cd)
 N:=N
 s₀:=s
 H₀:=H
 env:=envOfC qual scope s.heap.objs.size f cd
 outer:=outer
 stack:=envOfC qual scope s.heap.objs.size f cd::outer
 ex:=[]
 calm:=aq
 fn:=λ_=>aq
 pn:=[]
 xe:=λe s'=>aH (model P w) (A.deeper (envOfC qual scope s.heap.objs.size f cd)) (leaving (envOfC qual scope s.heap.objs.size f cd) e) (λ_ s''=>CX outer H s E e s'') (λe' s''=>CX outer H s E e' s'') s'
theorem Yd{sc:jF}{n:Nat}{x:Str}(h:sc.names.lookup x=aa .cell):∃c,(cellsFrom n sc.names []).lookup x=aa c:=by
 have q:=ac3 sc.names n [] (.inl h);exact wW.mp q
theorem agi{CX:pO}{P:bA}{w:bu}{K:aF}{mg:Str->Option Value}{base:aU}{N ps:List Str}{qual:Str}{scope:jF}{f:ao}{cd:Value}{A:bV}{outer:List Env}{s s1:aA}{H:Hp}{E:XK}{us:List Value}{vs:List V}
  (S:jP N ps scope)(hd:A.handled=aj)(e0:yG P w K mg base A outer s H)(hl:vs.length=ps.length)(r:Vals vs us)
  (x:InCallC s s.heap.objs.size (yu (envOfC qual scope s.heap.objs.size f cd).kindOf (ps.zip us) λ_=>aj) (cellsFrom (s.heap.objs.size+1) scope.names []) (yw (envOfC qual scope s.heap.objs.size f cd).kindOf (ps.zip us) λ_=>aj) s1):
  Inv (yH CX P w K mg base N qual scope f cd A outer s H E) [] (start N vs) H s1:=by
 have hpl:ps.length<=N.length:=by have:=congrArg qM S.pre;rw[vf] at this;lia
 obtain⟨h1,tk,rfl,hk⟩:=x.done
 have Fp:∀b:ao,b∉(yH CX P w K mg base N qual scope f cd A outer s H E).ex:=λb z=>absurd (show b∈([]:List ao) from z) (by simp)
 refine⟨⟨e0.mod,S.kind,rfl,rfl,bK _,λy z c h1 h2=>?_,λy hy=>?_,λy c _ h=>?_,λ_=>hd,Around.frames_deeper e0.frames,.inr ⟨rfl,rfl⟩,λb z=>absurd z (Fp b),e0.bs,e0.tR,λb _ _=>Fp b,λb z=>absurd z (Fp b),e0.qx,e0.yR⟩,
  rfl,e0.bare,Un.kept hk,⟨_,x.toInCall.ns,λi y v h1 h2 h3=>?_⟩,λy c h=>⟨_,x.cell y c h⟩,e0.hok.fresh (bK _),λy c h=>?_,λp hp=>absurd (show p∈([]:List (ao×Obj)) from hp) (by simp),e0.hok.kept hk,?_⟩
 .exact name_of_addr x.apart (u5 h1) (u5 h2)
 .have hy:scope.names.lookup y=aa .cell\/scope.names.lookup y=aa .free:=hy;rcases hy with hy|hy
  .exact Yd hy
  .exact absurd rfl (S.aj8 _ (u5 hy))
 .exact zH (x.above y c (u5 h))
 .have hi:i<vs.length:=by
   unfold start at h2;by_cases hi:i<vs.length
   .exact hi
   .rw[oh (by simpa using hi)] at h2;rw[Us] at h2;split at h2<;>cases h2
  have ha:vs[i]?=aa v:=by
   unfold start at h2;rw[ou (by simpa using hi),ie] at h2;cases e:vs[i]? with
   |none=>rw[e] at h2;cases h2
   |some a=>rw[e] at h2;cases h2;rfl
  obtain⟨u,hu,rv⟩:=r.get ha
  have hp:ps[i]?=aa y:=by
   rw[<-S.pre,List.getElem?_take_of_lt (by lia)];exact h1
  have ndP:ps.Nodup:=by rw[<-S.pre];exact S.nd.sublist (Mg _ _)
  refine⟨u,rv,?_⟩
  rcases S.par y (jY hp) with k|k
  .exact .inl ⟨k,Xf ndP hp hu k⟩
  .obtain⟨c,e⟩:=Yd (n:=s.heap.objs.size+1) k
   refine .inr ⟨.inl k,c,e,?_⟩;have q:=x.cell y c e;rw[Xg ndP hp hu (by show scope.names.lookup y≠_;rw[k];decide)] at q;exact q
 .exact e0.hok.fresh (zH (x.above y c (u5 h)))
 .unfold start;show _=N.length;rw[lO,bh,Gi];lia
theorem ale{CX:pO}{P:bA}{w:bu}{K:aF}{mg:Str->Option Value}{base:aU}{k:Nat}{f:ao}{name qual:Str}{params:Arguments}{body:List dZ}{scope:jF}{dV kV doc pm cdv ct oc:Value}{an od:Option ao}
  {osl:Array (Option Value)}{N ps:List Str}{sp:Sp}(lk:K.lookup f=aa ⟨oc,od,.func (xH name qual params body scope dV kV doc pm an cdv ct),osl⟩)(hcd:MF K cdv qual=aq)(S:jP N ps scope)
  (len:∀vs H Q E,sp vs H Q E->vs.length=ps.length)
  (hbody:∀(A:bV)(outer:List Env)(s:aA)(H:Hp)(vs:List V)(Q:VK)(E:XK),gC k (A.deeper (envOfC qual scope s.heap.objs.size f cdv))->sp vs H Q E->
   ∃t,iR (yH CX P w K mg base N qual scope f cdv A outer s H E) body t/\t {nx:=λ_ H'=>Q .non H',rt:=Q} (start N vs) H):
  eX P w K mg base CX (k+1) f (xH name qual params body scope dV kV doc pm an cdv ct) ps sp:=by
 refine⟨len,λA outer s H args us vs Q E hr e0 hb r hsp=>?_⟩
 have hl:=len _ _ _ _ hsp;have KX:K.In s.heap:=e0.mod.S8.keeps λb o e=>(e0.bs b o e).1
 have lim:s.heap.NoLimit:=e0.mod.nolimit.keeps λb o e=>(e0.bs b o e).1
 have hkind:∀y∈ps.zip us,scope.names.lookup y.1=aa .local\/(scope.names.lookup y.1=aa .cell/\((cellsFrom (s.heap.objs.size+1) scope.names []).lookup y.1).isSome=aq):=λ⟨n,v⟩ hy=>by
  rcases S.par n (Ms hy).1 with q|q
  .exact .inl q
  .exact .inr ⟨q,ac3 _ _ _ (.inl q)⟩
 refine codeAny_call_function hr.depth (KX _ _ lk) rfl S.co S.gen rfl (PySem.W.codeRec_of KX hcd) (hb _ _ _ _ ?_);refine wpAny_newFunctionEnv_cells S.kind hkind λenv he s1 x=>?_
 subst he
 refine⟨lim.keeps x.toInCall.keep,codeAny_func ?_⟩
 obtain⟨t,ht,hq⟩:=hbody A outer s H vs Q E (hr.deeper _) hsp
 have I:Inv (yH CX P w K mg base N qual scope f cdv A outer s H E) [] (start N vs) H s1:=agi S hr.hd e0 hl r x;refine pZ (ht [] s1 (start N vs) H _ I hq) (λfl s' hs=>?_) λe s' hs=>hs
 have fin:∀{σ':St}{H':Hp}{v:V}{u:Value},Inv (yH CX P w K mg base N qual scope f cdv A outer s H E) [] σ' H' s'->RelV v u->Q v H'->CE outer P w H s Q u s':=
  λ{σ' H' v u} J rv q=>⟨v,H',J.os,J.bare,J.base,J.hok,rv,q⟩
 cases fl with
 |ret u=>
  obtain⟨v,σ',H',J,rv,q⟩:=hs
  exact fin J rv q
 |next=>
  obtain⟨σ',H',J,q⟩:=hs
  exact fin (v:=V.non) (u:=iW) J rfl q
 |brk=>
  obtain⟨_,_,_,q⟩:=hs
  exact qO q
 |cont=>
  obtain⟨_,_,_,q⟩:=hs
  exact qO q
section
variable{X:Cx}{x:Str}{p pos:Pos}{e:Expr}{es:List Expr}{t:TA}{id T:String}{r:List V->Hp->VK->Prop}
def Ti(r:List V->Hp->VK->Prop)(t:TA):TE:=λσ H Q=>t σ H λvs H1=>r vs H1 Q
theorem Ia(hc:fO X (.builtin id) r)(hg:Gl X x)(hm:X.mg x=aj)(hv:rR x=aa (.builtin id))(ha:PA X (e::es) t)(hn:x≠"__name__":=by decide)(hdb:(x==("__debug__":Str))=aB:=by decide)
  (he:bD (e::es) X.env=(aB,eval e X.env)::bD es X.env:=by rfl)(hpl:(gO pos (bD es X.env)).any (·.1)=aB:=by rfl):PE X (.Call (.Name x p) (e::es) [] pos) (Ti r t):=by
 intro pins s σ H Q I h;refine Gp (vL I hg hm hv ?_ hn hdb);exact acI (bQ (ha pos pins s σ H _ I h) λus s1 ⟨vs,H1,I1,r1,q1⟩=>hc pins s1 σ H1 vs us Q I1 r1 q1) he hpl
theorem agj(hc:fO X (.type T) r)(hg:Gl X x)(hm:X.mg x=aj)(hv:rR x=aa (.type T))(ha:PA X (e::es) t)(hn:x≠"__name__":=by decide)(hdb:(x==("__debug__":Str))=aB:=by decide)
  (he:bD (e::es) X.env=(aB,eval e X.env)::bD es X.env:=by rfl)(hpl:(gO pos (bD es X.env)).any (·.1)=aB:=by rfl):PE X (.Call (.Name x p) (e::es) [] pos) (Ti r t):=by
 intro pins s σ H Q I h;refine Gp (vL I hg hm hv ?_ hn hdb);exact Gg (bQ (ha pos pins s σ H _ I h) λus s1 ⟨vs,H1,I1,r1,q1⟩=>hc pins s1 σ H1 vs us Q I1 r1 q1) he hpl
end
end L2
namespace HT
open PySem PyProof.Rows
theorem ag9(A:bV)(s:aA)(a:Int)(t:Tok)(c:Int)(u:Tok):∃e,Nt A s (.int a t) (.int c u) e/\(e=aq↔a=c):=
 ⟨(a==c),adH a t c u,by simp⟩
section
open PySem.SeqAt
open PySem.AutoSeq1 (wpAny_loadPart')
open PySem.MeetsSeq PySem.MeetsSeq2 PySem.MeetsSeq3
end
section
variable{prog:bA}{w:bu}{A:bV}{E:Value->aA->Prop}{s:aA}
theorem aij{t b:ao}{vs ws:List Value}{Q:Value->aA->Prop}(ht:IsTup s.heap t vs.toArray)(hb:IsTup s.heap b ws.toArray)(hv:vs≠[])
  (h1:ws=[]->Q (.ref t) s)(h2:ws≠[]->Q (.ref s.heap.objs.size) {s with heap:=s.heap.push {cls:=.type "tuple",data:=.seq (vs++ws).toArray}})
  (hsz:vs.length+ws.length<=bL):aH (model prog w) A (lW .Add (.ref t) (.ref b)) Q E s:=by
 obtain⟨⟨cls,dd,data,sl⟩,ho,hc,n,hd⟩:=id ht
 obtain⟨⟨cls2,dd2,data2,sl2⟩,ho2,hc2,n2,hd2⟩:=id hb
 simp only at hc hd hc2 hd2;subst hc hd hc2 hd2;have e:vs.toArray++ws.toArray=(vs++ws).toArray:=by simp
 by_cases hw:ws=[]
 .exact Wd ⟨_,ho,rfl⟩ ⟨_,ho2,rfl⟩ Vo V4 Uu Ut (Um _ _)
   (tuple_addW1 t b vs.toArray ws.toArray n n2 dd dd2 sl sl2 (by simpa using hv) (by simp[hw])) ⟨ho,ho2,h1 hw⟩
 .refine Wd ⟨_,ho,rfl⟩ ⟨_,ho2,rfl⟩ Vo V4 Uu Ut (Um _ _)
   (tuple_addW2 t b vs.toArray ws.toArray n n2 dd dd2 sl sl2 (by simpa using hv) (by simpa using hw) (by rw[fj,fj];exact hsz)) ⟨ho,ho2,?_⟩
  rw[e];exact h2 hw
def cj(n d:Nat):Option Int->Nat
 |none=>d
 |some v=>if v<0 then(v+(n:Int)).toNat else min v.toNat n
theorem aj9(n d:Nat)(hd:d<=n)(o:Option Int):cj n d o<=n:=by
 cases o with
 |none=>exact hd
 |some v=>
  show(if v<0 then(v+(n:Int)).toNat else min v.toNat n)<=n
  by_cases hv:v<0
  .rw[aY hv];lia
  .rw[bw hv];exact Nat.min_le_right _ _
theorem Zj(v:Int)(n d:Nat):(if v<0 then max (v+(n:Int)) 0 else min v (n:Int))=((cj n d (aa v):Nat):Int):=by
 show(if v<0 then max (v+(n:Int)) 0 else min v (n:Int))=(((if v<0 then(v+(n:Int)).toNat else min v.toNat n):Nat):Int)
 by_cases hv:v<0
 .simp only[aY hv];lia
 .simp only[bw hv];lia
theorem afx(lo hi:Option Int)(n:Nat):Uh lo hi 1 (n:Int)=(((cj n 0 lo:Nat):Int),((cj n n hi:Nat):Int)):=by
 have h1:¬((1:Int)<0):=by lia
 unfold Uh;simp only[h1,if_false];refine Prod.ext ?_ ?_
 .cases lo with
  |none=>rfl
  |some v=>exact Zj v n 0
 .cases hi with
  |none=>rfl
  |some v=>exact Zj v n n
theorem afy(i j:Nat):Lq (i:Int) (j:Int) 1=j-i:=by
 unfold Lq;have h1:(1:Int)>0:=by lia
 simp only[h1,if_true,aeX];split<;>lia
theorem WR{v:Value}{o:Option Int}{Q:Option Int->aA->Prop}(p:sS v o)(h:Q o s):aH (model prog w) A (anW v) Q E s:=by
 cases p with
 |none=>exact slicePart_none h
 |int i t=>exact slicePart_int h
theorem Vp{sl:ao}{vl vu:Value}{lo hi:Option Int}{n:Nat}{Q:Int×Int×Nat->aA->Prop}(hs:s.heap.IsSliceOf sl vl vu .none)(pl:sS vl lo)(pu:sS vu hi)
  (h:Q (((cj n 0 lo:Nat):Int),1,cj n n hi-cj n 0 lo) s):aH (model prog w) A (acS (.ref sl) (pure (n:Int))) Q E s:=by
 obtain⟨os,hos,hcs,hds⟩:=id hs
 unfold acS aob;refine az (az (nJ hos hds (x:=vl) rfl (az (nJ hos hds (x:=vu) rfl (az (nJ hos hds (x:=.none) rfl (aM ?_)))))));refine az (slicePart_none ?_);show aH _ _ (if((1:Int)==0)=aq then _ else _) _ _ s;rw[bw (by decide)];refine az (WR pl (az (WR pu (az (aM ?_)))));show aH _ _ (match Uh lo hi 1 (n:Int) with|(lo,hi)=>pure (lo,(1:Int),Lq lo hi 1)) _ _ s;rw[afx lo hi n];show aH _ _ (pure (((cj n 0 lo:Nat):Int),(1:Int),Lq ((cj n 0 lo:Nat):Int) ((cj n n hi:Nat):Int) 1)) _ _ s;rw[afy];exact aM h
theorem aha(xs:Array Value)(i k:Nat):((dX k).filterMap λ(m:Nat)=>xs[((i:Int)+(m:Int)*1).toNat]?).toArray=((xs.toList.drop i).take k).toArray:=by
 have e:(λ(m:Nat)=>xs[((i:Int)+(m:Int)*1).toNat]?)=λm=>xs[i+m]?:=by
  funext m;have:((i:Int)+(m:Int)*1).toNat=i+m:=by lia
  rw[this]
 rw[e];have:=pick_run xs i k;rw[List.filterMap_map] at this;have e2:((λx=>xs[x]?) ∘ λx=>i+x)=λm=>xs[i+m]?:=rfl
 rw[e2] at this;rw[this]
theorem adR{t sl:ao}{items:Array Value}{vl vu:Value}{lo hi:Option Int}{Q:Value->aA->Prop}(ht:IsTup s.heap t items)(hs:s.heap.IsSliceOf sl vl vu .none)(pl:sS vl lo)(pu:sS vu hi)
  (hw:¬(cj items.size 0 lo=0/\cj items.size items.size hi=items.size))
  (h:Q (.ref s.heap.objs.size) {s with heap:=s.heap.push {cls:=.type "tuple",data:=.seq ((items.toList.drop (cj items.size 0 lo)).take (cj items.size items.size hi-cj items.size 0 lo)).toArray}})
  (hsz:items.size<=bL):aH (model prog w) A (vH (.ref t) (.ref sl)) Q E s:=by
 have JZ:sizeOk (.seq ((items.toList.drop (cj items.size 0 lo)).take (cj items.size items.size hi-cj items.size 0 lo)).toArray):=by
  show((items.toList.drop (cj items.size 0 lo)).take (cj items.size items.size hi-cj items.size 0 lo)).toArray.size<=bL
  rw[fj,vf,ad7,j8];lia
 have hj:cj items.size items.size hi<=items.size:=aj9 _ _ (bK _) hi
 obtain⟨os,hos,hcs,hds⟩:=id hs
 have hTs:s.TypeIs (.ref sl) "slice":=⟨os,hos,hcs⟩
 unfold vH
 try with_reducible refine jB ?_
 first|refine az (aM ?_)|skip
 refine az (adS ht.typeIs (by decide) ?_);refine az (pR (name:=bM "__getitem__") ht.typeIs Li
  (lR Li ht.typeIs entry_tuple_getitem ?_ (args_tuple_getitem _ _)))
 show aH _ _ (acT (.ref t) >>= _) _ _ s;refine az (tupleItemsOf_ ht ?_);refine az (xJ hTs ?_);rw[aY (by decide)];refine az (Vp hs pl pu ?_);have hno:¬((((cj items.size 0 lo:Nat):Int)==0&&(1:Int)==1&&(cj items.size items.size hi-cj items.size 0 lo)==items.size)=aq):=by
  intro q;rw[iT,iT] at q;have q1:((cj items.size 0 lo:Nat):Int)=0:=eq_of_beq q.1.1;have q2:cj items.size items.size hi-cj items.size 0 lo=items.size:=eq_of_beq q.2;exact hw ⟨by lia,by lia⟩
 show aH _ _ (if(((cj items.size 0 lo:Nat):Int)==0&&(1:Int)==1&&(cj items.size items.size hi-cj items.size 0 lo)==items.size)=aq then _ else _) _ _ s;rw[bw hno,aha]
 first
  |exact az (m:=Gh _) (jz (aM ⟨_,rfl,aM h⟩) JZ)
  |exact az (m:=Gh _) (jz (az (aM (aM ⟨_,rfl,aM h⟩))) JZ)
  |exact az (az (m:=Gh _) (jz (aM (aM ⟨_,rfl,aM h⟩)) JZ))
  |exact az (az (m:=Gh _) (jz (aM ⟨_,rfl,aM h⟩) JZ))
end
end HT
namespace L2
open PySem PySem.Spec PyProof.Rows
abbrev TO:=St->Hp->(Option Int->Hp->Prop)->Prop
def PO(X:Cx)(e:Option Expr)(t:TO):Prop:=
 ∀(pins:List (ao×Obj))(s:aA)(σ:St)(H:Hp)(Q:Option Int->Hp->Prop),Inv X pins σ H s->t σ H Q->
  aH (model X.prog X.w) X.A (evalPart e X.env) (λu s'=>∃o H',Inv X pins σ H' s'/\sS u o/\Q o H') X.xe s
def aik:TO:=λ_ H Q=>Q aj H
def alf(t:TE):TO:=λσ H Q=>t σ H λx H1=>∃i,x=.int i/\Q (aa i) H1
theorem intsAre_of{ns:List Int}:∀{us:List Value},Vals (ns.map V.int) us->IntsAre us ns:=by
 induction ns with
 |nil=>intro us r;rw[pY] at r;cases r;exact .nil
 |cons n ns ih=>
  intro us r;rw[cB] at r;cases r with
  |cons r1 r2=>
   obtain⟨t,e⟩:=r1
   subst e;exact .cons n t (ih r2)
section
variable{X:Cx}{e:Expr}{te:TE}{lo hi:Option Expr}{tl th:TO}{pos p2:Pos}
theorem ail:PO X aj aik:=by
 intro pins s σ H Q I h;rw[evalPart_none];exact aM ⟨aj,H,I,.none,h⟩
theorem aim(h:PE X e te):PO X (aa e) (alf te):=by
 intro pins s σ H Q I hw;rw[evalPart_some];refine bQ (h pins s σ H _ I hw) λu s1 aK=>?_
 obtain⟨x,H1,I1,r1,q1⟩:=aK
 obtain⟨i,rfl,q⟩:=q1
 obtain⟨t,rfl⟩:=r1
 exact⟨aa i,H1,I1,.int i t,q⟩
def uQ(X:Cx)(r:V->Option Int->Option Int->Hp->VK->Prop):Prop:=
 ∀(pins:List (ao×Obj))(s:aA)(σ:St)(H:Hp)(x:V)(v vl vu:Value)(lo hi:Option Int)(sl:ao)(Q:VK),Inv X pins σ H s->RelV x v->s.heap.IsSliceOf sl vl vu .none->sS vl lo->sS vu hi->r x lo hi H Q->
  ∃T id,typeLookup (.type T) "__getitem__"=pure (aa (.builtin id))/\s.TypeIs v T/\aH (model X.prog X.w) X.A (vH v (.ref sl)) (EP X pins σ Q) X.xe s
theorem uQ.or{r r':V->Option Int->Option Int->Hp->VK->Prop}(h:uQ X r)(h':uQ X r'):uQ X (λx lo hi H Q=>r x lo hi H Q\/r' x lo hi H Q):=by
 intro pins s σ H x v vl vu lo hi sl Q I rx hs pl pu q;rcases q with q|q
 .exact h pins s σ H x v vl vu lo hi sl Q I rx hs pl pu q
 .exact h' pins s σ H x v vl vu lo hi sl Q I rx hs pl pu q
def tSl(r:V->Option Int->Option Int->Hp->VK->Prop)(te:TE)(tl th:TO):TE:=λσ H Q=>te σ H λx H1=>tl σ H1 λl H2=>th σ H2 λu H3=>r x l u H3 Q
theorem ahb{r:V->Option Int->Option Int->Hp->VK->Prop}(hr:uQ X r)(he:PE X e te)(hl:PO X lo tl)(hu:PO X hi th):PE X (.Subscript e (.Slice lo hi aj p2) pos) (tSl r te tl th):=by
 intro pins s σ H Q I h;refine Subscript_ (bQ (he pins s σ H _ I h) λv s1 aK=>?_)
 obtain⟨x,H1,I1,r1,q1⟩:=aK
 refine wpAny_Slice (bQ (hl pins s1 σ H1 _ I1 q1) λvl s2 ⟨l,H2,I2,pl,q2⟩=>bQ (hu pins s2 σ H2 _ I2 q2) λvu s3 aK=>?_)
 obtain⟨u,H3,I3,pu,q3⟩:=aK
 rw[evalPart_none];refine aM ?_;have I4:Inv X pins σ H3 {s3 with heap:=s3.heap.push {cls:=.type "slice",data:=.fields #[vl,vu,.none]}}:=I3.kept (t':=s3.toks) λb ob q=>bH _ q
 obtain⟨T,id,hT,ht,hg⟩:=hr pins {s3 with heap:=s3.heap.push {cls:=.type "slice",data:=.fields #[vl,vu,.none]}} σ H3 x v vl vu l u s3.heap.objs.size Q I4 r1 (aow ..) pl pu q3
 show aH (model X.prog X.w) X.A (subscriptTail e (.Slice lo hi aj p2) v (.ref s3.heap.objs.size)) (EP X pins σ Q) X.xe {s3 with heap:=s3.heap.push {cls:=.type "slice",data:=.fields #[vl,vu,.none]}};exact tail_any (ops:=[.ref s3.heap.objs.size,v]) ht hT hg (by with_unfolding_all rfl)
def rm(xs:List V)(lo hi:Option Int):List V:=(xs.drop (HT.cj xs.length 0 lo)).take (HT.cj xs.length xs.length hi-HT.cj xs.length 0 lo)
theorem Ws(xs:List V)(lo hi:Option Int):(rm xs lo hi).length<=xs.length:=by
 unfold rm;rw[vf,ad7];lia
def amc(K:aF):V->Option Int->Option Int->Hp->VK->Prop:=λx lo hi H Q=>∃a xs,x=.ref a/\bW K H a xs/\
 ¬(HT.cj xs.length 0 lo=0/\HT.cj xs.length xs.length hi=xs.length)/\∀p,H p=aj->Q (.ref p) (upd H p (.tup (rm xs lo hi)))
theorem aka:uQ X (amc X.K):=by
 intro pins s σ H x v vl vu lo hi sl Q I rx hs pl pu h
 obtain⟨a,xs,rfl,hx,hw,q⟩:=h
 cases rx
 obtain⟨its,r,ht,hz⟩:=I.tuple hx
 have hlen:its.toArray.size=xs.length:=by rw[fj];exact r.length.symm
 refine⟨"tuple",_,PyProof.Rows.slot_tuple_getitem.lookup,ht.typeIs,?_⟩
 refine HT.adR ht hs pl pu (by rw[hlen];exact hw) ?_ (by rw[hlen];exact hz);rw[hlen]
 refine⟨.ref s.heap.objs.size,_,I.laid (t':=s.toks) (o:=.tup (rm xs lo hi)) (λb ob q=>bH _ q) (bK _) ?_,rfl,q _ (I.hok.fresh (bK _))⟩
 exact⟨ir (Ws xs lo hi) hz,_,(r.drop (HT.cj xs.length 0 lo)).take (HT.cj xs.length xs.length hi-HT.cj xs.length 0 lo),IsTup.new _ _⟩
def aa0(K:aF):R2:=λx y H Q=>∃a b xs ys,x=.ref a/\y=.ref b/\bW K H a xs/\bW K H b ys/\xs≠[]/\xs.length+ys.length<=bL/\
 (ys=[]->Q (.ref a) H)/\(ys≠[]->∀p,H p=aj->Q (.ref p) (upd H p (.tup (xs++ys))))
theorem Vals.Qg{xs:List V}{us:List Value}(r:Vals xs us):us=[]↔xs=[]:=by
 cases r with
 |nil=>simp
 |cons _ _=>simp
theorem ain:cY X (lW .Add) (aa0 X.K):=by
 intro pins s σ H x y v u Q I rx ry h
 obtain⟨a,b,xs,ys,rfl,rfl,ha,hb,hx,hz,q1,q2⟩:=h
 cases rx;cases ry
 obtain⟨its,r1,p1,_⟩:=I.tuple ha
 obtain⟨its2,r2,p2,_⟩:=I.tuple hb
 refine HT.aij p1 p2 (λz=>hx (r1.Qg.mp z)) (λz=>⟨.ref a,H,I,rfl,q1 (r2.Qg.mp z)⟩) (λz=>?_) (by rw[<-r1.length,<-r2.length];exact hz)
 refine⟨.ref s.heap.objs.size,_,I.laid (t':=s.toks) (o:=.tup (xs++ys)) (λb ob q=>bH _ q) (bK _) ?_,rfl,q2 (λw=>z (r2.Qg.mpr w)) _ (I.hok.fresh (bK _))⟩
 exact⟨by rw[lO];exact hz,_,r1.append r2,IsTup.new _ _⟩
end
def nD(n:Nat)(i:Int):Option Nat:=if 0<=i then(if i<n then aa i.toNat else aj) else if -(n:Int)<=i then aa (i+n).toNat else aj
def dF{α:Type}(xs:List α)(i:Int):Option α:=(nD xs.length i).bind λj=>xs[j]?
theorem Zk{n:Nat}{i:Int}{j:Nat}(h:nD n i=aa j):seqIndex? i n=aa j/\j<n/\-(n:Int)<=i/\i<n:=by
 unfold nD at h;by_cases h0:0<=i
 .rw[aY h0] at h;by_cases h1:i<n
  .rw[aY h1] at h;have e:i.toNat=j:=fU h
   exact⟨by rw[Wt h0 h1,e],by lia,by lia,h1⟩
  .rw[bw h1] at h;cases h
 .rw[bw h0] at h;by_cases h1:-(n:Int)<=i
  .rw[aY h1] at h;have e:(i+n).toNat=j:=fU h
   exact⟨by rw[We (by lia) h1,e],by lia,h1,by lia⟩
  .rw[bw h1] at h;cases h
theorem Qh{α:Type}{xs:List α}{i:Int}{v:α}(h:dF xs i=aa v):∃j,seqIndex? i xs.length=aa j/\xs[j]?=aa v/\j<xs.length/\-(xs.length:Int)<=i/\i<xs.length:=by
 unfold dF at h;cases e:nD xs.length i with
 |none=>rw[e] at h;cases h
 |some j=>
  rw[e] at h
  obtain⟨h1,h2,h3,h4⟩:=Zk e
  exact⟨j,h1,h,h2,h3,h4⟩
theorem sy{α:Type}{xs:List α}{j:Nat}{v:α}(h:xs[j]?=aa v):dF xs (j:Int)=aa v:=by
 have hj:j<xs.length:=(f9.mp h).1;have e:nD xs.length (j:Int)=aa j:=by
  unfold nD;rw[aY (by lia),aY (by lia)];simp
 unfold dF;rw[e];exact h
def Jc(b:Expr):Prop:=∀o i,Wu b aB o i=operate [o,i] (vH o i)
def qz(X:Cx)(r:R2):Prop:=
 ∀(value slice:Expr)(pins:List (ao×Obj))(s:aA)(σ:St)(H:Hp)(x y:V)(v u:Value)(Q:VK),Inv X pins σ H s->RelV x v->RelV y u->r x y H Q->
  Wu slice aB v u=operate [v,u] (vH v u)->aH (model X.prog X.w) X.A (subscriptTail value slice v u) (EP X pins σ Q) X.xe s
def Bq(X:Cx)(id:String)(r:V->List V->Hp->VK->Prop):Prop:=
 ∀(pins:List (ao×Obj))(s:aA)(σ:St)(H:Hp)(x:V)(xs:List V)(v:Value)(us:List Value)(Q:VK),Inv X pins σ H s->RelV x v->Vals xs us->r x xs H Q->
  aH (model X.prog X.w) X.A (call (.builtin id) (v::us)) (EP X pins σ Q) X.xe s
section
variable{X:Cx}{a b:Expr}{ta tb:TE}{pos:Pos}
theorem qz.or{r r':R2}(h:qz X r)(h':qz X r'):qz X (λx y H Q=>r x y H Q\/r' x y H Q):=by
 intro value slice pins s σ H x y v u Q I rx ry q hs;rcases q with q|q
 .exact h value slice pins s σ H x y v u Q I rx ry q hs
 .exact h' value slice pins s σ H x y v u Q I rx ry q hs
theorem Bq.or{id:String}{r r':V->List V->Hp->VK->Prop}(h:Bq X id r)(h':Bq X id r'):Bq X id (λx xs H Q=>r x xs H Q\/r' x xs H Q):=by
 intro pins s σ H x xs v us Q I rx rs q;rcases q with q|q
 .exact h pins s σ H x xs v us Q I rx rs q
 .exact h' pins s σ H x xs v us Q I rx rs q
theorem RC{r:R2}(hr:qz X r)(ha:PE X a ta)(hb:PE X b tb)(hs:Jc b):PE X (.Subscript a b pos) (Fo r ta tb):=by
 intro pins s σ H Q I h;exact Subscript_ (Sd ha hb I h λv u s2 x y H2 I2 rx ry q=>hr a b pins s2 σ H2 x y v u Q I2 rx ry q (hs _ _))
def abw(K:aF):R2:=λx y H Q=>∃p xs i v,x=.ref p/\y=.int i/\bG K H p xs/\dF xs i=aa v/\Q v H
def abx(K:aF):R2:=λx y H Q=>∃p xs i v,x=.ref p/\y=.int i/\bW K H p xs/\dF xs i=aa v/\Q v H
def aby:R2:=λx y H Q=>∃z i c,x=.str z/\y=.int i/\z.length<=bL/\dF z.cps.toList i=aa c/\Q (.str ⟨#[c]⟩) H
theorem Qi:qz X (abw X.K):=by
 intro value slice pins s σ H x y v u Q I rx ry h hs
 obtain⟨p,xs,i,z,rfl,rfl,hq,he,q⟩:=h
 cases rx
 obtain⟨t,rfl⟩:=ry
 obtain⟨its,r,pl,hz⟩:=I.list hq
 obtain⟨j,h1,h2,h3,h4,h5⟩:=Qh he
 obtain⟨w,ew,rw'⟩:=r.get h2
 have hl:=r.length;have hn:=vM;have fin:EP X pins σ Q w s:=⟨z,H,I,rw',q⟩
 by_cases h0:0<=i
 .have hj:i.toNat=j:=by
   rw[Wt h0 h5] at h1;exact fU h1
  exact item_listR pl.isList h0 (by lia) (by rw[hj];simpa using ew) fin hs
 .have hj:(i+(its.toArray.size:Int)).toNat=j:=by
   rw[We (by lia) h4] at h1;rw[fj,<-hl];exact fU h1
  exact subscriptTail_builtinR (x:=w) pl.isList.typeIs slot_list_getitem.lookup
   (wpAny_getItem_list_neg (Q:=λr s'=>r=w/\EP X pins σ Q r s') pl.isList (by lia) (by rw[fj]<;>lia) (by lia) (by rw[hj];simpa using ew) ⟨rfl,fin⟩) hs
theorem akb:qz X (abx X.K):=by
 intro value slice pins s σ H x y v u Q I rx ry h hs
 obtain⟨p,xs,i,z,rfl,rfl,hq,he,q⟩:=h
 cases rx
 obtain⟨t,rfl⟩:=ry
 obtain⟨its,r,pl,hz⟩:=I.tuple hq
 obtain⟨j,h1,h2,h3,h4,h5⟩:=Qh he
 obtain⟨w,ew,rw'⟩:=r.get h2
 have hl:=r.length;have hn:=vM;have fin:EP X pins σ Q w s:=⟨z,H,I,rw',q⟩
 exact subscriptTail_builtinR (x:=w) pl.typeIs slot_tuple_getitem.lookup
  (getItem_tuple (j:=j) (Q:=λr s'=>r=w/\EP X pins σ Q r s') pl (by lia) (by lia) (by rw[fj,<-hl];exact h1) (by simpa using ew) ⟨rfl,fin⟩) hs
theorem akc:qz X aby:=by
 intro value slice pins s σ H x y v u Q I rx ry h hs
 obtain⟨z,i,c,rfl,rfl,hz,he,q⟩:=h
 obtain⟨t,rfl⟩:=rx
 obtain⟨t',rfl⟩:=ry
 obtain⟨j,h1,h2,h3,h4,h5⟩:=Qh he
 have hl:z.cps.toList.length=z.length:=by simp[Str.length]
 rw[hl] at h1 h4 h5;have hn:=vM;exact tail_any (WT s z t) slot_str_getitem.lookup (getItem_str (c:=c) (by
  have e1:decide (i< -(2^63:Int))=aB:=jk (by lia);have e2:decide (i>=2^63)=aB:=jk (by lia);rw[e1,e2,Bool.or_false]) (by rw[h1];simpa using h2) ⟨.str ⟨#[c]⟩,H,I.tok _,⟨_,rfl⟩,q⟩) hs
def rIx(K:aF):R2:=λx y H Q=>abw K x y H Q\/abx K x y H Q\/aby x y H Q
theorem akd:qz X (rIx X.K):=Qi.or (akb.or akc)
theorem afz(its:List Value)(n j:Nat)(u:Value):lg (·.setIfInBounds j u) {cls:=.type "list",data:=.seq its.toArray n}={cls:=.type "list",data:=.seq (its.set j u).toArray n}:=by
 simp[lg]
theorem Inv.lst{pins:List (ao×Obj)}{σ:St}{H:Hp}{s:aA}{p:ao}{xs:List V}(I:Inv X pins σ H s)(h:H p=aa (.lst xs)):
  ∃(its:List Value)(n:Nat),Vals xs its/\s.heap.get? p=aa {cls:=.type "list",data:=.seq its.toArray n}/\xs.length<=bL:=by
 obtain⟨z,its,n,r,e⟩:=I.hok p _ h
 exact⟨its,n,r,e,z⟩
theorem Inv.ake{pins:List (ao×Obj)}{σ:St}{H:Hp}{s:aA}{p:ao}{xs ys:List V}{its its':List Value}{n n':Nat}{f:Obj->Obj}(I:Inv X pins σ H s)(h:H p=aa (.lst xs))
  (ho:s.heap.get? p=aa {cls:=.type "list",data:=.seq its.toArray n})(hf:f {cls:=.type "list",data:=.seq its.toArray n}={cls:=.type "list",data:=.seq its'.toArray n'})(r:Vals ys its')(hz:ys.length<=bL)(t:Nat):
  Inv X pins σ (upd H p (.lst ys)) {s with heap:=s.heap.update p f,toks:=t}:=by
 have e:(s.heap.update p f).get? p=aa {cls:=.type "list",data:=.seq its'.toArray n'}:=by
  rw[u0 f ho (by rw[hf]<;>rfl),hf]
 refine I.write (x:=p) (e:=p) (by rw[h];trivial) (.inl rfl) (λb u hb q=>(rM _ _ (jr hb)).trans q) ⟨_,e⟩ ?_
 exact⟨hz,its',n',r,e⟩
def RG:V->V->V->Hp->(Hp->Prop)->Prop:=λo i v H Q=>∃p xs k j,o=.ref p/\i=.int k/\H p=aa (.lst xs)/\nD xs.length k=aa j/\Q (upd H p (.lst (xs.set j v)))
theorem set_list:uD X RG:=by
 intro pins s σ H o i v ov iv u Q I ro ri rv h
 obtain⟨p,xs,k,j,rfl,rfl,hp,hj,q⟩:=h
 cases ro
 obtain⟨t,rfl⟩:=ri
 obtain⟨its,n,r,ho,hz⟩:=I.lst hp
 obtain⟨h1,h2,h3,h4⟩:=Zk hj
 have hl:=r.length;have hn:=vM;have I':Inv X pins σ (upd H p (.lst (xs.set j v))) {s with heap:=s.heap.update p (lg (·.setIfInBounds j u))}:=
  I.ake hp ho (afz its n j u) (r.set rv j) (by rw[vg];exact hz) s.toks
 by_cases h0:0<=k
 .have hk:k.toNat=j:=by
   rw[Wt h0 h4] at h1;exact fU h1
  exact PySem.W.ki_setAt ho h0 (by lia) (by rw[fj,<-hl];exact h4) (by rw[hk];exact⟨_,I',q⟩)
 .have hk:(k+(its.toArray.size:Int)).toNat=j:=by
   rw[We (by lia) h3] at h1;rw[fj,<-hl];exact fU h1
  exact PySem.W.ki_setBack ho (by lia) (by rw[fj,<-hl];exact h3) (by lia) (by rw[hk];exact⟨_,I',q⟩)
theorem aeY(lo hi:Option Int)(n:Nat):(zK lo hi aj n).1=((HT.cj n 0 lo:Nat):Int)/\(zK lo hi aj n).2.1=((HT.cj n n hi:Nat):Int)/\(zK lo hi aj n).2.2=1:=by
 refine⟨?_,?_,rfl⟩
 .cases lo with
  |none=>simp[zK,HT.cj]
  |some i=>
   simp only[zK,HT.cj,ad8,show(1:Int)>0 by decide,if_true];by_cases h:i<0
   .simp only[h,if_true]<;>lia
   .simp only[h,if_false]<;>lia
 .cases hi with
  |none=>simp[zK,HT.cj]
  |some i=>
   simp only[zK,HT.cj,ad8,show(1:Int)>0 by decide,if_true];by_cases h:i<0
   .simp only[h,if_true]<;>lia
   .simp only[h,if_false]<;>lia
theorem aeH(its:List Value)(lo hi:Option Int):slicePick its.toArray lo hi aj=((its.drop (HT.cj its.length 0 lo)).take (HT.cj its.length its.length hi-HT.cj its.length 0 lo)).toArray:=by
 obtain⟨h1,h2,h3⟩:=aeY lo hi its.toArray.size
 unfold slicePick;rw[h1,h2,h3];simp only[sliceRange_one,pick_run,fj]<;>rfl
def amd(K:aF):V->Option Int->Option Int->Hp->VK->Prop:=λx lo hi H Q=>∃a xs,x=.ref a/\bG K H a xs/\∀p,H p=aj->Q (.ref p) (upd H p (.lst (rm xs lo hi)))
theorem aio:uQ X (amd X.K):=by
 intro pins s σ H x v vl vu lo hi sl Q I rx hs pl pu h
 obtain⟨a,xs,rfl,hx,q⟩:=h
 cases rx
 obtain⟨its,r,ht,hz⟩:=I.list hx
 have hlen:=r.length
 refine⟨"list",_,slot_list_getitem.lookup,ht.isList.typeIs,?_⟩
 refine wpAny_getItem_list_slice ht.isList hs pl pu .none (by simp) ?_ (by rw[fj]<;>lia);rw[aeH,<-hlen]
 refine⟨.ref s.heap.objs.size,_,I.laid (t':=s.toks) (o:=.lst (rm xs lo hi)) (λb ob q=>bH _ q) (bK _) ?_,rfl,q _ (I.hok.fresh (bK _))⟩
 exact⟨ir (Ws xs lo hi) hz,_,0,(r.drop (HT.cj xs.length 0 lo)).take (HT.cj xs.length xs.length hi-HT.cj xs.length 0 lo),dI _ rfl⟩
def o9:V->Bool
 |.non=>aq
 |.bl _=>aq
 |.int _=>aq
 |.str _=>aq
 |_=>aB
def rF:V->V->Bool
 |.non,.non=>aq
 |.bl a,.bl b=>a==b
 |.bl a,.int b=>(if a then 1 else 0)==b
 |.int a,.bl b=>a==(if b then 1 else 0)
 |.int a,.int b=>a==b
 |.str a,.str b=>a==b
 |_,_=>aB
theorem QS{A:bV}{s:aA}{y x:V}{u v:Value}(ry:RelV y u)(rx:RelV x v)(fy:o9 y=aq)(fx:o9 x=aq):Nt A s u v (rF y x):=by
 cases y with
 |non=>
  cases ry;cases x with
  |non=>cases rx;exact SeqAt.EqAt.same _
  |bl b=>cases rx;exact SeqAt.EqAt.none_bool b
  |int b=>obtain⟨t,rfl⟩:=rx;exact SeqAt.EqAt.none_int b t
  |str b=>obtain⟨t,rfl⟩:=rx;exact SeqAt.EqAt.none_str b t
  |_=>exact absurd (show aB=aq from fx) gr
 |bl a=>
  cases ry;cases x with
  |non=>cases rx;exact SeqAt.EqAt.bool_none a
  |bl b=>cases rx;exact SeqAt.EqAt.bool_bool a b
  |int b=>obtain⟨t,rfl⟩:=rx;exact SeqAt.EqAt.bool_int a b t
  |str b=>obtain⟨t,rfl⟩:=rx;exact SeqAt.EqAt.bool_str a b t
  |_=>exact absurd (show aB=aq from fx) gr
 |int a=>
  obtain⟨t',rfl⟩:=ry
  cases x with
  |non=>cases rx;exact SeqAt.EqAt.int_none a t'
  |bl b=>cases rx;exact SeqAt.EqAt.int_bool a t' b
  |int b=>obtain⟨t,rfl⟩:=rx;exact adH a t' b t
  |str b=>obtain⟨t,rfl⟩:=rx;exact adC a t' b t
  |_=>exact absurd (show aB=aq from fx) gr
 |str a=>
  obtain⟨t',rfl⟩:=ry
  cases x with
  |non=>cases rx;exact SeqAt.EqAt.str_none a t'
  |bl b=>cases rx;exact SeqAt.EqAt.str_bool a t' b
  |int b=>obtain⟨t,rfl⟩:=rx;exact adD a t' b t
  |str b=>obtain⟨t,rfl⟩:=rx;exact SeqAt.EqAt.str_str a t' b t
  |_=>exact absurd (show aB=aq from fx) gr
 |_=>exact absurd (show aB=aq from fy) gr
def nF(x:V)(u:Value):Bool:=match u with
 |.none=>rF .non x
 |.bool b=>rF (.bl b) x
 |.int i _=>rF (.int i) x
 |.str z _=>rF (.str z) x
 |_=>aB
theorem aas{x y:V}{u:Value}(r:RelV y u)(f:o9 y=aq):nF x u=rF y x:=by
 cases y with
 |non=>cases r;rfl
 |bl b=>cases r;rfl
 |int i=>obtain⟨t,rfl⟩:=r;rfl
 |str z=>obtain⟨t,rfl⟩:=r;rfl
 |_=>exact absurd (show aB=aq from f) gr
theorem Dg{x:V}:∀{xs:List V}{us:List Value},Vals xs us->xs.all o9=aq->us.any (nF x)=xs.any λy=>rF y x
 |_,_,.nil,_=>rfl
 |y::xs,u::us,.cons r t,f=>by
  rw[MN,iT] at f;rw[G3,G3,aas r f.1,Dg t f.2]
theorem CW{A:bV}{s:aA}{x:V}{v:Value}(rx:RelV x v)(fx:o9 x=aq):∀{xs:List V}{us:List Value},Vals xs us->xs.all o9=aq->∀u∈us,Nt A s u v (nF x u)
 |_,_,.nil,_=>λu hu=>by cases hu
 |y::xs,u::us,.cons r t,f=>λu' hu=>by
  rw[MN,iT] at f;rcases bI.mp hu with rfl|hu
  .rw[aas r f.1];exact QS r rx f.1 fx
  .exact CW rx fx t f.2 u' hu
def inV(x:V)(xs:List V):Bool:=xs.any λy=>rF y x
def KR(K:aF)(neg:Bool):R2:=λx y H Q=>∃p xs,y=.ref p/\(bG K H p xs\/bW K H p xs)/\o9 x=aq/\xs.all o9=aq/\Q (.bl (if neg then !inV x xs else inV x xs)) H
theorem agk:cY X (gb .In) (KR X.K aB):=by
 intro pins s σ H x y v u Q I rx ry h
 obtain⟨p,xs,rfl,hq,fx,fs,q⟩:=h
 cases ry;rcases hq with hq|hq
 .obtain⟨its,r,pl,hz⟩:=I.list hq
  refine SeqAt.in_listAt (nF x) pl.isList (λw hw=>CW rx fx r fs w (by simpa using hw)) ⟨.bl _,H,I,rfl,?_⟩;rw[show its.toArray.any (nF x)=its.any (nF x) by simp,Dg r fs];exact q
 .obtain⟨its,r,pl,hz⟩:=I.tuple hq
  refine SeqAt.in_tupleAt (nF x) pl (λw hw=>CW rx fx r fs w (by simpa using hw)) ⟨.bl _,H,I,rfl,?_⟩;rw[show its.toArray.any (nF x)=its.any (nF x) by simp,Dg r fs];exact q
theorem aeZ:cY X (gb .NotIn) (KR X.K aq):=by
 intro pins s σ H x y v u Q I rx ry h
 obtain⟨p,xs,rfl,hq,fx,fs,q⟩:=h
 cases ry;rcases hq with hq|hq
 .obtain⟨its,r,pl,hz⟩:=I.list hq
  refine SeqAt.notIn_listAt (nF x) pl.isList (λw hw=>CW rx fx r fs w (by simpa using hw)) ⟨.bl _,H,I,rfl,?_⟩;rw[show its.toArray.any (nF x)=its.any (nF x) by simp,Dg r fs];exact q
 .obtain⟨its,r,pl,hz⟩:=I.tuple hq
  refine SeqAt.notIn_tupleAt (nF x) pl (λw hw=>CW rx fx r fs w (by simpa using hw)) ⟨.bl _,H,I,rfl,?_⟩;rw[show its.toArray.any (nF x)=its.any (nF x) by simp,Dg r fs];exact q
theorem Wf:fO X (.builtin "len") (λxs H Q=>∃p ys,xs=[.ref p]/\(bG X.K H p ys\/bW X.K H p ys)/\Q (.int ys.length) H):=by
 intro pins s σ H xs us Q I r h
 obtain⟨p,ys,rfl,hq,q⟩:=h
 obtain⟨u,rfl,rx⟩:=vals1 r
 cases rx;have hn:=vM;rcases hq with hq|hq
 .obtain⟨its,r',pl,hz⟩:=I.list hq
  have hlen:=r'.length;exact Calls.call_len_list pl.isList (by simp only[fj]<;>lia) ⟨.int ys.length,H,I.tok _,⟨s.toks+1,by rw[fj,hlen]⟩,q⟩
 .obtain⟨its,r',pl,hz⟩:=I.tuple hq
  have hlen:=r'.length;exact len_tuple pl (by simp only[fj]<;>lia) ⟨.int ys.length,H,I.tok _,⟨s.toks+1,by rw[fj,hlen]⟩,q⟩
theorem ae0:fO X (.builtin "len") (λxs H Q=>∃z,xs=[.str z]/\z.length<=bL/\Q (.int z.length) H):=by
 intro pins s σ H xs us Q I r h
 obtain⟨z,rfl,hz,q⟩:=h
 obtain⟨u,rfl,t,rfl⟩:=vals1 r
 have hn:=vM;exact len_str (by lia) ⟨.int z.length,H,I.tok _,⟨_,rfl⟩,q⟩
theorem fO.or{f:Value}{r r':List V->Hp->VK->Prop}(h:fO X f r)(h':fO X f r'):fO X f (λxs H Q=>r xs H Q\/r' xs H Q):=by
 intro pins s σ H xs us Q I rs q;rcases q with q|q
 .exact h pins s σ H xs us Q I rs q
 .exact h' pins s σ H xs us Q I rs q
theorem vp:fO X (.type "tuple") (λxs H Q=>∃p ys,xs=[.ref p]/\((bG X.K H p ys/\∀l,H l=aj->Q (.ref l) (upd H l (.tup ys)))\/(bW X.K H p ys/\Q (.ref p) H))):=by
 intro pins s σ H xs us Q I r h
 obtain⟨p,ys,rfl,h⟩:=h
 obtain⟨u,rfl,rx⟩:=vals1 r
 cases rx;rcases h with⟨hq,q⟩|⟨hq,q⟩
 .obtain⟨its,r',pl,hz⟩:=I.list hq
  have hlen:=r'.length;refine call_tuple_list pl.isList (λh' kp=>?_) (by simp only[fj]<;>lia);have I1:Inv X pins σ H {s with heap:=h'}:=I.kept (t':=s.toks) kp;have I2:Inv X pins σ (upd H h'.objs.size (.tup ys)) {s with heap:=h'.push {cls:=.type "tuple",data:=.seq its.toArray}}:=
   I1.laid (t':=s.toks) (λb o e=>bH _ e) (bK _) (show dN X.prog X.w _ _ _ (.tup ys) from⟨hz,its,r',IsTup.new _ _⟩)
  exact⟨.ref h'.objs.size,_,I2,rfl,q _ (I1.hok.fresh (bK _))⟩
 .obtain⟨its,r',pl,hz⟩:=I.tuple hq
  exact call_tuple_same pl ⟨.ref p,H,I,rfl,q⟩
def tyV(K:aF)(T:String)(x:V)(H:Hp):Prop:=match x with
 |.str _=>T="str"
 |.int _=>T="int"
 |.ref p=>(T="list"/\∃xs,bG K H p xs)\/(T="tuple"/\∃o,K.lookup p=aa o/\o.cls=.type "tuple"/\o.dict=aj)\/
   (T="dict"/\((∃kvs ep,H p=aa (.dK kvs ep))\/∃kvs ep,H p=aa (.dT kvs ep)))\/(T="set"/\∃S n,H p=aa (.set S n))
 |_=>False
theorem akf{pins:List (ao×Obj)}{σ:St}{H:Hp}{s:aA}{T:String}{x:V}{v:Value}(I:Inv X pins σ H s)(r:RelV x v)(ty:tyV X.K T x H):
  s.TypeIs v T/\∀a,v=.ref a->∃ob,s.heap.get? a=aa ob/\ob.dict=aj:=by
 cases x with
 |str z=>
  obtain⟨t,rfl⟩:=r
  cases(show T="str" from ty)
  exact⟨WT s z t,λ_ e=>nomatch e⟩
 |int i=>
  obtain⟨t,rfl⟩:=r
  cases(show T="int" from ty)
  exact⟨zP s i t,λ_ e=>nomatch e⟩
 |ref p=>
  cases r;rcases ty with⟨rfl,xs,hq⟩|⟨rfl,o,hk,hc,hd⟩|⟨rfl,hk⟩|⟨rfl,S,n,hk⟩
  .obtain⟨its,_,pl,_⟩:=I.list hq
   refine⟨pl.isList.typeIs,λa e=>?_⟩
   cases e
   obtain⟨o,n,e,c,hd,_⟩:=pl
   exact⟨o,e,hd⟩
  .refine⟨⟨o,I.gQ p o hk,hc⟩,λa e=>?_⟩
   cases e
   exact⟨o,I.gQ _ o hk,hd⟩
  .have z:∃o,s.heap.get? p=aa o/\o.ExactDict:=by
    rcases hk with⟨kvs,ep,hk⟩|⟨kvs,ep,hk⟩
    .obtain⟨_,_,_,_,o,_,e,ex,_⟩:=I.hok p _ hk
     exact⟨o,e,ex⟩
    .obtain⟨_,_,_,_,o,_,e,ex,_⟩:=I.hok p _ hk
     exact⟨o,e,ex⟩
   obtain⟨o,e,ex⟩:=z
   refine⟨⟨o,e,ex.1⟩,λa e2=>?_⟩
   cases e2
   exact⟨o,e,ex.2.1⟩
  .obtain⟨o,_,_,_,e,ex,_⟩:=I.hok p _ hk
   refine⟨⟨o,e,ex.1⟩,λa e2=>?_⟩
   cases e2
   exact⟨o,e,ex.2.1⟩
 |_=>exact qO ty
def tBM(K:aF)(T:String)(r:V->List V->Hp->VK->Prop)(to:TE)(t:TA):TE:=λσ H Q=>to σ H λx H1=>tyV K T x H1/\t σ H1 λxs H2=>r x xs H2 Q
variable{o e:Expr}{es:List Expr}{to:TE}{t:TA}{name:Str}{apos cpos:Pos}{T id:String}{r:V->List V->Hp->VK->Prop}
theorem aa1(pa:PlainAttrs T)(slot:Slot T name id)(hty:typeOf (.builtin id)=pure (.type "method_descriptor"))(hm:Bq X id r)(ho:PE X o to)(ha:PA X (e::es) t)
  (hbase:G4 o name X.env (eval o X.env)=eval o X.env:=by rfl)
  (hfew:((gO cpos (bD (e::es) X.env)).all (λx=>!x.1)&&(Ib cpos (Hh [] X.env)).all (λx=>x.1.isSome)
   &&decide ((e::es).length+([]:List su).length+(if([]:List su).isEmpty then 0 else 1)<30))=aq:=by rfl)
  (hline:(apos.endLine==cpos.line)=aq:=by rfl)(hs:bD (e::es) X.env=(aB,eval e X.env)::bD es X.env:=by rfl)(hplain:(gO cpos (bD es X.env)).any (·.1)=aB:=by rfl):
  PE X (.Call (.Attribute o name apos) (e::es) [] cpos) (tBM X.K T r to t):=by
 intro pins s σ H Q I h;refine wpAny_Call_method_late hbase hfew hline rfl (bQ (ho pins s σ H _ I h) λv s1 aK=>?_)
 obtain⟨x,H1,I1,r1,ty,q1⟩:=aK
 obtain⟨h1,h2⟩:=akf I1 r1 ty
 refine⟨T,id,pa,slot,hty,h1,h2,?_⟩
 have hA:=ha cpos pins s1 σ H1 _ I1 q1;rw[hs] at hA⊢;refine ac4 (by show(aB||(gO cpos (bD es X.env)).any (·.1))=aB;rw[hplain]<;>rfl) (adl ?_);exact bQ hA λus s2 ⟨vs,H2,I2,r2,q2⟩=>hm pins s2 σ H2 x vs v us Q I2 r1 r2 q2
end
def Br(X:Cx)(id:String)(r:V->List V->Hp->VK->Prop):Prop:=
 ∀(pins:List (ao×Obj))(s:aA)(σ:St)(H:Hp)(x:V)(xs:List V)(v:Value)(us:List Value)(Q:VK),Inv X pins σ H s->RelV x v->Vals xs us->r x xs H Q->
  aH (model X.prog X.w) X.A (call (.builtin id) (v::us)) (EP X pins σ Q) X.xe s
theorem Vals.one:∀{x:V}{us:List Value},Vals [x] us->∃u,us=[u]/\RelV x u
 |_,_,.cons r .nil=>⟨_,rfl,r⟩
theorem Vals.two:∀{x y:V}{us:List Value},Vals [x,y] us->∃u v,us=[u,v]/\RelV x u/\RelV y v
 |_,_,_,.cons r (.cons q .nil)=>⟨_,_,rfl,r,q⟩
theorem Vals.eraseIdx:∀{xs:List V}{us:List Value}(i:Nat),Vals xs us->Vals (xs.eraseIdx i) (us.eraseIdx i)
 |_,_,_,.nil=>.nil
 |_,_,0,.cons _ t=>t
 |_,_,i+1,.cons r t=>.cons r (Vals.eraseIdx i t)
theorem Vals.reverse{xs:List V}{us:List Value}(h:Vals xs us):Vals xs.reverse us.reverse:=by
 induction h with
 |nil=>exact .nil
 |cons r t ih=>rw[adT,adT];exact Vals.append ih (.cons r .nil)
theorem Vals.rep{xs:List V}{us:List Value}(h:Vals xs us):∀k:Nat,Vals (cC k xs).flatten (cC k us).flatten
 |0=>.nil
 |k+1=>by
  rw[t7,t7,BW,BW];exact Vals.append h (Vals.rep h k)
theorem foldl_rep(its:List Value):∀(k:Nat)(acc:List Value),
  Nu (λx1 x2=>x1++x2) acc.toArray (cC k its.toArray)=(acc++(cC k its).flatten).toArray
 |0,acc=>by simp
 |k+1,acc=>by
  have e:acc.toArray++its.toArray=(acc++its).toArray:=by simp
  have e2:(acc++its)++(cC k its).flatten=acc++(cC (k+1) its).flatten:=by
   rw[t7,BW,oG]
  rw[<-e2,<-foldl_rep its k (acc++its),<-e,t7,GK]
section
variable{X:Cx}{pins:List (ao×Obj)}{σ:St}{H:Hp}{s:aA}{l b:ao}{xs ys zs:List V}
theorem Inv.ame{its its':List Value}{n:Nat}{f:Array Value->Array Value}{t':Nat}(I:Inv X pins σ H s)(hH:H l=aa (.lst xs))
  (e:s.heap.get? l=aa {cls:=.type "list",data:=.seq its.toArray n})(hf:f its.toArray=its'.toArray)(hv:Vals ys its')(hz:ys.length<=bL):
  Inv X pins σ (upd H l (.lst ys)) {s with heap:=s.heap.update l (lg f),toks:=t'}:=by
 have q:=PySem.IsL.update e f;rw[hf] at q;refine I.write (x:=l) (e:=l) (by rw[hH];exact trivial) (.inl rfl) (λb' u hb hu=>(rM s.heap (lg f) (jr hb)).trans hu) ⟨_,q⟩ ?_
 exact⟨hz,its',_,hv,q⟩
theorem Inv.amf{its:List Value}{t':Nat}(I:Inv X pins σ H s)(hv:Vals ys its)(hz:ys.length<=bL):
  Inv X pins σ (upd H s.heap.objs.size (.lst ys)) {s with heap:=s.heap.push {cls:=.type "list",data:=.seq its.toArray},toks:=t'}:=
 I.laid (λ_ _ q=>bH _ q) (bK _) ⟨hz,its,0,hv,dI _ rfl⟩
theorem Inv.fresh(I:Inv X pins σ H s):H s.heap.objs.size=aj:=I.hok.fresh (bK _)
theorem Inv.Su(I:Inv X pins σ H s)(hH:H l=aa (.lst xs)):xs.length<=bL/\∃(its:List Value)(n:Nat),Vals xs its/\xs.length=its.length/\s.heap.get? l=aa {cls:=.type "list",data:=.seq its.toArray n}:=by
 obtain⟨z,its,n,r,e⟩:=I.hok l _ hH
 exact⟨z,its,n,r,r.length,e⟩
end
section
variable{X:Cx}
def aip:V->List V->Hp->VK->Prop:=λx vs H Q=>∃l xs y,x=.ref l/\vs=[y]/\H l=aa (.lst xs)/\xs.length<bL/\Q .non (upd H l (.lst (xs++[y])))
theorem Xh:Br X "list.append" aip:=by
 intro pins s σ H x vs v us Q I rx rv h
 obtain⟨l,xs,y,rfl,rfl,hH,hz,q⟩:=h
 cases rx
 obtain⟨u,rfl,ru⟩:=rv.one
 obtain⟨z,its,n,r,hl,e⟩:=I.Su hH
 refine xM adI ⟨_,e,rfl⟩ F.entry_list_append (F.args_list_append_2 _ _) (PySem.list_append l its.toArray n u (by rw[fj];lia)) ⟨e,?_⟩
 refine⟨.non,_,I.ame (its':=its++[u]) hH e (by simp) (r.append (.cons ru .nil)) ?_,rfl,q⟩
 rw[lO,List.length_singleton];lia
def abz:R2:=λx y H Q=>∃l b xs zs,x=.ref l/\y=.ref b/\H l=aa (.lst xs)/\H b=aa (.lst zs)/\xs.length+zs.length<=bL/\∀p,H p=aj->Q (.ref p) (upd H p (.lst (xs++zs)))
theorem akg:cY X (lW .Add) abz:=by
 intro pins s σ H x y v u Q I rx ry h
 obtain⟨l,b,xs,zs,rfl,rfl,hH,hB,hz,q⟩:=h
 cases rx;cases ry
 obtain⟨z,its,n,r,hl,e⟩:=I.Su hH
 obtain⟨z2,its2,n2,r2,hl2,e2⟩:=I.Su hB
 refine PySem.P.add_list e e2 ?_ (by rw[fj,fj];lia);have ea:its.toArray++its2.toArray=(its++its2).toArray:=by simp
 rw[ea]
 exact⟨.ref _,_,I.amf (t':=s.toks) (r.append r2) (by rw[lO];lia),rfl,q _ I.fresh⟩
theorem len_rep{α:Type}(xs:List α)(k:Nat):(cC k xs).flatten.length=k*xs.length:=by
 induction k with
 |zero=>simp
 |succ k ih=>rw[t7,BW,lO,ih,ae1,Nat.add_comm]
end
section
variable{prog:bA}{w:bu}{A:bV}{E:Value->aA->Prop}{s:aA}
set_option maxRecDepth 100000 in
end
section
variable{X:Cx}
end
section
variable{κ:Type}[DecidableEq κ]
def mD(kvs:List (κ×V))(k:κ):Option V:=(kvs.find? λkv=>decide (kv.1=k)).map (·.2)
def putK(kvs:List (κ×V))(k:κ)(v:V):List (κ×V):=
 if(kvs.any λkv=>decide (kv.1=k))=aq then kvs.map (λkv=>if kv.1=k then(kv.1,v) else kv) else kvs++[(k,v)]
def aa2(kvs:List (κ×V))(k:κ):List (κ×V):=kvs.filter λkv=>decide (kv.1≠k)
theorem Ie{p:κ×V}{r:List (κ×V)}{k:κ}(e:p.1=k):mD (p::r) k=aa p.2:=by simp[mD,pW,e]
theorem Ig{p:κ×V}{r:List (κ×V)}{k:κ}(e:¬p.1=k):mD (p::r) k=mD r k:=by simp[mD,pW,e]
theorem Ye(k:κ):∀kvs:List (κ×V),(kvs.any λkv=>decide (kv.1=k))=(mD kvs k).isSome
 |[]=>rfl
 |p::r=>by
  rw[G3];by_cases e:p.1=k
  .simp only[Ie e,fP e,Bool.true_or,adJ]
  .rw[Ig e,jk e,Bool.false_or];exact Ye k r
theorem Nh(kvs:List (κ×V))(k:κ)(v:V):(putK kvs k v).length<=kvs.length+1:=by
 unfold putK;split
 .rw[bh];lia
 .rw[lO,cL,Mt];lia
theorem pG.CT{o:Option V}{u:Option Value}(r:pG o u):o.isSome=u.isSome:=by
 cases o with
 |none=>cases u with
  |none=>rfl
  |some _=>exact(show False from r).elim
 |some _=>cases u with
  |none=>exact(show False from r).elim
  |some _=>rfl
theorem pG.getD{o:Option V}{u:Option Value}{d:V}{d':Value}(r:pG o u)(rd:RelV d d'):RelV (o.getD d) (u.getD d'):=by
 cases o with
 |none=>cases u with
  |none=>exact rd
  |some _=>exact(show False from r).elim
 |some _=>cases u with
  |none=>exact(show False from r).elim
  |some _=>exact r
theorem KV.val{kvs:List (κ×V)}{vs:List (κ×Value)}(r:KV kvs vs)(k:κ):pG (mD kvs k) (z9 vs k):=by
 unfold KV at r;induction r with
 |nil=>exact mU
 |@cons p q ps qs h t ih=>
  obtain⟨h1,h2⟩:=h
  by_cases e:p.1=k
  .have e':q.1=k:=h1.symm.trans e;have b:z9 (q::qs) k=aa q.2:=by simp[z9,pW,e']
   rw[Ie e,b];exact h2
  .have e':¬q.1=k:=λz=>e (h1.trans z)
   have b:z9 (q::qs) k=z9 qs k:=by simp[z9,pW,e']
   rw[Ig e,b];exact ih
theorem KV.any{kvs:List (κ×V)}{vs:List (κ×Value)}(r:KV kvs vs)(k:κ):(kvs.any λkv=>decide (kv.1=k))=vs.any λkv=>decide (kv.1=k):=by
 unfold KV at r;induction r with
 |nil=>rfl
 |cons h t ih=>rw[G3,G3,ih,h.1]
theorem KV.repl{kvs:List (κ×V)}{vs:List (κ×Value)}(r:KV kvs vs)(k:κ){y:V}{u:Value}(ry:RelV y u):
  KV (kvs.map λkv=>if kv.1=k then(kv.1,y) else kv) (vs.map λkv=>if kv.1=k then(kv.1,u) else kv):=by
 unfold KV at r⊢;induction r with
 |nil=>exact .nil
 |@cons p q ps qs h t ih=>
  rw[cB,cB];refine .cons ?_ ih
  obtain⟨h1,h2⟩:=h
  by_cases e:p.1=k
  .rw[aY e,aY (h1.symm.trans e)];exact⟨h1,ry⟩
  .rw[bw e,bw (λz=>e (h1.trans z))];exact⟨h1,h2⟩
theorem KV.put{kvs:List (κ×V)}{vs:List (κ×Value)}(r:KV kvs vs)(k:κ){y:V}{u:Value}(ry:RelV y u):KV (putK kvs k y) (stored vs k u):=by
 unfold putK stored;rw[r.any k];by_cases e:(vs.any λkv=>decide (kv.1=k))=aq
 .rw[aY e,aY e];exact r.repl k ry
 .rw[bw e,bw e];exact Paired.snoc r ⟨rfl,ry⟩
theorem KV.drop{kvs:List (κ×V)}{vs:List (κ×Value)}(r:KV kvs vs)(k:κ):KV (aa2 kvs k) (without vs k):=by
 unfold KV at r⊢;unfold aa2 without;induction r with
 |nil=>exact .nil
 |@cons p q ps qs h t ih=>
  obtain⟨h1,h2⟩:=h
  rw[xj,xj];by_cases e:p.1=k
  .have a:¬decide (p.1≠k)=aq:=by simp[e]
   have b:¬decide (q.1≠k)=aq:=by simp[h1.symm.trans e]
   rw[bw a,bw b];exact ih
  .have e':¬q.1=k:=λz=>e (h1.trans z)
   have a:decide (p.1≠k)=aq:=by simp[e]
   have b:decide (q.1≠k)=aq:=by simp[e']
   rw[aY a,aY b];exact .cons ⟨h1,h2⟩ ih
theorem KV.length{kvs:List (κ×V)}{vs:List (κ×Value)}(r:KV kvs vs):kvs.length=vs.length:=Paired.length r
end
theorem vR{P:bA}{w:bu}{k:Key}{u:Value}(r:RelV (kV k) u):(fD P w).is k u=aq:=by
 cases k with
 |inl i=>obtain⟨t,e⟩:=(show ∃t,u=zR i t from r);subst e;exact afb P w i t
 |inr x=>obtain⟨t,e⟩:=(show ∃t,u=HN x t from r);subst e;exact afc P w x t
theorem Xi{P:bA}{w:bu}:∀{ks:List Key}{us:List Value},Vals (ks.map kV) us->ItemsAre (fD P w) ks us
 |[],_,r=>by rw[pY] at r;cases r;exact .nil
 |k::ks,_,r=>by
  rw[cB] at r;cases r with
  |cons h t=>exact .cons (vR h) (Xi t)
abbrev KT(H:Hp):List (List Key×V)->List (List Key×ao×Value)->Prop:=Paired λp q=>p.1=q.1/\H q.2.1=aa (.tup (p.1.map kV))/\RelV p.2 q.2.2
theorem KT.val{H:Hp}{kvs:List (List Key×V)}{xs:List (List Key×ao×Value)}(r:KT H kvs xs)(k:List Key):pG (mD kvs k) ((vU xs k).map (·.2)):=by
 induction r with
 |nil=>exact mU
 |@cons p q ps qs h t ih=>
  obtain⟨h1,_,h2⟩:=h
  by_cases e:p.1=k
  .have e':q.1=k:=h1.symm.trans e;have b:vU (q::qs) k=aa q.2:=by simp[vU,pW,e']
   rw[Ie e,b];exact h2
  .have e':¬q.1=k:=λz=>e (h1.trans z)
   have b:vU (q::qs) k=vU qs k:=by simp[vU,pW,e']
   rw[Ig e,b];exact ih
theorem KT.repl{H:Hp}{kvs:List (List Key×V)}{xs:List (List Key×ao×Value)}(r:KT H kvs xs)(k:List Key){y:V}{u:Value}(ry:RelV y u):
  KT H (kvs.map λkv=>if kv.1=k then(kv.1,y) else kv) (xs.map (putAt k u)):=by
 induction r with
 |nil=>exact .nil
 |@cons p q ps qs h t ih=>
  rw[cB,cB];refine .cons ?_ ih
  obtain⟨h1,h2,h3⟩:=h
  unfold putAt;by_cases e:p.1=k
  .rw[aY e,aY (h1.symm.trans e)];exact⟨h1,h2,ry⟩
  .rw[bw e,bw (λz=>e (h1.trans z))];exact⟨h1,h2,h3⟩
theorem KT.put{H:Hp}{kvs:List (List Key×V)}{xs:List (List Key×ao×Value)}(r:KT H kvs xs)(k:List Key){b:ao}{y:V}{u:Value}(hb:H b=aa (.tup (k.map kV)))(ry:RelV y u):
  KT H (putK kvs k y) (storedH xs k b u):=by
 have e:(kvs.any λkv=>decide (kv.1=k))=(vU xs k).isSome:=by
  rw[Ye,(r.val k).CT,Va]
 unfold putK storedH;rw[e];by_cases q:(vU xs k).isSome=aq
 .rw[aY q,aY q];exact r.repl k ry
 .rw[bw q,bw q];exact Paired.snoc r ⟨rfl,hb,ry⟩
theorem KT.keeps{H H':Hp}{kvs:List (List Key×V)}{xs:List (List Key×ao×Value)}(r:KT H kvs xs)(ht:∀b ys,H b=aa (.tup ys)->H' b=aa (.tup ys)):KT H' kvs xs:=
 Paired.R4 r λ_ _ z=>⟨z.1,ht _ _ z.2.1,z.2.2⟩
section
variable{P:bA}{w:bu}{H:Hp}{h:aU}{a:ao}
theorem aa3{u:HO}(ok:gm P w H h)(e:Rd H a u):dN P w H h a u:=e.ok ok
def yV(H:Hp)(a:ao)(kvs:List (Key×V)):Prop:=∃ep,Rd H a (.dK kvs ep)
def yW(H:Hp)(a:ao)(kvs:List (List Key×V)):Prop:=∃ep,Rd H a (.dT kvs ep)
theorem vV{kvs:List (Key×V)}(ok:gm P w H h)(e:yV H a kvs):kvs.length<=bL/\(a==lV)=aB/\∃vs,KV kvs vs/\h.DictOf (fD P w) a vs:=
 let ⟨ep,e⟩:=e;let ⟨z,y,vs,r,p⟩:=(show dN P w H h a (.dK kvs ep) from aa3 ok e);⟨z,y,vs,r,p.dictOf⟩
theorem aa4{kvs:List (Key×V)}{ep:Nat}(ok:gm P w H h)(e:H a=aa (.dK kvs ep)):kvs.length<=bL/\(a==lV)=aB/\∃vs,KV kvs vs/\h.DictOf (fD P w) a vs:=vV ok ⟨ep,.inl e⟩
theorem yc{ks:List Key}(ok:gm P w H h)(e:H a=aa (.tup (ks.map kV))):(nM (fD P w)).is h ks a:=by
 obtain⟨_,its,r,o,h1,h2,n,h3⟩:=(show dN P w H h a (.tup (ks.map kV)) from ok a _ e)
 exact⟨o,its.toArray,n,h1,h2,h3,by simpa using Xi r⟩
theorem vW{kvs:List (List Key×V)}(ok:gm P w H h)(e:yW H a kvs):kvs.length<=bL/\(a==lV)=aB/\
  ∃xs,KT H kvs xs/\h.DictOfH (nM (fD P w)) a xs:=by
 obtain⟨ep,e⟩:=e
 obtain⟨z,y,xs,r,o,es,h1,h2,h3,h4,h5⟩:=(show dN P w H h a (.dT kvs ep) from aa3 ok e)
 refine⟨z,y,xs,r,o,es,ep,h1,h2,h3,h4,λx hx=>?_,h5⟩
 have all:∀{l:List (List Key×V)}{m:List (List Key×ao×Value)},KT H l m->∀x∈m,(nM (fD P w)).is h x.1 x.2.1:=by
  intro l m q;induction q with
  |nil=>intro x hx;exact nomatch hx
  |@cons p q ps qs hq t ih=>
   intro x hx;rcases bI.mp hx with e|hx
   .subst e;exact yc ok (by rw[<-hq.1];exact hq.2.1)
   .exact ih x hx
 exact all r x hx
theorem alg{kvs:List (List Key×V)}{ep:Nat}(ok:gm P w H h)(e:H a=aa (.dT kvs ep)):kvs.length<=bL/\(a==lV)=aB/\
  ∃xs,KT H kvs xs/\h.DictOfH (nM (fD P w)) a xs:=vW ok ⟨ep,.inl e⟩
end
def lE(H:Hp)(a:ao)(y:V)(r:Option V):Prop:=
 (∃kvs k,yV H a kvs/\y=kV k/\r=mD kvs k)\/∃kvs k b,yW H a kvs/\y=.ref b/\H b=aa (.tup (k.map kV))/\r=mD kvs k
def rA(H:Hp)(a:ao)(y v:V)(H':Nat->Hp):Prop:=
 (∃kvs k,(∃ep,H a=aa (.dK kvs ep))/\y=kV k/\kvs.length<bL/\H'=λe=>upd H a (.dK (putK kvs k v) e))\/
 ∃kvs k b,(∃ep,H a=aa (.dT kvs ep))/\y=.ref b/\H b=aa (.tup (k.map kV))/\kvs.length<bL/\H'=λe=>upd H a (.dT (putK kvs k v) e)
theorem lE.k{H:Hp}{a:ao}{kvs:List (Key×V)}{k:Key}{ep:Nat}(e:H a=aa (.dK kvs ep)):lE H a (kV k) (mD kvs k):=.inl ⟨kvs,k,⟨ep,.inl e⟩,rfl,rfl⟩
theorem lE.t{H:Hp}{a b:ao}{kvs:List (List Key×V)}{k:List Key}{ep:Nat}(e:H a=aa (.dT kvs ep))(eb:H b=aa (.tup (k.map kV))):lE H a (.ref b) (mD kvs k):=.inr ⟨kvs,k,b,⟨ep,.inl e⟩,rfl,eb,rfl⟩
theorem rA.k{H:Hp}{a:ao}{kvs:List (Key×V)}{k:Key}{v:V}{ep:Nat}(e:H a=aa (.dK kvs ep))(hl:kvs.length<bL):rA H a (kV k) v (λe=>upd H a (.dK (putK kvs k v) e)):=.inl ⟨kvs,k,⟨ep,e⟩,rfl,hl,rfl⟩
theorem rA.t{H:Hp}{a b:ao}{kvs:List (List Key×V)}{k:List Key}{v:V}{ep:Nat}(e:H a=aa (.dT kvs ep))(eb:H b=aa (.tup (k.map kV)))(hl:kvs.length<bL):
  rA H a (.ref b) v (λe=>upd H a (.dT (putK kvs k v) e)):=.inr ⟨kvs,k,b,⟨ep,e⟩,rfl,eb,hl,rfl⟩
section
variable{X:Cx}{pins:List (ao×Obj)}{σ:St}{H:Hp}{s:aA}{a:ao}{y v:V}{u r:Value}{o:Option V}{A:bV}{E:Value->aA->Prop}
theorem Inv.big(I:Inv X pins σ H s):lV<s.heap.objs.size:=by
 have h:fV<s.heap.objs.size:=(I.mod.glob.keeps I.bk).lt;exact xK (by decide) h
theorem agl{Q:Value->aA->Prop}(hu:A.units+1<dB)(I:Inv X pins σ H s)(g:lE H a y (aa v))(ry:RelV y u)(h:∀w' s',Inv X pins σ H s'->RelV v w'->Q w' s'):
  aH (model X.prog X.w) A (vH (.ref a) u) Q E s:=by
 rcases g with⟨kvs,k,e,ey,l⟩|⟨kvs,k,b,e,ey,eb,l⟩
 .subst ey
  obtain⟨z,hd,vs,rel,dd⟩:=vV I.hok e
  obtain⟨w',hw,rw'⟩:=pG.some_of (v:=v) (o:=z9 vs k) (by rw[l];exact rel.val k)
  exact wpAny_getItem_of (vR ry) dd.mapOf hw (h w' _ (I.tok _) rw')
 .subst ey
  cases(show u=cM b from ry)
  obtain⟨z,hd,xs,rel,dd⟩:=vW I.hok e
  obtain⟨w',hw,rw'⟩:=pG.some_of (v:=v) (o:=(vU xs k).map (·.2)) (by rw[l];exact rel.val k)
  obtain⟨p,hp,hp2⟩:=wX.mp hw
  refine wpAny_getItem_heap (Gq hu) (yc I.hok eb) dd hp ?_;rw[hp2];exact h w' _ (I.tok _) rw'
theorem abA{Q:Value->aA->Prop}(hu:A.units+1<dB)(I:Inv X pins σ H s)(g:lE H a y o)(ry:RelV y u)(h:∀s',Inv X pins σ H s'->Q (.bool o.isSome) s'):
  aH (model X.prog X.w) A (gb .In u (.ref a)) Q E s:=by
 rcases g with⟨kvs,k,e,ey,l⟩|⟨kvs,k,b,e,ey,eb,l⟩
 .subst ey
  obtain⟨z,hd,vs,rel,dd⟩:=vV I.hok e
  refine wpAny_in_of (vR ry) hd dd.mapOf ?_;rw[<-(rel.val k).CT,<-l];exact h _ (I.tok _)
 .subst ey
  cases(show u=cM b from ry)
  obtain⟨z,hd,xs,rel,dd⟩:=vW I.hok e
  refine wpAny_in_heap (Gq hu) (yc I.hok eb) hd dd ?_;have q:=(rel.val k).CT;rw[Va] at q;rw[<-q,<-l];exact h _ (I.tok _)
theorem Zm{Q:Value->aA->Prop}(hu:A.units+1<dB)(I:Inv X pins σ H s)(g:lE H a y o)(ry:RelV y u)(h:∀s',Inv X pins σ H s'->Q (.bool (!o.isSome)) s'):
  aH (model X.prog X.w) A (gb .NotIn u (.ref a)) Q E s:=by
 rcases g with⟨kvs,k,e,ey,l⟩|⟨kvs,k,b,e,ey,eb,l⟩
 .subst ey
  obtain⟨z,hd,vs,rel,dd⟩:=vV I.hok e
  refine wpAny_notIn_of (vR ry) hd dd.mapOf ?_;rw[<-(rel.val k).CT,<-l];exact h _ (I.tok _)
 .subst ey
  cases(show u=cM b from ry)
  obtain⟨z,hd,xs,rel,dd⟩:=vW I.hok e
  refine wpAny_notIn_heap (Gq hu) (yc I.hok eb) hd dd ?_;have q:=(rel.val k).CT;rw[Va] at q;rw[<-q,<-l];exact h _ (I.tok _)
theorem Dh{h':aU}{t':Nat}{ob:HO}(I:Inv X pins σ H s)(mu:Ff (H a))(hs:xG a s.heap h')(he:∃q,h'.get? a=aa q)(new:dN X.prog X.w (upd H a ob) h' a ob):
  Inv X pins σ (upd H a ob) {s with heap:=h',toks:=t'}:=
 I.write (x:=a) (e:=a) mu (.inl rfl) (λb q hb z=>(hs.2 b hb).trans z) he new
theorem Jx{P:bA}{w:bu}{H':Hp}{h':aU}{kvs:List (Key×V)}{vs:List (Key×Value)}(z:kvs.length<=bL)(hd:(a==lV)=aB){ep:Nat}(rel:KV kvs vs)(dd:h'.DictAt (fD P w) a vs ep):
  dN P w H' h' a (.dK kvs ep):=⟨z,hd,vs,rel,dd⟩
theorem Xj{H':Nat->Hp}{Q:Unit->aA->Prop}(hu:A.units+1<dB)(I:Inv X pins σ H s)(g:rA H a y v H')(ry:RelV y u)(rv:RelV v r)(h:∀e s',Inv X pins σ (H' e) s'->Q () s'):
  aH (model X.prog X.w) A (setItem (.ref a) u r) Q E s:=by
 rcases g with⟨kvs,k,⟨ep,e⟩,ey,l,eH⟩|⟨kvs,k,b,⟨ep,e⟩,ey,eb,l,eH⟩
 .subst ey eH
  obtain⟨z,hd,vs,rel,dd⟩:=aa4 I.hok e
  have hz:vs.length<=bL:=by rw[<-rel.length];exact z
  have hl:(putK kvs k v).length<=bL:=by have:=Nh kvs k v;lia
  refine wpAny_setItem_pairs (hsz:=hz) (vR ry) dd λh' rG hs=>?_
  obtain⟨ep',dd2⟩:=rG.dictAt
  refine h ep' _ ?_;have he:∃q,h'.get? a=aa q:=let ⟨q,_,_,hq,_⟩:=rG;⟨q,hq⟩
  exact Dh I (by rw[e];exact mU) hs he (Jx hl hd (rel.put k rv) dd2)
 .subst ey eH
  cases(show u=cM b from ry)
  obtain⟨z,hd,xs,rel,dd⟩:=alg I.hok e
  have hz:xs.length<=bL:=by rw[<-Paired.length rel];exact z
  have hl:(putK kvs k v).length<=bL:=by have:=Nh kvs k v;lia
  refine wpAny_setItem_heap (hsz:=hz) (Gq hu) (yc I.hok eb) dd λh' rG hs=>?_
  obtain⟨q,es,ep2,hq,h2,h3,h4,_,h5⟩:=rG
  refine h ep2 _ ?_;refine Dh I (by rw[e];exact mU) hs ⟨q,hq⟩ ⟨hl,hd,_,(rel.put k eb rv).keeps λc ys ec=>?_,q,es,hq,h2,h3,h4,h5⟩;rw[cI (Rx ec e (λz=>nomatch z))];exact ec
end
section
variable{X:Cx}{pins:List (ao×Obj)}{σ:St}{H:Hp}{s:aA}{a:ao}{kvs:List (Key×V)}{k:Key}{u:Value}{A:bV}{E:Value->aA->Prop}
theorem alh{Q:Value->aA->Prop}(I:Inv X pins σ H s)(e:yV H a kvs)(h:∀t s',Inv X pins σ H s'->Q (.int kvs.length t) s'):aH (model X.prog X.w) A (call (.builtin "len") [.ref a]) Q E s:=by
 obtain⟨z,hd,vs,rel,dd⟩:=vV I.hok e
 refine call_len_dict hd dd (by rw[<-rel.length];rw[jo] at z;lia) ?_;rw[<-rel.length];exact h _ _ (I.tok _)
end
theorem afd{X:Cx}{pins:List (ao×Obj)}{σ:St}{H:Hp}{s:aA}{a:ao}{y:V}{o:Option V}(I:Inv X pins σ H s)(g:lE H a y o):s.TypeIs (.ref a) "dict":=by
 rcases g with⟨kvs,k,e,_,_⟩|⟨kvs,k,b,e,_,_,_⟩
 .obtain⟨_,_,vs,_,dd⟩:=vV I.hok e
  exact dd.typeIs
 .obtain⟨_,_,xs,_,dd⟩:=vW I.hok e
  exact dd.typeIs
section
variable{X:Cx}{o i e value:Expr}{pos pos' tpos:Pos}{td ty tv:TE}
end
theorem Yg{P:bA}{w:bu}{H:Hp}(h:aU)(hb:lV<h.objs.size):dN P w H (h.push {cls:=.type "dict",data:=.dict #[]}) h.objs.size (.dK [] 0):=
 ⟨iI _,beq_eq_false_iff_ne.mpr (jr (cW hb)),[],.nil,_,#[],dI _ rfl,⟨rfl,rfl,rfl⟩,rfl,λi hi=>absurd hi (by simp),.nil,mQ⟩
def akh:TE:=λ_ H Q=>∀p,H p=aj->Q (.ref p) (upd H p (.dK [] 0))
section
variable{X:Cx}{pos:Pos}
theorem ahc:PE X (.Dict [] [] pos) akh:=λpins s σ H Q I h=>
 wpAny_Dict_empty ⟨.ref s.heap.objs.size,_,I.laid (a:=s.heap.objs.size) (o:=.dK [] 0) (t':=s.toks) (λ_ _ q=>bH _ q) (bK _) (Yg s.heap I.big),rfl,h _ (I.hok.fresh (bK _))⟩
end
structure M1(X:Cx)(o:Expr)(m:Str)(apos:Pos)(e:Expr)(cpos:Pos):Prop where
 base:G4 o m X.env (eval o X.env)=eval o X.env
 few:((gO cpos (bD [e] X.env)).all (λx=>!x.1)&&(Ib cpos (Hh [] X.env)).all (λx=>x.1.isSome)
  &&decide (([e]:List Expr).length+([]:List su).length+(if([]:List su).isEmpty then 0 else 1)<30))=aq
 line:(apos.endLine==cpos.line)=aq
 trees:gO cpos (bD [e] X.env)=[(aB,eval e X.env)]
structure M2(X:Cx)(o:Expr)(m:Str)(apos:Pos)(e f:Expr)(cpos:Pos):Prop where
 base:G4 o m X.env (eval o X.env)=eval o X.env
 few:((gO cpos (bD [e,f] X.env)).all (λx=>!x.1)&&(Ib cpos (Hh [] X.env)).all (λx=>x.1.isSome)
  &&decide (([e,f]:List Expr).length+([]:List su).length+(if([]:List su).isEmpty then 0 else 1)<30))=aq
 line:(apos.endLine==cpos.line)=aq
 trees:gO cpos (bD [e,f] X.env)=[(aB,eval e X.env),(aB,eval f X.env)]
def IsD(H:Hp)(a:ao):Prop:=(∃kvs,yV H a kvs)\/∃kvs,yW H a kvs
theorem aki{X:Cx}{pins:List (ao×Obj)}{σ:St}{H:Hp}{s:aA}{a:ao}(I:Inv X pins σ H s)(d:IsD H a):
  s.TypeIs (.ref a) "dict"/\(∀b,cM a=.ref b->∃ob,s.heap.get? b=aa ob/\ob.dict=aj)/\(a==lV)=aB:=by
 rcases d with⟨kvs,e⟩|⟨kvs,e⟩
 .obtain⟨_,hd,vs,_,dd⟩:=vV I.hok e
  refine⟨dd.typeIs,λb q=>?_,hd⟩
  cases q
  obtain⟨ob,_,_,h1,h2,_⟩:=dd
  exact⟨ob,h1,h2.2.1⟩
 .obtain⟨_,hd,xs,_,dd⟩:=vW I.hok e
  refine⟨dd.typeIs,λb q=>?_,hd⟩
  cases q
  obtain⟨ob,_,_,h1,h2,_⟩:=dd
  exact⟨ob,h1,h2.2.1⟩
section
variable{X:Cx}{pins:List (ao×Obj)}{σ:St}{H:Hp}{s:aA}{a:ao}{y d:V}{u r:Value}{o:Option V}{A:bV}{E:Value->aA->Prop}
theorem aat{Q:Value->aA->Prop}(hu:A.units+1<dB)(I:Inv X pins σ H s)(g:lE H a y o)(ry:RelV y u)(rd:RelV d r)(h:∀w' s',Inv X pins σ H s'->RelV (o.getD d) w'->Q w' s'):
  aH (model X.prog X.w) A (call (.builtin "dict.get") [.ref a,u,r]) Q E s:=by
 rcases g with⟨kvs,k,e,ey,l⟩|⟨kvs,k,b,e,ey,eb,l⟩
 .subst ey
  obtain⟨z,hd,vs,rel,dd⟩:=vV I.hok e
  refine Wg Ux dd.typeIs ac5 (ac0 _ _ _) (meets_dict_get_default (fD X.prog X.w) a (vR ry) hd r) ⟨_,dd.mapOf,h _ _ (I.tok _) ?_⟩;rw[l]
  exact(rel.val k).getD rd
 .subst ey
  cases(show u=cM b from ry)
  obtain⟨z,hd,xs,rel,dd⟩:=vW I.hok e
  refine Wg Ux dd.typeIs ac5 (ac0 _ _ _) (meetsH_dict_get_default (nM (fD X.prog X.w)) a b hd r) ⟨Gq hu,k,xs,yc I.hok eb,dd,h _ _ (I.tok _) ?_⟩;rw[l]
  exact(rel.val k).getD rd
end
section
variable{X:Cx}{o e f:Expr}{apos cpos:Pos}{td ty tx:TE}
end
section
variable{X:Cx}{pins:List (ao×Obj)}{σ:St}{H:Hp}{s:aA}{a:ao}{kvs:List (Key×V)}{A:bV}{E:Value->aA->Prop}
end
section
variable{X:Cx}{pins:List (ao×Obj)}{σ:St}{H:Hp}{s:aA}{a:ao}{y:V}{u:Value}{A:bV}{E:Value->aA->Prop}
end
end L2
namespace Att
open PySem PySem.W PySem.Calls PyProof.Rows
theorem aep{P:Params}{h:aU}:∀(ns:List Int)(vs:List Value),WellAll P h vs (ns.map WData.int)->IntsAre vs ns:=by
 intro ns;induction ns with
 |nil=>
  intro vs w;rw[pY] at w;cases w;exact .nil
 |cons n ns ih=>
  intro vs w;rw[cB] at w;cases w with
  |cons a b=>
   cases a;exact .cons _ _ (ih _ b)
theorem agm{l:OpenLaw}{n:Nat}(hn:l.most=aa n){P:Params}{h:aU}{args:List WData}{vals:List Value}
  (hpre:l.row.toRowW.claim.pre args=aq)(hwl:WellAll P h vals args):
  ∃a vs ns,vals=[cM a]/\args=[WData.list (ns.map WData.int)]/\h.get? a=aa {cls:=.type "list",data:=.seq vs.toArray}/\IntsAre vs ns/\ns.length<=n:=by
 have hsh:WShape.hasAll [] args [.list .int]=aq:=(pre_splitW hpre).1;have hc:l.pre.holds [] {args:=args}=aq:=(pre_splitW hpre).2
 obtain⟨d,r,rfl,h1,h2⟩:=hasAllW_cons hsh
 obtain rfl:=hasAllW_nil h2
 obtain⟨xs,rfl,h3⟩:=hasW_list h1
 obtain⟨ns,rfl⟩:=items_int h3
 have hlen:ns.length<=n:=by
  unfold OpenLaw.pre at hc;have h4:(WTm.not (.lt (.lit (.int (n:Int))) (.len (.arg 0)))).holds [] {args:=[.list (ns.map .int)]}=aq:=by
   have h4:=(holds_andW hc).1;rw[hn] at h4;exact h4
  have h5:=condW_of h4 (w_not (w_lt w_lit (w_len_list (w_arg rfl))));rw[bh] at h5;refine Nat.le_of_not_lt λq=>?_
  have q':(n:Int)<((ns.length:Nat):Int):=by lia
  first
   |(rw[fP q'] at h5;exact absurd h5 (by decide))
   |(simp at h5;lia)
 cases hwl with
 |cons w1 w2=>
  cases w2;cases w1 with
  |list ho hall=>exact⟨_,_,ns,rfl,rfl,ho,aep ns _ hall,hlen⟩
theorem agn(l:OpenLaw)(args:List WData):l.row.toRowW.claim.post args (.bool aq) args=aq:=
 postW_of (r:=l.row.toRowW) (X:=(aq==aq))
  (show WShape.has [] (.bool aq) .bool=aq by first|rfl|decide|simp[WShape.has,WShape.arms,WShape.armsAll])
  (show(WTm.eq .res (.lit (.bool aq))).value [] {args:=args,res:=aa (.bool aq),after:=args}=aa (.bool (aq==aq)) from w_eq_bool (w_res rfl) w_lit) rfl
theorem afe{l:OpenLaw}{n:Nat}{q:bA}{loose:List Str}{XP:(Str->Option Value)->aU->Prop}{YP:bu->aU->Prop}{d:DefRec}
  (hn:l.most=aa n)(hdf:d.params.defaults=[])
  (call:∀(w:bu)(s₀ s₁:aA)(mg mb:Str->Option Value)(fa:ao)(o:Obj)(pm cd doc:Value)(a:ao)(vs:List Value)(ns:List Int),
   Ground q loose [] XP w s₀ mg mb s₁.heap->YP w s₁.heap->
   s₁.heap.get? fa=aa o->o.data=.func (docDef d.name d.params d.body d.scope pm cd doc)->s₁.heap.CodeRec cd d.name->mg d.name=aa (.ref fa)->
   s₁.heap.get? a=aa {cls:=.type "list",data:=.seq vs.toArray}->IntsAre vs ns->ns.length<=n->s₁.gens=#[]->
   j9 (model l.prog w) Aa (.call (.ref fa) ⟨[.ref a],[]⟩) (λr s'=>r=.ok (.ret (.bool aq))/\OldK s₁.heap s'.heap/\s'.os=s₁.os/\AllBare s'.gens) s₁):
  WalkO q loose XP YP l.row.toRowW d [] (λf vs=>WW f vs):=by
 intro w s₀ s₁ mg mb G Y fa o pm cd doc dV kV ho hd hcd hD hmg hg args vals as hpre hlay hrd hwl hlo;obtain rfl:dV=.none:=Dflts.none hD hdf;obtain rfl:kV=.none:=Dflts.noKw hD
 obtain⟨a,vs,ns,rfl,rfl,hobj,hints,hlen⟩:=agm hn hpre hwl
 refine enter_call (zJ (call w s₀ s₁ mg mb fa o pm cd doc a vs ns G Y ho (fd_plain hd) hcd hmg hobj hints hlen hg) λr s' hq=>?_)
 obtain⟨rfl,h2,h3,h4⟩:=hq
 exact⟨.inl ⟨.bool aq,.bool aq,[],rfl,λ_=>rfl,.bool aq,agn l _,λ_=>⟨BX,λ_ hm=>(nomatch hm)⟩⟩,h2,h3,h4⟩
section
variable{prog:bA}{w:bu}{A:bV}{E:Value->aA->Prop}{s:aA}{K:Frag}
def ledger(h:aU)(L d:ao):List (ao×Obj):=(dX h.objs.size).filterMap λa=>if a=L\/a=d then aj else(h.get? a).map λo=>(a,o)
end
end Att
namespace L2
open PySem PySem.Spec PyProof.Rows
theorem HQ:∀{vs:List Value}{ns:List Int},IntsAre vs ns->Vals (ns.map V.int) vs
 |_,_,.nil=>.nil
 |_,_,.cons n t h=>.cons ⟨t,rfl⟩ (HQ h)
def Only(H:Hp):Prop:=∀b,H b=aj\/∃o xs,H b=aa (.kJ o (.lst xs))
theorem ahd{P:bA}{w:bu}{K:aF}{mg mb:Str->Option Value}{CX:pO}{k:Nat}{fa a:ao}{fd:fB}{x:Str}{sp:Sp}{s₁:aA}{vs:List Value}{ns:List Int}
  (KX:K.In s₁.heap)(hns:s₁.heap.Ns fV mg)(hb:s₁.heap.Ns builtinsNs mb)(hbb:∀x:Str,x≠"__name__"->mb x=rR x)(hlim:s₁.heap.NoLimit)(hg:s₁.gens=#[])
  (ha:s₁.heap.get? a=aa {cls:=.type "list",data:=.seq vs.toArray})(hi:IntsAre vs ns)(hl:ns.length<=bL)(hr:gC k Aa)
  (F:∀base:aU,K.In base->base.Ns fV mg->eX P w K mg base CX k fa fd [x] sp)(hbind:∀(s:aA)(u:Value),xW s fd ⟨[u],[]⟩ [(x,u)])
  (hsp:∀H:Hp,Only H->bG K H a (ns.map V.int)->sp [.ref a] H (λv _=>v=.bl aq) λ_ _ _=>False)
  (Tj:∀H e s',CX [] H s₁ (λ_ _ _=>False) e s'->False):
  j9 (model P w) Aa (.call (.ref fa) ⟨[.ref a],[]⟩) (λr s'=>r=.ok (.ret (.bool aq))/\OldK s₁.heap s'.heap/\s'.os=s₁.os/\AllBare s'.gens) s₁:=by
 have rv:=HQ hi;have lenV:=hi.length;have core:∀H:Hp,Only H->bG K H a (ns.map V.int)->gm P w H s₁.heap->(∀b,H b≠aj->b=a)->(H a≠aj->K.lookup a=aj)->
   j9 (model P w) Aa (.call (.ref fa) ⟨[.ref a],[]⟩) (λr s'=>r=.ok (.ret (.bool aq))/\OldK s₁.heap s'.heap/\s'.os=s₁.os/\AllBare s'.gens) s₁:=by
  intro H hO hS hok hA hK;have Zn:∀{b:ao}{o:Obj},s₁.heap.get? b=aa o->H b=aj->(uC s₁.heap H).get? b=aa o:=λe n=>ag3 e n
  have Fp:∀{b:ao}{o:Obj}{es:Array xN}{ep:Nat},s₁.heap.get? b=aa o->o.data=.dict es ep->H b=aj:=λ{b o es ep} e d=>by
   cases q:H b with
   |none=>rfl
   |some u=>
    have e':b=a:=hA b (by rw[q];simp);subst e';rw[ha] at e;cases e;have d':Yh vs.toArray _=Data.dict es ep:=d;cases d'
  have KY:∀{b:ao}{m:Str->Option Value},s₁.heap.Ns b m->(uC s₁.heap H).Ns b m:=λ{b m} ⟨o,es,ep,e,d,r⟩=>⟨o,es,ep,Zn e (Fp e d),d,r⟩
  have hKb:K.In (uC s₁.heap H):=λb o e=>Zn (KX b o e) (by
   cases q:H b with
   |none=>rfl
   |some u=>
    have e':b=a:=hA b (by rw[q];simp);subst e';rw[hK (by rw[q];simp)] at e;cases e)
  have hM:Mod K mg (uC s₁.heap H):=⟨hKb,KY hns,⟨mb,KY hb,hbb⟩,let ⟨mc,h1,h2⟩:=hlim;⟨mc,KY h1,h2⟩⟩
  have e0:yG P w K mg (uC s₁.heap H) Aa [] s₁ H:=⟨rfl,hM,λb o e=>ah9 e,Wc (agb _ _),trivial,λb hb=>absurd (show b∈([]:List ao) from hb) (by simp),hok,.of_eq hg⟩
  refine zJ ((F _ hKb (KY hns)).run Aa [] s₁ H ⟨[.ref a],[]⟩ [.ref a] [.ref a] _ _ hr e0 (hbind s₁ (.ref a)) (.cons rfl .nil) (hsp H hO hS)) λr s' h=>?_
  cases r with
  |error e=>exact(Tj H e s' h).elim
  |ok fl=>
   cases fl with
   |next=>exact qO h
   |brk=>exact qO h
   |cont=>exact qO h
   |ret u=>
    obtain⟨v,H',os,bare,un,hok',r',q⟩:=h
    have q':v=.bl aq:=q;subst q';obtain rfl:u=qN aq:=r'
    refine⟨rfl,OldK.of_keep λb o e=>?_,os,bare⟩
    cases q:H b with
    |none=>exact un.keep b o e q (by intro z;exact absurd (show b∈([]:List ao) from z) (by simp)) (by simp)
    |some u=>
     rcases hO b with z|⟨ob,xs,z⟩
     .rw[q] at z;cases z
     .have z2:=un.pH b ob _ z
      obtain⟨e1,_⟩:=hok b _ z
      obtain⟨e2,_⟩:=hok' b _ z2
      rw[e] at e1;cases e1;exact e2
 cases hk:K.lookup a with
 |some o=>
  have e:=KX a o hk;rw[ha] at e;cases e;refine core (λ_=>aj) (λ_=>.inl rfl) (.inr ⟨_,vs.toArray,_,hk,rfl,rfl,rfl,by rw[fj,lenV];exact hl,by simpa using rv⟩) (λb u z=>by have z':(aj:Option HO)=aa u:=z;cases z') (λb z=>absurd rfl z) λz=>absurd rfl z
 |none=>
  refine core (λb=>if b=a then aa (.kJ {cls:=.type "list",data:=.seq vs.toArray} (.lst (ns.map V.int))) else aj) (λb=>?_) (.inl (.inr ⟨{cls:=.type "list",data:=.seq vs.toArray},aY rfl⟩)) (λb u z=>?_) (λb z=>?_) λ_=>hk
  .by_cases hb:b=a
   .exact .inr ⟨_,_,aY hb⟩
   .exact .inl (bw hb)
  .by_cases hb:b=a
   .have z':=(aY hb).symm.trans z;cases z';subst hb
    exact⟨ha,by rw[bh];exact hl,vs,_,rv,ha⟩
   .have z':=(bw hb).symm.trans z;cases z'
  .by_cases hb:b=a
   .exact hb
   .exact absurd (bw hb) z
theorem aiq{l:Vx}{n k:Nat}{q:bA}{loose:List Str}{XP:(Str->Option Value)->aU->Prop}{YP:bu->aU->Prop}{d:DefRec}{K:Params->aF}{CX:bu->pO}{sp:bu->Sp}{x:Str}
  (hn:l.most=aa n)(hn2:n<=bL)(hdf:d.params.defaults=[])(hr:gC k Aa)
  (hY:∀(w:bu)(h:aU),YP w h->(K w.params).In h)
  (F:∀(w:bu)(mg:Str->Option Value)(fa:ao)(h:aU),(K w.params).In h->h.Ns fV mg->mg d.name=aa (.ref fa)->
   ∃fd:fB,(∀(s:aA)(u:Value),xW s fd ⟨[u],[]⟩ [(x,u)])/\
    ∀base:aU,(K w.params).In base->base.Ns fV mg->eX l.prog w (K w.params) mg base (CX w) k fa fd [x] (sp w))
  (hsp:∀(w:bu)(H:Hp)(a:ao)(ns:List Int),ns.length<=n->Only H->bG (K w.params) H a (ns.map V.int)->sp w [.ref a] H (λv _=>v=.bl aq) λ_ _ _=>False)
  (Tj:∀(w:bu)(H:Hp)(s:aA)(e:Value)(s':aA),CX w [] H s (λ_ _ _=>False) e s'->False):
  aeI q loose XP YP l.row.toRowW d [] (λf vs=>WW f vs):=by
 refine Att.afe hn hdf λw s₀ s₁ mg mb fa o pm cd doc a vs ns G Y ho hd hcd hmg hobj hints hlen hg=>?_
 have KX:=hY w _ Y
 obtain⟨fd,hb,hF⟩:=F w mg fa _ KX G.T.g hmg
 exact ahd KX G.T.g G.T.b G.T.builtins G.T.nolimit hg hobj hints (ir hlen hn2) hr hF hb (λH hO hS=>hsp w H a ns hlen hO hS) λH e s'=>Tj w H s₁ e s'
def Ab(s:dZ):Arguments:=match s with
 |.FunctionDef _ a _ _ _ _ _ _ _ _=>a
 |_=>{posonlyargs:=[],args:=[],vararg:=aj,kwonlyargs:=[],kw_defaults:=[],kwarg:=aj,defaults:=[]}
def vI(s:dZ):List dZ:=match s with
 |.FunctionDef _ _ b _ _ _ _ _ _ _=>b
 |_=>[]
def dz(s:dZ):jF:=match s with
 |.FunctionDef _ _ _ _ _ _ sc _ _ _=>sc
 |_=>{kind:=.function,names:=[],isGenerator:=aB,isCoroutine:=aB}
abbrev gF:pO:=λ_ _ _ _ _ _=>False
abbrev E0:XK:=λ_ _ _=>False
theorem ali{X:Cx}:Passes gF X E0:=λ_ _ _ _ _ _ _ h=>h.elim
structure iH(K:aF)(x qual:Str)(st:dZ)(f:ao)(fd:fB):Prop where
 ex:∃(oc:Value)(od:Option ao)(kV doc pm:Value)(an:Option ao)(cdv ct:Value)(osl:Array (Option Value)),
  fd=xH x qual (Ab st) (vI st) (dz st) .none kV doc pm an cdv ct/\K.lookup f=aa ⟨oc,od,.func fd,osl⟩/\MF K cdv qual=aq
 kp:vh K (.ref f)=aq
section
variable{P:bA}{w:bu}{K:aF}{mg:Str->Option Value}{base:aU}
theorem iH.ok{x qual:Str}{st:dZ}{f:ao}{fd:fB}{N ps:List Str}{k:Nat}{sp:Sp}(F:iH K x qual st f fd)(S:jP N ps (dz st))(len:∀vs H Q E,sp vs H Q E->vs.length=ps.length)
  (hbody:∀(cdv:Value)(A:bV)(outer:List Env)(s:aA)(H:Hp)(vs:List V)(Q:VK)(E:XK),gC k (A.deeper (envOfC qual (dz st) s.heap.objs.size f cdv))->sp vs H Q E->
   ∃t,iR (yH gF P w K mg base N qual (dz st) f cdv A outer s H E).uN (vI st) t/\t {nx:=λ_ H'=>Q .non H',rt:=Q} (start N vs) H):eX P w K mg base gF (k+1) f fd ps sp:=by
 obtain⟨oc,od,kV,doc,pm,an,cdv,ct,osl,rfl,lk,hcd⟩:=F.ex
 refine ale lk hcd S len λA outer s H vs Q E hr hsp=>?_
 obtain⟨t,h,q⟩:=hbody cdv A outer s H vs Q E hr hsp
 exact⟨t,h.uN,q⟩
theorem iH.binds{x qual:Str}{st:dZ}{f:ao}{fd:fB}{ps:List Str}(F:iH K x qual st f fd)
  (h:∀(kV doc pm:Value)(an:Option ao)(cdv ct:Value)(us:List Value),us.length=ps.length->bindArgs (xH x qual (Ab st) (vI st) (dz st) .none kV doc pm an cdv ct) ⟨us,[]⟩=pure (ps.zip us)):Binds K fd ps []:=by
 obtain⟨oc,od,kV,doc,pm,an,cdv,ct,osl,rfl,lk,hcd⟩:=F.ex
 exact .all (h kV doc pm an cdv ct)
theorem QT{x qual:Str}{st:dZ}{f:ao}{oc:Value}{od an:Option ao}{osl:Array (Option Value)}{kV doc pm cdv ct:Value}(l:K.lookup f=aa ⟨oc,od,.func (xH x qual (Ab st) (vI st) (dz st) .none kV doc pm an cdv ct),osl⟩)
  (c:MF K cdv qual=aq)(k:vh K (.ref f)=aq):iH K x qual st f (xH x qual (Ab st) (vI st) (dz st) .none kV doc pm an cdv ct):=⟨⟨oc,od,kV,doc,pm,an,cdv,ct,osl,rfl,l,c⟩,k⟩
end
section
variable{X:Cx}
theorem pv(i:Nat){x:Str}{pos:Pos}(hN:X.N[i]?=aa x:=by rfl)(hv:S9 X.env.scope x:=by first|exact di rfl|exact sU (di rfl)|exact sU (sU rfl))(hd:(x==("__debug__":Str))=aB:=by decide)
  (hcd:(x==("__classdict__":Str))=aB:=by decide):PE X (.Name x pos) (tK i):=ajV hN hv hd hcd
end
theorem yI{A B:Prop}(h:B):if aB=aq then A else B:=by
 rw[bw gr];exact h
theorem yJ{A B:Prop}(h:A):if aq=aq then A else B:=by
 rw[aY rfl];exact h
def bC(H H':Hp):Prop:=∀b o,H b=aa o->H' b=aa o
theorem bC.refl(H:Hp):bC H H:=λ_ _ h=>h
theorem bC.trans{H H1 H2:Hp}(a:bC H H1)(b:bC H1 H2):bC H H2:=λc o h=>b c o (a c o h)
theorem bC.free{H H':Hp}(e:bC H H'){l:ao}(h:H' l=mR):H l=mR:=by
 cases q:H l with
 |none=>rfl
 |some o=>
  rw[e l o q] at h;cases h
theorem bC.seq{K:aF}{H H':Hp}{a:ao}{xs:List V}(e:bC H H')(h:bG K H a xs):bG K H' a xs:=by
 rcases h with(h|⟨o,h⟩)|h
 .exact .inl (.inl (e _ _ h))
 .exact .inl (.inr ⟨o,e _ _ h⟩)
 .exact .inr h
section
variable{X:Cx}
theorem ago:fO X (.builtin "len") (λxs H Q=>∃a kvs,xs=[V.ref a]/\yV H a kvs/\Q (.int kvs.length) H):=by
 intro pins s σ H xs us Q I r h
 obtain⟨a,kvs,rfl,ha,q⟩:=h
 obtain⟨u,rfl,ru⟩:=vals1 r
 cases ru;exact alh I ha λt s' I'=>⟨.int kvs.length,H,I',⟨t,rfl⟩,q⟩
end
section
variable{κ:Type}[DecidableEq κ]
end
def Cx.blk(X:Cx)(N:List Str)(scope:jF)(cl:List (Str×ao))(C:ao)(s:aA)(H:Hp)(fp:List ao):Cx:=
 {X with N:=N,s₀:=s,H₀:=H,env:=compEnvC scope cl C X.env,outer:=X.stack,ex:=fp,fn:=λ_=>aB,pn:=[],xe:=λ_ _=>False}
theorem Ni(f:Str×zU->List (Str×ao)->Sem (ForInStep (List (Str×ao))))
  (hf:∀n k r,f (n,k) r=if k==oK then(do let c <-cellOf env n;pure (.yield ((n,c)::r))) else pure (.yield r)):
  ∀(names:List (Str×zU))(cs:List (Str×ao)),(∀y∈names,y.2=.free->∃c,env.cells.lookup y.1=aa c)->(∀n c,cs.lookup n=aa c->env.cells.lookup n=aa c)->
   ∃cl,(forIn names cs f:Sem (List (Str×ao)))=pure cl/\(∀n c,cl.lookup n=aa c->env.cells.lookup n=aa c)/\
    ∀n,((∃c,cs.lookup n=aa c)\/∃y∈names,y.1=n/\y.2=.free)->∃c,cl.lookup n=aa c
 |[],cs,_,h2=>⟨cs,rfl,h2,λn h=>h.elim id λ⟨_,hy,_⟩=>nomatch hy⟩
 |(n,k)::r,cs,h1,h2=>by
  rw[Vy,hf];by_cases hk:k=.free
  .subst hk
   obtain⟨c,hc⟩:=h1 (n,.free) cV rfl
   have hc':env.cells.lookup n=aa c:=hc;have e:cellOf env n=pure c:=by unfold cellOf;rw[hc']
   obtain⟨cl,q1,q2,q3⟩:=Ni f hf r ((n,c)::cs) (λy hy=>h1 y (dg _ hy)) (λm d hm=>by
    rw[zp] at hm;by_cases hb:(m==n)=aq
    .rw[hb] at hm;have:=eq_of_beq hb;subst this;cases hm;exact hc'
    .rw[ad9] at hb;rw[hb] at hm;exact h2 m d hm)
   refine⟨cl,?_,q2,λm hm=>q3 m ?_⟩
   .rw[aY (show(oK==oK)=aq from rfl),e];simp only[pure_bind];exact q1
   .by_cases hb:m=n
    .subst hb;exact .inl ⟨c,by simp[zp]⟩
    .rcases hm with⟨d,hm⟩|⟨y,hy,e1,e2⟩
     .refine .inl ⟨d,?_⟩;rw[zp,beq_eq_false_iff_ne.mpr hb];exact hm
     .rcases bI.mp hy with rfl|hy
      .exact absurd e1.symm hb
      .exact .inr ⟨y,hy,e1,e2⟩
  .have hb:(k==oK)=aB:=beq_eq_false_iff_ne.mpr hk
   obtain⟨cl,q1,q2,q3⟩:=Ni f hf r cs (λy hy=>h1 y (dg _ hy)) h2
   refine⟨cl,?_,q2,λm hm=>q3 m ?_⟩
   .rw[hb];simp only[oF,if_false,pure_bind];exact q1
   .rcases hm with hm|⟨y,hy,e1,e2⟩
    .exact .inl hm
    .rcases bI.mp hy with rfl|hy
     .exact absurd e2 hk
     .exact .inr ⟨y,hy,e1,e2⟩
theorem Nv(h1:∀y∈scope.names,y.2=.free->∃c,env.cells.lookup y.1=aa c):
  ∃cl,closureFor scope env=pure cl/\(∀n c,cl.lookup n=aa c->env.cells.lookup n=aa c)/\∀y∈scope.names,y.2=.free->∃c,cl.lookup y.1=aa c:=by
 unfold closureFor
 obtain⟨cl,q1,q2,q3⟩:=Ni (env:=env) (λx r=>if(x.2==oK)=aq then(do let c <-cellOf env x.1;pure (.yield ((x.1,c)::r))) else pure (.yield r)) (λn k r=>rfl) scope.names [] h1 (λn c h=>by simp at h)
 have q:=congrArg (λt:Sem (List (Str×ao))=>t >>= λcs=>pure cs) q1;simp only[pure_bind] at q
 exact⟨cl,q,q2,λy hy e=>q3 y.1 (.inr ⟨y,hy,rfl,e⟩)⟩
theorem Wh{scope:jF}{env:Env}{x:Str}:∀{names:List (Str×zU)},
  (names.map λ(n,k)=>if(k==oK&&env.scope.kind==.function&&env.kindOf n==aa .cell) then(n,MP) else(n,k)).lookup x=
   (names.lookup x).map λk=>if(k==oK&&env.scope.kind==.function&&env.kindOf x==aa .cell) then MP else k
 |[]=>rfl
 |(n,k)::r=>by
  have ih:=@Wh scope env x r;show List.lookup x ((if(k==oK&&env.scope.kind==.function&&env.kindOf n==aa .cell)=aq then(n,MP) else(n,k))::_)=_;cases hx:x==n with
  |true=>
   have e:=eq_of_beq hx;subst e;by_cases hc:(k==oK&&env.scope.kind==.function&&env.kindOf x==aa .cell)=aq
   .rw[aY hc];simp only[zp,beq_self_eq_true,jA,hc,if_true]
   .rw[bw hc];simp only[zp,beq_self_eq_true,jA,hc,if_false];rfl
  |false=>
   by_cases hc:(k==oK&&env.scope.kind==.function&&env.kindOf n==aa .cell)=aq
   .rw[aY hc];simp only[zp,hx];exact ih
   .rw[bw hc];simp only[zp,hx];exact ih
def frees(js:List Nat)(σ:St):St:=js.map λj=>(σ[j]?).join
section
variable{X:Cx}{pins:List (ao×Obj)}{σ:St}{H:Hp}{s s1:aA}{NT NF:List Str}{js:List Nat}{scope:jF}{cl:List (Str×ao)}{fp:List ao}
structure tD(X:Cx)(NT NF:List Str)(js:List Nat)(scope:jF):Prop where
 kind:scope.kind=.function
 names:∀y∈scope.names,y.2=.local->scope.names.lookup y.1=aa .local
 cell:∀y∈scope.names,y.2≠.cell
 free:∀y∈scope.names,y.2=.free->X.env.scope.names.lookup y.1=aa .cell\/X.env.scope.names.lookup y.1=aa .free
 len:js.length=NF.length
 fr:∀(k:Nat)(j:Nat)(x:Str),js[k]?=aa j->NF[k]?=aa x->X.N[j]?=aa x/\scope.names.lookup x=aa .free
 tg:∀x∈NT,scope.names.lookup x=aa .local
 nd:(NT++NF).Nodup
theorem Inv.blk(I:Inv X pins σ H s)(B:tD X NT NF js scope)(q2:∀n c,cl.lookup n=aa c->X.env.cells.lookup n=aa c)(q3:∀y∈scope.names,y.2=.free->∃c,cl.lookup y.1=aa c)
  (hf:∀b∈fp,jG X pins H b)(hlt:∀b∈fp,b<s.heap.objs.size){m:Str->Option Value}(hns:s1.heap.Ns s.heap.objs.size m)(keep:∀b o,s.heap.get? b=aa o->s1.heap.get? b=aa o)
  (hos:s1.os=s.os)(hg:AllBare s1.gens):
  Inv (X.blk (NT++NF) scope cl s.heap.objs.size s H fp) [] (cC NT.length aj++frees js σ) H s1:=by
 have look:∀x,(X.blk (NT++NF) scope cl s.heap.objs.size s H fp).env.kindOf x=(scope.names.lookup x).map λk=>if(k==oK&&X.env.scope.kind==.function&&X.env.kindOf x==aa .cell) then MP else k:=λx=>Wh (scope:=scope)
 have akj:∀x,((X.blk (NT++NF) scope cl s.heap.objs.size s H fp).env.kindOf x=aa .cell\/(X.blk (NT++NF) scope cl s.heap.objs.size s H fp).env.kindOf x=aa .free)->scope.names.lookup x=aa .free:=λx h=>by
  rw[look] at h;cases e:scope.names.lookup x with
  |none=>rw[e] at h;simp at h
  |some k=>
   rw[e] at h;by_cases hk:k=.free
   .rw[hk]
   .have hb:(k==oK)=aB:=beq_eq_false_iff_ne.mpr hk;simp only[jA,hb,VL,oF,if_false,Mh] at h;rcases h with h|h
    .subst h;exact absurd rfl (B.cell _ (u5 e))
    .exact absurd h hk
 have ltC:∀c x,X.env.cells.lookup x=aa c->c<s.heap.objs.size:=λc x e=>by
  obtain⟨v,q⟩:=I.cell x c e
  exact q.lt
 refine⟨⟨I.ok.mod,B.kind,I.ok.glob,I.ok.blt,bK _,λx y c h1 h2=>I.ok.inj x y c (q2 x c h1) (q2 y c h2),λx hx=>?_,λx c h _=>(nomatch(show aB=aq from h)),I.ok.hd,I.ok.frames,.inl rfl,λb hb=>⟨cW (hlt b hb),λx c e=>(hf b hb).2.2.2.2.1 x c (q2 x c e)⟩,I.bs,ir I.ok.tR I.sz,λb o e hb=>?_,λb hb hb2=>?_,I.stack,I.Ze⟩,
  hos,hg,Un.kept keep,⟨m,hns,λi x v h1 h2 h3=>?_⟩,λx c e=>?_,I.hok.fresh (bK _),λx c e=>I.qU x c (q2 x c e),λp hp=>(nomatch(show p∈([]:List (ao×Obj)) from hp)),I.hok.kept keep,?_⟩
 .exact q3 _ (u5 (akj x hx)) rfl
 .rcases(hf b hb).2.2.2.1 with z|z
  .exact I.ok.Es b o e z
  .exact absurd (lN (bO e) (ir I.ok.tR z)) (zE _)
 .obtain⟨_,f1,f2,_⟩:=hf b hb
  rcases bI.mp (I.Dq b hb2) with z|z
  .exact f1 z
  .exact f2 z
 .have h1':(NT++NF)[i]?=aa x:=h1;by_cases hi:i<NT.length
  .rw[ou (by simpa using hi),Us] at h2;split at h2<;>cases h2
  .have hi':NT.length<=i:=by lia
   rw[oh (by simpa using hi')] at h2;rw[oh hi'] at h1';simp only[Gi] at h2;unfold frees at h2;rw[ie] at h2;cases ej:js[i-NT.length]? with
   |none=>rw[ej] at h2;cases h2
   |some j=>
    rw[ej] at h2;have h2':(σ[j]?).join=aa v:=by simpa using h2
    obtain⟨g1,g2⟩:=B.fr _ j x ej h1'
    have hj:σ[j]?=aa (aa v):=by
     cases e:σ[j]? with
     |none=>rw[e] at h2';cases h2'
     |some o=>rw[e] at h2';simp at h2';rw[h2']
    have hk:=B.free _ (u5 g2) rfl;have hk':X.env.scope.names.lookup x=aa .cell\/X.env.scope.names.lookup x=aa .free:=hk
    obtain⟨m0,hn0,hl0⟩:=I.loc
    obtain⟨u,r,l⟩:=hl0 j x v g1 hj (.inr hk')
    refine⟨u,r,.inr ⟨?_,?_⟩⟩
    .rw[look,g2];by_cases hc:(oK==oK&&X.env.scope.kind==.function&&X.env.kindOf x==aa .cell)=aq
     .left;simp only[jA,hc,if_true]
     .right;simp only[jA,hc,if_false];rfl
    .rcases l with⟨k0,_⟩|⟨_,c,e,z⟩
     .have k0':X.env.scope.names.lookup x=aa .local:=k0;rcases hk' with z|z<;>rw[z] at k0'<;>cases k0'
     .obtain⟨c',hc'⟩:=q3 _ (u5 g2) rfl
      have hc2:cl.lookup x=aa c':=hc';have e2:=q2 x c' hc2;rw[e] at e2;cases e2
      obtain⟨o,ho,hd⟩:=z
      exact⟨c,hc2,o,keep c o ho,hd⟩
 .obtain⟨v,o,ho,hd⟩:=I.cell x c (q2 x c e)
  exact⟨v,o,keep c o ho,hd⟩
 .show(cC NT.length aj++frees js σ).length=(NT++NF).length
  unfold frees;simp[B.len]
theorem Inv.aa5(I:Inv X pins σ H s)(hf:∀b∈fp,jG X pins H b)(J:Inv (X.blk N scope cl s.heap.objs.size s H fp) Ry σ' H' s'):Inv X pins σ H' s':=
 I.call' J.os J.base J.hok J.bare λb hb=>⟨(hf b hb).2.2.2.1,(hf b hb).2.1,(hf b hb).2.2.2.2.1,(hf b hb).2.2.2.2.2⟩
end
theorem air(a:List α)(x y:α)(b:List α)(h:a.length=n):(a++x::b).set n y=a++y::b:=by
 subst h;rw[List.set_append_right _ _ (bK _),Wi];rfl
inductive gR where
 |one|many (n:Nat)
def wH(K:aF):gR->V->Hp->List V->Prop
 |.one,x,_,vs=>vs=[x]
 |.many n,x,H,vs=>∃a,x=.ref a/\bW K H a vs/\vs.length=n
def isNm(e:Expr)(x:Str):Prop:=∃pos,e=.Name x pos
def rB(tg:Expr)(NT:List Str):gR->Prop
 |.one=>∃x,isNm tg x/\NT=[x]
 |.many n=>∃es k pos,tg=.Tuple es k pos/\Paired isNm es NT/\NT.length=n
theorem WX:∀{es:List Expr}{NT:List Str},Paired isNm es NT->rU es env=es.map λe=>(aB,assign e env)
 |_,_,.nil=>rfl
 |_,_,.cons ⟨pos,e⟩ t=>by
  subst e
  show(aB,assign _ env)::rU _ env=_
  rw[WX t];rfl
section
variable{X:Cx}{pins:List (ao×Obj)}{H:Hp}{E:Value->aA->Prop}
theorem agp(p:Paired isNm es NT):∀{pre NF:List Str}{σp fs:St}{s:aA}{vs:List V}{us:List Value}{Q:Unit->aA->Prop},
  X.N=pre++NT++NF->X.N.Nodup->(∀x∈NT,X.env.scope.names.lookup x=aa .local)->σp.length=pre.length->vs.length=NT.length->
  Inv X pins (σp++(cC NT.length aj++fs)) H s->Vals vs us->(∀s',Inv X pins (σp++(vs.map aa++fs)) H s'->Q () s')->
  aH (model X.prog X.w) X.A (Cr (es.map λe=>assign e X.env) us) Q E s:=by
 induction p with
 |nil=>
  intro pre NF σp fs s vs us Q hN nd hl hp hv I r q;cases vs with
  |cons _ _=>simp at hv
  |nil=>
   cases r;exact assignInOrder_nil (q s I)
 |@cons e x es NT he t ih=>
  intro pre NF σp fs s vs us Q hN nd hl hp hv I r q;cases vs with
  |nil=>simp at hv
  |cons v vs=>
   cases r with
   |cons r rr=>
    obtain⟨pos,rfl⟩:=he
    have hx:=hl x cV;have hi:X.N[pre.length]?=aa x:=by
     rw[hN,oG,oh (bK _)];simp
    refine assignInOrder_cons (Gu (um I nd hi (.inl hx) r (λs' I'=>?_) (.inr hx)));have e1:(σp++(cC (x::NT).length aj++fs)).set pre.length (aa v)=(σp++[aa v])++(cC NT.length aj++fs):=by
     exact(air σp aj (aa v) (cC NT.length aj++fs) hp).trans (List.append_cons σp (aa v) (cC NT.length aj++fs))
    rw[e1] at I';refine ih (pre:=pre++[x]) (NF:=NF) (σp:=σp++[aa v]) (by rw[hN];simp) nd (λy hy=>hl y (dg _ hy)) (by simp[hp]) (by simpa using hv) I' rr λs2 I2=>q s2 ?_
    have e2:σp++[aa v]++(vs.map aa++fs)=σp++((v::vs).map aa++fs):=by simp
    rw[e2] at I2;exact I2
theorem akk(tk:rB tg NT T)(hN:X.N=NT++NF)(nd:X.N.Nodup)(hc:X.calm=aq)
  (hl:∀x∈NT,X.env.scope.names.lookup x=aa .local)(I:Inv X pins (cC NT.length aj++fs) H s)(r:RelV v u)(hv:wH X.K T v H vs)
  (q:∀s',Inv X pins (vs.map aa++fs) H s'->Q () s'):aH (model X.prog X.w) X.A (assign tg X.env u) Q E s:=by
 cases T with
 |one=>
  obtain⟨x,⟨pos,rfl⟩,rfl⟩:=tk
  have hv':vs=[v]:=hv;subst hv';have hx:=hl x cV;exact Gu (um I nd (i:=0) (by rw[hN];rfl) (.inl hx) r (λs' I'=>q s' I') (.inr hx))
 |many n=>
  obtain⟨es,k,pos,rfl,p,hn⟩:=tk
  obtain⟨a,rfl,hq,hlen⟩:=hv
  cases r
  obtain⟨its,rv,ht,hz⟩:=I.tuple hq
  have e:=WX (env:=X.env) p;have hpl:=p.length;refine assign_Tuple_tuple (I.ok.hd hc) ht (by rw[e];simp only[bh,fj];rw[<-rv.length];lia) (by rw[e];simp) λh' hx=>?_
  have I1:Inv X pins (cC NT.length aj++fs) H {s with heap:=h'}:=I.kept (t':=s.toks) λb o e=>hx b o (cW (bO e)) e
  rw[e,gM];exact agp p (pre:=[]) (σp:=[]) (by rw[hN];rfl) nd hl rfl (by lia) I1 (by simpa using rv) q
end
def turnOf(target iter:Expr)(ifs:List Expr)(it:Value)(env:Env)(emit:Sem Unit)(more:Sem PySem.Fin):Sem PySem.Fin:=do
 zZ iter.pos
 match <-gZ it with
 |none=>pure (.done .next)
 |some v=>
  xm target it v
  assign target env v
  let mut ok:=aq
  for c in ifs do
   if ok then ok <-isTrue c env (eval c env)
  if ok then emit
  more
theorem afA(elt target iter:Expr)(ifs:List Expr)(scope:jF)(pos:Pos)(it acc:Value)(env:Env):
  Ih (.ListComp elt [⟨target,iter,ifs,0⟩] scope pos) 0 it acc env=turnOf target iter ifs it env (do let _ <-call (.builtin "list.append") [acc,<-eval elt env]) (again (.compLoop (.ListComp elt [⟨target,iter,ifs,0⟩] scope pos) 0 it acc env)):=by rfl
theorem afB(kx vx target iter:Expr)(ifs:List Expr)(scope:jF)(pos:Pos)(it:Value)(D:ao)(env:Env):
  Ih (.DictComp kx vx [⟨target,iter,ifs,0⟩] scope pos) 0 it (.ref D) env=turnOf target iter ifs it env (do
      let kv <-eval kx env
      let vv <-oV [kv] (eval vx env)
      zZ {kx.pos with endLine:=vx.pos.endLine,endCol:=vx.pos.endCol}
      oV [kv,vv] (dictSet D kv vv)) (again (.compLoop (.DictComp kx vx [⟨target,iter,ifs,0⟩] scope pos) 0 it (.ref D) env)):=by rfl
def pP(X:Cx)(ifs:List Expr)(t:TT):Prop:=
 ∀(pins:List (ao×Obj))(s:aA)(σ:St)(H:Hp)(Q:Bool->Hp->Prop),Inv X pins σ H s->t σ H Q->
  aH (model X.prog X.w) X.A (forIn ifs aq λc r=>if r=aq then do let ok <-isTrue c X.env (eval c X.env);pure (aeq ok) else pure (aeq r)) (TP X pins σ Q) X.xe s
def amg:TT:=λ_ H Q=>Q aq H
theorem ais:pP X [] amg:=λ_ _ _ H _ I h=>wpAny_tests_nil ⟨H,I,h⟩
theorem ait(h:PT X c t):pP X [c] t:=λpins s σ H Q I q=>wpAny_tests_one (h pins s σ H Q I q)
abbrev TM:=St->Hp->(Hp->Prop)->Prop
def PM(X:Cx)(emit:Sem Unit)(t:TM):Prop:=
 ∀(pins:List (ao×Obj))(s:aA)(σ:St)(H:Hp)(Q:Hp->Prop),Inv X pins σ H s->t σ H Q->
  aH (model X.prog X.w) X.A emit (λ_ s'=>∃H',Inv X pins σ H' s'/\Q H') X.xe s
def Qj(D:ao)(te:TE):TM:=λσ H Q=>te σ H λy H1=>∃xs,H1 D=aa (.lst xs)/\xs.length<bL/\Q (upd H1 D (.lst (xs++[y])))
theorem agq(he:PE X elt te):PM X (do let _ <-call (.builtin "list.append") [.ref D,<-eval elt X.env]) (Qj D te):=by
 intro pins s σ H Q I h;refine az (bQ (he pins s σ H _ I h) λv s1 aK=>?_)
 obtain⟨y,H1,I1,r1,xs,hD,hz,q⟩:=aK
 refine az (bQ (Xh (X:=X) pins s1 σ H1 (.ref D) [y] (.ref D) [v] (λ_ H'=>Q H') I1 rfl (.cons r1 .nil) ⟨D,xs,y,rfl,rfl,hD,hz,q⟩) λ_ s2 ⟨_,H2,I2,_,q2⟩=>aM ⟨H2,I2,q2⟩)
def Bg(K:aF)(T:gR)(ts:TT)(em:TM)(fs:St)(J:It)(H0:Hp)(done:Hp->Prop):Prop:=
 ∃W:Nat->Nat->Hp->Prop,(∃m,W 0 m H0)/\∀i m H,W i m H->
  (J.stop i H/\done H)\/(J.go i H/\∀x H',J.uP i H x H'->∃vs,wH K T x H' vs/\
   ts (vs.map aa++fs) H' λb H2=>if b=aq then em (vs.map aa++fs) H2 λH3=>∃m',m'<m/\W (i+1) m' H3 else ∃m',m'<m/\W (i+1) m' H2)
section
variable{X:Cx}{NT NF:List Str}{tg iter e:Expr}{ifs:List Expr}{T:gR}{ts:TT}{em:TM}{emit:Sem Unit}{acc:Value}{fp:List ao}{it:ao}{J:It}{tn:Nat->aU->Prop}
theorem ahe{fs:St}{vs:List V}{pins:List (ao×Obj)}{H:Hp}{s:aA}(hv:vs.length=NT.length)(I:Inv X pins (vs.map aa++fs) H s):Inv X pins (cC NT.length aj++fs) H s:=
 I.weak (by simp[hv]) λi v h=>by
  by_cases hi:i<NT.length
  .rw[ou (by simpa using hi),Us] at h;split at h<;>cases h
  .rw[oh (by simp;lia)] at h⊢;simpa[hv] using h
theorem wH.len{tg:Expr}{K:aF}{x:V}{H:Hp}{vs:List V}(tk:rB tg NT T)(h:wH K T x H vs):vs.length=NT.length:=by
 cases T with
 |one=>obtain⟨y,_,rfl⟩:=tk;rw[show vs=[x] from h];rfl
 |many n=>obtain⟨_,_,_,_,_,e⟩:=tk;obtain⟨_,_,_,e'⟩:=h;lia
theorem Yi{R:nP->aA->Prop}{fs:St}{H:Hp}{s:aA}{done:Hp->Prop}(hx:X.xe=λ_ _=>False)(hT:Ih e 0 (.ref it) acc X.env=turnOf tg iter ifs (.ref it) X.env emit (again (.compLoop e 0 (.ref it) acc X.env)))
  (hq:(Cv e 0 (.ref it) acc X.env).isFrame=aB)(hqu:(Cv e 0 (.ref it) acc X.env).quiet=aq)(hA:X.A.under (Cv e 0 (.ref it) acc X.env)=X.A)
  (tk:rB tg NT T)(hN:X.N=NT++NF)(nd:X.N.Nodup)(hc:X.calm=aq)(hl:∀x∈NT,X.env.scope.names.lookup x=aa .local)
  (hts:pP X ifs ts)(hem:PM X emit em)(TT:Turn X.prog X.w X.K tg J fp it tn)(hf:∀b∈fp,jG X [] H b)(I:Inv X [] (cC NT.length aj++fs) H s)(st:tn 0 s.heap)(hb:Bg X.K T ts em fs J H done)
  (hR:∀H' s' σ',Inv X [] σ' H' s'->done H'->R (.ok .next) s'):
  j9 (model X.prog X.w) X.A (.compLoop e 0 (.ref it) acc X.env) R s:=by
 obtain⟨W,⟨m0,w0⟩,turn⟩:=hb
 have stat:∀{H':Hp},(∀b∈fp,H' b=aj)->∀b∈fp,jG X [] H' b:=λhn b hb=>⟨hn b hb,(hf b hb).2⟩
 have noE:∀{α:Type}{t:Sem α}{Q:α->aA->Prop}{E:Value->aA->Prop}{s:aA},aH (model X.prog X.w) X.A t Q (λ_ _=>False) s->aH (model X.prog X.w) X.A t Q E s:=λh=>pZ h (λ_ _ z=>z) λ_ _ z=>z.elim
 have noX:∀{α:Type}{t:Sem α}{Q:α->aA->Prop}{E:Value->aA->Prop}{s:aA},aH (model X.prog X.w) X.A t Q X.xe s->aH (model X.prog X.w) X.A t Q E s:=λh=>noE (by rw[hx] at h;exact h)
 refine codeAny_loop hqu (λn s'=>∃i H',Inv X [] (cC NT.length aj++fs) H' s'/\tn i s'.heap/\(∀b∈fp,H' b=aj)/\W i n H') ?_ m0 ⟨0,H,I,st,λb hb=>(hf b hb).1,w0⟩;rintro n s3 ⟨i,H3,I3,st3,Fj,w3⟩;rw[hA];show aH _ X.A (if(Cv e 0 (.ref it) acc X.env).isFrame=aq then(Ih e 0 (.ref it) acc X.env).onRaise (leaving X.env) else(Ih e 0 (.ref it) acc X.env).onRaise (λx=>do noteFrame x X.env;theTreesLotGoes x)) _ _ s3;rw[hq,bw gr];refine wpAny_noted (noE ?_);rw[hT];unfold turnOf;refine az (zF (az ?_));rcases turn i n H3 w3 with⟨stop,qn⟩|⟨go,step⟩
 .refine bQ (TT.done X rfl rfl rfl hc i [] s3 _ H3 _ I3 (stat Fj) st3 stop) λr s4 aK=>?_
  obtain⟨hr,I4⟩:=aK
  subst hr;exact aM (hR H3 s4 _ I4 qn)
 .refine bQ (TT.item X rfl rfl rfl hc i [] s3 _ H3 _ I3 (stat Fj) st3 go) λr s4 aK=>?_
  obtain⟨u,hr,h4⟩:=aK
  subst hr;refine az (bQ h4 λ_ s5 aK=>?_)
  obtain⟨x,H5,I5,r5,y5,yU,Te⟩:=aK
  have Tf:=I5.pinned (stat Te) (TT.obj _ _ yU)
  obtain⟨vs,hv,q5⟩:=step x H5 y5
  have hvl:=wH.len tk hv;refine az (akk tk hN nd hc hl Tf r5 hv λs6 I6=>?_);refine az (noX (bQ (hts _ s6 _ H5 _ I6 q5) λb s7 aK=>?_))
  obtain⟨H7,I7,q7⟩:=aK
  have aau:∀{s8:aA}{H8:Hp},Inv X ([]++Dt fp s5.heap) (vs.map aa++fs) H8 s8->(∃m',m'<n/\W (i+1) m' H8)->
    (Cv e 0 (.ref it) acc X.env=Cv e 0 (.ref it) acc X.env)/\∃m,m<n/\∃i H',Inv X [] (cC NT.length aj++fs) H' s8/\tn i s8.heap/\(∀b∈fp,H' b=aj)/\W i m H':=λ{s8 H8} I8 n8=>by
   obtain⟨m',hm,w8⟩:=n8
   refine⟨rfl,m',hm,i+1,H8,ahe hvl I8.H9,TT.keep _ _ _ yU λb hb o e=>(I8.pin (b,o) (eF _ (eF _ (HB hb e)))).1,λb hb=>?_,w8⟩
   obtain⟨o,e,d⟩:=TT.obj _ _ yU b hb
   exact(I8.pin (b,o) (eF _ (eF _ (HB hb e)))).2.1
  cases b with
  |false=>exact aM (aau I7 q7)
  |true=>exact az (noX (bQ (hem _ s7 _ H7 _ I7 q7) λ_ s8 ⟨H8,I8,q8⟩=>aM (aau I8 q8)))
end
structure Bk where
 cl:List (Str×ao)
 C:ao
 s:aA
 H:Hp
 fp:List ao
abbrev Cx.bk(X:Cx)(N:List Str)(scope:jF)(b:Bk):Cx:=X.blk N scope b.cl b.C b.s b.H b.fp
section
variable{X:Cx}{NT NF:List Str}{js:List Nat}{elt kx vx tg iter e:Expr}{ifs:List Expr}{T:gR}{wi:TI}{ts:Bk->TT}{te tk' tv:Bk->TE}{scope:jF}{pos:Pos}
def Tn(K:aF)(wi:TI)(T:gR)(ts:Bk->TT)(te:Bk->TE)(js:List Nat):TE:=λσ H Q=>wi σ H λJ H1=>∀D,H1 D=aj->∀b,Bg K T (ts b) (Qj D (te b)) (frees js σ) J (upd H1 D (.lst [])) (Q (.ref D))
theorem aav{pins:List (ao×Obj)}{σ:St}{s2:aA}{H2:Hp}{cl:List (Str×ao)}{it:ao}{fp:List ao}{tn:Nat->aU->Prop}{J:It}{Q:Hp->Prop}{RR:Value->ao->nP->aA->Prop}{E:Value->aA->Prop}
  (B:tD X NT NF js scope)(tk:rB tg NT T)(hc:X.calm=aq)
  (hin:∀b,pP (X.bk (NT++NF) scope b) ifs (ts b)/\PE (X.bk (NT++NF) scope b) elt (te b))
  (q2:∀n c,cl.lookup n=aa c->X.env.cells.lookup n=aa c)(q3:∀y∈scope.names,y.2=.free->∃c,cl.lookup y.1=aa c)
  (I2:Inv X pins σ H2 s2)(TT:Turn X.prog X.w X.K tg J fp it tn)(st2:tn 0 s2.heap)(f2:∀b∈fp,jG X pins H2 b)
  (q:∀b,Bg X.K T (ts b) (Qj s2.heap.objs.size (te b)) (frees js σ) J (upd H2 s2.heap.objs.size (.lst [])) Q)
  (hR:∀C H' s' m,Inv X pins σ H' s'->jG X pins H' C->s'.heap.Ns C m->Q H'->RR (.ref s2.heap.objs.size) C (.ok .next) s'):
  aH (model X.prog X.w) X.A (newList []) (λacc s₃=>aH (model X.prog X.w) X.A (newFunctionEnv scope X.env.globals cl [] X.env.qual aj .none (aa X.env)) (λcenv s₄=>
   j9 (model X.prog X.w) X.A (.compStart (.ListComp elt [⟨tg,iter,ifs,0⟩] scope pos) 0 (.ref it) acc {cenv with scope:=relabel scope X.env}) (RR acc cenv.locals) s₄) E s₃) E s2:=by
 refine jz ?_;have hD:H2 s2.heap.objs.size=aj:=I2.hok.fresh (bK _);have I3:Inv X pins σ (upd H2 s2.heap.objs.size (.lst [])) {s2 with heap:=s2.heap.push {cls:=.type "list",dict:=aj,data:=.seq ([]:List Value).toArray}}:=
  I2.laid (t':=s2.toks) (λb o e=>bH _ e) (bK _) ⟨iI _,[],0,.nil,dI _ rfl⟩
 have hsz:(s2.heap.push {cls:=.type "list",dict:=aj,data:=.seq ([]:List Value).toArray}).objs.size=s2.heap.objs.size+1:=oJ ..;refine adm B.cell (by intro y hy;simp at hy) (λh₁ hns₁ hsb₁=>?_) B.kind;have uR:∀b∈fp,b<s2.heap.objs.size:=λb hb=>by
  obtain⟨o,e,_⟩:=TT.obj 0 _ st2 b hb
  exact bO e
 have f3:∀b∈fp,jG X pins (upd H2 s2.heap.objs.size (.lst [])) b:=λb hb=>⟨by rw[cI (cW (uR b hb))];exact(f2 b hb).1,(f2 b hb).2⟩
 have keep:∀b o,(s2.heap.push {cls:=.type "list",dict:=aj,data:=.seq ([]:List Value).toArray}).get? b=aa o->h₁.get? b=aa o:=λb o e=>
  hsb₁.extBut b o (cW (bO e)) (bH _ e)
 have Fq:∀b∈fp,b<(s2.heap.push {cls:=.type "list",dict:=aj,data:=.seq ([]:List Value).toArray}).objs.size:=λb hb=>by have:=uR b hb;rw[hsz];exact xg this
 have I4:=I3.blk (s1:={s2 with heap:=h₁,toks:=s2.toks+([]:List (Str×Value)).length}) B q2 q3 f3 Fq hns₁ keep rfl I2.bare;have Ft:tn 0 h₁:=TT.keep 0 _ _ st2 λb _ o e=>keep b o (bH _ e)
 obtain⟨i1,i2⟩:=hin ⟨cl,(s2.heap.push {cls:=.type "list",dict:=aj,data:=.seq ([]:List Value).toArray}).objs.size,{s2 with heap:=s2.heap.push {cls:=.type "list",dict:=aj,data:=.seq ([]:List Value).toArray}},upd H2 s2.heap.objs.size (.lst []),fp⟩
 have loop:j9 (model X.prog X.w) X.A (.compLoop (.ListComp elt [⟨tg,iter,ifs,0⟩] scope pos) 0 (.ref it) (.ref s2.heap.objs.size) (compEnvC scope cl (s2.heap.push {cls:=.type "list",dict:=aj,data:=.seq ([]:List Value).toArray}).objs.size X.env))
   (RR (.ref s2.heap.objs.size) (s2.heap.push {cls:=.type "list",dict:=aj,data:=.seq ([]:List Value).toArray}).objs.size) {s2 with heap:=h₁,toks:=s2.toks+([]:List (Str×Value)).length}:=by
  refine Yi (X:=X.blk (NT++NF) scope cl (s2.heap.push {cls:=.type "list",dict:=aj,data:=.seq ([]:List Value).toArray}).objs.size {s2 with heap:=s2.heap.push {cls:=.type "list",dict:=aj,data:=.seq ([]:List Value).toArray}} (upd H2 s2.heap.objs.size (.lst [])) fp)
   (T:=T) (fs:=frees js σ) (done:=Q) rfl (afA elt tg iter ifs scope pos _ _ _) rfl rfl rfl tk rfl B.nd hc (λx hx=>adn (B.tg x hx)) i1 (agq i2) TT (λb hb=>?_) I4 Ft (q _) λH' s' σ' J' qd=>?_
  .exact⟨(f3 b hb).1,cW (Fq b hb),λhb2=>by
    rcases bI.mp (I3.Dq b hb2) with z|z
    .exact(f3 b hb).2.1 z
    .exact(f3 b hb).2.2.1 z,.inl hb,λx c e=>(f3 b hb).2.2.2.2.1 x c (q2 x c e),λp hp=>(nomatch(show p∈([]:List (ao×Obj)) from hp))⟩
  .obtain⟨m,hn,_⟩:=J'.loc
   exact hR _ H' s' m (I3.aa5 f3 J') (I3.uE (bK _) J'.free) hn qd
 exact codeAny_compStart_list loop (TT.self _ 0 _ _ _ Ft loop)
theorem alj(B:tD X NT NF js scope)(tk:rB tg NT T)(hc:X.calm=aq)(hi:PI X tg iter wi)
  (hin:∀b,pP (X.bk (NT++NF) scope b) ifs (ts b)/\PE (X.bk (NT++NF) scope b) elt (te b))
  (hs:∀x,wY iter X.env x=pure x:=by intro _;rfl):PE X (.ListComp elt [⟨tg,iter,ifs,0⟩] scope pos) (Tn X.K wi T ts te js):=by
 intro pins s σ H Q I h
 obtain⟨cl,hclos,q2,q3⟩:=Nv (env:=X.env) (scope:=scope) λy hy e=>I.ok.has y.1 (B.free y hy e)
 rw[eval_ListComp];refine Uo (use:=aj) rfl hs hclos B.kind B.names (bQ (hi pins s σ H _ I h) λv s1 h1=>bQ h1 λitv s2 aK=>?_)
 obtain⟨it,fp,tn,J,H2,e,I2,TT,st2,f2,q⟩:=aK
 subst e;refine aav (Q:=λH'=>Q (.ref s2.heap.objs.size) H') (RR:=λacc C=>compPost (model X.prog X.w) X.A X.xe aj (EP X pins σ Q) acc C) B tk hc hin q2 q3 I2 TT st2 f2 (q _ (I2.hok.fresh (bK _))) λC H' s' m I' fC hn qd=>?_
 refine⟨m,hn,λh' sb=>⟨.ref s2.heap.objs.size,H',?_,rfl,qd⟩⟩
 exact I'.turned (t':=s'.toks) (λb o hb e=>(sb.2 b hb).trans e) fC.1 fC.2.1 fC.2.2.2.1 fC.2.2.2.2.1 fC.2.2.2.2.2
theorem ahf(B:tD X NT NF js scope)(tk:rB tg NT T)(hc:X.calm=aq)(hi:PI X tg iter wi)
  (hin:∀b,pP (X.bk (NT++NF) scope b) ifs (ts b)/\PE (X.bk (NT++NF) scope b) elt (te b))
  (hsw:vz (.ListComp elt [⟨tg,iter,ifs,0⟩] scope pos) (aa (.Name y pos')) spos.line X.env=pure aq)
  (hN:X.N.Nodup)(hI:X.N[i]?=aa y)(hy:X.env.scope.names.lookup y=aa .local)
  (hs:∀x,wY iter X.env x=pure x:=by intro _;rfl):PS X (.Assign [.Name y pos'] (.ListComp elt [⟨tg,iter,ifs,0⟩] scope pos) spos) (Be (Tn X.K wi T ts te js) (vQ i)):=by
 intro pins s σ H D I h
 obtain⟨cl,hclos,q2,q3⟩:=Nv (env:=X.env) (scope:=scope) λy hy e=>I.ok.has y.1 (B.free y hy e)
 rw[adb _ _ _ _ hsw];refine az (zF (az ?_));show aH _ X.A (do let _ <-comprehension (.ListComp elt [⟨tg,iter,ifs,0⟩] scope pos) scope X.env _ (newList []) aB (eval iter X.env) (aa (assign (.Name y pos') X.env))) _ _ s;refine az (pZ (Uo (use:=aa (assign (.Name y pos') X.env)) (Q:=λ_ s'=>SP X pins D .next s') rfl hs hclos B.kind B.names
  (bQ (hi pins s σ H _ I h) λv s1 h1=>bQ h1 λitv s2 ⟨it,fp,tn,J,H2,e,I2,TT,st2,f2,q⟩=>?_)) (λ_ s' hq=>aM (aM hq)) λ_ _ e=>e)
 subst e;refine aav (Q:=λH'=>D.nx (σ.set i (aa (.ref s2.heap.objs.size))) H') (RR:=λacc C=>compPost (model X.prog X.w) X.A X.xe (aa (assign (.Name y pos') X.env)) (λ_ s'=>SP X pins D .next s') acc C) B tk hc hin q2 q3 I2 TT st2 f2 (q _ (I2.hok.fresh (bK _))) λC H' s' m I' fC hn qd=>?_
 show aH _ X.A (assign (.Name y pos') X.env (.ref s2.heap.objs.size)) _ _ _;refine Gu (N6 I' hN hI (.inl hy) (v:=.ref s2.heap.objs.size) rfl (λs3 I3 aK=>?_) (.inr hy))
 obtain⟨a,sb,ha⟩:=aK
 have Tp:C≠a:=by
  rcases ha with z|z
  .rw[z];exact fC.2.1
  .exact λw=>fC.2.2.2.2.1 y a z w.symm
 refine⟨m,hn.sameBut sb Tp,λh' sb'=>⟨_,H',?_,qd⟩⟩
 exact I3.turned (t':=s3.toks) (λb o hb e=>(sb'.2 b hb).trans e) fC.1 fC.2.1 fC.2.2.2.1 fC.2.2.2.2.1 fC.2.2.2.2.2
end
def Tq(z:Str):It:=⟨λi _=>i<z.cps.size,λi H x H'=>H'=H/\∃c,z.cps[i]?=aa c/\x=.str ⟨#[c]⟩,λi _=>z.cps.size<=i⟩
theorem ahg{P:bA}{w:bu}{K:aF}{tg:Expr}{z:Str}{t:Tok}{ty:String}{it:ao}(hty:ty="str_ascii_iterator"\/ty="str_iterator")(hgo:∀i u,xm tg i u=pure ()):
  Turn P w K tg (Tq z) [it] it (λi h=>h.IsStrIter it ty z t i) where
 mem:=by simp
 obj:=λi h st b hb=>by
  have e:b=it:=by simpa using hb
  subst e
  obtain⟨o,e,c,d⟩:=st
  exact⟨o,e,λv q=>by rw[d] at q;cases q⟩
 keep:=λi h h' st k=>let ⟨o,ho,r⟩:=st;⟨o,k it (by simp) o ho,r⟩
 item:=by
  intro X hP hw hK hc i pins s σ H E I hf st hg;subst hP hw hK
  obtain⟨f0,f1,f2,f3,f4,f5⟩:=hf it (by simp)
  have hi:i<z.cps.size:=hg;have W:ux X.prog X.w X.A it [it] [it] z.cps.size (SignAt z) (λi h=>h.IsStrIter it ty z t i):=by
   rcases hty with rfl|rfl
   .exact Walks.strAscii (I.ok.hd hc) it z t
   .exact Walks.strWide (I.ok.hd hc) it z t
  refine W.item i s _ _ hi st λv h' tk hv st' kk=>?_
  obtain⟨c,u,hc',rfl⟩:=hv
  have I1:Inv X pins σ H {s with heap:=h',toks:=tk}:=I.turned (λb o hb e=>kk b o (by simpa using hb) e) f0 f1 f3 f4 f5
  refine⟨_,rfl,?_⟩
  rw[hgo];exact aM ⟨.str ⟨#[c]⟩,H,I1,⟨u,rfl⟩,⟨rfl,c,hc',rfl⟩,st',λb hb=>(hf b hb).1⟩
 done:=by
  intro X hP hw hK hc i pins s σ H E I hf st hg;subst hP hw hK
  obtain⟨f0,f1,f2,f3,f4,f5⟩:=hf it (by simp)
  have hi:z.cps.size<=i:=hg;rcases hty with rfl|rfl
  .exact wpAny_pyNext_ascii_end (I.ok.hd hc) st (by simpa using hi) λh' eb=>⟨rfl,I.turned (t':=s.toks) (λb o hb e=>eb b o hb e) f0 f1 f3 f4 f5⟩
  .exact wpAny_pyNext_wide_end (I.ok.hd hc) st (by simpa using hi) λh' eb=>⟨rfl,I.turned (t':=s.toks) (λb o hb e=>eb b o hb e) f0 f1 f3 f4 f5⟩
 self:=λ_ _ _ _ _ st h=>by
  rcases hty with rfl|rfl
  .exact wpAny_pyIter_striter_ascii st h
  .exact wpAny_pyIter_striter_wide st h
section
variable{X:Cx}{tg:Expr}
def amh(tl:TE):TI:=λσ H R=>tl σ H λx H1=>∃z,x=.str z/\R (Tq z) H1
theorem aaw{l:Expr}{tl:TE}(hl:PE X l tl)(hgo:∀i u,xm tg i u=pure ():=by intro _ _;rfl):PI X tg l (amh tl):=by
 intro pins s σ H R I h;refine bQ (hl pins s σ H _ I h) λv s1 aK=>?_
 obtain⟨x,H1,I1,r1,q1⟩:=aK
 obtain⟨z,e,q⟩:=q1
 subst e
 obtain⟨t,rfl⟩:=r1
 have fin:∀(o:Obj)(ty:String),(ty="str_ascii_iterator"\/ty="str_iterator")->Heap.IsStrIter (s1.heap.push o) s1.heap.objs.size ty z t 0->PIE X pins σ tg R (.ref s1.heap.objs.size) {s1 with heap:=s1.heap.push o}:=λo ty hty st=>by
  refine⟨s1.heap.objs.size,[s1.heap.objs.size],_,_,H1,rfl,I1.kept (t':=s1.toks) λb o e=>bH _ e,ahg hty hgo,st,λb hb=>?_,q⟩
  have e:b=s1.heap.objs.size:=by simpa using hb
  subst e;exact I1.uE (bK _) (I1.hok.fresh (bK _))
 cases ha:z.cps.all (·<128)
 .exact wpAny_pyIter_wide ha (fin _ _ (.inr rfl) ⟨_,dI _ rfl,rfl,rfl⟩)
 .exact wpAny_pyIter_ascii ha (fin _ _ (.inl rfl) ⟨_,dI _ rfl,rfl,rfl⟩)
theorem agr:cY X (gb .LtE) (λx y H Q=>∃i j,x=.str i/\y=.str j/\Q (.bl (!(decide (j.cps.toList<i.cps.toList)))) H):=by
 intro pins s σ H x y v u Q I rx ry h
 obtain⟨i,j,rfl,rfl,q⟩:=h
 obtain⟨t,rfl⟩:=rx
 obtain⟨t',rfl⟩:=ry
 exact PySem.P.le_str (fK I q rfl)
theorem Nx:∀{ys:List Str}{us:List Value},Vals (ys.map V.str) us->StrsAre us ys
 |[],_,h=>by cases h;exact .nil
 |y::ys,_,h=>by
  cases h with
  |cons r rr=>
   obtain⟨t,rfl⟩:=r
   exact .cons y t (Nx rr)
theorem aiu:Br X "str.join" (λx xs H Q=>∃z p ys,x=.str z/\xs=[.ref p]/\bG X.K H p (ys.map V.str)/\(ys.map (·.length)).sum+ys.length*z.length<=16777216/\Q (.str (Txt.join z ys)) H):=by
 intro pins s σ H x xs v us Q I rx r h
 obtain⟨z,p,ys,rfl,rfl,hp,hz,q⟩:=h
 obtain⟨t,rfl⟩:=rx
 obtain⟨u,rfl,ru⟩:=vals1 r
 cases ru
 obtain⟨its,rv,pl,_⟩:=I.list hp
 exact join_list pl.isList (by simpa using Nx rv) hz λt' k=>⟨.str _,H,I.tok _,⟨_,rfl⟩,q⟩
end
section
variable{X:Cx}
theorem part_of(h:sS v o):∃l:Option (Int×Tok),v=partValue l/\l.map (·.1)=o:=by
 cases h with
 |none=>exact⟨aj,rfl,rfl⟩
 |int i t=>exact⟨aa (i,t),rfl,rfl⟩
theorem akl:uQ X (λx lo hi H Q=>∃z,x=.str z/\z.length<=bL/\Q (.str (Txt.slice z lo hi)) H):=by
 intro pins s σ H x v vl vu lo hi sl Q I rx hs pl pu h
 obtain⟨z,rfl,hz,q⟩:=h
 obtain⟨t,rfl⟩:=rx
 obtain⟨l,rfl,rfl⟩:=part_of pl
 obtain⟨u,rfl,rfl⟩:=part_of pu
 refine⟨"str",_,F.slot_str_getitem.lookup,WT s z t,?_⟩
 exact wpAny_getItem_str_slice (l:=l) (u:=u) (st:=aj) hs rfl (post_val_or_str ⟨ir (Txt.slice_le z _ _) hz,λt' k=>⟨.str _,H,I.tok _,⟨t',rfl⟩,q⟩⟩)
theorem Yj:∀{bs:List Bool}{us:List Value},Vals (bs.map V.bl) us->us=bs.map qN
 |[],_,h=>by cases h;rfl
 |b::bs,_,h=>by
  cases h with
  |cons r rr=>
   cases r;rw[Yj rr];rfl
theorem ahh(hc:X.calm=aq):fO X (.builtin "all") (λxs H Q=>∃(p:ao)(bs:List Bool),xs=[.ref p]/\bG X.K H p (bs.map V.bl)/\Q (.bl (bs.all id)) H):=by
 intro pins s σ H xs us Q I r h
 obtain⟨p,bs,rfl,hp,q⟩:=h
 obtain⟨u,rfl,ru⟩:=vals1 r
 cases ru
 obtain⟨its,rv,pl,_⟩:=I.list hp
 have hl:=pl.isList;have e0:=Yj rv;subst e0;have hlt:p<s.heap.objs.size:=by obtain⟨_,e,_⟩:=hl;exact bO e
 refine call_all_walk (BV hl ?_)
 refine⟨s.heap.objs.size,[s.heap.objs.size,p],[s.heap.objs.size],(bs.map qN).toArray.size,_,_,λi=>(bs[i]?).getD aq,rfl,HD (A:=X.A.in1) (I.ok.hd hc) _ p (cW hlt) (bs.map qN).toArray,
  ⟨⟨_,dI _ rfl,rfl,rfl⟩,hl.push _⟩,λi v s' Q' E' hP hQ=>?_,λh' tk hk=>?_⟩
 .have hP':(bs.map qN)[i]?=aa v:=by simpa using hP
  rw[ie] at hP';cases e:bs[i]? with
  |none=>rw[e] at hP';cases hP'
  |some b=>
   rw[e] at hP';cases hP';simp only[e,Cd] at hQ;exact BR hQ
 .have e:((dX (bs.map qN).toArray.size).all λi=>(bs[i]?).getD aq)=bs.all id:=by
   have:(bs.map qN).toArray.size=bs.length:=by simp
   rw[this,qK,jO,jO];constructor
   .intro h b hb
    obtain⟨i,hi,rfl⟩:=t8 hb
    have:=h i (ud.mpr hi);simpa[gJ hi] using this
   .intro h i hi;have hi':=ud.mp hi;simp only[gJ hi',Cd];exact h _ (Cg hi')
  rw[e]
  refine⟨.bl _,H,I.kept λb x e=>hk b x (λhm=>?_) (bH _ e),rfl,q⟩
  rw[fQ.mp hm] at e;exact zE _ (bO e)
end
mutual
def RD(K:aF)(H:Hp):au->V->Prop
 |.none,v=>v=.non
 |.bool b,v=>v=.bl b
 |.int i,v=>v=.int i
 |.str x,v=>v=.str x
 |.tuple ds,v=>∃a vs,v=.ref a/\bW K H a vs/\jR K H ds vs
 |.list ds,v=>∃a vs,v=.ref a/\bG K H a vs/\jR K H ds vs
 |.dict _,_=>False
def jR(K:aF)(H:Hp):List au->List V->Prop
 |[],vs=>vs=[]
 |d::ds,vs=>∃v r,vs=v::r/\RD K H d v/\jR K H ds r
end
theorem bW.same{K:aF}{H H':Hp}{a:ao}{xs:List V}(e:∀b ys,H b=aa (.tup ys)->H' b=aa (.tup ys))(ef:∀b o u,H b=aa (.kJ o u)->H' b=aa (.kJ o u))(h:bW K H a xs):bW K H' a xs:=by
 rcases h with(h|⟨o,h⟩)|h
 .exact .inl (.inl (e _ _ h))
 .exact .inl (.inr ⟨o,ef _ _ _ h⟩)
 .exact .inr h
mutual
theorem RD.same{K:aF}{H H':Hp}(e:bC H H'):∀{d:au}{v:V},RD K H d v->RD K H' d v
 |.none,_,h=>h
 |.bool _,_,h=>h
 |.int _,_,h=>h
 |.str _,_,h=>h
 |.tuple ds,v,h=>by
  obtain⟨a,vs,e1,q,r⟩:=h
  exact⟨a,vs,e1,q.same (λb ys z=>e _ _ z) (λb o u z=>e _ _ z),jR.same e r⟩
 |.list ds,v,h=>by
  obtain⟨a,vs,e1,q,r⟩:=h
  exact⟨a,vs,e1,e.seq q,jR.same e r⟩
theorem jR.same{K:aF}{H H':Hp}(e:bC H H'):∀{ds:List au}{vs:List V},jR K H ds vs->jR K H' ds vs
 |[],_,h=>h
 |d::ds,vs,h=>by
  obtain⟨v,r,e1,q,t⟩:=h
  exact⟨v,r,e1,RD.same e q,jR.same e t⟩
end
mutual
theorem RD.nodict{K:aF}{H:Hp}:∀{d:au}{v:V},RD K H d v->d.hasDict=aB
 |.none,_,h=>by simp[Ck]
 |.bool _,_,h=>by simp[Ck]
 |.int _,_,h=>by simp[Ck]
 |.str _,_,h=>by simp[Ck]
 |.tuple ds,v,h=>by
  obtain⟨a,vs,e1,q,r⟩:=h
  simpa[Ck] using jR.nodict r
 |.list ds,v,h=>by
  obtain⟨a,vs,e1,q,r⟩:=h
  simpa[Ck] using jR.nodict r
theorem jR.nodict{K:aF}{H:Hp}:∀{ds:List au}{vs:List V},jR K H ds vs->Vb ds=aB
 |[],_,h=>by simp[Vb]
 |d::ds,vs,h=>by
  obtain⟨v,r,e1,q,t⟩:=h
  simp[Vb,RD.nodict q,jR.nodict t]
end
section
variable{X:Cx}{pins:List (ao×Obj)}{σ:St}{H:Hp}{s:aA}
mutual
theorem RD.reads(I:Inv X pins σ H s):∀{d:au}{v:V}{u:Value},RD X.K H d v->RelV v u->∃as,Reads s.heap u d as
 |.none,_,_,h,r=>by
  cases(show _=V.non from h)
  cases r
  exact⟨_,.none⟩
 |.bool b,_,_,h,r=>by
  cases(show _=V.bl b from h)
  cases r
  exact⟨_,.bool b⟩
 |.int i,_,_,h,r=>by
  cases(show _=V.int i from h)
  obtain⟨t,rfl⟩:=r
  exact⟨_,.int i t⟩
 |.str x,_,_,h,r=>by
  cases(show _=V.str x from h)
  obtain⟨t,rfl⟩:=r
  exact⟨_,.str x t⟩
 |.tuple ds,v,u,h,r=>by
  obtain⟨a,vs,e1,q,t⟩:=h
  subst e1;cases r
  obtain⟨its,rv,⟨o,e,c,n,d⟩,_⟩:=I.tuple q
  obtain⟨as,R⟩:=jR.reads I t rv
  exact⟨_,.tuple e c d (by simpa using R)⟩
 |.list ds,v,u,h,r=>by
  obtain⟨a,vs,e1,q,t⟩:=h
  subst e1;cases r
  obtain⟨its,rv,⟨o,n,e,c,_,d⟩,_⟩:=I.list q
  obtain⟨as,R⟩:=jR.reads I t rv
  exact⟨_,.list e c d (by simpa using R)⟩
theorem jR.reads(I:Inv X pins σ H s):∀{ds:List au}{vs:List V}{us:List Value},jR X.K H ds vs->Vals vs us->∃as,ReadsAll s.heap us ds as
 |[],_,_,h,r=>by
  cases(show _=[] from h)
  cases r
  exact⟨_,.nil⟩
 |d::ds,vs,us,h,r=>by
  obtain⟨v,rr,e1,q,t⟩:=h
  subst e1;cases r with
  |cons r1 r2=>
   obtain⟨as,R⟩:=RD.reads I q r1
   obtain⟨bs,R2⟩:=jR.reads I t r2
   exact⟨_,.cons R R2⟩
end
end
section
variable{X:Cx}
theorem Xk(hg:X.A.guards=aa [])(hu:X.A.units+64<dB):fO X (.builtin "repr") (λxs H Q=>∃v d,xs=[v]/\RD X.K H d v/\d.showable=aq/\d.depth<=60/\d.shown.length<=bL/\Q (.str d.shown) H):=by
 intro pins s σ H xs us Q I r h
 obtain⟨v,d,rfl,hd,hs,aoB,hz,q⟩:=h
 obtain⟨u,rfl,ru⟩:=vals1 r
 cases d with
 |none=>
  cases(show v=V.non from hd)
  cases ru;exact PySem.P.repr_of_none ⟨.str _,H,I.tok _,⟨_,rfl⟩,by simpa[Cy] using q⟩
 |bool b=>
  cases(show v=V.bl b from hd)
  cases ru;exact PySem.P.repr_of_bool ⟨.str _,H,I.tok _,⟨_,rfl⟩,by simpa[Cy] using q⟩
 |int i=>
  cases(show v=V.int i from hd)
  obtain⟨t,rfl⟩:=ru
  exact PySem.P.repr_of_int (by simpa[Mu] using hs) ⟨.str _,H,I.tok _,⟨_,rfl⟩,by simpa[Cy] using q⟩
 |str x=>
  cases(show v=V.str x from hd)
  obtain⟨t,rfl⟩:=ru
  exact PySem.P.repr_of_str ⟨.str _,H,I.tok _,⟨_,rfl⟩,by simpa[Cy] using q⟩ (by simpa[Cy] using hz)
 |dict kvs=>exact hd.elim
 |tuple ds=>
  obtain⟨as,R⟩:=hd.reads I ru
  obtain⟨a,vs,e1,_,_⟩:=id hd
  subst e1;cases ru;exact repr_of_reads' R hs (adU hd.nodict) hg (by lia) (λ_ _ e=>e) (λh' u tk hk=>⟨.str _,H,I.kept hk,⟨_,rfl⟩,q⟩) hz
 |list ds=>
  obtain⟨as,R⟩:=hd.reads I ru
  obtain⟨a,vs,e1,_,_⟩:=id hd
  subst e1;cases ru;exact repr_of_reads' R hs (adU hd.nodict) hg (by lia) (λ_ _ e=>e) (λh' u tk hk=>⟨.str _,H,I.kept hk,⟨_,rfl⟩,q⟩) hz
end
def aax(jT:jF)(N0 NT NF:List Str)(js:List Nat)(scope:jF):Bool:=
 scope.kind==.function&&scope.names.all (λy=>!(y.2==.local)||scope.names.lookup y.1==some .local)&&scope.names.all (λy=>!(y.2==.cell))&&
  scope.names.all (λy=>!(y.2==.free)||(jT.names.lookup y.1==aa .cell||jT.names.lookup y.1==aa .free))&&js.length==NF.length&&
  (js.zip NF).all (λp=>N0[p.1]?==aa p.2&&scope.names.lookup p.2==aa .free)&&NT.all (λx=>scope.names.lookup x==aa .local)&&decide (NT++NF).Nodup
theorem mF.ok(h:aax jT N0 NT NF js scope=aq)(ho:X.env.scope=jT)(hN:X.N=N0):tD X NT NF js scope:=by
 unfold aax at h;simp only[iT] at h
 obtain⟨⟨⟨⟨⟨⟨⟨h1,h2⟩,h3⟩,h4⟩,h5⟩,h6⟩,h7⟩,h8⟩:=h
 refine⟨eq_of_beq h1,λy hy e=>?_,λy hy e=>?_,λy hy e=>?_,by simpa using h5,λk j x ej ex=>?_,λx hx=>?_,of_decide_eq_true h8⟩
 .have:=jO.mp h2 y hy;rw[e] at this;simpa using this
 .have:=jO.mp h3 y hy;rw[e] at this;simp at this
 .have:=jO.mp h4 y hy;rw[e] at this;rw[ho];simpa using this
 .have hm:(j,x)∈js.zip NF:=by
   have:(js.zip NF)[k]?=aa (j,x):=by
    rw[List.getElem?_zip_eq_some]
    exact⟨ej,ex⟩
   exact jY this
  have:=jO.mp h6 _ hm;simp only[iT] at this;rw[hN]
  exact⟨eq_of_beq this.1,eq_of_beq this.2⟩
 .exact eq_of_beq (jO.mp h7 x hx)
structure fY(P:bA)(w:bu)(K:aF)(mg:Str->Option Value)(base:aU)(x:Str)(k:Nat)(ps:List Str)(sp:Sp):Prop where
 ex:∃(f:ao)(fd:fB),mg x=aa (.ref f)/\vh K (.ref f)=aq/\Binds K fd ps []/\eX P w K mg base gF k f fd ps sp
section
variable{X:Cx}{x:Str}{k:Nat}{ps:List Str}{sp:Sp}{p pos:Pos}{e:Expr}{es:List Expr}{t:TA}
theorem alk(F:fY X.prog X.w X.K X.mg X.base x k ps sp)(hr:gC k X.A)(hg:Gl X x)(ha:PA X (e::es) t)(hdb:(x==("__debug__":Str))=aB:=by decide)
  (he:bD (e::es) X.env=(aB,eval e X.env)::bD es X.env:=by rfl)(hpl:(gO pos (bD es X.env)).any (·.1)=aB:=by rfl):
  PE X (.Call (.Name x p) (e::es) [] pos) (RB sp [] E0 t):=by
 obtain⟨f,fd,h1,h2,h3,h4⟩:=F.ex
 exact aii h4 hr hg h1 h2 h3 .nil ali ha hdb he hpl
theorem afg:fO X (.builtin "isinstance") (λxs H Q=>∃x n t b,xs=[x,.ty n]/\lD X.K H x t/\zA X.K t (.type n)=aa b/\Q (.bl b) H):=by
 intro pins s σ H xs us Q I r h
 obtain⟨x,n,t,b,rfl,ty,e,q⟩:=h
 obtain⟨u,u2,rfl,r1,r2⟩:=vals2 r
 cases r2;exact agh I r1 ty e λtk=>⟨.bl b,H,I.tok tk,rfl,q⟩
end
structure Fx(K:aF)(T:gR)(J:It)(n:Nat)(vs:Nat->List V)(G:Hp->Prop):Prop where
 go:∀i H,i<n->G H->J.go i H
 uP:∀i H x H',i<n->G H->J.uP i H x H'->H'=H/\wH K T x H (vs i)
 stop:∀H,G H->J.stop n H
section
variable{K:aF}{T:gR}{J:It}{n:Nat}{vs:Nat->List V}{G:Hp->Prop}{ts:TT}{te:TE}{fs:St}{H1:Hp}{D:ao}{done:Hp->Prop}
end
theorem aiv(h:n<=m)(hm:m<=16777216:=by decide):n<=bL:=by rw[jo];lia
section
variable{K:aF}{T:gR}{J:It}{n:Nat}{vs:Nat->List V}{G:Hp->Prop}{te:TE}{fs:St}{H1:Hp}{D:ao}{done:Hp->Prop}
end
section
variable{X:Cx}
theorem Br.r{id:String}{r:V->List V->Hp->VK->Prop}(h:Br X id r):Bq X id r:=h
end
def Ext(p:ao)(H H':Hp):Prop:=∀b o,H b=aa o->b≠p->H' b=aa o
theorem Ext.refl(p:ao)(H:Hp):Ext p H H:=λ_ _ h _=>h
theorem Ext.trans(a:Ext p H H1)(b:Ext p H1 H2):Ext p H H2:=λc o h hc=>b c o (a c o h hc) hc
theorem bC.ext(s:bC H H'):Ext p H H':=λb o h _=>s b o h
theorem Ext.upd:Ext p H (upd H p o):=λb u h hb=>by rw[cI hb];exact h
theorem bC.upd(h:H p=aj):bC H (L2.upd H p o):=λb u e=>by rw[cI (oO e h)];exact e
def Sv(D:ao)(tk tv:TE):TM:=λσ H Q=>tk σ H λy H1=>tv σ H1 λz H2=>∃kvs k,(∃ep,H2 D=aa (.dK kvs ep))/\y=kV k/\kvs.length<bL/\∀e,Q (upd H2 D (.dK (putK kvs k z) e))
theorem akm(hu:X.A.units+1<dB)(hk:PE X kx tk)(hv:PE X vx tv):PM X (do
      let kv <-eval kx X.env
      let vv <-oV [kv] (eval vx X.env)
      zZ {kx.pos with endLine:=vx.pos.endLine,endCol:=vx.pos.endCol}
      oV [kv,vv] (dictSet D kv vv)) (Sv D tk tv):=by
 intro pins s σ H Q I h;refine az (bQ (hk pins s σ H _ I h) λkv s1 aK=>?_)
 obtain⟨y,H1,I1,r1,q1⟩:=aK
 refine az (jB (bQ (hv pins s1 σ H1 _ I1 q1) λvv s2 aK=>?_))
 obtain⟨z,H2,I2,r2,kvs,k,⟨ep,hD⟩,ey,hl,q2⟩:=aK
 subst ey;refine az (zF (jB ?_))
 obtain⟨z1,hd,vs,rel,dd⟩:=aa4 I2.hok hD
 have hz:vs.length<=bL:=by rw[<-rel.length];exact z1
 have hl2:(putK kvs k z).length<=bL:=by have:=Nh kvs k z;lia
 refine ady (hsz:=hz) (vR r1) dd λh' rG hs=>?_
 obtain⟨ep',dd2⟩:=rG.dictAt
 refine⟨_,?_,q2 ep'⟩
 have he:∃q,h'.get? D=aa q:=let ⟨q,_,_,hq,_⟩:=rG;⟨q,hq⟩
 exact Dh I2 (by rw[hD];exact mU) hs he (Jx hl2 hd (rel.put k r2) dd2)
section
variable{X:Cx}{NT NF:List Str}{js:List Nat}{elt kx vx tg iter e:Expr}{ifs:List Expr}{T:gR}{wi:TI}{ts:Bk->TT}{te tk' tv:Bk->TE}{scope:jF}{pos:Pos}
def tDC(K:aF)(wi:TI)(T:gR)(ts:Bk->TT)(tk' tv:Bk->TE)(js:List Nat):TE:=λσ H Q=>wi σ H λJ H1=>∀D,H1 D=aj->∀b,Bg K T (ts b) (Sv D (tk' b) (tv b)) (frees js σ) J (upd H1 D (.dK [] 0)) (Q (.ref D))
theorem akn{pins:List (ao×Obj)}{σ:St}{s2:aA}{H2:Hp}{cl:List (Str×ao)}{it:ao}{fp:List ao}{tn:Nat->aU->Prop}{J:It}{Q:Hp->Prop}{RR:Value->ao->nP->aA->Prop}{E:Value->aA->Prop}
  (B:tD X NT NF js scope)(tk:rB tg NT T)(hc:X.calm=aq)(hu:X.A.units+1<dB)
  (hin:∀b,pP (X.bk (NT++NF) scope b) ifs (ts b)/\PE (X.bk (NT++NF) scope b) kx (tk' b)/\PE (X.bk (NT++NF) scope b) vx (tv b))
  (q2:∀n c,cl.lookup n=aa c->X.env.cells.lookup n=aa c)(q3:∀y∈scope.names,y.2=.free->∃c,cl.lookup y.1=aa c)
  (I2:Inv X pins σ H2 s2)(TT:Turn X.prog X.w X.K tg J fp it tn)(st2:tn 0 s2.heap)(f2:∀b∈fp,jG X pins H2 b)
  (q:∀b,Bg X.K T (ts b) (Sv s2.heap.objs.size (tk' b) (tv b)) (frees js σ) J (upd H2 s2.heap.objs.size (.dK [] 0)) Q)
  (hR:∀C H' s' m,Inv X pins σ H' s'->jG X pins H' C->s'.heap.Ns C m->Q H'->RR (.ref s2.heap.objs.size) C (.ok .next) s'):
  aH (model X.prog X.w) X.A (newDict) (λacc s₃=>aH (model X.prog X.w) X.A (newFunctionEnv scope X.env.globals cl [] X.env.qual aj .none (aa X.env)) (λcenv s₄=>
   j9 (model X.prog X.w) X.A (.compStart (.DictComp kx vx [⟨tg,iter,ifs,0⟩] scope pos) 0 (.ref it) acc {cenv with scope:=relabel scope X.env}) (RR acc cenv.locals) s₄) E s₃) E s2:=by
 refine jz ?_;have hD:H2 s2.heap.objs.size=aj:=I2.hok.fresh (bK _);have I3:Inv X pins σ (upd H2 s2.heap.objs.size (.dK [] 0)) {s2 with heap:=s2.heap.push {cls:=.type "dict",dict:=aj,data:=.dict #[]}}:=
  I2.laid (t':=s2.toks) (λb o e=>bH _ e) (bK _) (Yg s2.heap I2.big)
 have hsz:(s2.heap.push {cls:=.type "dict",dict:=aj,data:=.dict #[]}).objs.size=s2.heap.objs.size+1:=oJ ..;refine adm B.cell (by intro y hy;simp at hy) (λh₁ hns₁ hsb₁=>?_) B.kind;have uR:∀b∈fp,b<s2.heap.objs.size:=λb hb=>by
  obtain⟨o,e,_⟩:=TT.obj 0 _ st2 b hb
  exact bO e
 have f3:∀b∈fp,jG X pins (upd H2 s2.heap.objs.size (.dK [] 0)) b:=λb hb=>⟨by rw[cI (cW (uR b hb))];exact(f2 b hb).1,(f2 b hb).2⟩
 have keep:∀b o,(s2.heap.push {cls:=.type "dict",dict:=aj,data:=.dict #[]}).get? b=aa o->h₁.get? b=aa o:=λb o e=>
  hsb₁.extBut b o (cW (bO e)) (bH _ e)
 have Fq:∀b∈fp,b<(s2.heap.push {cls:=.type "dict",dict:=aj,data:=.dict #[]}).objs.size:=λb hb=>by have:=uR b hb;rw[hsz];exact xg this
 have I4:=I3.blk (s1:={s2 with heap:=h₁,toks:=s2.toks+([]:List (Str×Value)).length}) B q2 q3 f3 Fq hns₁ keep rfl I2.bare;have Ft:tn 0 h₁:=TT.keep 0 _ _ st2 λb _ o e=>keep b o (bH _ e)
 obtain⟨i1,i2,i3⟩:=hin ⟨cl,(s2.heap.push {cls:=.type "dict",dict:=aj,data:=.dict #[]}).objs.size,{s2 with heap:=s2.heap.push {cls:=.type "dict",dict:=aj,data:=.dict #[]}},upd H2 s2.heap.objs.size (.dK [] 0),fp⟩
 have loop:j9 (model X.prog X.w) X.A (.compLoop (.DictComp kx vx [⟨tg,iter,ifs,0⟩] scope pos) 0 (.ref it) (.ref s2.heap.objs.size) (compEnvC scope cl (s2.heap.push {cls:=.type "dict",dict:=aj,data:=.dict #[]}).objs.size X.env))
   (RR (.ref s2.heap.objs.size) (s2.heap.push {cls:=.type "dict",dict:=aj,data:=.dict #[]}).objs.size) {s2 with heap:=h₁,toks:=s2.toks+([]:List (Str×Value)).length}:=by
  refine Yi (X:=X.blk (NT++NF) scope cl (s2.heap.push {cls:=.type "dict",dict:=aj,data:=.dict #[]}).objs.size {s2 with heap:=s2.heap.push {cls:=.type "dict",dict:=aj,data:=.dict #[]}} (upd H2 s2.heap.objs.size (.dK [] 0)) fp)
   (T:=T) (fs:=frees js σ) (done:=Q) rfl (afB kx vx tg iter ifs scope pos _ _ _) rfl rfl rfl tk rfl B.nd hc (λx hx=>adn (B.tg x hx)) i1 (akm hu i2 i3) TT (λb hb=>?_) I4 Ft (q _) λH' s' σ' J' qd=>?_
  .exact⟨(f3 b hb).1,cW (Fq b hb),λhb2=>by
    rcases bI.mp (I3.Dq b hb2) with z|z
    .exact(f3 b hb).2.1 z
    .exact(f3 b hb).2.2.1 z,.inl hb,λx c e=>(f3 b hb).2.2.2.2.1 x c (q2 x c e),λp hp=>(nomatch(show p∈([]:List (ao×Obj)) from hp))⟩
  .obtain⟨m,hn,_⟩:=J'.loc
   exact hR _ H' s' m (I3.aa5 f3 J') (I3.uE (bK _) J'.free) hn qd
 exact codeAny_compStart_dict loop (TT.self _ 0 _ _ _ Ft loop)
theorem ahi(B:tD X NT NF js scope)(tk:rB tg NT T)(hc:X.calm=aq)(hu:X.A.units+1<dB)(hi:PI X tg iter wi)
  (hin:∀b,pP (X.bk (NT++NF) scope b) ifs (ts b)/\PE (X.bk (NT++NF) scope b) kx (tk' b)/\PE (X.bk (NT++NF) scope b) vx (tv b))
  (hsw:vz (.DictComp kx vx [⟨tg,iter,ifs,0⟩] scope pos) (aa (.Name y pos')) spos.line X.env=pure aq)
  (hN:X.N.Nodup)(hI:X.N[i]?=aa y)(hy:X.env.scope.names.lookup y=aa .local)
  (hs:∀x,wY iter X.env x=pure x:=by intro _;rfl):PS X (.Assign [.Name y pos'] (.DictComp kx vx [⟨tg,iter,ifs,0⟩] scope pos) spos) (Be (tDC X.K wi T ts tk' tv js) (vQ i)):=by
 intro pins s σ H D I h
 obtain⟨cl,hclos,q2,q3⟩:=Nv (env:=X.env) (scope:=scope) λy hy e=>I.ok.has y.1 (B.free y hy e)
 rw[adb _ _ _ _ hsw];refine az (zF (az ?_));show aH _ X.A (do let _ <-comprehension (.DictComp kx vx [⟨tg,iter,ifs,0⟩] scope pos) scope X.env _ (newDict) aB (eval iter X.env) (aa (assign (.Name y pos') X.env))) _ _ s;refine az (pZ (Uo (use:=aa (assign (.Name y pos') X.env)) (Q:=λ_ s'=>SP X pins D .next s') rfl hs hclos B.kind B.names
  (bQ (hi pins s σ H _ I h) λv s1 h1=>bQ h1 λitv s2 ⟨it,fp,tn,J,H2,e,I2,TT,st2,f2,q⟩=>?_)) (λ_ s' hq=>aM (aM hq)) λ_ _ e=>e)
 subst e;refine akn (hu:=hu) (Q:=λH'=>D.nx (σ.set i (aa (.ref s2.heap.objs.size))) H') (RR:=λacc C=>compPost (model X.prog X.w) X.A X.xe (aa (assign (.Name y pos') X.env)) (λ_ s'=>SP X pins D .next s') acc C) B tk hc (hin:=hin) q2 q3 I2 TT st2 f2 (q _ (I2.hok.fresh (bK _))) λC H' s' m I' fC hn qd=>?_
 show aH _ X.A (assign (.Name y pos') X.env (.ref s2.heap.objs.size)) _ _ _;refine Gu (N6 I' hN hI (.inl hy) (v:=.ref s2.heap.objs.size) rfl (λs3 I3 aK=>?_) (.inr hy))
 obtain⟨a,sb,ha⟩:=aK
 have Tp:C≠a:=by
  rcases ha with z|z
  .rw[z];exact fC.2.1
  .exact λw=>fC.2.2.2.2.1 y a z w.symm
 refine⟨m,hn.sameBut sb Tp,λh' sb'=>⟨_,H',?_,qd⟩⟩
 exact I3.turned (t':=s3.toks) (λb o hb e=>(sb'.2 b hb).trans e) fC.1 fC.2.1 fC.2.2.2.1 fC.2.2.2.2.1 fC.2.2.2.2.2
end
section
variable{X:Cx}
theorem aiw{K:aF}{t:Value}{c d:Value}{p q:Bool}(e1:zA K t c=aa p)(e2:zA K t d=aa q):MJ K t [c,d]=aa (p||q):=by
 unfold MJ;rw[e1];cases p with
 |true=>rfl
 |false=>
  unfold MJ;rw[e2];cases q with
  |true=>rfl
  |false=>rfl
end
structure Fy(K:aF)(T:gR)(J:It)(n:Nat)(vs:Nat->List V)(G:Hp->Prop):Prop where
 go:∀i H,i<n->G H->J.go i H
 uP:∀i H x H',i<n->G H->J.uP i H x H'->bC H H'/\wH K T x H' (vs i)
 stop:∀H,G H->J.stop n H
section
variable{K:aF}{T:gR}{J:It}{n:Nat}{vs:Nat->List V}{G:Hp->Prop}{ts:TT}{te:TE}{fs:St}{H1:Hp}{D:ao}{done:Hp->Prop}
end
theorem Inv.Jd{X:Cx}{pins:List (ao×Obj)}{σ:St}{H H':Hp}{s:aA}{h':aU}{t':Nat}{ch:List ao}(I:Inv X pins σ H s)(k:∀b o,b∉ch->s.heap.get? b=aa o->h'.get? b=aa o)(hf:∀b∈ch,jG X pins H b)
  (hs:bC H H')(hfr:∀b o,s.heap.get? b=aa o->H b=aj->H' b=aj)(hn:∀b u,H' b=aa u->H b=aa u\/dN X.prog X.w H' h' b u):Inv X pins σ H' {s with heap:=h',toks:=t'}:=by
 have Fi:∀b u,H b=aa u->b∉ch:=λb u e z=>by rw[(hf b z).1] at e;cases e
 refine I.step (g':=s.gens) (d':=s.drawn) (ch:=ch) (λb hb=>⟨(hf b hb).2.2.2.1,(hf b hb).2.1,(hf b hb).2.2.2.2.1,(hf b hb).2.2.2.2.2⟩) (λb o _ _ hc e _=>k b o hc e) (λb o _ _ hc e _=>⟨o.slots,k b o hc e⟩) (λb o _ e n=>hfr b o e n)
  (λb o hc e=>⟨o,k b o hc e⟩) (λ_ _ e=>hs _ _ e) (λ_ _ _ e=>hs _ _ e) (λb ps e=>⟨#[],by rw[hs _ _ e];simp⟩) (λm hm=>?_) (λb u e=>?_) I.bare
 .obtain⟨o,es,ep,ho,r⟩:=hm
  exact⟨o,es,ep,k _ o (λz=>(hf _ z).2.1 rfl) ho,r⟩
 .rcases hn b u e with z|z
  .refine(I.hok b u z).stay (λc v hc q=>k c v ?_ q) (λ_ q=>hs _ _ q) λ_ _ q=>hs _ _ q
   rcases hc with y|y
   .rw[y];exact Fi b u z
   .exact Fi c _ y
  .exact z
def Tr(K:aF)(a b:ao):It:=⟨λi H=>∃xs ys,bG K H a xs/\bG K H b ys/\i<min xs.length ys.length,
 λi H v H'=>∃p x y,H p=aj/\v=.ref p/\H'=upd H p (.tup [x,y])/\∀xs ys,bG K H a xs->bG K H b ys->xs[i]?=aa x/\ys[i]?=aa y,
 λi H=>∃xs ys,bG K H a xs/\bG K H b ys/\i=min xs.length ys.length⟩
theorem ahj{P:bA}{w:bu}{K:aF}{es:List Expr}{k:Nat}{ps:Pos}{a b z TI TO i1 i2:ao}(D:O1 z TI TO i1 i2 a b):
  Turn P w K (.Tuple es k ps) (Tr K a b) [z,TI,TO,i1,i2] z (λi h=>qt h z TI TO .none/\lZ h TI (.ref i1) (.ref i2)/\(∃c d,lZ h TO c d)/\h.IsListIter i1 a i/\h.IsListIter i2 b i) where
 mem:=by simp
 obj:=λi h st c hc=>by
  obtain⟨h1,h2,⟨_,_,h3⟩,⟨o4,e4,_,d4⟩,⟨o5,e5,_,d5⟩⟩:=st
  simp only[bI,gU,or_false] at hc;rcases hc with rfl|rfl|rfl|rfl|rfl
  .exact⟨_,h1,λv q=>by cases q⟩
  .exact⟨_,h2,λv q=>by cases q⟩
  .exact⟨_,h3,λv q=>by cases q⟩
  .exact⟨_,e4,λv q=>by rw[d4] at q;cases q⟩
  .exact⟨_,e5,λv q=>by rw[d5] at q;cases q⟩
 keep:=λi h h' st kk=>by
  obtain⟨h1,h2,⟨c,d,h3⟩,h4,h5⟩:=st
  exact⟨kk z (by simp) _ h1,kk TI (by simp) _ h2,⟨c,d,kk TO (by simp) _ h3⟩,h4.at λo e=>kk i1 (by simp) o e,h5.at λo e=>kk i2 (by simp) o e⟩
 item:=by
  intro X hP hw hK hc i pins s σ H E I hf st hg;subst hP hw hK
  obtain⟨xs,ys,ha,hb,hi⟩:=hg
  obtain⟨its,r1,p1,_⟩:=I.list ha
  obtain⟨its2,r2,p2,_⟩:=I.list hb
  have l1:=r1.length;have l2:=r2.length;have W:=afh (prog:=X.prog) (w:=X.w) (A:=X.A) (I.ok.hd hc) z TI TO i1 i2 a b D its.toArray its2.toArray
  obtain⟨s1,s2,s3,s4,s5⟩:=st
  refine W.item i s _ E (by simp;lia) ⟨s1,s2,s3,s4,s5,p1.isList,p2.isList⟩ λT vals h' tk hv hT ht hm kk=>?_
  obtain⟨x,y,hx,hy,rfl⟩:=hv
  refine⟨_,rfl,W.go es k ps i T _ _ E hm λh2 st2 wI=>?_⟩
  have gx:xs[i]?=aa (xs.getD i .non):=by
   have:i<xs.length:=by lia
   simp[oR,this]
  have gy:ys[i]?=aa (ys.getD i .non):=by
   have:i<ys.length:=by lia
   simp[oR,this]
  obtain⟨u1,hu1,q1⟩:=r1.get gx
  obtain⟨u2,hu2,q2⟩:=r2.get gy
  have ex:u1=x:=by
   have:its[i]?=aa x:=by simpa using hx
   rw[hu1] at this;exact fU this
  have ey:u2=y:=by
   have:its2[i]?=aa y:=by simpa using hy
   rw[hu2] at this;exact fU this
  subst ex ey;have wf:∀c,c∈[z,TO,i1,i2]->jG X pins H c:=λc hc=>hf c (by simp at hc⊢;rcases hc with rfl|rfl|rfl|rfl<;>simp)
  have Fv:H T=aj:=I.hok.fresh hT;have nT:T∉[z,TO,i1,i2]:=W.apart i T _ hm;have kT:h2.get? T=h'.get? T:=by
   obtain⟨o,e,_⟩:=id ht
   rw[wI T o nT e];exact e.symm
  obtain⟨oT,eT,cT,nT',dT⟩:=id ht
  refine⟨.ref T,upd H T (.tup [xs.getD i .non,ys.getD i .non]),I.Jd (λc o hc e=>wI c o hc (kk c o hc e)) wf (bC.upd Fv) (λc o e n=>?_) (λc u e=>?_),rfl,⟨T,_,_,Fv,rfl,rfl,λxs' ys' h1 h2=>?_⟩,?_,λc hc=>?_⟩
  .rw[cI]
   .exact n
   .intro z;subst z;exact absurd (bO e) (CG.mpr hT)
  .by_cases Fw:c=T
   .subst Fw;rw[eN] at e;cases e;refine .inr ⟨by show 2<=bL;decide,[u1,u2],.cons q1 (.cons q2 .nil),oT,kT.trans eT,cT,nT',by simpa using dT⟩
   .rw[cI Fw] at e;exact .inl e
  .rw[I.OJ h1 ha,I.OJ h2 hb]
   exact⟨gx,gy⟩
  .exact⟨st2.1,st2.2.1,st2.2.2.1,st2.2.2.2.1,st2.2.2.2.2.1⟩
  .rw[cI]
   .exact(hf c hc).1
   .intro z;subst z
    obtain⟨o,e,_⟩:∃o,s.heap.get? c=aa o/\True:=by
     simp only[bI,gU,or_false] at hc
     obtain⟨c1,d1,s3⟩:=s3
     obtain⟨o4,e4,_⟩:=s4
     obtain⟨o5,e5,_⟩:=s5
     rcases hc with rfl|rfl|rfl|rfl|rfl
     .exact⟨_,s1,trivial⟩
     .exact⟨_,s2,trivial⟩
     .exact⟨_,s3,trivial⟩
     .exact⟨_,e4,trivial⟩
     .exact⟨_,e5,trivial⟩
    exact absurd (bO e) (CG.mpr hT)
 done:=by
  intro X hP hw hK hc i pins s σ H E I hf st hg;subst hP hw hK
  obtain⟨xs,ys,ha,hb,hi⟩:=hg
  obtain⟨its,r1,p1,_⟩:=I.list ha
  obtain⟨its2,r2,p2,_⟩:=I.list hb
  have l1:=r1.length;have l2:=r2.length;have W:=afh (prog:=X.prog) (w:=X.w) (A:=X.A) (I.ok.hd hc) z TI TO i1 i2 a b D its.toArray its2.toArray
  obtain⟨s1,s2,s3,s4,s5⟩:=st
  have e:i=min its.toArray.size its2.toArray.size:=by simp;lia
  subst e;refine W.done s _ E ⟨s1,s2,s3,s4,s5,p1.isList,p2.isList⟩ λh' tk kk=>⟨rfl,?_⟩
  have wf:∀c,c∈[z,TO,i1,i2]->jG X pins H c:=λc hc=>hf c (by simp at hc⊢;rcases hc with rfl|rfl|rfl|rfl<;>simp)
  exact I.Jd kk wf (bC.refl H) (λ_ _ _ n=>n) λ_ _ e=>.inl e
 self:=λ_ _ _ _ _ st h=>Mj st.1 h
def ami(K:aF)(t:TA):TI:=λσ H R=>t σ H λvs H1=>∃a b xs ys,vs=[.ref a,.ref b]/\bG K H1 a xs/\bG K H1 b ys/\R (Tr K a b) H1
theorem ako{X:Cx}{es:List Expr}{k:Nat}{ps:Pos}{x y:Expr}{t:TA}{p pos:Pos}(hg:Gl X "zip")(hm:X.mg "zip"=aj)(ha:PA X [x,y] t)(hs:bD [x,y] X.env=[(aB,eval x X.env),(aB,eval y X.env)]:=by rfl)(hs2:bD [y] X.env=[(aB,eval y X.env)]:=by rfl):
  PI X (.Tuple es k ps) (.Call (.Name "zip" p) [x,y] [] pos) (ami X.K t):=by
 intro pins s σ H R I h;refine Call_ (vL I hg hm ade (Gg (bQ (ha pos pins s σ H _ I h) λus s1 aK=>?_) (by rw[hs,hs2]) (by rw[hs2];rfl)))
 obtain⟨vs,H1,I1,r1,q1⟩:=aK
 obtain⟨a,b,xs,ys,e,h1,h2,q⟩:=q1
 subst e;cases r1 with
 |cons r rr=>
  cases rr with
  |cons r' rr=>
   cases rr;cases r;cases r'
   obtain⟨its,v1,p1,_⟩:=I1.list h1
   obtain⟨its2,v2,p2,_⟩:=I1.list h2
   have Tt:a<s1.heap.objs.size:=by obtain⟨_,e,_⟩:=p1.isList;exact bO e
   have uR:b<s1.heap.objs.size:=by obtain⟨_,e,_⟩:=p2.isList;exact bO e
   refine call_zip_2 p1.isList p2.isList λh' g1 g2 g3 g4 g5 hsz kk=>?_
   refine Mj g1 ?_;have I2:Inv X pins σ H1 {s1 with heap:=h'}:=I1.kept (t':=s1.toks) kk
   refine⟨s1.heap.objs.size+4,[s1.heap.objs.size+4,s1.heap.objs.size+2,s1.heap.objs.size+3,s1.heap.objs.size,s1.heap.objs.size+1],_,_,H1,rfl,I2,ahj (zipApart_new Tt uR),⟨g1,g2,⟨_,_,g3⟩,g4,g5⟩,λc hc=>?_,q⟩
   refine I1.uE ?_ (I1.hok.fresh ?_)
   all_goals
    simp only[bI,gU,or_false] at hc;rcases hc with rfl|rfl|rfl|rfl|rfl<;>lia
theorem afC(I:Inv X pins σ H s)(rx:RelV x u)(ty:lD X.K H x t)(e:MJ X.K t its=aa b)
  (hc:s.heap.IsTuple c its.toArray)(h:∀tk,Q (.bool b) {s with toks:=tk}):aH (model X.prog X.w) A (call (.builtin "isinstance") [u,.ref c]) Q E s:=by
 obtain⟨⟨oc,od,oda,osl⟩,g1,g2,g3,g4⟩:=hc
 simp only at g2 g4;subst g2 g4;cases ty with
 |non=>cases(show u=iW from rx);exact rQ adP I.gQ mU g1 e (λz=>nomatch z) h
 |bl y=>cases(show u=qN y from rx);exact rQ adQ I.gQ mU g1 e (λz=>nomatch z) h
 |int i=>obtain⟨t,q⟩:=(show ∃t,u=zR i t from rx);cases q;exact rQ ad4 I.gQ mU g1 e (λz=>nomatch z) h
 |str y=>obtain⟨t,q⟩:=(show ∃t,u=HN y t from rx);cases q;exact rQ ad5 I.gQ mU g1 e (λz=>nomatch z) h
 |flt y=>obtain⟨t,q⟩:=(show ∃t,u=Wr y t from rx);cases q;exact rQ adF I.gQ mU g1 e (λz=>nomatch z) h
 |@lst a xs ea=>
  cases(show u=cM a from rx)
  obtain⟨_,_,n,_,h1⟩:=(show dN X.prog X.w H s.heap a (.lst xs) from I.hok a _ ea)
  exact rQ Ma I.gQ ⟨_,h1,rfl⟩ g1 e (λz=>nomatch z) h
 |@kJ a ob xs ea=>
  cases(show u=cM a from rx)
  obtain⟨_,_,_,n,_,h1⟩:=(show dN X.prog X.w H s.heap a (.kJ ob (.lst xs)) from I.hok a _ ea)
  exact rQ Ma I.gQ ⟨_,h1,rfl⟩ g1 e (λz=>nomatch z) h
 |@tup a xs ea=>
  cases(show u=cM a from rx)
  obtain⟨_,_,_,p⟩:=(show dN X.prog X.w H s.heap a (.tup xs) from I.hok a _ ea)
  obtain⟨o,h1,h2,_⟩:=p
  exact rQ adG I.gQ ⟨o,h1,h2⟩ g1 e (λz=>nomatch z) h
 |@dK a kvs epo ea=>
  cases(show u=cM a from rx)
  obtain⟨_,_,vs,_,p⟩:=(show dN X.prog X.w H s.heap a (.dK kvs epo) from I.hok a _ ea)
  obtain⟨o,es,h1,h2,_⟩:=p
  exact rQ Mf I.gQ ⟨o,h1,h2.1⟩ g1 e (λz=>nomatch z) h
 |@dT a kvs epo ea=>
  cases(show u=cM a from rx)
  obtain⟨_,_,xs,_,o,es,h1,h2,_⟩:=(show dN X.prog X.w H s.heap a (.dT kvs epo) from I.hok a _ ea)
  exact rQ Mf I.gQ ⟨o,h1,h2.1⟩ g1 e (λz=>nomatch z) h
 |@ins a C dx fs ea cl ha hn htk hm=>
  cases(show u=cM a from rx)
  obtain⟨mA,O,_⟩:=Zi I.hok ea
  obtain⟨od,J,_⟩:=O.look
  exact rQ (ad6 (cl.get _) cl.hd ha hn htk hm) I.gQ J g1 e (λz=>nomatch z) h
theorem ae2:fO X (.builtin "isinstance") (λxs H Q=>∃x c m n t p q,xs=[x,.ref c]/\H c=aa (.tup [.ty m,.ty n])/\lD X.K H x t/\zA X.K t (.type m)=aa p/\zA X.K t (.type n)=aa q/\Q (.bl (p||q)) H):=by
 intro pins s σ H xs us Q I r h
 obtain⟨x,c,m,n,t,p,q,rfl,hc,ty,e1,e2,k⟩:=h
 obtain⟨u,u2,rfl,r1,r2⟩:=vals2 r
 cases r2
 obtain⟨_,its,rv,ob,g1,g2,g3⟩:=(show dN X.prog X.w H s.heap c (.tup [.ty m,.ty n]) from I.hok c _ hc)
 cases rv with
 |cons a1 rv=>
  cases rv with
  |cons a2 rv=>
   cases rv;cases a1;cases a2;exact afC I r1 ty (aiw e1 e2) ⟨ob,g1,g2,g3⟩ λtk=>⟨.bl (p||q),H,I.tok tk,rfl,k⟩
end L2
namespace L2
open PySem PySem.Spec PyProof.Rows PySem.W
section
variable{N:Nat}{lt:Nat->Nat->Bool}{α β:Type}
def dO(N:Nat)(lt:Nat->Nat->Bool):KasT α->(α->Prop)->Prop
 |.ret a,R=>R a
 |.ask i j k,R=>i<N/\j<N/\dO N lt (k (lt i j)) R
theorem dO.mono:∀{t:KasT α},dO N lt t R->(∀a,R a->S a)->dO N lt t S
 |.ret a,h,f=>f a h
 |.ask i j k,h,f=>⟨h.1,h.2.1,dO.mono h.2.2 f⟩
theorem dO.bind:∀{t:KasT α},dO N lt t (λa=>dO N lt (f a) R)->dO N lt (t.bind f) R
 |.ret a,h=>h
 |.ask i j k,h=>⟨h.1,h.2.1,dO.bind h.2.2⟩
theorem dO.wp(ask:∀i j,i<N->j<N->∀C:Bool->aA->Prop,C (lt i j) s->cmp i j C s)(q:∀a,R a->Q a s):∀{t:KasT α},dO N lt t R->t.kasWp cmp Q s
 |.ret a,h=>q a h
 |.ask i j k,h=>ask i j h.1 h.2.1 _ (dO.wp ask q h.2.2)
def KP(N:Nat)(p:Array Nat):Prop:=p.toList.Perm (dX N)
theorem KP.ix(h:KP N p)(h0:0<N)(i:Nat):p.getD i 0<N:=by
 by_cases hi:i<p.size
 .have:p.getD i 0∈p.toList:=by simp[afD,hi]
  exact ud.mp (h.mem_iff.mp this)
 .simpa[afD,hi] using h0
theorem KP.rev(h:KP N p)(i j:Nat):KP N (kas_rev p i j):=((mirror_perm p i j _).toList).trans h
theorem KP.bub(h:KP N p)(i j:Nat):KP N (bubble p i j):=((bubble_perm p i j).toList).trans h
theorem QV(h:KP N p)(h0:0<N):∀f n,dO N lt (kas_asc p f n) λ_=>True
 |0,n=>trivial
 |f+1,n=>by
  refine⟨h.ix h0 _,h.ix h0 _,?_⟩
  dsimp only;split
  .exact trivial
  .exact QV h h0 f (n+1)
theorem Je(h0:0<N):∀f (p:Array Nat) n q,KP N p->dO N lt (kas_desc f p n q) λr=>KP N r.1
 |0,p,n,q,h=>h
 |f+1,p,n,q,h=>by
  refine⟨h.ix h0 _,h.ix h0 _,?_⟩
  dsimp only;split
  .split
   .exact Je h0 f _ _ _ (h.rev _ _)
   .exact Je h0 f _ _ _ h
  .refine⟨h.ix h0 _,h.ix h0 _,?_⟩
   dsimp only;split
   .exact h
   .exact Je h0 f _ _ _ h
theorem Yk(h0:0<N)(h:KP N p)(n nrem:Nat):dO N lt (kas_tail3 n nrem p) λr=>KP N r.2:=
 dO.bind (dO.mono (QV (h.rev 0 n) h0 _ _) λ_ _=>h.rev 0 n)
theorem Wv(h0:0<N)(h:KP N p)(n nrem:Nat):dO N lt (kas_descPart n nrem p) λr=>KP N r.2:=by
 refine dO.bind (dO.mono (Je h0 _ p _ _ h) λr hr=>?_);split
 .exact Yk h0 (KP.rev hr _ _) _ _
 .exact Yk h0 hr _ _
theorem ahk(h0:0<N)(h:KP N p)(nrem:Nat):dO N lt (kas_count nrem p) λr=>KP N r.2:=by
 refine dO.bind (dO.mono (QV h h0 _ _) λn _=>?_);split
 .exact h
 .split
  .refine⟨h.ix h0 _,h.ix h0 _,?_⟩
   dsimp only;split
   .exact h
   .exact Wv h0 (h.rev _ _) _ _
  .exact Wv h0 h _ _
theorem O2(h0:0<N)(h:KP N p)(k:Nat):∀f l r,dO N lt (kas_place p k f l r) λ_=>True
 |0,l,r=>trivial
 |f+1,l,r=>by
  unfold kas_place;split
  .exact trivial
  .refine⟨h.ix h0 _,h.ix h0 _,?_⟩
   dsimp only;split
   .exact O2 h0 h k f _ _
   .exact O2 h0 h k f _ _
theorem aay(h0:0<N):∀f (p:Array Nat) k,KP N p->dO N lt (kas_bin f p k) (KP N)
 |0,p,k,h=>h
 |f+1,p,k,h=>dO.bind (dO.mono (O2 h0 h k _ _ _) λl _=>aay h0 f _ _ (h.bub _ _))
theorem Zo(h0:0<N):dO N lt (kas_sort N) (KP N):=by
 refine dO.bind (dO.mono (ahk h0 (p:=List.toArray (dX N)) (vm _) N) λr hr=>?_);split
 .exact aay h0 _ _ _ hr
 .exact hr
end
def kLt:Key->Key->Bool
 |.inl i,.inl j=>decide (i<j)
 |.inr x,.inr y=>decide (x.cps.toList<y.cps.toList)
 |_,_=>aB
def jH:List Key->List Key->Bool
 |a::r,b::t=>if a=b then jH r t else kLt a b
 |_,_=>aB
def cA:Key->Bool
 |.inl _=>aq
 |.inr _=>aB
section
variable{prog:bA}{w:bu}{A:bV}{E:Value->aA->Prop}{s:aA}{Q:Bool->aA->Prop}
theorem ahl(ra:RelV (kV a) u)(rb:RelV (kV b) v)(ht:cA a=cA b)(h:Q (kLt a b) s):aH (model prog w) A (oneLt' f u v) Q E s:=by
 cases a with
 |inl i=>
  cases b with
  |inr y=>cases ht
  |inl j=>
   obtain⟨t,rfl⟩:=ra
   obtain⟨t',rfl⟩:=rb
   cases f with
   |true=>exact oneLt_int h
   |false=>exact kat_one _ _ (lt_int h)
 |inr x=>
  cases b with
  |inl y=>cases ht
  |inr y=>
   obtain⟨t,rfl⟩:=ra
   obtain⟨t',rfl⟩:=rb
   cases f with
   |true=>exact oneLt_str h
   |false=>exact kat_one _ _ (lt_str h)
theorem Zq(ht:cA a=cA b):rF (kV a) (kV b)=decide (a=b):=by
 cases a with
 |inl i=>
  cases b with
  |inr y=>cases ht
  |inl j=>show(i==j)=_;rw[qK];simp
 |inr x=>
  cases b with
  |inl y=>cases ht
  |inr y=>show(x==y)=_;rw[qK];simp
theorem Ii(a:Key):o9 (kV a)=aq:=by cases a<;>rfl
theorem Yl:∀{ks js:List Key}{us vs:List Value}{i:Nat},Vals (ks.map kV) us->Vals (js.map kV) vs->ks.map cA=js.map cA->Q (jH ks js) s->KatLex prog w A aq aB Q (us.zip vs) i s
 |[],[],_,_,_,ra,rb,_,h=>by
  cases ra;cases rb;exact kat_nil h
 |[],_::_,_,_,_,_,_,e,_=>by cases e
 |_::_,[],_,_,_,_,_,e,_=>by cases e
 |a::ks,b::js,us,vs,i,ra,rb,e,h=>by
  cases ra with
  |cons r1 ra=>
   cases rb with
   |cons r2 rb=>
    have e1:cA a=cA b:=(G5 e).1;have e2:=(G5 e).2;refine kat_cons (QS r1 r2 (Ii a) (Ii b) prog w _ _ ?_);rw[Zq e1];unfold jH at h;by_cases hab:a=b
    .rw[aY hab] at h;rw[fP hab];exact kat_yes (Yl ra rb e2 h)
    .rw[bw hab] at h;rw[jk hab];exact kat_no (ahl r1 r2 e1 h)
end
section
variable{prog:bA}{w:bu}{A:bV}{E:Value->aA->Prop}{s:aA}{vs:List Value}{κ:SortKind}{lt:Nat->Nat->Bool}{Rl:List Nat->Prop}
def Kp(a:ao)(h h':aU):Prop:=∀b o,b≠a->h.get? b=aa o->h'.get? b=aa o
theorem afE(ho:s.heap.get? a=aa (seqObj "list" vs.toArray n))(h64:vs.length<64)(hg:2<=vs.length->dO vs.length lt (kas_sort vs.length) λp=>KP vs.length p/\Rl p.toList)(hsm:vs.length<2->Rl (dX vs.length))
  (hk:2<=vs.length->∀s':aA,Kp a s.heap s'.heap->∀Q:SortKind->aA->Prop,Q κ s'->aH (model prog w) A (keyKind' vs.toArray) Q (λ_ _=>False) s')
  (hl:2<=vs.length->∀s':aA,Kp a s.heap s'.heap->∀i j,i<vs.length->j<vs.length->∀C:Bool->aA->Prop,C (lt i j) s'->kas_ask prog w A κ vs i j C s')
  (h:∀(p:List Nat)(h':aU)(c:Nat),p.Perm (dX vs.length)->Rl p->Kp a s.heap h'->h'.get? a=aa (seqObj "list" (p.map λi=>vs.getD i iW).toArray c)->P (.done (.ret .none)) {s with heap:=h'}):
  aH (model prog w) A (gY.«list.sort» ⟨[.ref a],[]⟩) P E s:=by
 have lta:a<s.heap.objs.size:=bO ho
 obtain⟨e1,ho1⟩:∃e1,(s.heap.update a (lg λ_=>(#[]:Array Value))).get? a=aa (seqObj "list" #[] e1):=⟨_,get?_update_seq ho λ_=>#[]⟩
 have sz:vs.length<=bL:=by rw[jo];lia
 have kp:Kp a s.heap (((s.heap.update a (lg λ_=>(#[]:Array Value))).push (seqObj "tuple" vs.toArray 0)).push (seqObj "list" #[] 0)):=λb o hb e=>
  bH _ (bH _ (((oE s.heap a _).2 b hb).trans e))
 have FJ:(((s.heap.update a (lg λ_=>(#[]:Array Value))).push (seqObj "tuple" vs.toArray 0)).push (seqObj "list" #[] 0)).get? a=aa (seqObj "list" #[] e1):=bH _ (bH _ ho1);rw[list_sort_plain];refine az (listItems_at ho rfl (az (listUpdate_at ho rfl (az (seqEpoch_at ho1 rfl (az (wpAny_newTuple (az (V5 (jB ?_) (iI _))) (by show vs.length<=_;exact sz))))) (by rw[fj];exact sz) (iI _))));show aH (model prog w) A _ P E {s with heap:=((s.heap.update a (lg λ_=>(#[]:Array Value))).push (seqObj "tuple" vs.toArray 0)).push (seqObj "list" #[] 0)};dsimp only;have fin:∀(p:List Nat),p.Perm (dX vs.length)->Rl p->∀out:Array Value,out=(p.map λi=>vs.getD i iW).toArray->
   P (.done (.ret .none)) {s with heap:=(((s.heap.update a (lg λ_=>(#[]:Array Value))).push (seqObj "tuple" vs.toArray 0)).push (seqObj "list" #[] 0)).update a (lg λ_=>out)}:=λp hp hrl out eo=>by
  subst eo;refine h p _ _ hp hrl (λb o hb e=>((oE _ a _).2 b hb).trans (kp b o hb e)) (get?_update_seq FJ _)
 by_cases h2:vs.toArray.size<2
 .rw[aY h2,aY h2];refine az (aM ?_);rw[StateT.run_pure];refine az (aM ?_);dsimp only;have hz:(pairsOf vs).size<=bL:=by rw[pairsOf_size];exact sz
  refine az (seqEpoch_at FJ rfl (az (listUpdate_at FJ rfl ?_ (hsz2:=by rw[Array.size_map];show(pairsOf vs).size<=_;lia))));simp only[bne_self_eq_false,oF,if_false];refine aM (fin (dX vs.length) (vm _) (hsm (by simpa using h2)) _ ?_);apply Array.toList_inj.mp
  show((vs.toArray.zip vs.toArray).map (·.2)).toList=_
  rw[Array.toList_map,Array.toList_zip,List.map_snd_zip (bK _)];show vs=_;refine GC (by simp) λi h1 h3=>?_
  simp[oR,h1]
 .have h2':2<=vs.length:=by simpa using h2
  rw[bw h2,bw h2];refine az (pZ (hk h2' _ kp (λk s'=>k=κ/\s'={s with heap:=((s.heap.update a (lg λ_=>(#[]:Array Value))).push (seqObj "tuple" vs.toArray 0)).push (seqObj "list" #[] 0)}) ⟨rfl,rfl⟩) (λk s0 hk0=>?_) λ_ _ x=>x.elim)
  obtain⟨rfl,rfl⟩:=hk0
  refine az (pZ (kat_run (ks:=vs) (vs:=vs) (Q:=λst' s'=>∃p:Array Nat,(KP vs.length p/\Rl p.toList)/\arrOf st'=p.map (kas_item (vs.toArray.zip vs.toArray))/\failedOf st'=aj/\s'={s with heap:=((s.heap.update a (lg λ_=>(#[]:Array Value))).push (seqObj "tuple" vs.toArray 0)).push (seqObj "list" #[] 0)})
   rfl h2' h64 (G:=λp s'=>(KP vs.length p/\Rl p.toList)/\s'={s with heap:=((s.heap.update a (lg λ_=>(#[]:Array Value))).push (seqObj "tuple" vs.toArray 0)).push (seqObj "list" #[] 0)}) (λp st' s' a1 a2 a3 a4=>⟨p,a4.1,a2,a3,a4.2⟩) (dO.wp (lt:=lt) (hl h2' _ kp) (λp hp=>⟨hp,rfl⟩) (hg h2'))) ?_ λ_ _ e=>e)
  rintro⟨⟨⟩,st'⟩ s' ⟨p,⟨hp,hrl⟩,har,hf,rfl⟩
  dsimp only;have hout:=kat_snds (ks:=vs) (vs:=vs) rfl har;have hps:p.toList.length=vs.length:=by rw[hp.length_eq,oH]
  rw[hout];refine az (seqEpoch_at FJ rfl (az (listUpdate_at FJ rfl ?_ (iI _) (by rw[fj,bh,hps];lia))));rw[hf];simp only[bne_self_eq_false,oF,if_false];exact aM (fin p.toList hp hrl _ rfl)
theorem Ww(h64:vs.length<64)(hg:2<=vs.length->dO vs.length lt (kas_sort vs.length) λp=>KP vs.length p/\Rl p.toList)(hsm:vs.length<2->Rl (dX vs.length))
  (hc:∀R:List Value->aA->Prop,(∀us h1 tk,s.heap.objs.size<=h1.objs.size->(∀b o,s.heap.get? b=aa o->h1.get? b=aa o)->us=vs->R us {s with heap:=h1,toks:=tk})->aH (model prog w) A.in1 (collect (.ref r)) R E s)
  (hk:2<=vs.length->∀s':aA,(∀b o,s.heap.get? b=aa o->s'.heap.get? b=aa o)->∀Q:SortKind->aA->Prop,Q κ s'->aH (model prog w) A.in1.in1 (keyKind' vs.toArray) Q (λ_ _=>False) s')
  (hl:2<=vs.length->∀s':aA,(∀b o,s.heap.get? b=aa o->s'.heap.get? b=aa o)->∀i j,i<vs.length->j<vs.length->∀C:Bool->aA->Prop,C (lt i j) s'->kas_ask prog w A.in1.in1 κ vs i j C s')
  (h:∀(p:List Nat)(D:ao)(h':aU)(c tk:Nat),p.Perm (dX vs.length)->Rl p->s.heap.objs.size<=D->(∀b o,s.heap.get? b=aa o->h'.get? b=aa o)->h'.get? D=aa (seqObj "list" (p.map λi=>vs.getD i iW).toArray c)->Q (.ref D) {s with heap:=h',toks:=tk}):
  aH (model prog w) A (call (.builtin "sorted") [.ref r]) Q E s:=by
 refine Ui kind_sorted plain_sorted entry_sorted (args_sorted1 _) ?_;unfold gY.«sorted»;refine az (m:=checkCount "sorted" 1 1 _) (aM (az (hc _ λus h1 tk hsz kk eu=>?_)));subst eu;refine az (V5 ?_ (by rw[jo];lia));have hoL:(h1.push (seqObj "list" us.toArray 0)).get? h1.objs.size=aa (seqObj "list" us.toArray 0):=dI _ rfl;have ltD:∀b o,s.heap.get? b=aa o->b≠h1.objs.size:=λb o e=>cW (bO (kk b o e))
 have up:∀s':aA,Kp h1.objs.size (h1.push (seqObj "list" us.toArray 0)) s'.heap->∀b o,s.heap.get? b=aa o->s'.heap.get? b=aa o:=λs' k b o e=>k b o (ltD b o e) (bH _ (kk b o e))
 refine az (jB (lR slot_list_sort ⟨_,hoL,rfl⟩ entry_list_sort (afE (κ:=κ) (lt:=lt) (s:={s with heap:=h1.push (seqObj "list" us.toArray 0),toks:=tk}) hoL h64 hg hsm (λh2 s' k=>hk h2 s' (up s' k)) (λh2 s' k=>hl h2 s' (up s' k)) λp h' c hp hrl k e=>⟨_,rfl,?_⟩) (args_list_sort _)));exact aM ⟨_,rfl,h p h1.objs.size h' c tk hp hrl hsz (up {s with heap:=h'} k) e⟩
end
def nY(h:aU)(d:ao)(es:Array xN)(ep:Nat):Prop:=∃o,h.get? d=aa o/\o.ExactDict/\o.data=.dict es ep
section
variable{prog:bA}{w:bu}{A:bV}{E:Value->aA->Prop}{s:aA}{d it:ao}{es:Array xN}{ep i:Nat}
theorem nY.ty(h:nY s.heap d es ep):s.TypeIs (.ref d) "dict":=let ⟨o,ho,hc,_⟩:=h;⟨o,ho,hc.1⟩
theorem Ym(hd:(d==lV)=aB)(hm:nY s.heap d es ep)
  (hQ:Q (.ref s.heap.objs.size) {s with heap:=s.heap.push {cls:=.type "dict_keyiterator",data:=.fields #[.ref d,.int 0 0,.int es.size 0,.int ep 0]}}):aH (model prog w) A (Aj (.ref d)) Q E s:=by
 obtain⟨o,ho,hc,hdat⟩:=id hm
 have hT:=hm.ty;refine Vc hT aea (lR aea hT F.entry_dict_iter ?_ (F.args_dict_iter_1 _));unfold gY.«dict.__iter__»;refine az ?_;unfold aoc;refine az (Uy hT ?_);show aH _ _ (pure (cM d)) _ _ s
 refine aM ?_;show aH _ _ (adf d >>= _) _ _ s
 unfold adf;rw[bw (by rw[hd];exact gr)];refine az (aM (az (Mi ho hdat (az (Vz ho hdat ?_)))));refine az (jz (aM ⟨_,rfl,"dict_keyiterator",_,⟨_,dI _ rfl,rfl⟩,F.slot_dict_keyiterator_next.lookup,?_⟩));simpa[fW] using hQ
theorem Yn(hit:s.heap.IsKeyIter it d i es.size ep)(hm:nY s.heap d es ep)(hlt:i<es.size)
  (hQ:∀h',h'.IsKeyIter it d (i+1) es.size ep->xG it s.heap h'->Q (aa es[i].key) {s with heap:=h'}):aH (model prog w) A (gZ (.ref it)) Q E s:=by
 obtain⟨o,ho,hc,hd⟩:=id hit;obtain⟨od,hod,hcd,hdd⟩:=id hm
 unfold gZ;refine az (xF (pR (name:=bM "__next__") hit.typeIs Lk (lR Lk hit.typeIs acK ?_ (acJ _))));refine az (aM ?_);refine az ?_;refine az ?_
 first|refine az (Lj hit.typeIs (aM (az (xr ho hd ?_))))|refine az (Lr hit.typeIs (aM (az (xr ho hd ?_))))
 have own:acL "dict_keyiterator"=aB:=by decide
 simp only[own,oF,if_false];show aH _ _ (if(cM d==iW)=aq then _ else _) _ _ s
 rw[bw (show ¬((cM d==iW)=aq) from gr)];refine az (aM (az (Mi hod hdd ?_)));rw[bw (by simp)];refine az (aM (az (Vz hod hdd ?_)));rw[bw (by simp)];refine aM ?_;simp only[show ¬((i:Int)<0) from by lia,if_false,Gv,jM hlt];refine az ?_
 first|refine az (Lj hit.typeIs (aM (az (Uz hit.typeIs ?_))))|refine az (Lr hit.typeIs (aM (az (Uz hit.typeIs ?_))))
 show aH _ _ (setField (.ref it) 1 (fW ((i:Int)+1)) >>= _) _ _ s;refine az (ue ho hd (by simp) ?_);have hit':(s.heap.update it (V6 (·.setIfInBounds 1 (fW ((i:Int)+1))))).IsKeyIter it d (i+1) es.size ep:=⟨_,u0 _ ho (UG (BP hd _)),(Vd ..).trans hc,by rw[BP hd];simp[fW]⟩
 refine az (jB ?_);refine az (Uz (s:={s with heap:=s.heap.update it (V6 (·.setIfInBounds 1 (fW ((i:Int)+1))))}) hit'.typeIs ?_);show aH _ _ (pure es[i].key) _ _ _;exact aM (aM ⟨_,rfl,aM (hQ _ hit' (oE ..))⟩)
theorem Zr(hh:A.handled=aj)(hit:s.heap.IsKeyIter it d i es.size ep)(hm:nY s.heap d es ep)(hge:es.size<=i)
  (hQ:∀h',Hi it s.heap h'->Q aj {s with heap:=h'}):aH (model prog w) A (gZ (.ref it)) Q E s:=by
 obtain⟨o,ho,hc,hd⟩:=id hit;obtain⟨od,hod,hcd,hdd⟩:=id hm
 unfold gZ;refine az (xF (pR (name:=bM "__next__") hit.typeIs Lk (lR Lk hit.typeIs acK ?_ (acJ _))));refine az (aM ?_);refine az ?_;refine az ?_
 first|refine az (Lj hit.typeIs (aM (az (xr ho hd ?_))))|refine az (Lr hit.typeIs (aM (az (xr ho hd ?_))))
 have own:acL "dict_keyiterator"=aB:=by decide
 simp only[own,oF,if_false];show aH _ _ (if(cM d==iW)=aq then _ else _) _ _ s
 rw[bw (show ¬((cM d==iW)=aq) from gr)];refine az (aM (az (Mi hod hdd ?_)));rw[bw (by simp)];refine az (aM (az (Vz hod hdd ?_)));rw[bw (by simp)];refine aM ?_;simp only[show ¬((i:Int)<0) from by lia,if_false,Gv,Uv hge];refine az ?_
 first|refine az (Lj hit.typeIs (aM ?_))|refine az (Lr hit.typeIs (aM ?_))
 show aH _ _ (setField (.ref it) 0 .none >>= _) _ _ s;refine az (ue ho hd (by simp) ?_);show aH _ _ (Dv (.type "StopIteration") [] >>= _) _ _ _;refine az ?_;simp only[Dv,O3];refine az (jz ?_ (by size_fits));refine az (m:=Cm _ _) (Hj (a:=iW) (by first|rfl|(simp only[Cm];rfl)) ?_);refine jz ?_ (by size_fits);simp only[O4];refine az (V7 ?_);rw[show A.in1.handled=aj from hh];refine az (aM (Wx ?_));refine az (Ml (T:="StopIteration") (b:=aq) ⟨_,dI _ rfl,rfl⟩ VN ?_);exact aM (hQ _ (((oE ..).extBut.push _).push _))
theorem ags(hh:A.handled=aj)(hne:d≠it):ux prog w A it [it,d] [it] es.size (λi v=>(es[i]?).map (·.key)=aa v) (λi h=>h.IsKeyIter it d i es.size ep/\nY h d es ep) where
 sub:=λb hb=>by simp at hb;simp[hb]
 frame:=λ_ _ _ st hk=>⟨st.1.at λo e=>hk it (by simp) o e,let ⟨o,ho,r⟩:=st.2;⟨o,hk d (by simp) o ho,r⟩⟩
 item:=λi s Q E hi st hQ=>Yn st.1 st.2 hi λh' hit' hs'=>hQ _ h' s.toks (by simp[hi]) ⟨hit',let ⟨o,ho,r⟩:=st.2;⟨o,(hs'.2 d hne).trans ho,r⟩⟩ λb o hb e=>(hs'.2 b λz=>hb (by simp[z])).trans e
 done:=λs Q E st hQ=>Zr hh st.1 st.2 (bK _) λh' he'=>hQ h' s.toks λb o hb e=>he' b o (λz=>hb (by simp[z])) e
 self:=λ_ _ _ _ st hQ=>ado st.1 hQ
theorem aix(lo:(d==lV)=aB):KdlSrc prog w "dict" d d es.size (λi v=>(es[i]?).map (·.key)=aa v) (λh=>nY h d es ep) where
 type:=λ_ hm=>hm.ty
 there:=λ_ hm=>let ⟨_,ho,_⟩:=hm;⟨bO ho,bO ho⟩
 keep:=λ_ _ hm hk=>let ⟨o,ho,r⟩:=hm;⟨o,hk d (.inl rfl) o ho,r⟩
 notList:=by decide
 notTuple:=by decide
 hint:=λ_ _ _ _ hm hq=>kdl_hint_dict hm.ty hq
 iter:=λ_ _ hh hm=>⟨_,_,(λ_ _ hq=>Ym lo hm hq),ags hh (let ⟨_,ho,_⟩:=hm;cW (bO ho)),⟨⟨_,dI _ rfl,rfl,rfl⟩,let ⟨o,ho,r⟩:=hm;⟨o,bH _ ho,r⟩⟩⟩
theorem afi(K:KdlSrc prog w T r d n P OK)(hh:A.handled=aj)(hok:OK s.heap)(hn:n<=bL)
  (h:∀(h':aU)(tk:Nat)(acc:Array Value),s.heap.objs.size<=h'.objs.size->(∀b o,s.heap.get? b=aa o->h'.get? b=aa o)->ItemsOf P acc n->R acc.toList {s with heap:=h',toks:=tk}):
  aH (model prog w) A (collect (.ref r)) R E s:=by
 have hlt:=K.there _ hok;unfold collect;refine az (VP (nH entry_proto_collect' ?_));rw[oA acN _];show aH _ A.in1 (newList [] >>= λl=>again (.builtin "list.__iadd__" ⟨[l,.ref r],[]⟩)) _ _ s;refine az (jz ?_);refine aM ⟨oM Ls _,nH entry_list_iadd' ?_⟩;rw[oA Ls _];have hS:(s.heap.push {cls:=.type "list",data:=.seq ([]:List Value).toArray}).get? s.heap.objs.size=aa {cls:=.type "list",data:=.seq #[]}:=dI _ rfl;show aH _ A.in1 (Ln (.ref s.heap.objs.size) (.ref r) (.ref s.heap.objs.size)) _ _ _;have key:=kdl_extend (A:=A) (s:={s with heap:=s.heap.push {cls:=.type "list",data:=.seq ([]:List Value).toArray}}) (R:=λ(q:nP)(s':aA)=>∃(h':aU)(tk:Nat)(acc':Array Value)(c':Nat),q=.ok (.ret (.ref s.heap.objs.size))/\s'={s with heap:=h',toks:=tk}/\(∀b o,s.heap.get? b=aa o->h'.get? b=aa o)/\h'.get? s.heap.objs.size=aa {cls:=.type "list",dict:=aj,data:=.seq acc' c',slots:=#[]}/\ItemsOf P acc' n)
  K hh (K.keep _ _ hok λb _ o e=>bH _ e) s.heap.objs.size (qL hlt.1) (qL hlt.2) (.ref s.heap.objs.size) 0 hS (λh' tk acc' c' hk hS' hacc=>⟨h',tk,acc',c',rfl,rfl,λb o e=>hk b o (cW (bO e)) (bH _ e),hS',hacc⟩) hn
 refine pZ key (λfin s' x=>?_) λe s' x=>?_
 .cases fin with
  |done f=>
   obtain⟨h',tk,acc',c',e,rfl,hk,hS',hacc⟩:=x
   cases e;show aH _ A (load s.heap.objs.size >>= _) _ _ _
   exact az (Hz hS' (aM (h h' tk acc' (zH (bO hS')) hk hacc)))
  |again c₁=>
   refine⟨x.1,zJ x.2 λq s₂ y=>?_⟩
   obtain⟨h',tk,acc',c',rfl,rfl,hk,hS',hacc⟩:=y
   show aH _ A (load s.heap.objs.size >>= _) _ _ _;exact az (Hz hS' (aM (h h' tk acc' (zH (bO hS')) hk hacc)))
 .obtain⟨_,_,_,_,e',_⟩:=x;cases e'
end
theorem Xl:∀{us:List Value}{ns:List Str},StrsAre us ns->Vals (ns.map V.str) us
 |_,_,.nil=>.nil
 |_,_,.cons _ t r=>.cons ⟨t,rfl⟩ (Xl r)
section
variable{X:Cx}
theorem aeb:fO X (.builtin "sorted") (λxs H Q=>∃(p:ao)(ns:List Int),xs=[.ref p]/\bG X.K H p (ns.map V.int)/\ns.length<64/\∀(l:ao)(ns':List Int),H l=aj->ns'.Perm ns->ns'.Pairwise (·<=·)->Q (.ref l) (upd H l (.lst (ns'.map V.int)))):=by
 intro pins s σ H xs us Q I r h
 obtain⟨p,ns,rfl,hp,h64,q⟩:=h
 obtain⟨u,rfl,ru⟩:=vals1 r
 cases ru
 obtain⟨its,rv,pl,_⟩:=I.list hp
 have hi:IntsAre its ns:=intsAre_of rv;have hl:=rv.length;rw[bh] at hl;refine sorted_ints pl.isList hi (by lia) λout ns' a1 a2 a3=>?_
 obtain⟨e,he⟩:=sortedAll_at s.heap its out
 have hz:ns'.length<=bL:=by rw[a2.length_eq,jo];lia
 exact⟨.ref (s.heap.objs.size+1),_,I.laid (o:=.lst (ns'.map V.int)) (t':=s.toks) (λ_ _=>sortedAll_old) (uf _) ⟨by rw[bh];exact hz,out.toList,e,HQ a1,by simpa[seqObj] using he⟩,rfl,q _ ns' (I.hok.fresh (uf _)) a2 a3⟩
theorem aec:fO X (.builtin "sorted") (λxs H Q=>∃(p:ao)(ns:List Str),xs=[.ref p]/\bG X.K H p (ns.map V.str)/\ns.length<64/\∀(l:ao)(ns':List Str),H l=aj->ns'.Perm ns->sortedS ns'=aq->Q (.ref l) (upd H l (.lst (ns'.map V.str)))):=by
 intro pins s σ H xs us Q I r h
 obtain⟨p,ns,rfl,hp,h64,q⟩:=h
 obtain⟨u,rfl,ru⟩:=vals1 r
 cases ru
 obtain⟨its,rv,pl,_⟩:=I.list hp
 have hi:StrsAre its ns:=Nx rv;have hl:=rv.length;rw[bh] at hl;refine sorted_strs pl.isList hi (by lia) λout ns' a1 a2 a3=>?_
 obtain⟨e,he⟩:=sortedAll_at s.heap its out
 have hz:ns'.length<=bL:=by rw[a2.length_eq,jo];lia
 exact⟨.ref (s.heap.objs.size+1),_,I.laid (o:=.lst (ns'.map V.str)) (t':=s.toks) (λ_ _=>sortedAll_old) (uf _) ⟨by rw[bh];exact hz,out.toList,e,Xl a1,by simpa[seqObj] using he⟩,rfl,q _ ns' (I.hok.fresh (uf _)) a2 a3⟩
theorem gC.cz(r:gC k A):A.units+1<dB:=by have:=r.un;lia
abbrev Row:=ao×List Key
def TupAt(h:aU)(r:Row):Prop:=∃its,Vals (r.2.map kV) its/\IsTup h r.1 its.toArray
theorem TupAt.keep(t:TupAt h r)(k:∀b o,h.get? b=aa o->h'.get? b=aa o):TupAt h' r:=by
 obtain⟨its,v,o,e,c⟩:=t
 exact⟨its,v,o,k _ _ e,c⟩
theorem Zt:∀{rows:List Row},(∀r∈rows,TupAt h r/\r.2.map cA=b::sh)->∃fs,KatTups h (rows.map λr=>cM r.1) fs/\fs.length=rows.length/\∀f∈fs,∃k,RelV (kV k) f/\cA k=b
 |[],_=>⟨[],KatTups.nil,rfl,by simp⟩
 |r::rows,ha=>by
  obtain⟨fs,t,l,g⟩:=Zt (rows:=rows) λq hq=>ha q (dg _ hq)
  obtain⟨⟨its,v,o,e,c,n,d⟩,s⟩:=ha r cV
  obtain⟨a,ks⟩:=r
  cases ks with
  |nil=>cases s
  |cons k ks=>
   cases v with
   |@cons _ u _ us v1 v2=>
    refine⟨u::fs,KatTups.cons e c d (by simp) t,by simp[l],λf hf=>?_⟩
    rcases bI.mp hf with rfl|hf
    .exact⟨k,v1,(G5 s).1⟩
    .exact g f hf
theorem agt(r:RelV (kV k) f)(e:cA k=b):Looks M h (typeOf f) (if b=aq then .type "int" else .type "str"):=by
 subst e;cases k with
 |inl i=>obtain⟨t,rfl⟩:=r;exact Looks.of_pure rfl
 |inr i=>obtain⟨t,rfl⟩:=r;exact Looks.of_pure rfl
theorem O5(rows:List Row)(hi:i<rows.length):(rows.map λr=>cM r.1).getD i iW=.ref rows[i].1:=by simp[oR,hi]
def rowAt(rows:List Row)(i:Nat):List Key:=((rows[i]?).map (·.2)).getD []
theorem Xm{prog:bA}{w:bu}{A:bV}{s':aA}{rows:List Row}{b:Bool}{sh:List Bool}(ha:∀r∈rows,TupAt s'.heap r/\r.2.map cA=b::sh)(h0:0<rows.length)(Q:SortKind->aA->Prop)(q:Q (tuples' aq) s'):
  aH (model prog w) A (keyKind' (rows.map λr=>cM r.1).toArray) Q (λ_ _=>False) s':=by
 obtain⟨fs,t,l,g⟩:=Zt ha
 refine kat_kind (T:=if b=aq then .type "int" else .type "str") t (by lia) (λv hv=>?_) (by cases b<;>rfl) (by cases b<;>exact q)
 obtain⟨k,r,e⟩:=g v hv
 exact agt r e
theorem aiy(ha:∀r∈rows,TupAt s'.heap r/\r.2.map cA=sh)(hi:i<rows.length)(hj:j<rows.length)(C:Bool->aA->Prop)(q:C (jH (rowAt rows i) (rowAt rows j)) s'):
  kas_ask prog w A (tuples' aq) (rows.map λr=>cM r.1) i j C s':=by
 obtain⟨⟨its,v,o,e,c,n,d⟩,s1⟩:=ha rows[i] (Cg hi)
 obtain⟨⟨its2,v2,o2,e2,c2,n2,d2⟩,s2⟩:=ha rows[j] (Cg hj)
 unfold kas_ask;rw[O5 rows hi,O5 rows hj];have l1:=v.length;have l2:=v2.length;have l3:rows[i].2.length=rows[j].2.length:=by
  have:=congrArg qM (s1.trans s2.symm);simpa using this
 refine kat_lt e d e2 d2 ?_;have ez:decide (its.toArray.size<its2.toArray.size)=aB:=by
  rw[jk];simp only[fj];rw[bh] at l1 l2;lia
 rw[ez];have q':C (jH rows[i].2 rows[j].2) s':=by
  unfold rowAt at q;rw[gJ hi,gJ hj] at q;exact q
 exact Yl (by simpa using v) (by simpa using v2) (s1.trans s2.symm) q'
theorem Od{rows:List Row}{p:List Nat}(h:p.Perm (dX rows.length)):(p.map λi=>rows.getD i (0,[])).Perm rows:=by
 have e:(dX rows.length).map (λi=>rows.getD i (0,[]))=rows:=GC (by simp) λi h1 h2=>by simp[oR,h2]
 exact(h.map _).trans (by rw[e])
theorem Xn{rows:List Row}{p:List Nat}(h:p.Perm (dX rows.length)):(p.map λi=>(rows.map λr=>cM r.1).getD i iW)=(p.map λi=>rows.getD i (0,[])).map λr=>cM r.1:=by
 rw[gM];refine BL λi hi=>?_
 have hlt:=ud.mp (h.mem_iff.mp hi);rw[O5 rows hlt];simp[oR,hlt]
theorem Zu:∀{rows:List Row}{us:List Value},Vals (rows.map λr=>V.ref r.1) us->us=rows.map λr=>cM r.1
 |[],_,h=>by cases h;rfl
 |r::rows,_,h=>by
  cases h with
  |cons a b=>
   cases a;rw[Zu b];rfl
theorem Oe:∀(rows:List Row),Vals (rows.map λr=>V.ref r.1) (rows.map λr=>cM r.1)
 |[]=>.nil
 |r::rows=>.cons rfl (Oe rows)
end
section
variable{K:aF}{T:gR}{J:It}{n:Nat}{vs:Nat->List V}{G:Hp->Prop}{ts:TT}{em:TM}{fs:St}{H0 H1:Hp}{D:ao}{done:Hp->Prop}
end
theorem ahm(A:bV)(s:aA)(ra:RelV (kV a) u)(rb:RelV (kV b) v)(ht:cA a=cA b):Nt A s u v (decide (a=b)):=by
 rw[<-Zq ht];exact QS ra rb (Ii a) (Ii b)
theorem Yo(A:bV)(s:aA)(ra:RelV (kV a) u)(rb:RelV (kV b) v)(ht:cA a=cA b)(prog:bA)(w:bu)(E:Value->aA->Prop)(Q:Value->aA->Prop)(h:Q (.bool (kLt a b)) s):
  aH (model prog w) A (zM .Lt u v) Q E s:=by
 cases a with
 |inl i=>
  cases b with
  |inr y=>cases ht
  |inl j=>
   obtain⟨t,rfl⟩:=ra
   obtain⟨t',rfl⟩:=rb
   exact(lt_int h:aH (model prog w) A (gb .Lt _ _) Q E s)
 |inr x=>
  cases b with
  |inl y=>cases ht
  |inr y=>
   obtain⟨t,rfl⟩:=ra
   obtain⟨t',rfl⟩:=rb
   exact(lt_str h:aH (model prog w) A (gb .Lt _ _) Q E s)
section
open PySem.SeqAt
open PySem.AutoSeq1 (wpAny_loadPart')
open PySem.MeetsSeq PySem.MeetsSeq2 PySem.MeetsSeq3
theorem aeJ(l b:ao)(items items2:Array Value)(n n2:Nat)(dd dd2:Option ao)(sl sl2:Array (Option Value))(ns ms:List Key)(hi:Vals (ns.map kV) items.toList)(hj:Vals (ms.map kV) items2.toList)(hty:ns.map cA=ms.map cA):
  Meets (gY.«tuple.__lt__» ⟨[.ref l,.ref b],[]⟩)
   (λ_ R s=>s.heap.get? l=aa {cls:=.type "tuple",dict:=dd,data:=.seq items n,slots:=sl}/\s.heap.get? b=aa {cls:=.type "tuple",dict:=dd2,data:=.seq items2 n2,slots:=sl2}/\R (.ok (.ret (.bool (jH ns ms)))) s):=
 .of_wp λprog w A R s h=>by
  obtain⟨hp,g,d,tk,os⟩:=s;obtain⟨hl,hb,h⟩:=h
  have f2:=acW;have z0:ns.length=ms.length:=by have:=congrArg qM hty;simpa using this
  have z1:items.size=ns.length:=by have:=hi.length;rw[bh] at this;simpa using this.symm
  have z2:items2.size=ms.length:=by have:=hj.length;rw[bh] at this;simpa using this.symm
  wp_walk using Mv hl,Mv hb,aed _ (λrest b s'=>b.1=aj/\s'=⟨hp,g,d,tk,os⟩/\∃(vs ws:List Value)(ns' ms':List Key),rest=vs.zip ws/\
   Vals (ns'.map kV) vs/\Vals (ms'.map kV) ws/\ns'.map cA=ms'.map cA/\R (.ok (.ret (.bool (jH ns' ms')))) ⟨hp,g,d,tk,os⟩) _
  case turn=>
   rintro⟨y,x⟩ rest b s' ⟨hb',rfl,vs,ws,ns',ms',hz,KZ,hwi,hlen,hR⟩
   cases ns' with
   |nil=>cases KZ;rw[List.zip_nil_left] at hz;cases hz
   |cons a ns'=>
    cases ms' with
    |nil=>cases hlen
    |cons c ms'=>
     cases KZ with
     |cons r1 abB=>
      cases hwi with
      |cons r2 abC=>
       rw[U4] at hz;injection hz with hyx hrest
       injection hyx with hy hx
       subst hy hx;have t1:cA a=cA c:=(G5 hlen).1;have t2:=(G5 hlen).2;unfold jH at hR;refine az (ahm A.in1 ⟨hp,g,d,tk,os⟩ r1 r2 t1 prog w _ _ ?_);by_cases hac:a=c
       .rw[aY hac] at hR;rw[fP hac];wp_walk
        exact⟨rfl,rfl,_,_,_,_,hrest,abB,abC,t2,hR⟩
       .rw[bw hac] at hR;rw[jk hac];have Tu:=Yo A.in1 ⟨hp,g,d,tk,os⟩ r1 r2 t1 prog w;wp_walk using Tu
        exact⟨_,rfl,by simpa using hR⟩
  case fin=>
   rintro⟨b1,b2⟩ s' ⟨hb',rfl,vs,ws,ns',ms',hz,KZ,hwi,hlen,hR⟩
   simp only at hb';subst hb';have hv:jH ns' ms'=decide (items.size<items2.size):=by
    rw[jk (by lia)];cases ns' with
    |nil=>unfold jH;rfl
    |cons a ns'=>
     cases ms' with
     |nil=>cases hlen
     |cons c ms'=>
      cases KZ with
      |cons r1 abB=>
       cases hwi with
       |cons r2 abC=>
        rw[U4] at hz;cases hz
   rw[hv] at hR;wp_walk
   exact⟨_,rfl,by simpa[anU] using hR⟩
  case h=>
   exact⟨rfl,rfl,items.toList,items2.toList,ns,ms,rfl,hi,hj,hty,h⟩
end
theorem afF(hl:IsTup s.heap l items)(hb:IsTup s.heap b items2)(hi:Vals (ns.map kV) items.toList)(hj:Vals (ms.map kV) items2.toList)(hty:ns.map cA=ms.map cA)
  (hu:A.units<dB)(h:Q (.bool (jH ns ms)) s):aH (model prog w) A (gb .Lt (.ref l) (.ref b)) Q E s:=by
 obtain⟨⟨cls,dd,data,sl⟩,ho,hc,n,hd⟩:=id hl
 obtain⟨⟨cls2,dd2,data2,sl2⟩,ho2,hc2,n2,hd2⟩:=id hb
 simp only at hc hd hc2 hd2;subst hc hd hc2 hd2;exact ac6 (op:=.Lt) ⟨_,ho,rfl⟩ ⟨_,ho2,rfl⟩ PySem.F.slot_tuple_lt PySem.F.entry_tuple_lt (PySem.F.args_tuple_lt_2 _ _) (aeJ l b items items2 n n2 dd dd2 sl sl2 ns ms hi hj hty)
  ⟨ho,ho2,show qN (jH ns ms)≠UJ/\Q (.bool (jH ns ms)) s from⟨(λx=>nomatch x),h⟩⟩ hu
mutual
def RX(H:Hp):au->V->Prop
 |.none,v=>v=.non
 |.bool b,v=>v=.bl b
 |.int i,v=>v=.int i
 |.str x,v=>v=.str x
 |.list ds,v=>∃a vs,v=.ref a/\H a=aa (.lst vs)/\lJ H ds vs
 |.tuple ds,v=>∃a vs,v=.ref a/\H a=aa (.tup vs)/\lJ H ds vs
 |.dict _,_=>False
def lJ(H:Hp):List au->List V->Prop
 |[],vs=>vs=[]
 |d::ds,vs=>∃v r,vs=v::r/\RX H d v/\lJ H ds r
end
mutual
theorem RX.same(s:bC H H'):∀{d:au}{v:V},RX H d v->RX H' d v
 |.none,_,h=>h
 |.bool _,_,h=>h
 |.int _,_,h=>h
 |.str _,_,h=>h
 |.list ds,_,h=>by
  obtain⟨a,vs,e,q,r⟩:=h
  exact⟨a,vs,e,s _ _ q,lJ.same s r⟩
 |.tuple ds,_,h=>by
  obtain⟨a,vs,e,q,r⟩:=h
  exact⟨a,vs,e,s _ _ q,lJ.same s r⟩
theorem lJ.same(s:bC H H'):∀{ds:List au}{vs:List V},lJ H ds vs->lJ H' ds vs
 |[],_,h=>h
 |d::ds,vs,h=>by
  obtain⟨v,r,e,q,t⟩:=h
  exact⟨v,r,e,RX.same s q,lJ.same s t⟩
end
mutual
theorem RX.rd{K:aF}{H:Hp}:∀{d:au}{v:V},RX H d v->RD K H d v
 |.none,_,h=>h
 |.bool _,_,h=>h
 |.int _,_,h=>h
 |.str _,_,h=>h
 |.list ds,_,h=>by
  obtain⟨a,vs,e,q,r⟩:=h
  exact⟨a,vs,e,bG.of q,lJ.rd r⟩
 |.tuple ds,_,h=>by
  obtain⟨a,vs,e,q,r⟩:=h
  exact⟨a,vs,e,bW.of q,lJ.rd r⟩
theorem lJ.rd{K:aF}{H:Hp}:∀{ds:List au}{vs:List V},lJ H ds vs->jR K H ds vs
 |[],_,h=>h
 |d::ds,vs,h=>by
  obtain⟨v,r,e,q,t⟩:=h
  exact⟨v,r,e,RX.rd q,lJ.rd t⟩
end
def FP:au->Value
 |.none=>.type "NoneType"
 |.bool _=>.type "bool"
 |.int _=>.type "int"
 |.str _=>.type "str"
 |.list _=>.type "list"
 |.tuple _=>.type "tuple"
 |.dict _=>.type "dict"
theorem RX.ty{K:aF}{H:Hp}{d:au}{v:V}(h:RX H d v):lD K H v (FP d):=by
 cases d with
 |none=>cases(show v=.non from h);exact .non
 |bool b=>cases(show v=.bl b from h);exact .bl b
 |int i=>cases(show v=.int i from h);exact .int i
 |str x=>cases(show v=.str x from h);exact .str x
 |list ds=>obtain⟨a,vs,rfl,e,_⟩:=h;exact .lst e
 |tuple ds=>obtain⟨a,vs,rfl,e,_⟩:=h;exact .tup e
 |dict ds=>exact(show False from h).elim
section
variable{X:Cx}
theorem afG(hu:X.A.units<dB):cY X (gb .Lt) (λx y H Q=>∃a b ks js,x=.ref a/\y=.ref b/\H a=aa (.tup (ks.map kV))/\H b=aa (.tup (js.map kV))/\ks.map cA=js.map cA/\Q (.bl (jH ks js)) H):=by
 intro pins s σ H x y v u Q I rx ry h
 obtain⟨a,b,ks,js,rfl,rfl,ha,hb,ht,q⟩:=h
 cases rx;cases ry
 obtain⟨_,its,r1,p1⟩:=(show dN X.prog X.w H s.heap a (.tup (ks.map kV)) from I.hok a _ ha)
 obtain⟨_,its2,r2,p2⟩:=(show dN X.prog X.w H s.heap b (.tup (js.map kV)) from I.hok b _ hb)
 exact afF p1 p2 (by simpa using r1) (by simpa using r2) ht hu (fK I q rfl)
theorem afH(hu:X.A.units<dB):cY X (gb .Lt) (λx y H Q=>(∃a b,x=kV a/\y=kV b/\cA a=cA b/\Q (.bl (kLt a b)) H)\/∃a b ks js,x=.ref a/\y=.ref b/\H a=aa (.tup (ks.map kV))/\H b=aa (.tup (js.map kV))/\ks.map cA=js.map cA/\Q (.bl (jH ks js)) H):=by
 refine cY.or ?_ (afG hu);intro pins s σ H x y v u Q I rx ry h
 obtain⟨a,b,rfl,rfl,ht,q⟩:=h
 exact Yo X.A s rx ry ht _ _ _ _ (fK I q rfl)
end
structure Ord(lt:Nat->Nat->Bool):Prop where
 abD:∀a b,lt a b=aq->lt b a=aB
 trans:∀a b c,lt b a=aB->lt c b=aB->lt c a=aB
section
variable{N:Nat}{lt:Nat->Nat->Bool}(O:Ord lt)
abbrev at0(p:Array Nat)(i:Nat):Nat:=p.getD i 0
def Up(lt:Nat->Nat->Bool)(p:Array Nat)(n:Nat):Prop:=∀i j,i<j->j<n->lt (at0 p j) (at0 p i)=aB
def Dn(lt:Nat->Nat->Bool)(p:Array Nat)(n:Nat):Prop:=∀i j,i<j->j<n->lt (at0 p i) (at0 p j)=aB
theorem KP.size(h:KP N p):p.size=N:=by
 have:=h.length_eq;rw[oH] at this;simpa using this
include O
theorem Up.succ(h:Up lt p n)(hn:1<=n)(hs:lt (at0 p n) (at0 p (n-1))=aB):Up lt p (n+1):=λi j hij hj=>by
 by_cases e:j<n
 .exact h i j hij e
 .have ej:j=n:=by lia
  subst ej;by_cases ei:i=j-1
  .rw[ei];exact hs
  .exact O.trans _ _ _ (h i (j-1) (by lia) (by lia)) hs
theorem Dn.succ(h:Dn lt p n)(hn:1<=n)(hs:lt (at0 p (n-1)) (at0 p n)=aB):Dn lt p (n+1):=λi j hij hj=>by
 by_cases e:j<n
 .exact h i j hij e
 .have ej:j=n:=by lia
  subst ej;by_cases ei:i=j-1
  .rw[ei];exact hs
  .exact O.trans _ _ _ hs (h i (j-1) (by lia) (by lia))
end
theorem aiz(h:kLt a b=aq):kLt b a=aB:=by
 cases a with
 |inl i=>
  cases b with
  |inr y=>cases h
  |inl j=>have:=of_decide_eq_true h;exact jk (by lia)
 |inr x=>
  cases b with
  |inl y=>cases h
  |inr y=>exact KeyOrd.klt_asymm (O:=strKind.toKeyOrd) (a:=x.cps.toList) (b:=y.cps.toList) h
theorem akp(t1:cA a=cA b)(t2:cA b=cA c)(h:kLt a c=aq):kLt a b=aq\/kLt b c=aq:=by
 cases a with
 |inl i=>
  cases b with
  |inr y=>cases t1
  |inl j=>
   cases c with
   |inr y=>cases t2
   |inl k=>
    have h1:=of_decide_eq_true h;by_cases h2:i<j
    .exact .inl (fP h2)
    .exact .inr (fP (by lia))
 |inr x=>
  cases b with
  |inl y=>cases t1
  |inr y=>
   cases c with
   |inl k=>cases t2
   |inr z=>exact strKind.negTrans x.cps.toList y.cps.toList z.cps.toList h
theorem str_of_list{x y:Str}(h:x.cps.toList=y.cps.toList):x=y:=by
 cases x;cases y;simp at h;simp[h]
theorem akq(t:cA a=cA b)(h1:kLt a b=aB)(h2:kLt b a=aB):a=b:=by
 cases a with
 |inl i=>
  cases b with
  |inr y=>cases t
  |inl j=>
   have g1:=of_decide_eq_false h1;have g2:=of_decide_eq_false h2;have:i=j:=by lia
   rw[this]
 |inr x=>
  cases b with
  |inl y=>cases t
  |inr y=>
   have:=strKind.total x.cps.toList y.cps.toList h1 h2;rw[str_of_list this]
def vX(rows:List Row)(i:Nat):List Key:=(rows.getD i (rows.headD (0,[]))).2
def vY(rows:List Row)(i j:Nat):Bool:=jH (vX rows i) (vX rows j)
def runK{α:Type}(lt:Nat->Nat->Bool):KasT α->α
 |.ret a=>a
 |.ask i j k=>runK lt (k (lt i j))
theorem dO.run:∀{t:KasT α},dO N lt t R->dO N lt t (λa=>R a/\a=runK lt t)/\R (runK lt t)
 |.ret a,h=>⟨⟨h,rfl⟩,h⟩
 |.ask i j k,h=>let r:=dO.run h.2.2;⟨⟨h.1,h.2.1,r.1⟩,r.2⟩
def tL(ks:List (List Key)):List Nat:=if ks.length<2 then dX ks.length else(runK (λi j=>jH (ks.getD i (ks.headD [])) (ks.getD j (ks.headD []))) (kas_sort ks.length)).toList
def tM(ks:List (List Key)):List (List Key):=(tL ks).map λi=>ks.getD i (ks.headD [])
theorem agu(ks:List (List Key)):(tL ks).Perm (dX ks.length):=by
 unfold tL;split
 .exact vm _
 .exact(dO.run (Zo (lt:=λi j=>jH (ks.getD i (ks.headD [])) (ks.getD j (ks.headD []))) (by lia))).2
theorem agv(ks:List (List Key)):(tM ks).Perm ks:=by
 have:=(agu ks).map λi=>ks.getD i (ks.headD [])
 refine this.trans (aer ?_);refine GC (by simp) λi h1 h2=>?_
 simp[h2]
theorem Yp(rows:List Row)(i:Nat):vX rows i=(rows.map (·.2)).getD i ((rows.map (·.2)).headD []):=by
 unfold vX;cases h:rows[i]? with
 |none=>cases rows<;>simp_all [oR]
 |some r=>simp[oR,h]
theorem Xo(hn:n=rows.length)(h2:2<=n):dO n (vY rows) (kas_sort n) λp=>KP n p/\p.toList=tL (rows.map (·.2)):=by
 subst hn;have e:vY rows=λi j=>jH ((rows.map (·.2)).getD i ((rows.map (·.2)).headD [])) ((rows.map (·.2)).getD j ((rows.map (·.2)).headD [])):=by
  funext i j;rw[vY,Yp,Yp]
 refine(dO.run (Zo (lt:=vY rows) (N:=rows.length) (by lia))).1.mono λp hp=>⟨hp.1,?_⟩
 unfold tL;rw[bw (by rw[bh];lia),hp.2,e,bh]
theorem WY{rows:List Row}{n:Nat}(hn:n=rows.length)(h:n<2):dX n=tL (rows.map (·.2)):=by
 subst hn;unfold tL;rw[aY (by rw[bh];exact h),bh]
theorem Zv{rows:List Row}{p:List Nat}(h:p.Perm (dX rows.length))(hr:p=tL (rows.map (·.2))):(p.map λi=>rows.getD i (0,[])).map (·.2)=tM (rows.map (·.2)):=by
 unfold tM;rw[<-hr,gM];refine BL λi hi=>?_
 have hlt:=ud.mp (h.mem_iff.mp hi);simp[oR,hlt]
section
variable{X:Cx}
theorem Yq(ha:∀r∈rows,TupAt s'.heap r/\r.2.map cA=sh)(hi:i<rows.length)(hj:j<rows.length)(C:Bool->aA->Prop)(q:C (vY rows i j) s'):
  kas_ask prog w A (tuples' aq) (rows.map λr=>cM r.1) i j C s':=by
 refine aiy ha hi hj C ?_;have e1:vX rows i=rowAt rows i:=by simp[vX,rowAt,oR,hi]
 have e2:vX rows j=rowAt rows j:=by simp[vX,rowAt,oR,hj]
 unfold vY at q;rw[e1,e2] at q;exact q
theorem adV:fO X (.builtin "sorted") (λxs H Q=>∃(p:ao)(rows:List Row)(b:Bool)(sh:List Bool),xs=[.ref p]/\bG X.K H p (rows.map λr=>V.ref r.1)/\rows.length<64/\(∀r∈rows,H r.1=aa (.tup (r.2.map kV))/\r.2.map cA=b::sh)/\
  ∀(l:ao)(rows':List Row),H l=aj->rows'.Perm rows->rows'.map (·.2)=tM (rows.map (·.2))->Q (.ref l) (upd H l (.lst (rows'.map λr=>V.ref r.1)))):=by
 intro pins s σ H xs us Q I r h
 obtain⟨p,rows,b,sh,rfl,hp,h64,ha,q⟩:=h
 obtain⟨u,rfl,ru⟩:=vals1 r
 cases ru
 obtain⟨its,rv,pl,_⟩:=I.list hp
 have e0:=Zu rv;subst e0;have tu:∀r∈rows,TupAt s.heap r/\r.2.map cA=b::sh:=λr hr=>by
  obtain⟨_,its,v,t⟩:=(show dN X.prog X.w H s.heap r.1 (.tup (r.2.map kV)) from I.hok r.1 _ (ha r hr).1)
  exact⟨⟨its,v,t⟩,(ha r hr).2⟩
 refine Ww (κ:=tuples' aq) (lt:=vY rows) (vs:=rows.map λr=>cM r.1) (Rl:=λp=>p=tL (rows.map (·.2))) (by simpa using h64) (λh2=>Xo (by rw[bh]) h2) (λh2=>WY (by rw[bh]) h2) (λR hR=>?_) (λh2 s' k Q' q'=>Xm (λr hr=>⟨(tu r hr).1.keep k,(tu r hr).2⟩) (by rw[bh] at h2;lia) Q' q')
  (λh2 s' k i j hi hj C q'=>Yq (sh:=b::sh) (λr hr=>⟨(tu r hr).1.keep k,(tu r hr).2⟩) (by simpa using hi) (by simpa using hj) C q') λp D h' c tk hp' hrl hD k e=>?_
 .refine collect_list pl.isList (hR _ _ s.toks ?_ (λb o e=>?_) rfl)
  .rw[Heap.size_update,size_push'];lia
  .have hlt:b≠s.heap.objs.size:=cW (bO e);rw[Heap.get?_update_ne _ _ _ _ hlt];exact bH _ e
 .rw[bh] at hp';rw[Xn hp'] at e
  refine⟨.ref D,_,I.laid (o:=.lst ((p.map λi=>rows.getD i (0,[])).map λr=>V.ref r.1)) k hD ⟨?_,_,c,Oe _,by simpa[seqObj] using e⟩,rfl,q D _ (I.hok.fresh hD) (Od hp') (Zv hp' hrl)⟩
  rw[bh,bh,hp'.length_eq,oH,jo];lia
theorem VB(hc:X.calm=aq):fO X (.builtin "sorted") (λxs H Q=>∃(d:ao)(kvs:List (List Key×V))(b:Bool)(sh:List Bool),xs=[.ref d]/\yW H d kvs/\kvs.length<64/\(∀kv∈kvs,kv.1.map cA=b::sh)/\
  ∀(l:ao)(rows:List Row),H l=aj->(rows.map (·.2)).Perm (kvs.map (·.1))->rows.map (·.2)=tM (kvs.map (·.1))->(∀r∈rows,H r.1=aa (.tup (r.2.map kV)))->Q (.ref l) (upd H l (.lst (rows.map λr=>V.ref r.1)))):=by
 intro pins s σ H xs us Q I r h
 obtain⟨d,kvs,b,sh,rfl,hd,h64,ha,q⟩:=h
 obtain⟨u,rfl,ru⟩:=vals1 r
 cases ru
 obtain⟨z,lo,ys,rel,o,es,ep,g1,g2,g3,g4,g5,g6⟩:=vW I.hok hd
 have raw:nY s.heap d es ep:=⟨o,g1,g2,g3⟩
 obtain⟨rows,r1,r2,r3⟩:∃rows:List Row,rows.map (·.2)=kvs.map (·.1)/\(∀r∈rows,H r.1=aa (.tup (r.2.map kV)))/\es.toList.map (·.key)=rows.map λr=>cM r.1:=by
  clear g5 g6 h64 ha q z hd;rw[g4];clear g4 raw g3;induction rel with
  |nil=>exact⟨[],rfl,by simp,rfl⟩
  |@cons p q ps qs h t ih=>
   obtain⟨rows,a1,a2,a3⟩:=ih
   refine⟨(q.2.1,p.1)::rows,by simp[a1],λr hr=>?_,?_⟩
   .rcases bI.mp hr with rfl|hr
    .exact h.2.1
    .exact a2 r hr
   .rw[cB,cB,a3];rfl
 have hlen:rows.length=kvs.length:=by
  have:=congrArg qM r1;simpa using this
 have hes:es.size=rows.length:=by
  have:=congrArg qM r3;simpa using this
 have tu:∀r∈rows,TupAt s.heap r/\r.2.map cA=b::sh:=λr hr=>by
  obtain⟨_,its,v,t⟩:=(show dN X.prog X.w H s.heap r.1 (.tup (r.2.map kV)) from I.hok r.1 _ (r2 r hr))
  have:r.2∈kvs.map (·.1):=by rw[<-r1];exact dW.mpr ⟨r,hr,rfl⟩
  obtain⟨kv,hk,e⟩:=dW.mp this
  exact⟨⟨its,v,t⟩,by rw[<-e];exact ha kv hk⟩
 refine Ww (κ:=tuples' aq) (lt:=vY rows) (vs:=rows.map λr=>cM r.1) (Rl:=λp=>p=tL (rows.map (·.2))) (by rw[bh];lia) (λh2=>Xo (by rw[bh]) h2) (λh2=>WY (by rw[bh]) h2) (λR hR=>?_) (λh2 s' k Q' q'=>Xm (λr hr=>⟨(tu r hr).1.keep k,(tu r hr).2⟩) (by rw[bh] at h2;lia) Q' q')
  (λh2 s' k i j hi hj C q'=>Yq (sh:=b::sh) (λr hr=>⟨(tu r hr).1.keep k,(tu r hr).2⟩) (by simpa using hi) (by simpa using hj) C q') λp D h' c tk hp' hrl hD k e=>?_
 .refine afi (aix (es:=es) (ep:=ep) lo) (I.ok.hd hc) raw (by rw[jo];lia) λh' tk acc hsz kk hacc=>hR _ h' tk hsz kk ?_
  refine adW λi=>?_
  by_cases hi:i<es.size
  .have e1:acc.size=es.size:=hacc.1;have:=hacc.2 i (acc[i]'(by lia)) (by simp[e1,hi]);rw[LC,jM (by lia)];rw[<-this,<-r3,ie,LC]
  .have e1:acc.size=es.size:=hacc.1;rw[Gj (by simp;lia),Gj (by simp;lia)]
 .rw[bh] at hp';rw[Xn hp'] at e
  refine⟨.ref D,_,I.laid (o:=.lst ((p.map λi=>rows.getD i (0,[])).map λr=>V.ref r.1)) k hD ⟨?_,_,c,Oe _,by simpa[seqObj] using e⟩,rfl,q D _ (I.hok.fresh hD) (((Od hp').map _).trans (by rw[r1])) ((Zv hp' hrl).trans (by rw[r1])) λr hr=>r2 r ((Od hp').mem_iff.mp hr)⟩
  rw[bh,bh,hp'.length_eq,oH,jo];lia
end
abbrev uF:=List (Option au)
def qW(H:Hp)(Γ:uF)(σ:St):Prop:=σ.length=Γ.length/\∀(i:Nat)(d:au),Γ[i]?=aa (aa d)->∃v,σ[i]?=aa (aa v)/\RX H d v
theorem qW.same(h:qW H Γ σ)(s:bC H H'):qW H' Γ σ:=⟨h.1,λi d e=>let ⟨v,a,b⟩:=h.2 i d e;⟨v,a,b.same s⟩⟩
theorem qW.set(h:qW H Γ σ)(hv:RX H d v):qW H (Γ.set i (aa d)) (σ.set i (aa v)):=by
 refine⟨by rw[vg,vg];exact h.1,λj e he=>?_⟩
 by_cases hj:i=j
 .subst hj;rw[BZ] at he;simp only[if_true] at he;split at he
  .rename_i hl;cases he
   refine⟨v,?_,hv⟩
   rw[BZ];simp only[if_true];rw[aY (by rw[h.1];exact hl)]
  .cases he
 .rw[zg hj] at he;rw[zg hj];exact h.2 j e he
def er(Z:List ao)(H:Hp):Hp:=λb=>if b∈Z then aj else H b
theorem fJ(h:er Z H b=aa o):H b=aa o:=by
 unfold er at h;split at h
 .cases h
 .exact h
theorem Ay(Z:List ao)(H:Hp):bC (er Z H) H:=λb o h=>fJ h
theorem Jf(s:bC H H'):bC (er Z H) (er Z H'):=λb o h=>by
 unfold er at h⊢;split at h
 .cases h
 .rename_i n;rw[bw n];exact s _ _ h
theorem Dw(H:Hp):er [] H=H:=by
 funext b;simp[er]
def Jy(t:TE)(Γ:uF)(d:au):Prop:=∀Z σ H (Q:VK),(∀b,b∈Z->H b≠aj)->qW (er Z H) Γ σ->(∀v H',bC H H'->RX (er Z H') d v->Q v H')->t σ H Q
def Zw(t:TA)(Γ:uF)(ds:List au):Prop:=∀Z σ H (Q:List V->Hp->Prop),(∀b,b∈Z->H b≠aj)->qW (er Z H) Γ σ->(∀vs H',bC H H'->lJ (er Z H') ds vs->Q vs H')->t σ H Q
section
variable{Γ:uF}{K:aF}
theorem Jy.run(h:Jy t Γ d)(e:qW H Γ σ)(q:∀v H',bC H H'->RX H' d v->Q v H'):t σ H Q:=
 h [] σ H Q (λ_ m=>by cases m) (by rw[Dw];exact e) λv H' s r=>q v H' s (by rw[Dw] at r;exact r)
end
end L2
namespace HT
open PySem PySem.Spec PyProof.Rows
section
variable{prog:bA}{w:bu}{A:bV}{E:Value->aA->Prop}{s:aA}
theorem adz{t sl:ao}{items:Array Value}{vl vu:Value}{lo hi:Option Int}{Q:Value->aA->Prop}(ht:IsTup s.heap t items)(hs:s.heap.IsSliceOf sl vl vu .none)(pl:sS vl lo)(pu:sS vu hi)
  (hw:cj items.size 0 lo=0/\cj items.size items.size hi=items.size)(h:Q (.ref t) s):aH (model prog w) A (vH (.ref t) (.ref sl)) Q E s:=by
 obtain⟨os,hos,hcs,hds⟩:=id hs
 have hTs:s.TypeIs (.ref sl) "slice":=⟨os,hos,hcs⟩
 unfold vH
 try with_reducible refine jB ?_
 first|refine az (aM ?_)|skip
 refine az (adS ht.typeIs (by decide) ?_);refine az (pR (name:=bM "__getitem__") ht.typeIs Li
  (lR Li ht.typeIs entry_tuple_getitem ?_ (args_tuple_getitem _ _)))
 show aH _ _ (acT (.ref t) >>= _) _ _ s;refine az (tupleItemsOf_ ht ?_);refine az (xJ hTs ?_);rw[aY (by decide)];refine az (Vp hs pl pu ?_);have hyes:((((cj items.size 0 lo:Nat):Int)==0&&(1:Int)==1&&(cj items.size items.size hi-cj items.size 0 lo)==items.size)=aq):=by
  rw[hw.1,hw.2];simp
 show aH _ _ (if(((cj items.size 0 lo:Nat):Int)==0&&(1:Int)==1&&(cj items.size items.size hi-cj items.size 0 lo)==items.size)=aq then _ else _) _ _ s;rw[aY hyes];unfold anZ;refine az (az (xJ ht.typeIs (aM ?_)));rw[aY (by decide)];refine az (rW ?_);exact aM ⟨_,rfl,aM h⟩
end
end HT
namespace L2
open PySem PySem.Spec PyProof.Rows PySem.W
section
variable{X:Cx}
def amj(K:aF):V->Option Int->Option Int->Hp->VK->Prop:=λx lo hi H Q=>∃a xs,x=.ref a/\bW K H a xs/\(rm xs lo hi=xs->Q (.ref a) H)/\∀p,H p=aj->Q (.ref p) (upd H p (.tup (rm xs lo hi)))
theorem aiA:uQ X (amj X.K):=by
 intro pins s σ H x v vl vu lo hi sl Q I rx hs pl pu h
 obtain⟨a,xs,rfl,hx,q1,q2⟩:=h
 by_cases hw:HT.cj xs.length 0 lo=0/\HT.cj xs.length xs.length hi=xs.length
 .cases rx
  obtain⟨its,r,ht,hz⟩:=I.tuple hx
  have hlen:its.toArray.size=xs.length:=by rw[fj];exact r.length.symm
  refine⟨"tuple",_,PyProof.Rows.slot_tuple_getitem.lookup,ht.typeIs,?_⟩
  refine HT.adz ht hs pl pu (by rw[hlen];exact hw) ?_
  refine⟨.ref a,H,I,rfl,q1 ?_⟩
  unfold rm;rw[hw.1,hw.2];simp
 .exact aka pins s σ H _ v vl vu lo hi sl Q I rx hs pl pu ⟨a,xs,rfl,hx,hw,q2⟩
end
end L2
namespace HT
open PySem PySem.Spec PyProof.Rows
open Sem (wp)
open Builtin
theorem Mm:fillsNumberSlot (.type "tuple") "mul"=pure aB:=
 PySem.fillsNumberSlot_seq (id:="tuple.__mul__") (r:=aa (.builtin "tuple.__rmul__")) F.slot_tuple_mul.lookup (by decide +kernel) F.slot_tuple_rmul.lookup (by decide +kernel)
theorem M6:seqRepeat? (.type "tuple")=pure (aa (.builtin "tuple.__mul__")):=by
 unfold seqRepeat?;rw[aee (T:="tuple") (name:="__mul__") (id:="tuple.__mul__") F.slot_tuple_mul.lookup (by decide +kernel),aee (T:="tuple") (name:="__rmul__") (id:="tuple.__rmul__") F.slot_tuple_rmul.lookup (by decide +kernel)];rfl
theorem Lx(a:Int)(t:Tok)(l:ao)(dd:Option ao)(items:Array Value)(n:Nat)(ss:Array (Option Value)):
  Meets (gY.«int.__rmul__» ⟨[.int a t,.ref l],[]⟩) (λ_ R s=>s.heap.get? l=aa {cls:=.type "tuple",dict:=dd,data:=.seq items n,slots:=ss}/\R (.ok (.ret UJ)) s):=
 .of_wp λprog w A R s h=>by obtain⟨hp,g,d,tk,os⟩:=s;obtain⟨hl,h⟩:=h;wp_walk;exact⟨_,rfl,h⟩
theorem afI(l:ao)(dd:Option ao)(items:Array Value)(n:Nat)(ss:Array (Option Value))(x:Int)(u:Tok)(hc0:¬(decide (x< -(2^63))||decide (x>=2^63))=aq)(hc1:¬(items.isEmpty||x==1)=aq)(hc2:¬(decide (x<=0)||items.isEmpty)=aq)
  (hc3:¬(items.size:Int)*x>(2^63-1) / 8)(hc4:¬Ug ((items.size:Int)*x)=aq)(hsz:(Nu (λx1 x2=>x1++x2) #[] (cC x.toNat items)).size<=bL):
  Meets (gY.«tuple.__mul__» ⟨[.ref l,.int x u],[]⟩) (λ_ R s=>s.heap.get? l=aa {cls:=.type "tuple",dict:=dd,data:=.seq items n,slots:=ss}/\R (.ok (.ret (cM s.heap.objs.size))) {s with heap:=s.heap.push {cls:=ug "tuple",data:=Yh (Nu (λx1 x2=>x1++x2) #[] (cC x.toNat items))},toks:=s.toks}):=
 .of_wp λprog w A R s h=>by
  obtain⟨hp,g,d,tk,os⟩:=s;obtain⟨hl,h⟩:=h
  wp_walk;rw[bw hc0];refine az (tupleItemsOf_ (items:=items) ⟨_,hl,rfl,n,rfl⟩ ?_);rw[bw hc1];show aH _ _ (if(decide (x<=0)||items.isEmpty)=aq then _ else _) _ _ _;rw[bw hc2];show aH _ _ (if(items.size:Int)*x>(2^63-1) / 8 then _ else _) _ _ _;rw[bw hc3];show aH _ _ (if Ug ((items.size:Int)*x)=aq then _ else _) _ _ _;rw[bw hc4];exact az (m:=Gh _) (jz (aM ⟨_,rfl,h⟩) hsz)
end HT
namespace L2
open PySem PySem.Spec PyProof.Rows PySem.W
section
variable{X:Cx}
def J0(K:aF):R2:=λx y H Q=>∃a xs k,x=.ref a/\y=.int k/\bW K H a xs/\xs≠[]/\2<=k/\xs.length*k.toNat<=bL/\∀p,H p=aj->Q (.ref p) (upd H p (.tup (cC k.toNat xs).flatten))
theorem aiB:cY X (lW .Mult) (J0 X.K):=by
 intro pins s σ H x y v u Q I rx ry h
 obtain⟨l,xs,k,rfl,rfl,hH,h0,h2,hz,q⟩:=h
 cases rx
 obtain⟨t,rfl⟩:=ry
 obtain⟨its,r,ht,_⟩:=I.tuple hH
 have hl:xs.length=its.length:=r.length
 obtain⟨⟨cls,dd,data,sl⟩,ho,hc,n,hd⟩:=id ht
 simp only at hc hd;subst hc hd;have hlen:its.length*k.toNat<=bL:=by rw[<-hl];exact hz
 have hln:=vM;have hp:1<=its.length:=by
  rw[<-hl];cases xs with
  |nil=>exact absurd rfl h0
  |cons _ _=>simp
 have hk:k.toNat<=its.length*k.toNat:=Nat.le_mul_of_pos_left _ hp;have hsl:bL=16777216:=jo;have hmul:((its.toArray.size:Nat):Int)*k=((its.length*k.toNat:Nat):Int):=by
  rw[fj,Int.natCast_mul,adA (by lia)]
 have hne:its≠[]:=λz=>by subst z;simp at hp
 have hnew:Nu (λx1 x2=>x1++x2) #[] (cC k.toNat its.toArray)=(cC k.toNat its).flatten.toArray:=by
  have:=foldl_rep its k.toNat [];rw[jn] at this;exact this
 refine Uj (T:="tuple") (U:="int") (by decide) ⟨_,ho,rfl⟩ (λs'=>zP s' k t) HT.Mm VD Cj HT.M6 F.slot_int_index.lookup
  (xM Cj (zP s k t) Vq (Ve _ _) (HT.Lx k t l dd its.toArray n sl)
   ⟨ho,rfl,⟨_,ho,rfl⟩,xM Vr ⟨_,ho,rfl⟩ Vf (U5 _ _) (HT.afI l dd its.toArray n sl k t ?_ ?_ ?_ ?_ ?_ ?_) ⟨ho,?_⟩⟩)
 .simp;lia
 .simp[hne];lia
 .simp[hne];lia
 .rw[hmul];lia
 .unfold Ug;rw[hmul];intro h;have:=of_decide_eq_true h;lia
 .rw[hnew,fj,len_rep,ae3];exact hlen
 .rw[hnew]
  refine⟨.ref s.heap.objs.size,_,I.laid (t':=s.toks) (o:=.tup (cC k.toNat xs).flatten) (λb ob q=>bH _ q) (bK _) ?_,rfl,q _ (I.hok.fresh (bK _))⟩
  exact⟨by rw[len_rep,ae3];exact hz,_,r.rep k.toNat,IsTup.new _ _⟩
end
section
variable{Γ:uF}{K:aF}
end
section
variable{Γ:uF}{K:aF}
end
section
variable{Γ:uF}{K:aF}
end
section
variable{X:Cx}
theorem afJ(hu:X.A.units+64<dB):cY X (gb .NotEq) (λx y H Q=>∃d e,RX H d x/\RX H e y/\jN d=aq/\jN e=aq/\Q (.bl (!PyData.eqv d e)) H):=by
 intro pins s σ H x y v u Q I rx ry h
 obtain⟨d,e,hd,he,h1,h2,q⟩:=h
 obtain⟨as,ra⟩:=RD.reads I (hd.rd (K:=X.K)) rx
 obtain⟨bs,rb⟩:=RD.reads I (he.rd (K:=X.K)) ry
 exact ne_dataH ra rb h1 h2 hu ⟨.bl _,H,I,rfl,q⟩
end
section
variable{Γ:uF}{K:aF}
def akr(t:TE)(Γ:uF)(d:au):Prop:=∀σ H (Q:VK),qW H Γ σ->(∀v H',bC H H'->RX H' d v->Q v H')->t σ H Q
theorem Jy.r(h:Jy t Γ d):akr t Γ d:=λσ H Q e q=>h.run e q
theorem Zw.run(h:Zw t Γ ds)(e:qW H Γ σ)(q:∀vs H',bC H H'->lJ H' ds vs->Q vs H'):t σ H Q:=
 h [] σ H Q (λ_ m=>by cases m) (by rw[Dw];exact e) λv H' s r=>q v H' s (by rw[Dw] at r;exact r)
end
theorem Jg{xs:Array Nat}(h:xs.toList.Pairwise (·<·)){i k d:Nat}(hik:i<k)(hk:k<xs.size):xs.getD i d<xs.getD k d:=by
 have h1:=uY.mp h i k (by simpa using xK hik hk) (by simpa using hk) hik;have hi:i<xs.size:=xK hik hk;rw[t6,t6,jM hk,jM hi];simpa using h1
theorem O6{xs:Array Nat}{j:Nat}(h:xs.toList.Pairwise (·<·)):∀f lo hi,lo<=hi->hi<=xs.size->hi-lo<=f->(∀i,i<lo->xs.getD i j<j)->(∀i,hi<=i->i<xs.size->j<=xs.getD i j)->
  Gw xs j f lo hi<=xs.size/\(∀i,i<Gw xs j f lo hi->xs.getD i j<j)/\∀i,Gw xs j f lo hi<=i->i<xs.size->j<=xs.getD i j
 |0,lo,hi,h1,h2,h3,h4,h5=>by
  unfold Gw
  exact⟨by lia,h4,λi a b=>h5 i (by lia) b⟩
 |f+1,lo,hi,h1,h2,h3,h4,h5=>by
  unfold Gw;by_cases hlt:lo<hi
  .rw[aY hlt];dsimp only;by_cases hm:xs.getD ((lo+hi) / 2) j<j
   .rw[aY hm];refine O6 h f _ _ (by lia) h2 (by lia) (λi hi'=>?_) h5;by_cases e:i=(lo+hi) / 2
    .rw[e];exact hm
    .exact xK (Jg h (by lia) (by lia)) hm
   .rw[bw hm];refine O6 h f _ _ (by lia) (by lia) (by lia) h4 (λi hi' hs=>?_);by_cases e:i=(lo+hi) / 2
    .rw[e];lia
    .have:=Jg (d:=j) h (show(lo+hi) / 2<i by lia) hs;lia
  .rw[bw hlt]
   exact⟨by lia,h4,λi a b=>h5 i (by lia) b⟩
theorem Og(j:Nat)(h:xs.toList.Pairwise (·<·)):iU xs j<=xs.size/\(∀i,i<iU xs j->xs.getD i j<j)/\∀i,iU xs j<=i->i<xs.size->j<=xs.getD i j:=
 O6 h xs.size 0 xs.size (iI _) (bK _) (by lia) (λi hi=>by lia) (λi a b=>by lia)
theorem Zx(h:xs.toList.Pairwise (·<·)):iU xs 0=0:=by
 obtain⟨_,b,_⟩:=Og 0 h
 cases e:iU xs 0 with
 |zero=>rfl
 |succ n=>have:=b 0 (by lia);lia
theorem W0{xs:Array Nat}(h:xs.toList.Pairwise (·<·)){i:Nat}(hi:i<xs.size):iU xs (xs[i]+1)=i+1:=by
 obtain⟨a,b,c⟩:=Og (xs[i]+1) h
 have e:∀k d,(hk:k<xs.size)->xs.getD k d=xs[k]:=λk d hk=>by rw[t6,jM hk];rfl
 have mono:∀p q,(hp:p<xs.size)->(hq:q<xs.size)->p<q->xs[p]<xs[q]:=λp q hp hq pq=>by
  have:=Jg (d:=0) h pq hq
  rwa [e p 0 hp,e q 0 hq] at this
 by_cases h1:iU xs (xs[i]+1)<=i
 .have:=c i h1 hi;rw[e i _ hi] at this;lia
 .by_cases h2:iU xs (xs[i]+1)=i+1
  .exact h2
  .have hs:i+1<xs.size:=by lia
   have:=b (i+1) (by lia);rw[e _ _ hs] at this;have:=mono i (i+1) hi hs (by lia);lia
structure jb(b:Bool)(t:uq):Prop where
 led:t.led=b
 Tv:t.dummies=#[]
 Tw:t.place.toList.Pairwise (·<·)
theorem jb.standIn(h:jb b t)(n:Nat):jb b (t.standIn n):=⟨h.led,rfl,by simpa[SetTable.standIn] using ac7⟩
theorem jb.orStandIn(h:jb b t)(n:Nat):jb b (t.orStandIn n):=by
 unfold SetTable.orStandIn;split
 .exact h
 .exact h.standIn n
theorem has_none(j:Nat):ae4 #[] j=aB:=rfl
theorem W2(hd:t.dummies=#[])(f:Nat->Int)(h:Int):∀fuel (p:SetTable.Probe) j d,p.dummy=aj->Vg t f h fuel p=aa (.empty j d)->d=aj/\t.slot j=.empty
 |0,p,j,d,_,e=>by simp[Vg] at e
 |fuel+1,p,j,d,hp,e=>by
  unfold Vg at e;have adv:(t.advance p).dummy=aj:=by
   unfold SetTable.advance;split<;>exact hp
  cases hs:t.slot p.j with
  |empty=>
   rw[hs] at e;simp only[Mh,aoq] at e
   exact⟨by rw[<-e.2];exact hp,by rw[<-e.1];exact hs⟩
  |dummy=>
   unfold aeK at hs;rw[hd] at hs;simp only[has_none] at hs;split at hs
   .cases hs
   .simp at hs
  |live i=>
   rw[hs] at e;simp only at e;split at e
   .cases e
   .exact W2 hd f h fuel _ j d adv e
theorem afK{xs:Array Nat}{j:Nat}(h:xs.toList.Pairwise (·<·))(hn:xs[iU xs j]?≠aa j):(SetTable.insertAt xs (iU xs j) j).toList.Pairwise (·<·):=by
 obtain⟨a,b,c⟩:=Og j h
 rw[SetTable.toList_insertAt];have h':=h;rw[<-List.take_append_drop (iU xs j) xs.toList,UL] at h'
 obtain⟨h1,h2,h3⟩:=h'
 have e:∀k d,(hk:k<xs.size)->xs.getD k d=xs.toList[k]'(by simpa using hk):=λk d hk=>by rw[t6,jM hk];simp
 have lo:∀x,x∈xs.toList.take (iU xs j)->x<j:=λx hx=>by
  obtain⟨i,hi,rfl⟩:=t8 hx
  have hi':i<iU xs j:=by simp at hi;lia
  have:=b i hi';rw[e i j (by lia)] at this;rw[adX];exact this
 have hi:∀x,x∈xs.toList.drop (iU xs j)->j<x:=λx hx=>by
  obtain⟨i,hi,rfl⟩:=t8 hx
  have hs:iU xs j+i<xs.size:=by simp at hi;lia
  have h0:=c (iU xs j) (bK _) (by lia);have ne:xs.getD (iU xs j) j≠j:=λz=>hn (by
   have hb:iU xs j<xs.size:=by lia
   rw[t6,jM hb] at z;rw[jM hb];simpa using z)
  rw[List.getElem_drop,<-e _ j hs];by_cases z:i=0
  .subst z;simp only[ae5];lia
  .have:=Jg (d:=j) h (show iU xs j<iU xs j+i by lia) hs;lia
 rw[UL]
 refine⟨h1,uc.mpr ⟨hi,h2⟩,λx hx y hy=>?_⟩
 rcases bI.mp hy with rfl|hy
 .exact lo x hx
 .exact h3 x hx y hy
theorem jb.layNew(h:jb b t)(es:Array (Int×Value))(hs:Int)(x:Value):jb b (layNew t es hs x).2.1:=by
 unfold PySem.layNew;cases hf:t.freeSlot hs with
 |none=>exact h.standIn _
 |some q=>
  obtain⟨slot,wd⟩:=q
  have free:t.slot slot=.empty:=by
   unfold SetTable.freeSlot at hf;split at hf
   .rename_i j d hp
    obtain⟨rfl,hj⟩:=W2 h.Tv _ _ _ _ _ _ rfl hp
    simp only[Mh,aeL] at hf;rw[<-hf.1];exact hj
   .cases hf
  have hn:t.place[iU t.place slot]?≠aa slot:=λz=>by
   unfold aeK at free;simp[z] at free
  show jb b ((t.put slot).1.orStandIn _);refine jb.orStandIn (t:=(t.put slot).1) ⟨h.led,?_,afK h.Tw hn⟩ _
  show(if ae4 t.dummies slot then _ else t.dummies)=#[]
  rw[h.Tv];rfl
theorem jb.relayAll(h:jb b t)(es:Array (Int×Value))(n:Nat):jb b (relayAll t es n).2.1:=by
 unfold GZ;split
 .rename_i t' order hr;dsimp only;split
  .unfold SetTable.relaid SetTable.laid at hr;cases ho:SetTable.layClean (SetTable.sizeAbove n-1) (es.map (·.1)) with
   |none=>simp[ho] at hr
   |some owner=>
    simp only[ho,Option.bind_eq_bind,mO,Option.pure_def,Mh,aeL] at hr;rw[<-hr.1]
    refine⟨h.led,rfl,?_⟩
    simp only[List.map_filterMap];refine aot _ (λx y hxy=>?_) ac7;intro u hu v hv;simp only[wX] at hu hv
    obtain⟨p,⟨_,_,rfl⟩,rfl⟩:=hu
    obtain⟨q,⟨_,_,rfl⟩,rfl⟩:=hv
    exact hxy
  .exact h.standIn _
 .exact h.standIn _
theorem jb.plain(h:jb b t)(v:Bool):jb b {t with plain:=v}:=⟨h.led,h.Tv,h.Tw⟩
theorem jb.fresh(b:Bool):jb b (.fresh 0 0 b):=⟨rfl,rfl,.nil⟩
end L2
namespace L2
open PySem PySem.Spec PySem.W
section
variable{prog:bA}{w:bu}{T:Type}[DecidableEq T](knd:vo prog w T)
def bt(w:bu):Bool:=!(w.params.followText "set-order")
inductive jJ:List (Int×Value)->List T->Prop
 |nil:jJ [] []
 |cons {e:Int×Value} {k:T} {es:List (Int×Value)} {ks:List T}:(knd.is k e.2=aq/\e.1=knd.hash k/\e.2.scannable=aq)->jJ es ks->jJ (e::es) (k::ks)
def kh(h:aU)(a:ao)(ks:List T):Prop:=∃o es ep t,h.get? a=aa o/\o.ExactSet/\o.data=.set es ep t/\(∃ks',jJ knd es.toList ks'/\ks'.Perm ks)/\es.size<p7/\t.fits es.size=aq/\jb (bt w) t
def rC(ks:List T)(k:T):List T:=if k∈ks then ks else ks++[k]
variable{knd}
theorem jJ.elems(h:jJ knd es ks):ElemsOf knd es:=by
 induction h with
 |nil=>intro e he;cases he
 |cons a _ ih=>
  intro e he;rcases bI.mp he with rfl|he
  .exact⟨⟨_,a.1,a.2.1⟩,a.2.2⟩
  .exact ih e he
theorem jJ.len(h:jJ knd es ks):es.length=ks.length:=by
 induction h with
 |nil=>rfl
 |cons _ _ ih=>simp[ih]
theorem jJ.perm(p:es'.Perm es):∀{ks:List T},jJ knd es ks->∃ks',jJ knd es' ks'/\ks'.Perm ks:=by
 induction p with
 |nil=>intro ks h;exact⟨ks,h,.refl _⟩
 |cons x _ ih=>
  intro ks h;cases h with
  |cons a r=>
   obtain⟨ks',h1,h2⟩:=ih r
   exact⟨_::ks',.cons a h1,h2.cons _⟩
 |swap x y l=>
  intro ks h;cases h with
  |cons a r=>
   cases r with
   |cons b r=>exact⟨_::_::_,.cons b (.cons a r),.swap ..⟩
 |trans _ _ ih1 ih2=>
  intro ks h
  obtain⟨k2,h1,p1⟩:=ih2 h
  obtain⟨k3,h2,p2⟩:=ih1 h1
  exact⟨k3,h2,p2.trans p1⟩
theorem jJ.push(h:jJ knd es ks)(hk:knd.is k x=aq)(hx:x.scannable=aq):jJ knd (es++[(knd.hash k,x)]) (ks++[k]):=by
 induction h with
 |nil=>exact .cons ⟨hk,rfl,hx⟩ .nil
 |cons a _ ih=>exact .cons a ih
theorem jJ.mem(h:jJ knd es ks)(hm:x∈es)(hp:knd.is k x.2=aq):k∈ks:=by
 induction h with
 |nil=>cases hm
 |cons a _ ih=>
  rcases bI.mp hm with rfl|hm
  .cases knd.inj _ _ _ hp a.1;exact cV ..
  .exact dg _ (ih hm)
theorem jJ.none(h:jJ knd es ks)(e:es.findIdx? (λe=>knd.is k e.2)=.none):k∉ks:=by
 have e':=List.findIdx?_eq_none_iff.mp e;clear e;induction h with
 |nil=>intro h;cases h
 |cons a _ ih=>
  intro hm;rcases bI.mp hm with rfl|hm
  .have:=e' _ (cV ..);rw[a.1] at this;cases this
  .exact ih (λx hx=>e' x (dg _ hx)) hm
variable{A:bV}{E:Value->aA->Prop}{s:aA}
theorem Zy{h:aU}{a:ao}{o:Obj}{es es':Array (Int×Value)}{ep:Nat}{t t':uq}{ks:List T}(ho:h.get? a=aa o)(ex:o.ExactSet)(hd:o.data=.set es ep t)(e:∃ks',jJ knd es'.toList ks'/\ks'.Perm ks)
  (hb:es'.size<p7)(hf:t'.fits es'.size=aq)(tb:jb (bt w) t'):
  ∃o',(h.update a (Ny es' t')).get? a=aa o'/\o'.ExactSet/\o'.data=.set es' (ep+1) t'/\kh knd (h.update a (Ny es' t')) a ks:=by
 have g:=u0 (Ny es' t') ho (by rw[putSet_of es' t' hd];rfl);rw[putSet_of es' t' hd] at g
 exact⟨_,g,ex,rfl,_,es',ep+1,t',g,ex,rfl,e,hb,hf,tb⟩
theorem aiC{a:ao}{k:T}{x:Value}{ks:List T}{Q:Bool->aA->Prop}(hk:knd.is k x=aq)(hx:x.scannable=aq)(hS:kh knd s.heap a ks)(room:ks.length+1<p7)
  (h:∀b h',xG a s.heap h'->kh knd h' a (rC ks k)->Q b {s with heap:=h'}):aH (model prog w) A (setAddHashed a x (knd.hash k)) Q E s:=by
 obtain⟨o,es,ep,t,ho,ex,hd,⟨k0,ek,pk⟩,hb,hf,tb⟩:=hS
 have sz:es.size=ks.length:=by rw[<-j8,ek.len,pk.length_eq]
 have el:=ek.elems;have mono:∀{u:Unit->aA->Prop}{s1:aA}(g:Bool),u () s1->∀r:Sem Unit,(r=rule "set.scan.the-table-gave-way"\/r=pure ())->aH (model prog w) A r u E s1:=λg hu r hr=>by
  rcases hr with rfl|rfl
  .exact rW hu
  .exact aM hu
 unfold setAddHashed setAddHashedIn;refine jB (az (Ca ho hd hf ?_));simp only[byScan_of hx hb el,if_true];unfold setAddByScan;refine az (az (rW (az (wpAny_setScan_of hk ho hd hf el ?_))));cases hr:es.toList.findIdx? (λe=>knd.is k e.2) with
 |some j=>
  obtain⟨hj,hp,_⟩:=List.findIdx?_eq_some_iff_getElem.mp hr
  have hm:k∈ks:=pk.mem_iff.mp (ek.mem (Cg hj) hp);refine aM (aM (h _ s.heap (Vh a s.heap) ?_));rw[rC,aY hm]
  exact⟨o,es,ep,t,ho,ex,hd,⟨k0,ek,pk⟩,hb,hf,tb⟩
 |none=>
  have hm:k∉ks:=λz=>ek.none hr (pk.mem_iff.mpr z)
  have pn:=layNew_perm t es (knd.hash k) x;have fn:=layNew_fits t es (knd.hash k) x;have tn:=tb.layNew es (knd.hash k) x;dsimp only;generalize layNew t es (knd.hash k) x=L at pn fn tn⊢
  obtain⟨es1,t1,wd,gv⟩:=L
  dsimp only at pn fn tn⊢;rw[Vi] at pn
  obtain⟨k1,e1,p1⟩:=(ek.push hk hx).perm pn
  have ak:rC ks k=ks++[k]:=by rw[rC,bw hm]
  have q1:∃ks',jJ knd es1.toList ks'/\ks'.Perm (rC ks k):=⟨k1,e1,by rw[ak];exact p1.trans (pk.append_right _)⟩
  have wJ:es1.size=es.size+1:=by rw[<-j8,pn.length_eq,lO,j8];rfl
  have b1:es1.size<p7:=by lia
  refine az (mono gv ?_ _ (by cases gv<;>first|exact .inl rfl|exact .inr rfl));have tail:∀t2:uq,t2.fits es1.size=aq->jb (bt w) t2->aH (model prog w) A (do
    storeSet a es1 t2
    if(!wd&&t2.tooFull)=aq then do
      (match(GZ t2 es1 (zB es1.size)).2.2 with|true=>rule "set.scan.the-table-gave-way" |false=>pure ())
      storeSet a (GZ t2 es1 (zB es1.size)).1 (GZ t2 es1 (zB es1.size)).2.1
      pure (aa aq)
     else pure (aa aq)) (λr s'=>aH (model prog w) A (match r with|some added=>pure added|none=>setAddHashedIn a x (knd.hash k) 99999) Q E s') E s:=λt2 f2 tb2=>by
   obtain⟨o1,g1,ex1,d1,S1⟩:=Zy (knd:=knd) ho ex hd q1 b1 f2 tb2
   refine az (adY ho hd ?_ (Vj b1));have yx:=oE s.heap a (Ny es1 t2);split
   .have pr:=relayAll_perm t2 es1 (zB es1.size);have fr:=relayAll_fits t2 es1 (zB es1.size);have tr:=tb2.relayAll es1 (zB es1.size);generalize GZ t2 es1 (zB es1.size)=L2 at pr fr tr⊢
    obtain⟨es2,t3,gv2⟩:=L2
    dsimp only at pr fr tr⊢
    obtain⟨k2,e2,p2⟩:=q1
    obtain⟨k3,e3,p3⟩:=e2.perm pr
    have sz2:es2.size=es1.size:=by rw[<-j8,pr.length_eq,j8]
    have b2:es2.size<p7:=by lia
    refine az (mono gv2 ?_ _ (by cases gv2<;>first|exact .inl rfl|exact .inr rfl));refine az (adY g1 d1 ?_ (Vj b2))
    obtain⟨_,_,_,_,S2⟩:=Zy (knd:=knd) g1 ex1 d1 ⟨k3,e3,p3.trans p2⟩ b2 fr tr
    exact aM (aM (h _ _ (yx.trans (oE ..)) S2))
   .exact aM (aM (h _ _ yx S1))
  split
  .refine az ?_;rw[hashByValue_scannable 8 hx];refine aM ?_;by_cases hv:plainKind x=aq
   .simp only[hv,if_true];exact tail t1 fn tn
   .simp only[hv,oF,if_false];exact tail _ (SetTable.fits_plain_off fn) (tn.plain aB)
  .refine az (aM ?_);simp only[if_true];exact tail t1 fn tn
end
section
variable{T:Type}[DecidableEq T]
def dedup(ks:List T):List T:=ks.foldl rC []
theorem afL(ks:List T)(k:T):dedup (ks++[k])=rC (dedup ks) k:=by simp[dedup,List.foldl_append]
theorem ahn(ks:List T)(k:T):(rC ks k).length<=ks.length+1:=by
 unfold rC;split<;>simp
theorem VR:∀(ks as:List T),(ks.foldl rC as).length<=as.length+ks.length
 |[],_=>by simp
 |k::ks,as=>by
  have h1:=VR ks (rC as k);have h2:=ahn as k;simp only[GK,cL];lia
theorem Oh(ks:List T):(dedup ks).length<=ks.length:=by simpa[dedup] using VR ks []
end
section
variable{prog:bA}{w:bu}{T:Type}[DecidableEq T]{knd:vo prog w T}{A:bV}{E:Value->aA->Prop}{s:aA}
theorem kh.at(H:kh knd h a ks)(e:∀o,h.get? a=aa o->h'.get? a=aa o):kh knd h' a ks:=
 let ⟨o,es,ep,t,ho,r⟩:=H
 ⟨o,es,ep,t,e o ho,r⟩
theorem kh.lt(H:kh knd h a ks):a<h.objs.size:=let ⟨_,_,_,_,ho,_⟩:=H;bO ho
theorem kh.ty(H:kh knd s.heap a ks):s.TypeIs (.ref a) "set":=let ⟨o,_,_,_,ho,ex,_⟩:=H;⟨o,ho,ex.1⟩
theorem aho{R:nP->aA->Prop}{I:ao}{fp wr:List ao}{G:Array OD->Array OD->Prop}{n:Nat}{Pv:Nat->Value->Prop}{St:Nat->aA->Prop}(W:WalksS prog w A.in1 I fp wr G n Pv St){S:ao}(out:S∉fp){val:Nat->T}
  (hv:∀i v,Pv i v->knd.is (val i) v=aq/\v.scannable=aq)(room:n+1<p7):∀(m i:Nat)(s:aA),n-i=m->i<=n->St i s->kh knd s.heap S (dedup ((dX i).map val))->
  (∀s',Moved (S::wr) G s s'->kh knd s'.heap S (dedup ((dX n).map val))->R (.ok (.ret .none)) s')->j9 (model prog w) A (.builtin "set.update.loop" ⟨[.ref S,.ref I],[]⟩) R s:=by
 have pI:S∉wr:=λz=>out (W.sub _ z)
 have aa6:∀b,b∈wr->b∈S::wr:=λb z=>dg _ z
 intro m;induction m with
 |zero=>
  intro i s hm hi st hS hR;obtain rfl:i=n:=by lia
  refine nH acG ?_;rw[oA Ue _];show aH _ A.in1 (gZ (.ref I) >>= _) _ _ s;refine az (W.done s _ _ st λs' mv=>?_);show aH _ A.in1 (ret iW) _ _ s';exact aM (hR s' (mv.mono aa6) (hS.at λo e=>mv.heap S o pI e))
 |succ m ih=>
  intro i s hm hi st hS hR;have lt:i<n:=by lia
  refine nH acG ?_;rw[oA Ue _];show aH _ A.in1 (gZ (.ref I) >>= _) _ _ s;refine az (W.item i s _ _ lt st λv s' pv st' mv=>?_)
  obtain⟨isv,scv⟩:=hv i v pv
  have hS1:kh knd s'.heap S (dedup ((dX i).map val)):=hS.at λo e=>mv.heap S o pI e
  show aH _ A.in1 (oV [v] (setAdd S v) >>= _) _ _ s';refine az (jB ?_);unfold setAdd;refine jB (az (knd.pyHash isv ?_));have few:=Oh ((dX i).map val);rw[bh,oH] at few;refine aiC (knd:=knd) (s:={s' with toks:=s'.toks+1}) isv scv hS1 (by lia) λ_ h' same hS2=>?_
  have hS3:kh knd h' S (dedup ((dX (i+1)).map val)):=by rw[List.range_succ,j4,List.map_singleton,afL];exact hS2
  refine aM ⟨oM Ue _,ih (i+1) _ (by lia) lt (W.frame _ s' _ _ st' (uf _) λb hb o e=>(same.2 b λz=>out (z▸hb)).trans e) hS3 λs2 mv2 hS4=>?_⟩;exact hR s2 (Moved.trans W.gtrans ((mv.mono aa6).then_heap (uf _) λb o hb e=>(same.2 b λz=>hb (by rw[z];exact cV)).trans e) mv2) hS4
end
section
variable{prog:bA}{w:bu}{T:Type}[DecidableEq T]{knd:vo prog w T}{A:bV}{E:Value->aA->Prop}{s:aA}
def tO(w:bu):Obj:={cls:=.type "set",dict:=aj,data:=.set #[] 0 (.fresh 0 0 (bt w))}
theorem aks(g:h.get? a=aa (tO w)):kh knd h a []:=⟨_,#[],0,_,g,⟨rfl,rfl,rfl⟩,rfl,⟨[],.nil,.refl _⟩,by decide,rfl,jb.fresh _⟩
theorem ahp(a:Value)(h:Q1 (.ref s.heap.objs.size) {s with heap:=s.heap.push (tO w)}):j9 (model prog w) A (.call (.builtin "set.__new__") ⟨[.type "set",a],[]⟩) (wants Q1 E) s:=by
 refine codeAny_of_tree ?_;show aH _ A.in1 (aef "set.__new__" ⟨[.type "set",a],[]⟩ >>= λ_=>again (.builtin "set.__new__" ⟨[.type "set",a],[]⟩)) _ _ s;refine az (Hj (F.newCall_set_1 a) (aM ⟨oM adg _,nH PySem.F.entry_set_new ?_⟩));rw[oA adg _];unfold gY.«set.__new__» an0;have sub:=PySem.sub_set_self
 obtain⟨h0,g0,d0,t0,o0⟩:=s
 dsimp only;wp_walk;refine Vs (aM ?_);dsimp only;simp only[newObj];refine az (wpAny_alloc (aM ?_));exact aM h
theorem agw(hh:A.handled=aj)(hl:s.heap.IsList l items)(hv:∀i v,items[i]?=aa v->knd.is (val i) v=aq/\v.scannable=aq)(room:items.size+1<p7)
  (h:∀(h':aU)(tk:Nat),kh knd h' s.heap.objs.size (dedup ((dX items.size).map val))->(∀b o,s.heap.get? b=aa o->h'.get? b=aa o)->Q (.ref s.heap.objs.size) {s with heap:=h',toks:=tk}):
  aH (model prog w) A (call (.type "set") [.ref l]) Q E s:=by
 obtain⟨c0,tl0,aoC⟩:=PySem.F.called_set.mro
 have aoA:=PySem.F.called_set.made;have aoD:=PySem.F.called_set.sub;refine WQ (codeAny_of_tree (show aH _ _ (callAny (.type "set") _) _ _ _ from ?_));refine aM ⟨Code.quiet_builtin _ (by decide +kernel),nH F.entry_type_call ?_⟩;rw[Around.under_plain (weight_type_call_type "set" [.ref l] []) rfl];have n1:=PySem.F.called_set.notType;have n2:=PySem.F.called_set.canCreate;have n3:=PySem.F.typeCall_set_1 (.ref l)
 repeat (any_goals (first|assumption|wp_step))
 refine zJ (ahp (.ref l) (E:=E) (Q1:=λobj s1=>obj=.ref s.heap.objs.size/\s1={s with heap:=s.heap.push (tO w)}) ⟨rfl,rfl⟩) λr s1 hr=>?_
 cases r with
 |error e=>exact hr
 |ok fl=>
  cases fl with
  |ret obj=>
   obtain⟨rfl,rfl⟩:=hr
   have g0:(s.heap.push (tO w)).get? s.heap.objs.size=aa (tO w):=dI _ rfl;have ty0:aeM {s with heap:=s.heap.push (tO w)} (.ref s.heap.objs.size) "set":=⟨_,g0,rfl⟩
   have li:=PySem.F.called_set.init.lookup;have bi:=PySem.F.called_set.init.bind (.ref s.heap.objs.size)
   repeat (any_goals (first|assumption|wp_step))
   refine zJ (adp (R:=wants (λr s2=>r=.none/\∃h' tk,s2={s with heap:=h',toks:=tk}/\kh knd h' s.heap.objs.size (dedup ((dX items.size).map val))/\∀b o,s.heap.get? b=aa o->h'.get? b=aa o) E) PySem.F.called_set.init.plain PySem.F.entry_set_init (check_set_init_1 ty0 ?_)) λr2 s2 hr2=>?_
   .obtain⟨ol,hol,hcl,nl,hdl⟩:=hl
    obtain⟨ocls,odict,odata,oslots⟩:=ol
    simp only at hcl hdl;subst hcl;subst hdl;have hol1:(s.heap.push (tO w)).get? l=aa {cls:=.type "list",dict:=odict,data:=.seq items nl,slots:=oslots}:=bH _ hol;have u1:=PySem.F.sub_list_set;have u2:=PySem.F.sub_list_frozenset;have u3:(ug "list"==ug "dict")=aB:=by decide
    have li1:(s.heap.push (tO w)).IsList l items:=⟨_,hol1,rfl,nl,rfl⟩
    unfold gY.«set.__init__» noKeywords anY;generalize keep:Aj=PI;wp_walk;subst keep;refine BV li1 (az (VP ?_));have lt0:l<s.heap.objs.size:=bO hol;have hh3:A.in1.in1.in1.handled=aj:=by simp[hh]
    have ne0:l≠(s.heap.push (tO w)).objs.size:=by rw[oJ];exact cW (xg lt0)
    have amk:s.heap.objs.size∉[(s.heap.push (tO w)).objs.size,l]:=by
     rw[oJ];simp only[bI,gU,or_false,not_or]
     exact⟨cW (Gz _),qL lt0⟩
    refine aho (knd:=knd) (val:=val) ((HD hh3 _ l ne0 items).toS) amk hv room (items.size-0) 0 _ (by lia) (iI _) ⟨⟨_,dI _ rfl,rfl,rfl⟩,li1.push _⟩ (aks (bH _ g0)) λs3 mv hS=>?_
    obtain⟨h3,g3,d3,t3,o3⟩:=s3
    obtain rfl:g3=s.gens:=mv.gens;obtain rfl:d3=s.drawn:=mv.drawn;obtain rfl:o3=s.os:=mv.os;show aH _ _ _ _ _ _;refine aM (show aH _ _ (ret iW) _ _ _ from aM ⟨rfl,h3,t3,rfl,hS,λb o e=>?_⟩);have ltb:b<s.heap.objs.size:=bO e;refine mv.heap b o ?_ (bH _ (bH _ e));rw[oJ];simp only[bI,gU,or_false,not_or]
    exact⟨cW ltb,cW (xg ltb)⟩
   .cases r2 with
    |error e=>exact hr2
    |ok f2=>
     cases f2 with
     |ret r=>
      obtain⟨rfl,h',tk,rfl,hS,kk⟩:=hr2
      repeat (any_goals (first|assumption|wp_step))
      exact h _ _ hS kk
     |_=>exact hr2.elim
  |_=>exact hr.elim
end
theorem Yr:Manifest.owners.lookup (String.ofList "rotareti_tes".toList.reverse)=aa Manifest.sig_set_iterator:=by kernel_rfl
theorem qQ:Slot "set_iterator" "__next__" "set_iterator.__next__":=.of (owner:="set_iterator") (n:="__next__") (by rw[typeLookup_type,adh];kernel_rfl) (by decide +kernel) (by decide +kernel) (by decide +kernel) (by first|exact .inl (by decide +kernel)|exact .inr (by decide +kernel)) (by rw[VV];kernel_rfl)
theorem Zz:Slot "set_iterator" "__iter__" "set_iterator.__iter__":=.of (owner:="set_iterator") (n:="__iter__") (by rw[typeLookup_type,adh];kernel_rfl) (by decide +kernel) (by decide +kernel) (by decide +kernel) (by first|exact .inl (by decide +kernel)|exact .inr (by decide +kernel)) (by rw[VV];kernel_rfl)
theorem HR:Ij table "set_iterator.__next__"=aa gY.«set_iterator.__next__»:=aeg (by kernel_rfl)
theorem agx:Ij table "set_iterator.__iter__"=aa gY.«dict_keyiterator.__iter__»:=entryFor_alias (id':="dict_keyiterator.__iter__") (by kernel_rfl) rfl (by decide +kernel) (by kernel_rfl)
theorem afM:Ij table "set.__iter__"=aa gY.«frozenset.__iter__»:=entryFor_alias (id':="frozenset.__iter__") (by kernel_rfl) rfl (by decide +kernel) (by kernel_rfl)
theorem HS(a:Value):Dy "set_iterator.__next__" ⟨[a],[]⟩:=by
 unfold Dy;rw[signature?_of (id:="set_iterator.__next__") (n:="__txen__".toList) (o:="rotareti_tes".toList) (by kernel_rfl) Yr];kernel_rfl
theorem agy(a:Value):Dy "set_iterator.__iter__" ⟨[a],[]⟩:=by
 unfold Dy;rw[signature?_of (id:="set_iterator.__iter__") (n:="__reti__".toList) (o:="rotareti_tes".toList) (by kernel_rfl) Yr];kernel_rfl
section
variable{prog:bA}{w:bu}{A:bV}{E:Value->aA->Prop}{s:aA}{it S:ao}{es:Array (Int×Value)}{ep i n:Nat}{t:uq}{first:Value}
def lF(b:Bool)(h:aU)(a:ao)(es:Array (Int×Value))(ep:Nat)(t:uq):Prop:=∃o,h.get? a=aa o/\o.ExactSet/\o.data=.set es ep t/\t.fits es.size=aq/\jb b t
theorem lF.at(H:lF b h a es ep t)(e:∀o,h.get? a=aa o->h'.get? a=aa o):lF b h' a es ep t:=let ⟨o,ho,r⟩:=H;⟨o,e o ho,r⟩
def jU(h:aU)(it S:ao)(first:Value)(i n ep:Nat):Prop:=∃o,h.get? it=aa o/\o.cls=.type "set_iterator"/\o.data=.fields #[first,fW i,.ref S,fW n,fW ep]
theorem jU.at(H:jU h it S first i n ep)(e:∀o,h.get? it=aa o->h'.get? it=aa o):jU h' it S first i n ep:=let ⟨o,ho,r⟩:=H;⟨o,e o ho,r⟩
theorem jU.ty(H:jU s.heap it S first i n ep):s.TypeIs (.ref it) "set_iterator":=let ⟨o,ho,c,_⟩:=H;⟨o,ho,c⟩
theorem jU.set{h:aU}{j:Nat}{x:Value}{vs:Array Value}{o:Obj}(ho:h.get? it=aa o)(hc:o.cls=.type "set_iterator")(hd:o.data=.fields vs):
  ∃o',(h.update it (V6 (·.setIfInBounds j x))).get? it=aa o'/\o'.cls=.type "set_iterator"/\o'.data=.fields (vs.setIfInBounds j x):=
 ⟨_,u0 _ ho (UG (BP hd _)),(Vd ..).trans hc,by rw[BP hd]⟩
theorem Qk(hit:jU s.heap it S first i n ep)(h:Q (.ref it) s):aH (model prog w) A (Aj (.ref it)) Q E s:=by
 refine Vc hit.ty Zz (lR Zz hit.ty agx (show aH _ _ (ret (.ref it)) _ _ s from ?_) (agy _));exact aM ⟨_,rfl,"set_iterator",_,hit.ty,qQ.lookup,h⟩
theorem ZC{Q:Option Value->aA->Prop}{slot:Nat}{R:Option (Value×Nat)}(hit:jU s.heap it S (fW slot) i n ep)(hs:lF (bt w) s.heap S es ep t)(hn:n=es.size)(ne:S≠it)
  (nx:∀{B:bV}{E':Value->aA->Prop}{C:Option (Value×Nat)->aA->Prop},C R s->aH (model prog w) B (Di S slot i ep) C E' s){x:Value}{nxt:Nat}(hR:R=aa (x,nxt))
  (h:∀h',jU h' it S (fW nxt) (i+1) n ep->xG it s.heap h'->Q (aa x) {s with heap:=h'}):aH (model prog w) A (gZ (.ref it)) Q E s:=by
 obtain⟨o,ho,hc,hd⟩:=id hit
 obtain⟨os,hos,exs,hds,hf,tb⟩:=id hs
 unfold gZ;refine az (xF (pR (name:=bM "__next__") hit.ty qQ (lR qQ hit.ty HR ?_ (HS _))));unfold gY.«set_iterator.__next__»;refine az (aM (az (xr ho hd ?_)));dsimp only[fW];refine az (Gm hos hds hf ?_);subst hn;subst hR;rw[bw (by simp)];refine az (nx ?_);dsimp only;refine az (ue ho hd (by simp) ?_)
 obtain⟨o1,g1,c1,d1⟩:=jU.set (j:=0) (x:=.int nxt 0) ho hc hd
 refine az (ue g1 d1 (by simp) ?_)
 obtain⟨o2,g2,c2,d2⟩:=jU.set (j:=1) (x:=.int (i+1) 0) g1 c1 d1
 refine aM ⟨_,rfl,aM (h _ ⟨o2,g2,c2,?_⟩ ((oE ..).trans (oE ..)))⟩;rw[d2];simp[fW]
theorem ZD(hh:A.handled=aj)(h:∀h',(∀b o,s'.heap.get? b=aa o->h'.get? b=aa o)->Q aj {s' with heap:=h'}):
  aH (model prog w) A.in1 (do let e <-Dv (.type "StopIteration") [];(O4 e:Sem Fin)) (λfin s1=>∃v,fin=Fin.done (Flow.ret v)/\aH (model prog w) A (pure (aa v)) Q E s1)
   (λe s1=>aH (model prog w) A (do if(<-isInstance e (ug "StopIteration"))=aq then pure aj else throw e) Q E s1) s':=by
 refine az ?_;simp only[Dv,O3];refine az (jz ?_ (by size_fits));refine az (m:=Cm _ _) (Hj (a:=iW) (by first|rfl|(simp only[Cm];rfl)) ?_);refine jz ?_ (by size_fits);simp only[O4];refine az (V7 ?_);rw[show A.in1.handled=aj from hh];refine az (aM (Wx ?_));refine az (Ml (T:="StopIteration") (b:=aq) ⟨_,dI _ rfl,rfl⟩ VN ?_);exact aM (h _ λb o e=>bH _ (bH _ e))
theorem aaz{Q:Option Value->aA->Prop}{slot:Nat}(hh:A.handled=aj)(hit:jU s.heap it S (fW slot) i n ep)(hs:lF (bt w) s.heap S es ep t)(hn:n=es.size)
  (nx:∀{B:bV}{E':Value->aA->Prop}{C:Option (Value×Nat)->aA->Prop},C aj s->aH (model prog w) B (Di S slot i ep) C E' s)
  (h:∀h',(∀b o,b≠it->s.heap.get? b=aa o->h'.get? b=aa o)->Q aj {s with heap:=h'}):aH (model prog w) A (gZ (.ref it)) Q E s:=by
 obtain⟨o,ho,hc,hd⟩:=id hit
 obtain⟨os,hos,exs,hds,hf,tb⟩:=id hs
 unfold gZ;refine az (xF (pR (name:=bM "__next__") hit.ty qQ (lR qQ hit.ty HR ?_ (HS _))));unfold gY.«set_iterator.__next__»;refine az (aM (az (xr ho hd ?_)));dsimp only[fW];refine az (Gm hos hds hf ?_);subst hn;rw[bw (by simp)];refine az (nx ?_);dsimp only;refine az (ue ho hd (by simp) ?_);exact ZD hh λh' kk=>h h' λb o hb e=>kk b o (((oE ..).2 b hb).trans e)
end
section
variable{prog:bA}{w:bu}{A:bV}{E:Value->aA->Prop}{s:aA}{it S:ao}{es:Array (Int×Value)}{ep i n:Nat}{t:uq}{first:Value}
theorem Jh(h:Q (!bt w) s):aH (model prog w) A setsByText Q E s:=by
 unfold setsByText;refine az (Vs (aM ?_));have h':Q (w.params.followText "set-order") s:=by simpa[bt] using h
 exact h'
theorem Nz:∀{l:List α}{j:Nat}(h:j<l.length),(l[j]::l.eraseIdx j).Perm l
 |[],j,h=>by cases h
 |a::l,0,h=>.refl _
 |a::l,j+1,h=>by
  have:=Nz (l:=l) (j:=j) (by simpa using h);simp only[List.getElem_cons_succ,List.eraseIdx_cons_succ]
  exact(V0 ..).trans (this.cons a)
theorem Xp(hs:lF (bt w) s.heap S es ep t)(hb:bt w=aq)(nd:(!t.plain&&decide (es.size>1))=aB)
  (h:C (match es[iU t.place slot]?,t.place[iU t.place slot]? with|some (_,x),some j=>aa (x,j+1)|_,_=>aj) s):aH (model prog w) A (Di S slot i ep) C E s:=by
 obtain⟨o,ho,ex,hd,hf,tb⟩:=hs
 unfold Di;refine az (Ca ho hd hf ?_);refine az (Jh ?_);rw[hb];simp only[aeN,oF,if_false];refine Mw (λz=>?_) (λ_=>?_)
 .have z':(!t.plain&&decide (es.size>1))=aq:=z;rw[nd] at z';cases z'
 refine az (show aH _ _ (if(!t.led&&!es.isEmpty)=aq then _ else _) _ _ _ from ?_);rw[tb.led,hb];simp only[aeN,VL,oF,if_false];exact aM (aM h)
theorem Xq(hs:lF (bt w) s.heap S es ep t)(hb:bt w=aB)
  (h:C (((xO (w.params.setOrder S ep) es)[i]?).map λe=>(e.2,slot)) s):aH (model prog w) A (Di S slot i ep) C E s:=by
 obtain⟨o,ho,ex,hd,hf,tb⟩:=hs
 unfold Di;refine az (Ca ho hd hf ?_);refine az (Jh ?_);rw[hb];simp only[aew,if_true,bne_self_eq_false,oF,if_false];refine az ?_;unfold setWalk;refine az (Ca ho hd hf ?_);refine az (Jh ?_);rw[hb];simp only[aew,if_true];refine az (Vs (aM ?_));exact aM h
theorem ZF(f:Nat->Nat):∀(m k:Nat)(left:List α)(out:Array α),left.length=m->(Wj f m k left out).toList.Perm (out.toList++left)
 |0,k,left,out,h=>by
  unfold Wj;rw[ac1.mp h];simp
 |m+1,k,left,out,h=>by
  unfold Wj;have hl:f k%left.length<left.length:=Nat.mod_lt _ (by lia);rw[gJ hl];dsimp only
  refine(ZF f m (k+1) _ _ (by rw[adq];simp[hl];lia)).trans ?_
  rw[Vi,oG];refine adi _ ?_;exact Nz hl
theorem Oi(f:Nat->Nat)(xs:Array α):(xO f xs).toList.Perm xs.toList:=by
 have:=ZF f xs.size 0 xs.toList #[] (by simp);simpa[xO] using this
theorem ahq(hm:m≠0)(h:∀j d,j<m->Q j {s with drawn:=d}):aH (model prog w) A (choose src m) Q E s:=λΓ p _=>⟨hm,h _ _ (Nat.mod_lt _ (Nat.pos_of_ne_zero hm))⟩
theorem Ys:∀(m:Nat)(xs:List α)(s:aA)(Q:List α->aA->Prop),xs.length=m->(∀ys d,ys.Perm xs->Q ys {s with drawn:=d})->aH (model prog w) A (drawOrder m xs) Q E s
 |0,xs,s,Q,hl,h=>by
  unfold drawOrder;rw[ac1.mp hl] at h;exact aM (h [] s.drawn (.refl _))
 |m+1,[],s,Q,hl,h=>by cases hl
 |m+1,x::xs,s,Q,hl,h=>by
  unfold drawOrder;refine az (ahq (by simp) λj d hj=>?_);rw[gJ hj];dsimp only;refine az (Ys m _ _ _ (by rw[adq,aY hj];simpa using hl) λys d' hp=>?_);exact aM (h _ d' ((hp.cons _).trans (Nz hj)))
end
section
variable{prog:bA}{w:bu}{A:bV}{E:Value->aA->Prop}{s:aA}{it S pl:ao}{es:Array (Int×Value)}{ep i n:Nat}{t:uq}{ps:List Nat}
def Bs(h:aU)(pl:ao)(ps:List Nat):Prop:=∃o c,h.get? pl=aa o/\o.data=.seq (ps.map λk:Nat=>fW k).toArray c
theorem Bs.at(H:Bs h pl ps)(e:∀o,h.get? pl=aa o->h'.get? pl=aa o):Bs h' pl ps:=let ⟨o,c,ho,r⟩:=H;⟨o,c,e o ho,r⟩
theorem aiD(hit:jU s.heap it S (.ref pl) i n ep)(hs:lF (bt w) s.heap S es ep t)(hp:Bs s.heap pl ps)(hn:n=es.size)(hk:ps[i]?=aa k)(he:es[k]?=aa e)
  (h:∀h',jU h' it S (.ref pl) (i+1) n ep->xG it s.heap h'->Q (aa e.2) {s with heap:=h'}):aH (model prog w) A (gZ (.ref it)) Q E s:=by
 obtain⟨o,ho,hc,hd⟩:=id hit
 obtain⟨os,hos,exs,hds,hf,tb⟩:=id hs
 obtain⟨op,cp,hop,hdp⟩:=hp
 unfold gZ;refine az (xF (pR (name:=bM "__next__") hit.ty qQ (lR qQ hit.ty HR ?_ (HS _))));unfold gY.«set_iterator.__next__»;refine az (aM (az (xr ho hd ?_)));dsimp only[fW];refine az (Gm hos hds hf ?_);subst hn;rw[bw (by simp)];refine az (pX hop hdp ?_);dsimp only;rw[show((ps.map λk:Nat=>fW k).toArray)[((i:Int)).toNat]?=aa (.int (k:Int) 0) by simp[hk,fW]];dsimp only;refine az ?_;unfold setNextDrawn;refine az (Ca hos hds hf ?_);simp only[Gv,bne_self_eq_false,oF,if_false,he];refine aM (az (ue ho hd (by simp) ?_))
 obtain⟨o1,g1,c1,d1⟩:=jU.set (j:=1) (x:=.int (i+1) 0) ho hc hd
 refine aM ⟨_,rfl,aM (h _ ⟨o1,g1,c1,?_⟩ (oE ..))⟩;rw[d1];simp[fW]
theorem akt(hh:A.handled=aj)(hit:jU s.heap it S (.ref pl) i n ep)(hs:lF (bt w) s.heap S es ep t)(hp:Bs s.heap pl ps)(hn:n=es.size)(hk:ps.length<=i)
  (h:∀h',(∀b o,b≠it->s.heap.get? b=aa o->h'.get? b=aa o)->Q aj {s with heap:=h'}):aH (model prog w) A (gZ (.ref it)) Q E s:=by
 obtain⟨o,ho,hc,hd⟩:=id hit
 obtain⟨os,hos,exs,hds,hf,tb⟩:=id hs
 obtain⟨op,cp,hop,hdp⟩:=hp
 unfold gZ;refine az (xF (pR (name:=bM "__next__") hit.ty qQ (lR qQ hit.ty HR ?_ (HS _))));unfold gY.«set_iterator.__next__»;refine az (aM (az (xr ho hd ?_)));dsimp only[fW];refine az (Gm hos hds hf ?_);subst hn;rw[bw (by simp)];refine az (pX hop hdp ?_);dsimp only;rw[show((ps.map λk:Nat=>fW k).toArray)[((i:Int)).toNat]?=aj by simp[hk]];dsimp only;refine az (ue ho hd (by simp) ?_)
 obtain⟨o1,g1,c1,d1⟩:=jU.set (j:=0) (x:=.int 0 0) ho hc hd
 refine az (ue g1 d1 (by simp) ?_);exact ZD hh λh' kk=>h h' λb o hb e=>kk b o ((((oE ..).trans (oE ..)).2 b hb).trans e)
theorem agz(hh:A.handled=aj)(ne:S≠it)(hb:bt w=aq)(nd:(!t.plain&&decide (es.size>1))=aB)(hz:t.place.size=es.size)(rs:t.place.toList.Pairwise (·<·)):
  ux prog w A it [it,S] [it] es.size (λi v=>(es.toList.map (·.2))[i]?=aa v) (λi h=>jU h it S (fW (if i=0 then 0 else t.place.getD (i-1) 0+1:Nat)) i es.size ep/\lF (bt w) h S es ep t) where
 sub:=λb hb=>by simp at hb;simp[hb]
 frame:=λ_ _ _ st hk=>⟨st.1.at λo e=>hk it (by simp) o e,st.2.at λo e=>hk S (by simp) o e⟩
 item:=λi s Q E hi st hQ=>by
  have hp:i<t.place.size:=by lia
  have bl:iU t.place (if i=0 then 0 else t.place.getD (i-1) 0+1)=i:=by
   by_cases z:i=0
   .subst z;exact Zx rs
   .rw[bw z];have h1:i-1<t.place.size:=by lia
    have:=W0 rs h1;rw[t6,jM h1,Cd,this];lia
  refine ZC (R:=aa (es[i].2,t.place[i]+1)) st.1 st.2 rfl ne (λc=>Xp st.2 hb nd ?_) rfl λh' hit' same=>hQ _ h' s.toks (by simp[hi]) ⟨?_,st.2.at λo e=>(same.2 S ne).trans e⟩ λb o hb e=>(same.2 b λz=>hb (by simp[z])).trans e
  .rw[bl,jM hi,jM hp];exact c
  .have e1:(if i+1=0 then 0 else t.place.getD (i+1-1) 0+1)=t.place[i]+1:=by
    rw[bw (by lia),Nat.add_sub_cancel,t6,jM hp,Cd]
   rw[e1];exact hit'
 done:=λs Q E st hQ=>by
  have bl:iU t.place (if es.size=0 then 0 else t.place.getD (es.size-1) 0+1)=es.size:=by
   by_cases z:es.size=0
   .rw[aY z,z];exact Zx rs
   .rw[bw z];have h1:es.size-1<t.place.size:=by lia
    have:=W0 rs h1;rw[t6,jM h1,Cd,this];lia
  refine aaz hh st.1 st.2 rfl (λc=>Xp st.2 hb nd ?_) λh' kk=>hQ h' s.toks λb o hb e=>kk b o (λz=>hb (by simp[z])) e
  rw[bl,Uv (bK _)];exact c
 self:=λ_ _ _ _ st hQ=>Qk st.1 hQ
theorem agA(hh:A.handled=aj)(ne:S≠it)(hb:bt w=aB):
  ux prog w A it [it,S] [it] es.size (λi v=>((xO (w.params.setOrder S ep) es).toList.map (·.2))[i]?=aa v) (λi h=>jU h it S (fW (0:Nat)) i es.size ep/\lF (bt w) h S es ep t) where
 sub:=λb hb=>by simp at hb;simp[hb]
 frame:=λ_ _ _ st hk=>⟨st.1.at λo e=>hk it (by simp) o e,st.2.at λo e=>hk S (by simp) o e⟩
 item:=λi s Q E hi st hQ=>by
  have hl:(xO (w.params.setOrder S ep) es).size=es.size:=by rw[<-j8,(Oi _ es).length_eq,j8]
  have hp:i<(xO (w.params.setOrder S ep) es).size:=by lia
  refine ZC (R:=aa ((xO (w.params.setOrder S ep) es)[i].2,0)) st.1 st.2 rfl ne (λc=>Xq st.2 hb ?_) rfl λh' hit' same=>hQ _ h' s.toks (by simp[hp]) ⟨hit',st.2.at λo e=>(same.2 S ne).trans e⟩ λb o hb e=>(same.2 b λz=>hb (by simp[z])).trans e
  rw[jM hp];exact c
 done:=λs Q E st hQ=>by
  have hl:(xO (w.params.setOrder S ep) es).size=es.size:=by rw[<-j8,(Oi _ es).length_eq,j8]
  refine aaz hh st.1 st.2 rfl (λc=>Xq st.2 hb ?_) λh' kk=>hQ h' s.toks λb o hb e=>kk b o (λz=>hb (by simp[z])) e
  rw[Uv (by lia)];exact c
 self:=λ_ _ _ _ st hQ=>Qk st.1 hQ
theorem afN(hh:A.handled=aj)(ne:S≠it)(np:pl≠it)(pp:ps.Perm (dX es.size)):
  ux prog w A it [it,S,pl] [it] es.size (λi v=>(ps.map λk=>(es.getD k (0,.none)).2)[i]?=aa v) (λi h=>jU h it S (.ref pl) i es.size ep/\lF (bt w) h S es ep t/\Bs h pl ps) where
 sub:=λb hb=>by simp at hb;simp[hb]
 frame:=λ_ _ _ st hk=>⟨st.1.at λo e=>hk it (by simp) o e,st.2.1.at λo e=>hk S (by simp) o e,st.2.2.at λo e=>hk pl (by simp) o e⟩
 item:=λi s Q E hi st hQ=>by
  have hl:ps.length=es.size:=by rw[pp.length_eq,oH]
  have hp:i<ps.length:=by lia
  have hk:ps[i]<es.size:=ud.mp (pp.mem_iff.mp (Cg hp));refine aiD (k:=ps[i]) (e:=es[ps[i]]) st.1 st.2.1 st.2.2 rfl (gJ hp) (jM hk) λh' hit' same=>hQ _ h' s.toks ?_ ⟨hit',st.2.1.at λo e=>(same.2 S ne).trans e,st.2.2.at λo e=>(same.2 pl np).trans e⟩ λb o hb e=>(same.2 b λz=>hb (by simp[z])).trans e
  rw[ie,gJ hp,jA,t6,jM hk];rfl
 done:=λs Q E st hQ=>by
  have hl:ps.length=es.size:=by rw[pp.length_eq,oH]
  exact akt hh st.1 st.2.1 st.2.2 rfl (by lia) λh' kk=>hQ h' s.toks λb o hb e=>kk b o (λz=>hb (by simp[z])) e
 self:=λ_ _ _ _ st hQ=>Qk st.1 hQ
end
section
variable{prog:bA}{w:bu}{A:bV}{E:Value->aA->Prop}{s:aA}{S:ao}{es:Array (Int×Value)}{ep:Nat}{t:uq}
theorem agB(hs:lF (bt w) s.heap S es ep t)(h:Q (bt w&&(!t.plain&&decide (es.size>1))) s):aH (model prog w) A (setDrawn S) Q E s:=by
 obtain⟨os,hos,exs,hds,hf,tb⟩:=id hs
 unfold setDrawn;refine az (Ca hos hds hf ?_);refine az (Jh (aM ?_));rw[Bool.not_not];exact h
theorem ahr(hh:A.handled=aj)(hs:lF (bt w) s.heap S es ep t)(hb:es.size<p7)
  (h:∀(I:ao)(h1:aU)(d:yt)(fp:List ao)(out:List Value)(St:Nat->aU->Prop),ux prog w A I fp [I] es.size (λi v=>out[i]?=aa v) St->St 0 h1->out.Perm (es.toList.map (·.2))->(∀b o,s.heap.get? b=aa o->h1.get? b=aa o)->s.heap.objs.size<=I->
   (∀b∈fp,b=S\/s.heap.objs.size<=b)->Q (.ref I) {s with heap:=h1,drawn:=d}):aH (model prog w) A (Aj (.ref S)) Q E s:=by
 obtain⟨os,hos,exs,hds,hf,tb⟩:=id hs
 have hT:s.TypeIs (.ref S) "set":=⟨os,hos,exs.1⟩
 have lt:S<s.heap.objs.size:=bO hos;have hz:t.place.size=es.size:=by
  have:=hf;simp only[SetTable.fits,iT,beq_iff_eq] at this;exact this.1
 refine Vc hT aes (lR aes hT afM ?_ (F.args_set_iter_1 _));unfold gY.«frozenset.__iter__» aou aor;refine az (az (aM (aM ?_)));refine az (az (Gm hos hds hf (aM ?_)));refine az (agB hs ?_);by_cases hd:(bt w&&(!t.plain&&decide (es.size>1)))=aq
 .rw[aY hd];refine az (Ys _ _ _ _ (oH ..) λps d pp=>?_);have pl:ps.length=es.size:=by rw[pp.length_eq,oH]
  unfold O3;refine az (jz ?_ (show(List.map (λi:Nat=>fW i) ps).toArray.size<=bL by rw[fj,bh,pl,jo];unfold p7 at hb;lia));have g1:(s.heap.push {cls:=.type "tuple",data:=.seq (ps.map λk:Nat=>fW k).toArray}).get? S=aa os:=bH _ hos;refine az (adZ (s:={s with heap:=s.heap.push _,drawn:=d}) g1 hds hf ?_);refine az ?_;unfold newFields;refine jz ?_;refine aM ⟨_,rfl,"set_iterator",_,⟨_,dI _ rfl,rfl⟩,qQ.lookup,?_⟩;have wJ:(s.heap.push {cls:=.type "tuple",data:=.seq (ps.map λk:Nat=>fW k).toArray}).objs.size=s.heap.objs.size+1:=oJ ..;refine h _ _ d [_,S,s.heap.objs.size] _ _ (afN (ep:=ep) (t:=t) hh ?_ ?_ pp) ⟨⟨_,dI _ rfl,rfl,rfl⟩,⟨os,bH _ g1,exs,hds,hf,tb⟩,⟨_,0,bH _ (dI _ rfl),rfl⟩⟩ ?_ (λb o e=>bH _ (bH _ e)) ?_ ?_
  .rw[wJ];exact cW (xg lt)
  .rw[wJ];exact cW (Gz _)
  .have e2:(dX es.size).map (λk=>(es.getD k (0,iW)).2)=es.toList.map (·.2):=by
    refine GC (by simp) λj h1 h2=>?_
    have hj:j<es.size:=by simpa using h1
    simp[t6,jM hj]
   rw[<-e2];exact pp.map _
  .rw[wJ];exact uf _
  .intro b hb';simp only[bI,gU,or_false] at hb';rcases hb' with rfl|rfl|rfl
   .right;rw[wJ];exact uf _
   .exact .inl rfl
   .exact .inr (bK _)
 .rw[bw hd];refine az (aM ?_);refine az (adZ hos hds hf ?_);refine az ?_;unfold newFields;refine jz ?_;refine aM ⟨_,rfl,"set_iterator",_,⟨_,dI _ rfl,rfl⟩,qQ.lookup,?_⟩;have abE:∀b,b∈[s.heap.objs.size,S]->b=S\/s.heap.objs.size<=b:=λb hb'=>by
   simp only[bI,gU,or_false] at hb';rcases hb' with rfl|rfl
   .exact .inr (bK _)
   .exact .inl rfl
  cases hbt:bt w with
  |true=>
   rw[hbt] at hd;have nd:(!t.plain&&decide (es.size>1))=aB:=by simpa using hd
   exact h _ _ s.drawn [_,S] _ _ (agz (ep:=ep) hh (cW lt) hbt nd hz tb.Tw) ⟨⟨_,dI _ rfl,rfl,rfl⟩,⟨os,bH _ hos,exs,hds,hf,tb⟩⟩ (.refl _) (λb o e=>bH _ e) (bK _) abE
  |false=>
   exact h _ _ s.drawn [_,S] _ _ (agA (ep:=ep) (t:=t) hh (cW lt) hbt) ⟨⟨_,dI _ rfl,rfl,rfl⟩,⟨os,bH _ hos,exs,hds,hf,tb⟩⟩ ((Oi _ es).map _) (λb o e=>bH _ e) (bK _) abE
end
end L2
namespace L2
open PySem PySem.Spec PySem.W PyProof.Rows
section
variable{prog:bA}{w:bu}{A:bV}{E:Value->aA->Prop}{s:aA}{S:ao}{es:Array (Int×Value)}{ep:Nat}{t:uq}
theorem ahs(hT:s.TypeIs (.ref S) "set")(h:Q aB s):aH (model prog w) A (acO (.ref S)) Q E s:=by
 unfold acO;refine az (wpAny_specialOf hT PySem.F.slot_set_len.lookup ?_);generalize hid:("set.__len__":String)=nm
 wp_delta
 rw[show splitId nm=aa ("set","__len__") by subst hid;decide +kernel];subst hid;refine az (Ml (T:="set") (b:=aq) hT (by rw[VV];kernel_rfl) ?_);refine Mw (λz=>absurd z (by decide)) λ_=>Mw (λ_=>?_) λz=>absurd (by decide +kernel) z
 exact az (xJ hT (aM h))
theorem agC{out:List Value}{acc:Array Value}(h:ItemsOf (λi v=>out[i]?=aa v) acc out.length):acc=out.toArray:=by
 refine Array.ext (by simpa using h.1) λj h1 h2=>?_
 have this:out[j]?=aa acc[j]:=h.2 j acc[j] (jM h1);have hj:j<out.length:=by simpa using h2
 rw[gJ hj] at this;simpa using(fU this).symm
theorem afO{R:nP->aA->Prop}(hh:A.handled=aj)(hs:lF (bt w) s.heap S es ep t)(hb:es.size<p7){L:ao}(ne:L≠S){c0:Nat}(hL:s.heap.get? L=aa {cls:=.type "list",data:=.seq #[] c0})(res:Value)
  (hR:∀(h':aU)(d:yt)(tk:Nat)(us:List Value)(c':Nat),us.Perm (es.toList.map (·.2))->(∀b o,b≠L->s.heap.get? b=aa o->h'.get? b=aa o)->h'.get? L=aa {cls:=.type "list",dict:=aj,data:=.seq us.toArray c',slots:=#[]}->
   R (.ok (.ret res)) {s with heap:=h',drawn:=d,toks:=tk}):
  aH (model prog w) A.in1 (Ln (.ref L) (.ref S) res) (λfin s'=>match fin with|.done f=>R (.ok f) s'|.again c'=>c'.quiet=aq/\j9 (model prog w) A c' R s') (λe s'=>R (.error e) s') s:=by
 obtain⟨os,hos,exs,hds,hf,tb⟩:=id hs
 have hT:s.TypeIs (.ref S) "set":=⟨os,hos,exs.1⟩
 have ltL:L<s.heap.objs.size:=bO hL;unfold Ln;refine az (xJ hT ?_);rw[show(Uq (.ref L) (.ref S)||ug "set"==ug "list"||ug "set"==ug "tuple")=aB by
  rw[show Uq (.ref L) (.ref S)=aB by simp[Uq,ne]];decide]
 simp only[oF,if_false];refine az (ahr (A:=A.in1) hh hs hb λI h1 d fp out St W st pm kp geI okf=>?_);have lo:out.length=es.size:=by rw[pm.length_eq,bh,j8]
 have jc:L∉fp:=λz=>(okf L z).elim ne λz'=>absurd ltL (CG.mpr z')
 have run:∀(h2:aU)(c1 tk:Nat),St 0 h2->(∀b o,b≠L->s.heap.get? b=aa o->h2.get? b=aa o)->h2.get? L=aa {cls:=.type "list",data:=.seq #[] c1}->
   j9 (model prog w) A (.builtin "list.extend.loop" ⟨[.ref L,.ref I,res],[]⟩) R {s with heap:=h2,drawn:=d,toks:=tk}:=λh2 c1 tk st2 k2 g2=>by
  refine codeAny_extend_loopS W.toS (Vj hb) L jc res es.size 0 _ #[] c1 rfl (iI _) st2 g2 (ItemsOf.nil _) λs3 acc c3 mv g3 io=>?_
  rw[<-lo] at io;have ea:=agC io;subst ea;rw[Moved.eq_with mv];refine hR s3.heap d s3.toks out c3 pm (λb o nb e=>mv.heap b o (λz=>?_) (k2 b o nb e)) g3;rcases bI.mp z with z|z
  .exact nb z
  .exact absurd (bO e) (by rw[fQ.mp z];exact CG.mpr geI)
 have gL:=kp L _ hL;have gS:aeM {s with heap:=h1,drawn:=d} (.ref S) "set":=⟨os,kp S _ hos,exs.1⟩
 refine az (jB (ahs gS ?_));refine Mw (λ_=>?_) λ_=>aM ⟨oM acV _,run h1 c0 s.toks st (λb o _ e=>kp b o e) gL⟩
 refine az (rW (az (show aH _ _ (Oj L (·.push .none) >>= λ_=>Oj L (·.pop)) _ _ _ from ?_)));refine az (GP gL rfl ?_);have u2:=u0 (lg (·.push iW)) gL rfl;refine GP (hz:=by seq_fits) u2 rfl ?_;have u3:=u0 (lg (·.pop)) u2 rfl;have far:∀b o,b≠L->h1.get? b=aa o->((h1.update L (lg (·.push iW))).update L (lg (·.pop))).get? b=aa o:=λb o nb e=>
  (rM _ _ (jr nb)).trans ((rM _ _ (jr nb)).trans e)
 exact aM ⟨oM acV _,run _ _ s.toks (W.frame 0 _ _ st λb hb' o e=>far b o (λz=>jc (z▸hb')) e) (λb o nb e=>far b o nb (kp b o e)) u3⟩
theorem afj(hh:A.handled=aj)(hs:lF (bt w) s.heap S es ep t)(hb:es.size<p7)
  (h:∀(h':aU)(d:yt)(tk:Nat)(us:List Value),us.Perm (es.toList.map (·.2))->s.heap.objs.size<=h'.objs.size->(∀b o,s.heap.get? b=aa o->h'.get? b=aa o)->R us {s with heap:=h',drawn:=d,toks:=tk}):
  aH (model prog w) A (collect (.ref S)) R E s:=by
 have ltS:S<s.heap.objs.size:=let ⟨_,e,_⟩:=hs;bO e
 unfold collect;refine az (VP (nH entry_proto_collect' ?_));rw[oA acN _];show aH _ A.in1 (newList [] >>= λl=>again (.builtin "list.__iadd__" ⟨[l,.ref S],[]⟩)) _ _ s;refine az (jz (aM ⟨oM Ls _,nH entry_list_iadd' ?_⟩));rw[oA Ls _];have g0:(s.heap.push {cls:=.type "list",data:=.seq ([]:List Value).toArray}).get? s.heap.objs.size=aa {cls:=.type "list",data:=.seq #[]}:=dI _ rfl;show aH _ A.in1 (Ln (.ref s.heap.objs.size) (.ref S) (.ref s.heap.objs.size)) _ _ _;have key:=afO (prog:=prog) (A:=A) (s:={s with heap:=s.heap.push {cls:=.type "list",data:=.seq ([]:List Value).toArray}})
  (R:=λ(q:nP)(s':aA)=>∃(h':aU)(d:yt)(tk:Nat)(us:List Value)(c':Nat),q=.ok (.ret (.ref s.heap.objs.size))/\s'={s with heap:=h',drawn:=d,toks:=tk}/\us.Perm (es.toList.map (·.2))/\(∀b o,s.heap.get? b=aa o->h'.get? b=aa o)/\h'.get? s.heap.objs.size=aa {cls:=.type "list",dict:=aj,data:=.seq us.toArray c',slots:=#[]})
  hh (hs.at λo e=>bH _ e) hb (qL ltS) g0 (.ref s.heap.objs.size) (λh' d tk us c' pm kk g=>⟨h',d,tk,us,c',rfl,rfl,pm,λb o e=>kk b o (cW (bO e)) (bH _ e),g⟩)
 refine pZ key (λfin s' x=>?_) λe s' x=>?_
 .cases fin with
  |done f=>
   obtain⟨h',d,tk,us,c',e,rfl,pm,kk,g⟩:=x
   cases e;show aH _ A (load s.heap.objs.size >>= _) _ _ _;exact az (Hz g (aM (h h' d tk us pm (zH (bO g)) kk)))
  |again c1=>
   refine⟨x.1,zJ x.2 λq s2 y=>?_⟩
   obtain⟨h',d,tk,us,c',rfl,rfl,pm,kk,g⟩:=y
   show aH _ A (load s.heap.objs.size >>= _) _ _ _;exact az (Hz g (aM (h h' d tk us pm (zH (bO g)) kk)))
 .obtain⟨_,_,_,_,_,e',_⟩:=x
  cases e'
end
section
variable{prog:bA}{w:bu}{A:bV}{E:Value->aA->Prop}{s:aA}{S:ao}{es:Array (Int×Value)}{ep:Nat}{t:uq}
theorem afP{Ok:List Value->Prop}{Q:Value->aA->Prop}(hh:A.handled=aj)(hs:lF (bt w) s.heap S es ep t)(few:es.size<64)
  (srt:∀us:List Value,us.Perm (es.toList.map (·.2))->∀(B:bV)(s1:aA)(a:ao)(n:Nat)(P:Fin->aA->Prop)(E':Value->aA->Prop),s1.heap.get? a=aa (seqObj "list" us.toArray n)->
   (∀out:Array Value,Ok out.toList->P (.done (.ret .none)) {s1 with heap:=sortedHeap s1.heap a us out})->aH (model prog w) B (gY.«list.sort» ⟨[.ref a],[]⟩) P E' s1)
  (h:∀(D:ao)(h':aU)(d:yt)(tk c:Nat)(out:Array Value),Ok out.toList->s.heap.objs.size<=D->(∀b o,s.heap.get? b=aa o->h'.get? b=aa o)->h'.get? D=aa (seqObj "list" out c)->Q (.ref D) {s with heap:=h',drawn:=d,toks:=tk}):
  aH (model prog w) A (call (.builtin "sorted") [.ref S]) Q E s:=by
 refine Ui kind_sorted plain_sorted entry_sorted (args_sorted1 _) ?_;unfold gY.«sorted»;refine az (m:=checkCount "sorted" 1 1 _) (aM (az (afj (A:=A.in1) hh hs (by unfold p7;lia) λh1 d tk us pm ge kk=>?_)));have lu:us.length=es.size:=by rw[pm.length_eq,bh,j8]
 refine az (V5 ?_ (by rw[jo];lia));have gL:(h1.push (seqObj "list" us.toArray 0)).get? h1.objs.size=aa (seqObj "list" us.toArray 0):=dI _ rfl;refine az (jB (lR slot_list_sort ⟨_,gL,rfl⟩ entry_list_sort (srt us pm _ {s with heap:=h1.push (seqObj "list" us.toArray 0),drawn:=d,toks:=tk} _ 0 _ _ gL λout ok=>⟨_,rfl,?_⟩) (args_list_sort _)))
 obtain⟨c,gD⟩:=sortedHeap_at (out:=out) gL
 refine aM ⟨_,rfl,h h1.objs.size _ d tk c out ok ge (λb o e=>?_) gD⟩;have lb:b<h1.objs.size:=bO (kk b o e)
 show(sortedHeap (h1.push (seqObj "list" us.toArray 0)) h1.objs.size us out).get? b=aa o
 rw[sortedHeap_old (cW lb) (by rw[oJ];exact xg lb)];exact bH _ (kk b o e)
end
theorem Inv.drew(d:yt)(I:Inv X pins σ H s):Inv X pins σ H {s with drawn:=d}:=
 I.call (g':=s.gens) (t':=s.toks) (d':=d) (ch:=[]) (Un.kept λ_ _ e=>e) (I.hok.kept λ_ _ e=>e) I.bare (λ_ z=>nomatch z)
theorem aex(l:List α)(d:α):(dX l.length).map (λi=>l.getD i d)=l:=by
 refine GC (by simp) λi h1 h2=>?_
 simp[h2]
section
variable{X:Cx}{T:Type}[DecidableEq T]{knd:vo X.prog X.w T}{l:Expr}{tl:TE}{p1 p2 pos1 pos2:Pos}
theorem aht(mk:T->V)(dflt:T)(hk:∀k v,RelV (mk k) v->knd.is k v=aq/\v.scannable=aq)(hc:X.calm=aq)(hl:PE X l tl)(g2:Gl X "set")(m2:X.mg "set"=aj){pins:List (ao×Obj)}{s:aA}{σ:St}{H:Hp}{R:List T->Hp->Prop}(I:Inv X pins σ H s)
  (h:tl σ H λx H1=>∃(a:ao)(ns:List T),[x]=[V.ref a]/\bG X.K H1 a (ns.map mk)/\ns.length<64/\R ns H1)(he:bD [l] X.env=(aB,eval l X.env)::bD [] X.env:=by rfl)(hpl:(gO pos2 (bD [] X.env)).any (·.1)=aB:=by rfl):
  aH (model X.prog X.w) X.A (eval (.Call (.Name "set" p2) [l] [] pos2) X.env) (λv s'=>∃(S:ao)(ns:List T)(H1:Hp),v=.ref S/\Inv X pins σ H1 s'/\kh knd s'.heap S (dedup ns)/\ns.length<64/\R ns H1) X.xe s:=by
 refine Gp (vL I g2 m2 (u:=.type "set") rfl ?_);refine Gg (bQ (oW hl sO he pos2 pins s σ H (λvs H1=>∃(a:ao)(ns:List T),vs=[V.ref a]/\bG X.K H1 a (ns.map mk)/\ns.length<64/\R ns H1) I h) λus s1 aK=>?_) he hpl
 obtain⟨vs,H1,I1,r1,q1⟩:=aK
 obtain⟨a,ns,rfl,ha,h64,q⟩:=q1
 obtain⟨u,rfl,ru⟩:=vals1 r1
 cases ru
 obtain⟨its,rv,pl,_⟩:=I1.list ha
 have ln:its.length=ns.length:=by rw[<-rv.length,bh]
 have at':∀i v,its.toArray[i]?=aa v->knd.is (ns.getD i dflt) v=aq/\v.scannable=aq:=λi v e=>by
  rw[List.getElem?_toArray] at e;have hi:i<its.length:=(f9.mp e).1;have r:=Vals.get (i:=i) (x:=mk (ns.getD i dflt)) rv (by simp[ie,gJ (ln▸hi),oR])
  obtain⟨v',e',r'⟩:=r
  rw[e] at e';cases e';exact hk _ _ r'
 refine agw (knd:=knd) (val:=λi=>ns.getD i dflt) (I1.ok.hd hc) pl.isList at' (by rw[fj,ln];unfold p7;lia) λh' tk hS kk=>?_
 have e0:(dX its.toArray.size).map (λi=>ns.getD i dflt)=ns:=by rw[show its.toArray.size=ns.length from(fj ..).trans ln,aex]
 rw[e0] at hS
 exact⟨_,ns,H1,rfl,I1.kept kk,hS,h64,q⟩
end
def Sw:Value->Int
 |.int k _=>k
 |_=>0
theorem Yt:∀(us:List Value),(∀v,v∈us->∃k t,v=.int k t)->IntsAre us (us.map Sw)
 |[],_=>.nil
 |v::us,h=>by
  obtain⟨k,t,rfl⟩:=h v (cV ..)
  exact .cons k t (Yt us λx hx=>h x (dg _ hx))
section
variable{prog:bA}{w:bu}
theorem ahu(h:jJ (intKind prog w) es ks):(es.map (·.2)).map Sw=ks/\∀v,v∈es.map (·.2)->∃k t,v=.int k t:=by
 induction h with
 |nil=>exact⟨rfl,λv hv=>by cases hv⟩
 |@cons e k es ks a _ ih=>
  obtain⟨t,ht⟩:=adM (show Wq k e.2=aq from a.1)
  refine⟨by rw[cB,cB,ih.1,ht];rfl,λv hv=>?_⟩
  rcases bI.mp hv with rfl|hv
  .exact⟨k,t,ht⟩
  .exact ih.2 v hv
end
def alm(K:aF)(tl:TE):TE:=λσ H Q=>tl σ H λx H1=>∃(a:ao)(ns:List Int),[x]=[V.ref a]/\bG K H1 a (ns.map V.int)/\ns.length<64/\∀(D:ao)(ns':List Int),H1 D=aj->ns'.Perm (dedup ns)->ns'.Pairwise (·<=·)->Q (.ref D) (upd H1 D (.lst (ns'.map V.int)))
section
variable{X:Cx}{l:Expr}{tl:TE}{p1 p2 pos1 pos2:Pos}
theorem afk(hc:X.calm=aq)(hl:PE X l tl)(g1:Gl X "sorted")(m1:X.mg "sorted"=aj)(g2:Gl X "set")(m2:X.mg "set"=aj)
  (he:bD [.Call (.Name "set" p2) [l] [] pos2] X.env=(aB,eval (.Call (.Name "set" p2) [l] [] pos2) X.env)::bD [] X.env:=by rfl)(hpl:(gO pos1 (bD [] X.env)).any (·.1)=aB:=by rfl)
  (he2:bD [l] X.env=(aB,eval l X.env)::bD [] X.env:=by rfl)(Sx:(gO pos2 (bD [] X.env)).any (·.1)=aB:=by rfl):
  PE X (.Call (.Name "sorted" p1) [.Call (.Name "set" p2) [l] [] pos2] [] pos1) (alm X.K tl):=by
 intro pins s σ H Q I h;refine Gp (vL I g1 m1 (u:=.builtin "sorted") rfl ?_);refine acI ?_ he hpl;rw[he];show aH _ _ (spliced ((aB,eval (.Call (.Name "set" p2) [l] [] pos2) X.env)::gO pos1 (bD [] X.env))) _ _ s;refine LQ (bQ (aht (knd:=intKind X.prog X.w) V.int 0 (λk v r=>?_) hc hl g2 m2 I h he2 Sx) λv s1 ⟨S,ns,H1,e,I1,hS,h64,q⟩=>U9 ?_)
 .obtain⟨t,rfl⟩:=r
  exact⟨PySem.intKind_is _ _ _ _,rfl⟩
 subst e
 obtain⟨o,es,ep,t,ho,ex,hd,⟨ks',ek,pk⟩,hb,hf,tb⟩:=hS
 obtain⟨e1,e2⟩:=ahu ek
 have few:es.size<64:=by
  have:=Oh ns;rw[<-j8,ek.len,pk.length_eq];lia
 refine afP (Ok:=λout=>∃ns',IntsAre out ns'/\ns'.Perm (dedup ns)/\ns'.Pairwise (·<=·)) (I1.ok.hd hc) ⟨o,ho,ex,hd,hf,tb⟩ few (λus pm B s2 a n P E' ho' hp=>?_) λD h' d tk c out ok ge kk gD=>?_
 .refine list_sort_tree ho' (Yt us λv hv=>e2 v (pm.mem_iff.mp hv)) (by rw[pm.length_eq,bh,j8];exact few) λout ns' a1 a2 a3=>hp out ⟨ns',a1,a2.trans ?_,a3⟩
  exact(pm.map Sw).trans (by rw[e1];exact pk)
 .obtain⟨ns',a1,a2,a3⟩:=ok
  have hz:ns'.length<=bL:=by
   have:=Oh ns;rw[a2.length_eq,jo];lia
  exact⟨.ref D,_,(I1.laid (o:=.lst (ns'.map V.int)) (t':=tk) kk ge ⟨by rw[bh];exact hz,out.toList,c,HQ a1,by simpa[seqObj] using gD⟩).drew d,rfl,q D ns' (I1.hok.fresh ge) a2 a3⟩
end
section
variable{prog:bA}{w:bu}{A:bV}{E:Value->aA->Prop}{s:aA}{R:nP->aA->Prop}{I S:ao}{fp wr:List ao}{n:Nat}{Pv:Nat->Value->Prop}{St:Nat->aU->Prop}{bt:Nat->Nat->Bool}
def aln(v:Value)(c:Nat):Obj:={cls:=.type "list",dict:=aj,data:=.seq #[v,v] c,slots:=#[]}
end
section
variable{prog:bA}{w:bu}{A:bV}{E:Value->aA->Prop}{s:aA}
theorem ae6{id:String}{b:gY}{as:List Value}{kw:List (Str×Value)}{Q:Value->aA->Prop}(hk:builtinKind id=aj)(hp:plainId id=aq)(hb:Ij table id=aa b)(ha:Dy id ⟨as,kw⟩)
  (hc:aH (model prog w) A.in1 (b ⟨as,kw⟩) (λfin s'=>match fin with
   |.done f=>(match(Except.ok f:nP) with|.ok (.ret v)=>Q v s'|.ok _=>False|.error e=>E e s')
   |.again c'=>c'.quiet=aq/\j9 (model prog w) A c' (λr s'=>match r with|.ok (.ret v)=>Q v s'|.ok _=>False|.error e=>E e s') s') E s):aH (model prog w) A (call (.builtin id) as kw) Q E s:=by
 refine WQ (adp hp hb ?_);simp only[aef,hk];cases hg:Manifest.signature? id with
 |none=>exact aM hc
 |some sg=>
  simp only[Dy,hg] at ha;show aH _ A.in1 (aey id sg ⟨as,kw⟩) _ _ s;rw[show aey id sg ⟨as,kw⟩=pure () from ha];exact aM hc
end
section
variable{X:Cx}{l de:Expr}{tl td:TE}{p pos kp:Pos}
end
end L2
namespace L2
open PySem PySem.Spec PyProof.Rows PySem.W
def dD:au->Option Key
 |.int i=>aa (.inl i)
 |.str x=>aa (.inr x)
 |_=>aj
def keysOf:List au->Option (List Key)
 |[]=>aa []
 |d::r=>match dD d,keysOf r with
  |some k,some t=>aa (k::t)
  |_,_=>aj
def gB:au->Option (List Key)
 |.tuple ds=>keysOf ds
 |_=>aj
def cg{κ:Type}(f:au->Option κ):List (au×au)->Option (List κ)
 |[]=>aa []
 |p::r=>match f p.1,cg f r with
  |some k,some t=>aa (k::t)
  |_,_=>aj
def rH(H:Hp)(a:ao)(kvs:List (au×au))(vs:List V):Prop:=
 (∃ks,cg dD kvs=aa ks/\∃ep,H a=aa (.dK (ks.zip vs) ep))\/∃ks,(kvs≠[]/\cg gB kvs=aa ks)/\∃ep,H a=aa (.dT (ks.zip vs) ep)
theorem rdK{H:Hp}{a:ao}{kvs:List (Key×V)}(h:∃ep,H a=aa (.dK kvs ep)):yV H a kvs:=let ⟨ep,e⟩:=h;⟨ep,.inl e⟩
theorem rdT{H:Hp}{a:ao}{kvs:List (List Key×V)}(h:∃ep,H a=aa (.dT kvs ep)):yW H a kvs:=let ⟨ep,e⟩:=h;⟨ep,.inl e⟩
mutual
def RZ(H:Hp):au->V->Prop
 |.none,v=>v=.non
 |.bool b,v=>v=.bl b
 |.int i,v=>v=.int i
 |.str x,v=>v=.str x
 |.list ds,v=>∃a vs,v=.ref a/\H a=aa (.lst vs)/\bY H ds vs
 |.tuple ds,v=>∃a vs,v=.ref a/\H a=aa (.tup vs)/\bY H ds vs
 |.dict kvs,v=>∃a vs,v=.ref a/\rH H a kvs vs/\gG H kvs vs
def bY(H:Hp):List au->List V->Prop
 |[],vs=>vs=[]
 |d::ds,vs=>∃v r,vs=v::r/\RZ H d v/\bY H ds r
def gG(H:Hp):List (au×au)->List V->Prop
 |[],vs=>vs=[]
 |p::r,vs=>∃v t,vs=v::t/\RZp H p v/\gG H r t
def RZp(H:Hp):au×au->V->Prop
 |(_,d),v=>RZ H d v
end
theorem rH.same(s:bC H H')(h:rH H a kvs vs):rH H' a kvs vs:=by
 rcases h with⟨ks,e,ep,h⟩|⟨ks,e,ep,h⟩
 .exact .inl ⟨ks,e,ep,s _ _ h⟩
 .exact .inr ⟨ks,e,ep,s _ _ h⟩
mutual
theorem RZ.same(s:bC H H'):∀{d:au}{v:V},RZ H d v->RZ H' d v
 |.none,_,h=>h
 |.bool _,_,h=>h
 |.int _,_,h=>h
 |.str _,_,h=>h
 |.list ds,_,h=>by
  obtain⟨a,vs,e,q,r⟩:=h
  exact⟨a,vs,e,s _ _ q,bY.same s r⟩
 |.tuple ds,_,h=>by
  obtain⟨a,vs,e,q,r⟩:=h
  exact⟨a,vs,e,s _ _ q,bY.same s r⟩
 |.dict kvs,_,h=>by
  obtain⟨a,vs,e,q,r⟩:=h
  exact⟨a,vs,e,q.same s,gG.same s r⟩
theorem bY.same(s:bC H H'):∀{ds:List au}{vs:List V},bY H ds vs->bY H' ds vs
 |[],_,h=>h
 |d::ds,vs,h=>by
  obtain⟨v,r,e,q,t⟩:=h
  exact⟨v,r,e,RZ.same s q,bY.same s t⟩
theorem gG.same(s:bC H H'):∀{kvs:List (au×au)}{vs:List V},gG H kvs vs->gG H' kvs vs
 |[],_,h=>h
 |(k,d)::ds,vs,h=>by
  obtain⟨v,r,e,q,t⟩:=h
  exact⟨v,r,e,RZ.same s q,gG.same s t⟩
end
theorem iw:∀{ds:List au}{vs:List V},bY H ds vs->vs.length=ds.length
 |[],_,h=>by cases(show _=[] from h);rfl
 |e::ds,vs,h=>by
  obtain⟨u,r,e1,q,s⟩:=h
  subst e1;rw[cL,cL,iw s]
theorem Ac:∀{ds:List (au×au)}{vs:List V},gG H ds vs->vs.length=ds.length
 |[],_,h=>by cases(show _=[] from h);rfl
 |e::ds,vs,h=>by
  obtain⟨u,r,e1,q,s⟩:=h
  subst e1;rw[cL,cL,Ac s]
theorem sV:∀{ds:List au}{vs:List V}{i:Nat}{d:au},bY H ds vs->ds[i]?=aa d->∃v,vs[i]?=aa v/\RZ H d v
 |[],_,_,_,_,e=>by simp at e
 |x::ds,vs,i,d,h,e=>by
  obtain⟨u,r,e1,q,s⟩:=h
  subst e1;cases i with
  |zero=>cases e;exact⟨u,rfl,q⟩
  |succ i=>
   obtain⟨v,e2,h2⟩:=sV (i:=i) s (by simpa using e)
   exact⟨v,by simpa using e2,h2⟩
theorem Ad:∀{ds es:List au}{vs ws:List V},bY H ds vs->bY H es ws->bY H (ds++es) (vs++ws)
 |[],_,_,_,h,g=>by cases(show _=[] from h);exact g
 |d::ds,_,_,_,h,g=>by
  obtain⟨u,r,e1,q,s⟩:=h
  subst e1
  exact⟨u,_,rfl,q,Ad s g⟩
theorem Yu:∀{ds:List au}{vs:List V}(n:Nat),bY H ds vs->bY H (ds.take n) (vs.take n)
 |_,_,0,_=>by rw[aez,aez];rfl
 |[],_,n+1,h=>by cases(show _=[] from h);rfl
 |d::ds,_,n+1,h=>by
  obtain⟨u,r,e1,q,s⟩:=h
  subst e1
  exact⟨u,_,rfl,q,Yu n s⟩
theorem Yv:∀{ds:List au}{vs:List V}(n:Nat),bY H ds vs->bY H (ds.drop n) (vs.drop n)
 |_,_,0,h=>h
 |[],_,n+1,h=>by cases(show _=[] from h);rfl
 |d::ds,_,n+1,h=>by
  obtain⟨u,r,e1,q,s⟩:=h
  subst e1;exact Yv n s
theorem ZG(hv:RZ H d v):∀{ds:List au}{vs:List V}(i:Nat),bY H ds vs->bY H (ds.set i d) (vs.set i v)
 |[],_,_,h=>by cases(show _=[] from h);rfl
 |x::ds,_,i,h=>by
  obtain⟨u,r,e1,q,s⟩:=h
  subst e1;cases i with
  |zero=>exact⟨v,r,rfl,hv,s⟩
  |succ i=>exact⟨u,_,rfl,q,ZG hv i s⟩
def lB:au->Bool
 |.none=>aq
 |.bool _=>aq
 |.int _=>aq
 |.str _=>aq
 |_=>aB
def toV:au->V
 |.none=>.non
 |.bool b=>.bl b
 |.int i=>.int i
 |.str x=>.str x
 |_=>.non
theorem aiE(f:lB d=aq)(h:RZ H d v):v=toV d:=by
 cases d<;>first|exact h|cases f
theorem aiF(f:lB d=aq):RZ H d (toV d):=by
 cases d<;>first|rfl|cases f
theorem O7:∀{ds:List au}{vs:List V},ds.all lB=aq->bY H ds vs->vs=ds.map toV
 |[],_,_,h=>h
 |d::ds,vs,f,h=>by
  obtain⟨u,r,e1,q,s⟩:=h
  rw[MN,iT] at f;rw[e1,aiE f.1 q,O7 f.2 s];rfl
theorem Yw(ns:List Int):bY H (ns.map mV) (ns.map V.int):=by
 induction ns with
 |nil=>rfl
 |cons n r ih=>exact⟨_,_,rfl,rfl,ih⟩
theorem ahv(ns:List Str):bY H (ns.map jq) (ns.map V.str):=by
 induction ns with
 |nil=>rfl
 |cons n r ih=>exact⟨_,_,rfl,rfl,ih⟩
mutual
def jl:au->Bool
 |.list _=>aB
 |.tuple ds=>gP ds
 |.dict _=>aB
 |_=>aq
def gP:List au->Bool
 |[]=>aq
 |d::r=>jl d&&gP r
end
mutual
theorem RZ.jl(t:∀a vs,H a=aa (.tup vs)->H' a=aa (.tup vs)):∀{d:au}{v:V},jl d=aq->RZ H d v->RZ H' d v
 |.none,_,_,h=>h
 |.bool _,_,_,h=>h
 |.int _,_,_,h=>h
 |.str _,_,_,h=>h
 |.list ds,_,n,h=>nomatch n
 |.tuple ds,_,n,h=>by
  obtain⟨a,vs,e,q,r⟩:=h
  exact⟨a,vs,e,t _ _ q,bY.jl t n r⟩
 |.dict _,_,n,_=>nomatch n
theorem bY.jl(t:∀a vs,H a=aa (.tup vs)->H' a=aa (.tup vs)):∀{ds:List au}{vs:List V},gP ds=aq->bY H ds vs->bY H' ds vs
 |[],_,_,h=>h
 |d::ds,vs,n,h=>by
  obtain⟨v,r,e,q,w⟩:=h
  have n':L2.jl d=aq/\gP ds=aq:=by rw[gP,iT] at n;exact n
  exact⟨v,r,e,RZ.jl t n'.1 q,bY.jl t n'.2 w⟩
end
mutual
def kO:au->Bool
 |.list ds=>iQ ds
 |.tuple ds=>iQ ds
 |.dict _=>aB
 |_=>aq
def iQ:List au->Bool
 |[]=>aq
 |d::r=>kO d&&iQ r
end
mutual
theorem RZ.rx:∀{d:au}{v:V},kO d=aq->RZ H d v->RX H d v
 |.none,_,_,h=>h
 |.bool _,_,_,h=>h
 |.int _,_,_,h=>h
 |.str _,_,_,h=>h
 |.list ds,_,n,h=>by
  obtain⟨a,vs,e,q,r⟩:=h
  exact⟨a,vs,e,q,bY.rx n r⟩
 |.tuple ds,_,n,h=>by
  obtain⟨a,vs,e,q,r⟩:=h
  exact⟨a,vs,e,q,bY.rx n r⟩
 |.dict _,_,n,_=>nomatch n
theorem bY.rx:∀{ds:List au}{vs:List V},iQ ds=aq->bY H ds vs->lJ H ds vs
 |[],_,_,h=>h
 |d::ds,vs,n,h=>by
  obtain⟨v,r,e,q,t⟩:=h
  have n':kO d=aq/\iQ ds=aq:=by rw[iQ,iT] at n;exact n
  exact⟨v,r,e,RZ.rx n'.1 q,bY.rx n'.2 t⟩
end
inductive Vl where
 |im (d:au)
 |ow (d:au)
 |ce (n:Nat)
 |sc (ns:List Int)
 |tp (p:List au) (d:au) (q:List au)
abbrev En:=List (Option Vl)
abbrev Ce:=List (List Int)
def own1:Option Vl->Option V->List ao
 |some (.ow _),some (.ref a)=>[a]
 |_,_=>[]
def bJ:En->St->List ao
 |x::e,v::s=>own1 x v++bJ e s
 |_,_=>[]
theorem lX:∀{env:En}{σ:St},a∈bJ env σ↔∃(i:Nat)(d:au),env[i]?=aa (aa (Vl.ow d))/\σ[i]?=aa (aa (V.ref a))
 |[],σ=>by
  constructor
  .intro h;simp[bJ] at h
  .rintro⟨i,d,e,_⟩;simp at e
 |x::e,[]=>by
  constructor
  .intro h;simp[bJ] at h
  .rintro⟨i,d,_,e⟩;simp at e
 |x::e,v::s=>by
  rw[bJ,cF,lX (env:=e) (σ:=s)];constructor
  .rintro(h|⟨i,d,h1,h2⟩)
   .unfold own1 at h;split at h
    .rw[fQ] at h;subst h
     exact⟨0,_,rfl,rfl⟩
    .simp at h
   .exact⟨i+1,d,by simpa using h1,by simpa using h2⟩
  .rintro⟨i,d,h1,h2⟩
   cases i with
   |zero=>
    simp at h1 h2;subst h1 h2;exact .inl (fQ.mpr rfl)
   |succ i=>exact .inr ⟨i,d,by simpa using h1,by simpa using h2⟩
theorem Dj:∀{env:En}{σ:St}{i j:Nat}{d e:au},(bJ env σ).Nodup->env[i]?=aa (aa (Vl.ow d))->σ[i]?=aa (aa (V.ref a))->env[j]?=aa (aa (Vl.ow e))->σ[j]?=aa (aa (V.ref a))->i=j
 |[],_,i,_,_,_,_,h,_,_,_=>by simp at h
 |_::_,[],i,_,_,_,_,_,h,_,_=>by simp at h
 |x::en,v::s,i,j,d,e,nd,h1,h2,h3,h4=>by
  rw[bJ,jZ] at nd;cases i with
  |zero=>
   cases j with
   |zero=>rfl
   |succ j=>
    simp at h1 h2;subst h1 h2;have:a∈bJ en s:=lX.mpr ⟨j,e,by simpa using h3,by simpa using h4⟩;exact absurd rfl (nd.2.2 a (fQ.mpr rfl) a this)
  |succ i=>
   cases j with
   |zero=>
    simp at h3 h4;subst h3 h4;have:a∈bJ en s:=lX.mpr ⟨i,d,by simpa using h1,by simpa using h2⟩;exact absurd rfl (nd.2.2 a (fQ.mpr rfl) a this)
   |succ j=>rw[Dj (i:=i) (j:=j) nd.2.1 (by simpa using h1) (by simpa using h2) (by simpa using h3) (by simpa using h4)]
def Tz(x y:Option Vl):Prop:=y=x\/∃d,x=aa (.ow d)/\y=aa (.im d)
def Fz:En->En->Prop
 |[],[]=>True
 |x::r,y::t=>Tz x y/\Fz r t
 |_,_=>False
theorem Fz.refl:∀e:En,Fz e e
 |[]=>trivial
 |x::r=>⟨.inl rfl,Fz.refl r⟩
theorem Fz.trans:∀{a b c:En},Fz a b->Fz b c->Fz a c
 |[],[],[],_,_=>trivial
 |x::r,y::t,z::w,h,g=>by
  refine⟨?_,Fz.trans h.2 g.2⟩
  rcases h.1 with e|⟨d,e1,e2⟩
  .rw[<-e];exact g.1
  .rcases g.1 with e|⟨d',e3,e4⟩
   .exact .inr ⟨d,e1,e.trans e2⟩
   .rw[e2] at e3;cases e3
 |[],[],_::_,_,g=>nomatch g
 |[],_::_,_,h,_=>nomatch h
 |_::_,[],_,h,_=>nomatch h
 |_::_,_::_,[],_,g=>nomatch g
theorem Fz.len:∀{a b:En},Fz a b->b.length=a.length
 |[],[],_=>rfl
 |_::_,_::_,h=>by rw[cL,cL,Fz.len h.2]
 |[],_::_,h=>nomatch h
 |_::_,[],h=>nomatch h
theorem Fz.at:∀{a b:En}{i:Nat}{y:Vl},Fz a b->b[i]?=aa (aa y)->a[i]?=aa (aa y)\/∃d,a[i]?=aa (aa (.ow d))/\y=.im d
 |[],[],i,y,_,e=>by simp at e
 |x::r,z::t,0,y,h,e=>by
  simp at e;rcases h.1 with q|⟨d,q1,q2⟩
  .left;rw[<-q,e];rfl
  .right;rw[e] at q2;cases q2;exact⟨d,by rw[q1];rfl,rfl⟩
 |x::r,z::t,i+1,y,h,e=>by
  simpa using Fz.at (i:=i) h.2 (by simpa using e)
 |[],_::_,_,_,h,_=>nomatch h
 |_::_,[],_,_,h,_=>nomatch h
theorem aiG(h:Tz x y)(v:Option V):Wk (own1 y v) (own1 x v):=by
 rcases h with e|⟨d,e1,e2⟩
 .rw[e];exact zm _
 .rw[e2];exact List.nil_sublist _
theorem Fz.own:∀{a b:En}{σ:St},Fz a b->Wk (bJ b σ) (bJ a σ)
 |[],[],σ,_=>by cases σ<;>exact zm _
 |x::r,y::t,[],h=>zm _
 |x::r,y::t,v::s,h=>by
  rw[bJ,bJ];exact Gn (aiG h.1 v) (Fz.own h.2)
 |[],_::_,_,h=>nomatch h
 |_::_,[],_,h=>nomatch h
abbrev aX(Z Θ:List ao)(env:En)(σ:St):List ao:=Z++(Θ++bJ env σ)
def jx(E H:Hp)(a:ao):au->Prop
 |.list ds=>∃vs,H a=aa (.lst vs)/\bY E ds vs
 |.dict kvs=>∃vs,rH H a kvs vs/\gG E kvs vs
 |_=>False
theorem jx.same(s:bC E E')(h:∀o,H a=aa o->H' a=aa o)(r:jx E H a d):jx E' H' a d:=by
 cases d<;>first|exact r.elim|skip
 .obtain⟨vs,e,q⟩:=r
  exact⟨vs,h _ e,q.same s⟩
 .obtain⟨vs,e,q⟩:=r
  refine⟨vs,?_,q.same s⟩
  rcases e with⟨ks,k,ep,e⟩|⟨ks,k,ep,e⟩
  .exact .inl ⟨ks,k,ep,h _ e⟩
  .exact .inr ⟨ks,k,ep,h _ e⟩
theorem jx.rz(h:∀o,H a=aa o->E a=aa o)(r:jx E H a d):RZ E d (.ref a):=by
 cases d<;>first|exact r.elim|skip
 .obtain⟨vs,e,q⟩:=r
  exact⟨a,vs,rfl,h _ e,q⟩
 .obtain⟨vs,e,q⟩:=r
  refine⟨a,vs,rfl,?_,q⟩
  rcases e with⟨ks,k,ep,e⟩|⟨ks,k,ep,e⟩
  .exact .inl ⟨ks,k,ep,h _ e⟩
  .exact .inr ⟨ks,k,ep,h _ e⟩
structure aV(Θ:List ao)(H H':Hp):Prop where
 keep:∀a o,H a=aa o->a∉Θ->H' a=aa o
 dom:∀a,H a≠aj->H' a≠aj
theorem aV.refl(Θ:List ao)(H:Hp):aV Θ H H:=⟨λ_ _ e _=>e,λ_ e=>e⟩
theorem aV.trans(a:aV Θ H H1)(b:aV Θ H1 H2):aV Θ H H2:=⟨λc o e n=>b.keep _ _ (a.keep _ _ e n) n,λc e=>b.dom _ (a.dom _ e)⟩
theorem aV.none(k:aV Θ H H')(h:H' a=aj):H a=aj:=by
 cases e:H a with
 |none=>rfl
 |some o=>exact absurd h (k.dom a (by rw[e];exact vd _))
theorem aV.of(s:bC H H'):aV Θ H H':=⟨λa o e _=>s _ _ e,λa h=>by
 cases e:H a with
 |none=>exact absurd e h
 |some o=>rw[s _ _ e];exact vd _⟩
theorem aV.upd(h:H p=mR):aV Θ H (L2.upd H p o):=aV.of (bC.upd h)
theorem j6(k:aV Θ H H')(ht:∀a∈Θ,a∈Z)(hz:∀a,a∈Z'->a∈Z\/H a=aj):bC (er Z H) (er Z' H'):=λb o h=>by
 unfold er at h⊢;split at h
 .cases h
 .rename_i n;rw[bw,k.keep _ _ h (λm=>n (ht b m))];intro m;rcases hz b m with q|q
  .exact n q
  .rw[q] at h;cases h
def Bh(K:aF)(E H:Hp)(Θ:List ao):Vl->V->Prop
 |.im d,v=>RZ E d v
 |.ow d,v=>∃a,v=.ref a/\jx E H a d
 |.ce n,v=>∃a,v=.ref a/\Θ[n]?=aa a
 |.sc ns,v=>∃a,v=.ref a/\bG K E a (ns.map V.int)
 |.tp _ _ _,_=>False
def NT(o:Option HO):Prop:=∃u,o=aa u/\∀vs,u≠.tup vs
theorem NT.ne(h:NT o):o≠aj:=by
 obtain⟨u,rfl,_⟩:=h
 exact vd _
theorem jx.nt(r:jx E H a d):NT (H a):=by
 cases d<;>first|exact r.elim|skip
 .obtain⟨vs,e,q⟩:=r
  exact⟨_,e,λ_ z=>nomatch z⟩
 .obtain⟨vs,e,q⟩:=r
  rcases e with⟨ks,k,ep,e⟩|⟨ks,k,ep,e⟩
  .exact⟨_,e,λ_ z=>nomatch z⟩
  .exact⟨_,e,λ_ z=>nomatch z⟩
theorem jx.there(r:jx E H a d):H a≠aj:=r.nt.ne
structure oY(Θ:List ao)(C:Ce)(H:Hp):Prop where
 len:C.length=Θ.length
 at_:∀(n:Nat)(a:ao)(ns:List Int),Θ[n]?=aa a->C[n]?=aa ns->H a=aa (.lst (ns.map V.int))
structure Sm(K:aF)(Z Θ:List ao)(env:En)(C:Ce)(σ:St)(H:Hp):Prop where
 len:σ.length=env.length
 nd:(aX Z Θ env σ).Nodup
 dom:∀a∈Z,NT (H a)
 slot:∀(i:Nat)(x:Vl),env[i]?=aa (aa x)->∃v,σ[i]?=aa (aa v)/\Bh K (er (aX Z Θ env σ) H) H Θ x v
 cell:oY Θ C H
theorem oY.dom(c:oY Θ C H):∀a∈Θ,NT (H a):=λa m=>by
 obtain⟨n,hn,e⟩:=t8 m
 have e1:Θ[n]?=aa a:=by rw[gJ hn,e]
 have h2:n<C.length:=by rw[c.len];exact hn
 exact⟨_,c.at_ n a C[n] e1 (gJ h2),λ_ z=>nomatch z⟩
section
variable{K:aF}{Z Θ:List ao}{env env':En}{C C':Ce}{σ:St}{H H':Hp}
theorem Sm.K1(S:Sm K Z Θ env C σ H):∀a∈aX Z Θ env σ,NT (H a):=λa m=>by
 rcases cF.mp m with m|m
 .exact S.dom a m
 .rcases cF.mp m with m|m
  .exact S.cell.dom a m
  .obtain⟨i,d,e1,e2⟩:=lX.mp m
   obtain⟨v,e3,b,e4,r⟩:=S.slot i _ e1
   rw[e2] at e3;cases e3;cases e4;exact r.nt
theorem Sm.yK(S:Sm K Z Θ env C σ H):∀a∈aX Z Θ env σ,H a≠aj:=λa m=>(S.K1 a m).ne
theorem Sm.qC(S:Sm K Z Θ env C σ H):∀a∈Θ,a∈aX Z Θ env σ:=λa m=>eF _ (gK _ m)
theorem Bh.same(s:bC E E')(h:∀d a,x=.ow d->v=.ref a->∀o,H a=aa o->H' a=aa o)(r:Bh K E H Θ x v):Bh K E' H' Θ x v:=by
 cases x with
 |im d=>exact RZ.same s r
 |ow d=>obtain⟨a,e,q⟩:=r;exact⟨a,e,q.same s (h d a rfl e)⟩
 |ce n=>exact r
 |sc ns=>obtain⟨a,e,q⟩:=r;exact⟨a,e,s.seq q⟩
 |tp=>exact r
theorem Sm.mX(S:Sm K Z Θ env C σ H)(m:a∈bJ env σ):a∉Z/\a∉Θ:=by
 have h:=S.nd;rw[jZ] at h
 obtain⟨_,h2,h3⟩:=h
 rw[jZ] at h2
 refine⟨λz=>h3 a z a (eF _ m) rfl,λz=>h2.2.2 a z a m rfl⟩
theorem Sm.go(S:Sm K Z Θ env C σ H)(k:aV Θ H H')(c:oY Θ C' H'):Sm K Z Θ env C' σ H' where
 len:=S.len
 nd:=S.nd
 dom:=λa m=>by
  obtain⟨u,e,n⟩:=S.dom a m
  have h:=S.nd;rw[jZ] at h
  exact⟨u,k.keep _ _ e λz=>h.2.2 a m a (gK _ z) rfl,n⟩
 slot:=λi x e=>by
  obtain⟨v,e1,r⟩:=S.slot i x e
  refine⟨v,e1,r.same (j6 k S.qC λa m=>.inl m) λd a ex ev o ho=>k.keep _ _ ho ?_⟩
  subst ex ev
  exact(S.mX (lX.mpr ⟨i,d,e,e1⟩)).2
 cell:=c
theorem Sm.fz(S:Sm K Z Θ env C σ H)(f:Fz env env'):Sm K Z Θ env' C σ H:=by
 have sub:Wk (aX Z Θ env' σ) (aX Z Θ env σ):=Gn (zm _) (Gn (zm _) f.own);have sm:bC (er (aX Z Θ env σ) H) (er (aX Z Θ env' σ) H):=j6 (aV.refl [] H) (λ_ m=>nomatch m) λa m=>.inl (sub.subset m)
 refine⟨by rw[f.len];exact S.len,sub.nodup S.nd,S.dom,λi x e0=>?_,S.cell⟩
 rcases f.at e0 with e|⟨d,e,ex⟩
 .obtain⟨v,e1,r⟩:=S.slot i x e
  exact⟨v,e1,r.same sm λ_ _ _ _ _ ho=>ho⟩
 .subst ex
  obtain⟨v,e1,a,ev,r⟩:=S.slot i _ e
  subst ev
  refine⟨_,e1,jx.rz (H:=H) (λo ho=>?_) (r.same sm λ_ ho=>ho)⟩
  unfold er;rw[bw]
  .exact ho
  .intro m;have hm:a∈bJ env σ:=lX.mpr ⟨i,d,e,e1⟩;rcases cF.mp m with m|m
   .exact(S.mX hm).1 m
   .rcases cF.mp m with m|m
    .exact(S.mX hm).2 m
    .obtain⟨j,d',e3,e4⟩:=lX.mp m
     have nd:=S.nd;rw[jZ] at nd;have nd2:=nd.2.1;rw[jZ] at nd2;rcases f.at e3 with e5|⟨_,_,e5⟩
     .have:=Dj nd2.2.1 e e1 e5 e4;subst this;rw[e0] at e3;cases e3
     .cases e5
end
section
variable{K:aF}{Z Θ:List ao}{env env':En}{C C':Ce}{σ:St}{H H':Hp}{a p:ao}
theorem Sm.pop(S:Sm K (a::Z) Θ env C σ H):Sm K Z Θ env C σ H:=by
 have sm:bC (er (aX (a::Z) Θ env σ) H) (er (aX Z Θ env σ) H):=j6 (aV.refl [] H) (λ_ m=>nomatch m) λb m=>.inl (dg _ m)
 exact⟨S.len,(j0.mp S.nd).2,λb m=>S.dom b (dg _ m),λi x e=>let ⟨v,e1,r⟩:=S.slot i x e;⟨v,e1,r.same sm λ_ _ _ _ _ h=>h⟩,S.cell⟩
theorem Sm.push(S:Sm K Z Θ env C σ H)(hp:H p=aj)(o:HO)(ho:∀vs,o≠.tup vs):Sm K (p::Z) Θ env C σ (upd H p o):=by
 have k:aV Θ H (upd H p o):=aV.upd hp;have sm:bC (er (aX Z Θ env σ) H) (er (aX (p::Z) Θ env σ) (upd H p o)):=j6 k S.qC λb m=>by
  rcases bI.mp m with rfl|m
  .exact .inr hp
  .exact .inl m
 have c:oY Θ C (upd H p o):=⟨S.cell.len,λn b ns e1 e2=>by
  have:=S.cell.at_ n b ns e1 e2;rw[cI (oO this hp)];exact this⟩
 refine⟨S.len,j0.mpr ⟨λm=>S.yK p m hp,S.nd⟩,λb m=>?_,λi x e=>?_,c⟩
 .rcases bI.mp m with rfl|m
  .exact⟨o,eN,ho⟩
  .obtain⟨u,e,n⟩:=S.dom b m
   exact⟨u,by rw[cI (oO e hp)];exact e,n⟩
 .obtain⟨v,e1,r⟩:=S.slot i x e
  refine⟨v,e1,r.same sm λd b ex ev o' ho=>?_⟩
  rw[cI (oO ho hp)];exact ho
theorem Sm.yx(S:Sm K Z Θ env C σ H)(s:bC H H'):Sm K Z Θ env C σ H':=
 S.go (aV.of s) ⟨S.cell.len,λn b ns e1 e2=>s _ _ (S.cell.at_ n b ns e1 e2)⟩
def Res(K:aF)(Z Θ:List ao)(env:En)(C:Ce)(σ:St)(H H':Hp):Vl->V->Prop
 |.im d,v=>Sm K Z Θ env C σ H'/\RZ (er (aX Z Θ env σ) H') d v
 |.ow d,v=>∃a,v=.ref a/\H a=aj/\Sm K (a::Z) Θ env C σ H'/\jx (er (aX (a::Z) Θ env σ) H') H' a d
 |.ce n,v=>Sm K Z Θ env C σ H'/\∃a,v=.ref a/\Θ[n]?=aa a
 |.sc ns,v=>Sm K Z Θ env C σ H'/\∃a,v=.ref a/\bG K (er (aX Z Θ env σ) H') a (ns.map V.int)
 |.tp _ _ _,_=>False
def yX(E T:Hp):au->V->Prop
 |.list ds,v=>∃a vs,v=.ref a/\T a=aa (.lst vs)/\bY E ds vs
 |.dict kvs,v=>∃a vs,v=.ref a/\rH T a kvs vs/\gG E kvs vs
 |d,v=>RZ E d v
theorem yX.same(s:bC E E')(t:bC T T')(h:yX E T d v):yX E' T' d v:=by
 cases d<;>first|exact RZ.same s h|skip
 .obtain⟨a,vs,e,q,r⟩:=h
  exact⟨a,vs,e,t _ _ q,r.same s⟩
 .obtain⟨a,vs,e,q,r⟩:=h
  exact⟨a,vs,e,q.same t,r.same s⟩
theorem RZ.bor(t:bC E T)(h:RZ E d v):yX E T d v:=by
 cases d<;>first|exact h|skip
 .obtain⟨a,vs,e,q,r⟩:=h
  exact⟨a,vs,e,t _ _ q,r⟩
 .obtain⟨a,vs,e,q,r⟩:=h
  exact⟨a,vs,e,q.same t,r⟩
abbrev eU(Z Θ:List ao)(env:En)(σ:St)(H:Hp)(d:au)(v:V):Prop:=yX (er (aX Z Θ env σ) H) (er Θ H) d v
theorem sW(h:∀a,a∈Z'->a∈Z):bC (er Z H) (er Z' H):=j6 (aV.refl [] H) (λ_ m=>nomatch m) λb m=>.inl (h b m)
theorem aa7:bC (er (aX Z Θ env σ) H) (er Θ H):=sW λa m=>eF _ (gK _ m)
theorem Fz.sub(f:Fz env env'):∀a,a∈aX Z Θ env' σ->a∈aX Z Θ env σ:=λa m=>
 (Gn (zm _) (Gn (zm _) f.own)).subset m
theorem RJ(S:Sm K Z Θ env C σ H)(k:aV Θ H H')(f:Fz env env'):bC (er (aX Z Θ env σ) H) (er (aX Z Θ env' σ) H'):=j6 k S.qC λa m=>.inl (f.sub a m)
theorem aaA(k:aV Θ H H'):bC (er Θ H) (er Θ H'):=j6 k (λ_ m=>m) λa m=>.inl m
theorem eU.go(h:eU Z Θ env σ H d v)(S:Sm K Z Θ env C σ H)(k:aV Θ H H')(f:Fz env env'):eU Z Θ env' σ H' d v:=yX.same (RJ S k f) (aaA k) h
def dat:Vl->Option au
 |.im d=>aa d
 |.ow d=>aa d
 |.ce _=>aj
 |.sc _=>aj
 |.tp _ _ _=>aj
theorem Res.sm(h:Res K Z Θ env C σ H H' r v):Sm K Z Θ env C σ H':=by
 cases r with
 |im d=>exact h.1
 |ow d=>obtain⟨a,_,_,S,_⟩:=h;exact S.pop
 |ce n=>exact h.1
 |sc ns=>exact h.1
 |tp=>exact h.elim
theorem Res.bor(h:Res K Z Θ env C σ H H' r v)(e:dat r=aa d):eU Z Θ env σ H' d v:=by
 cases r with
 |im d'=>cases e;exact RZ.bor aa7 h.2
 |ow d'=>
  cases e
  obtain⟨a,rfl,_,S,r⟩:=h
  have na:a∉Θ:=λm=>(j0.mp S.nd).1 (eF _ (gK _ m))
  have sm:bC (er (aX (a::Z) Θ env σ) H') (er (aX Z Θ env σ) H'):=sW λb m=>dg _ m
  have ha:∀o,H' a=aa o->er Θ H' a=aa o:=λo ho=>by unfold er;rw[bw na];exact ho
  cases d<;>first|exact r.elim|skip
  .obtain⟨vs,e,q⟩:=r
   exact⟨a,vs,rfl,ha _ e,q.same sm⟩
  .obtain⟨vs,e,q⟩:=r
   refine⟨a,vs,rfl,?_,q.same sm⟩
   rcases e with⟨ks,k,ep,e⟩|⟨ks,k,ep,e⟩
   .exact .inl ⟨ks,k,ep,ha _ e⟩
   .exact .inr ⟨ks,k,ep,ha _ e⟩
 |ce n=>cases e
 |sc ns=>cases e
 |tp=>cases e
def still:Vl->Vl
 |.ow d=>.im d
 |r=>r
theorem Res.still(h:Res K Z Θ env C σ H H' r v):Res K Z Θ env C σ H H' (still r) v:=by
 cases r with
 |ow d=>
  obtain⟨a,rfl,hn,S,r⟩:=h
  refine⟨S.pop,jx.rz (H:=H') (λo ho=>?_) (r.same (sW λb m=>dg _ m) λ_ h=>h)⟩
  unfold er;rw[bw (show ¬a∈aX Z Θ env σ from(j0.mp S.nd).1)];exact ho
 |im d=>exact h
 |ce n=>exact h
 |sc ns=>exact h
 |tp=>exact h
theorem Res.from(h:Res K Z Θ env C σ H H' r v)(k:aV Θ H0 H):Res K Z Θ env C σ H0 H' r v:=by
 cases r with
 |ow d=>
  obtain⟨a,e,hn,S,r⟩:=h
  exact⟨a,e,k.none hn,S,r⟩
 |im d=>exact h
 |ce n=>exact h
 |sc ns=>exact h
 |tp=>exact h
theorem Dz(S:Sm K Z Θ env C σ H)(h:H a=aa (.tup vs)):er (aX Z Θ env σ) H a=aa (.tup vs):=by
 unfold er;rw[bw]
 .exact h
 .intro m
  obtain⟨u,e,n⟩:=S.K1 a m
  rw[h] at e;exact n vs (fU e).symm
def rst(r:Vl)(env env':En):En:=match r with
 |.im d=>if jl d then env else env'
 |_=>env'
theorem Res.rst(S:Sm K Z Θ env C σ H)(k:aV Θ H H')(h:Res K Z Θ env' C' σ H H' r v):Res K Z Θ (rst r env env') C' σ H H' r v:=by
 cases r with
 |im d=>
  by_cases f:L2.jl d=aq
  .have:L2.rst (.im d) env env'=env:=aY f;rw[this];have S':=S.go k h.1.cell
   exact⟨S',h.2.jl (λa vs e=>Dz S' (fJ e)) f⟩
  .have:L2.rst (.im d) env env'=env':=bw f;rw[this];exact h
 |ow d=>exact h
 |ce n=>exact h
 |sc ns=>exact h
 |tp=>exact h
theorem Fz.rst(r:Vl)(f:Fz env env'):Fz env (rst r env env'):=by
 cases r with
 |im d=>
  show Fz env (if L2.jl d then env else env');split
  .exact Fz.refl _
  .exact f
 |ow d=>exact f
 |ce n=>exact f
 |sc ns=>exact f
 |tp=>exact f
theorem iu(S:Sm K Z Θ env C σ H)(f:lB d=aq)(hv:v=toV d):Res K Z Θ env C σ H H (.im d) v:=⟨S,by rw[hv];exact aiF f⟩
theorem sE(S:Sm K Z Θ env C σ H)(r:bY (er (aX Z Θ env σ) H) ds vs)(hp:H p=aj):Res K Z Θ env C σ H (upd H p (.lst vs)) (.ow (.list ds)) (.ref p):=by
 refine⟨p,rfl,hp,S.push hp _ (λ_ z=>nomatch z),vs,eN,r.same (j6 (aV.upd (Θ:=Θ) hp) S.qC λb m=>?_)⟩
 rcases bI.mp m with rfl|m
 .exact .inr hp
 .exact .inl m
theorem Ql(S:Sm K Z Θ env C σ H)(ho:∀vs,o≠.tup vs)(d:rH (upd H p o) p kvs vs)(r:gG (er (aX Z Θ env σ) H) kvs vs)(hp:H p=aj):Res K Z Θ env C σ H (upd H p o) (.ow (.dict kvs)) (.ref p):=by
 refine⟨p,rfl,hp,S.push hp _ ho,vs,d,r.same (j6 (aV.upd (Θ:=Θ) hp) S.qC λb m=>?_)⟩
 rcases bI.mp m with rfl|m
 .exact .inr hp
 .exact .inl m
theorem Ae(S:Sm K Z Θ env C σ H)(r:bY (er (aX Z Θ env σ) H) ds vs)(hp:H p=aj):Res K Z Θ env C σ H (upd H p (.tup vs)) (.im (.tuple ds)) (.ref p):=by
 have S':=S.yx (bC.upd (o:=.tup vs) hp)
 refine⟨S',p,vs,rfl,?_,r.same (j6 (aV.upd (Θ:=Θ) hp) S.qC λb m=>.inl m)⟩
 unfold er;rw[bw (λm=>S.yK p m hp),eN]
end
theorem hide{P:Prop}(h:∀G:Prop,(P->G)->G):P:=h P id
inductive abF{α β:Type}(o:Option α)(g:α->Option β)(y:β):Prop
 |mk (x:α) (h1:o=aa x) (h2:g x=aa y):abF o g y
theorem jg(h:o.bind g=aa y):abF o g y:=by
 cases o with
 |none=>cases h
 |some x=>exact⟨x,rfl,h⟩
def tU:Vl->Option au
 |.im y=>aa y
 |_=>aj
theorem DG(h:tU x=aa y):x=.im y:=by
 cases x<;>cases h;rfl
def aml:au->Option Str
 |.str z=>aa z
 |_=>aj
def intD:au->Option Int
 |.int k=>aa k
 |_=>aj
theorem Qm(h:intD d=aa k):d=.int k:=by
 cases d<;>cases h;rfl
abbrev FE:=En->Ce->Option (Vl×En×Ce)
abbrev FB:=En->Ce->Option (au×En×Ce)
abbrev FT:=En->Ce->Option (Bool×Ce)
abbrev wK:=En->Ce->Option (List au×En×Ce)
abbrev FA:=En->Ce->Option (List Vl×En×Ce)
inductive tE(K:aF)(f:FE)(σ:St)(H:Hp)(Q:VK):Prop
 |mk (Z Θ:List ao) (env:En) (C:Ce) (r:Vl) (env':En) (C':Ce) (S:Sm K Z Θ env C σ H) (hf:f env C=aa (r,env',C')) (q:∀v H',aV Θ H H'->Fz env env'->Res K Z Θ env' C' σ H H' r v->Q v H'):tE K f σ H Q
inductive gn(K:aF)(f:FB)(σ:St)(H:Hp)(Q:VK):Prop
 |mk (Z Θ:List ao) (env:En) (C:Ce) (d:au) (env':En) (C':Ce) (S:Sm K Z Θ env C σ H) (hf:f env C=aa (d,env',C')) (q:∀v H',aV Θ H H'->Fz env env'->Sm K Z Θ env' C' σ H'->eU Z Θ env' σ H' d v->Q v H'):gn K f σ H Q
inductive fH(K:aF)(f:FT)(σ:St)(H:Hp)(Q:Bool->Hp->Prop):Prop
 |mk (Z Θ:List ao) (env:En) (C:Ce) (b:Bool) (C':Ce) (S:Sm K Z Θ env C σ H) (hf:f env C=aa (b,C')) (q:∀H',aV Θ H H'->Sm K Z Θ env C' σ H'->Q b H'):fH K f σ H Q
inductive yL(E T:Hp):List au->List V->Prop
 |nil:yL E T [] []
 |cons {d:au} {v:V} {ds:List au} {vs:List V}:yX E T d v->yL E T ds vs->yL E T (d::ds) (v::vs)
abbrev J1(Z Θ:List ao)(env:En)(σ:St)(H:Hp)(ds:List au)(vs:List V):Prop:=yL (er (aX Z Θ env σ) H) (er Θ H) ds vs
inductive wL(K:aF)(f:wK)(σ:St)(H:Hp)(Q:List V->Hp->Prop):Prop
 |mk (Z Θ:List ao) (env:En) (C:Ce) (ds:List au) (env':En) (C':Ce) (S:Sm K Z Θ env C σ H) (hf:f env C=aa (ds,env',C')) (q:∀vs H',aV Θ H H'->Fz env env'->Sm K Z Θ env' C' σ H'->J1 Z Θ env' σ H' ds vs->Q vs H'):wL K f σ H Q
theorem PE.weak(h:PE X e t)(w:∀σ H Q,t' σ H Q->t σ H Q):PE X e t':=λpins s σ H Q I q=>h pins s σ H Q I (w σ H Q q)
theorem PT.weak(h:PT X e t)(w:∀σ H Q,t' σ H Q->t σ H Q):PT X e t':=λpins s σ H Q I q=>h pins s σ H Q I (w σ H Q q)
theorem PA.weak(h:PA X e t)(w:∀σ H Q,t' σ H Q->t σ H Q):PA X e t':=λp pins s σ H Q I q=>h p pins s σ H Q I (w σ H Q q)
theorem PS.weak(h:PS X e t)(w:∀D σ H,t' D σ H->t D σ H):PS X e t':=λpins s σ H D I q=>h pins s σ H D I (w D σ H q)
theorem iR.weak(h:iR X e t)(w:∀D σ H,t' D σ H->t D σ H):iR X e t':=λpins s σ H D I q=>h pins s σ H D I (w D σ H q)
theorem PW.weak(h:PW X e t)(w:∀σ H Q,t' σ H Q->t σ H Q):PW X e t':=λwh pins s σ H Q I q=>h wh pins s σ H Q I (w σ H Q q)
def aZ(i:Nat):FE:=λenv C=>match env[i]? with
 |some (some (.im d))=>aa (.im d,env,C)
 |some (some (.ow d))=>aa (.im d,env.set i (aa (.im d)),C)
 |some (some (.ce n))=>aa (.ce n,env,C)
 |some (some (.sc ns))=>aa (.sc ns,env,C)
 |_=>aj
def aO(i:Nat):FB:=λenv C=>match env[i]? with
 |some (some x)=>(dat x).map λd=>(d,env,C)
 |_=>aj
def aL(d:au):FE:=λenv C=>aa (.im d,env,C)
def aC(f:FE):FB:=λenv C=>match f env C with
 |some (r,e',C')=>(dat r).map λd=>(d,e',C')
 |none=>aj
theorem aaB:∀{env:En}{i:Nat}{d:au},env[i]?=aa (aa (.ow d))->Fz env (env.set i (aa (.im d)))
 |[],i,d,e=>by simp at e
 |x::r,0,d,e=>by simp at e;subst e;exact⟨.inr ⟨d,rfl,rfl⟩,Fz.refl r⟩
 |x::r,i+1,d,e=>⟨.inl rfl,aaB (by simpa using e)⟩
section
variable{X:Cx}{e:Expr}{i:Nat}
theorem bz(h:PE X e (tK i)):PE X e (tE X.K (aZ i)):=h.weak λσ H Q aK=>by
 obtain⟨Z,Θ,env,C,r,env',C',S,hf,q⟩:=aK
 unfold aZ at hf;split at hf;all_goals first|(rename_i d hd;cases hf)|cases hf
 .obtain⟨v,e1,r⟩:=S.slot i _ hd
  exact⟨v,e1,q v H (aV.refl _ _) (Fz.refl _) ⟨S,r⟩⟩
 .have f:=aaB hd
  obtain⟨v,e1,r⟩:=S.slot i _ hd
  have S':=S.fz f
  refine⟨v,e1,q v H (aV.refl _ _) f ⟨S',?_⟩⟩
  have hi:i<env.length:=by
   have:=f9.mp hd;exact this.1
  obtain⟨v',e2,r'⟩:=S'.slot i (.im d) (by rw[BZ,aY rfl,aY hi])
  rw[e1] at e2;cases e2;exact r'
 .obtain⟨v,e1,r⟩:=S.slot i _ hd
  exact⟨v,e1,q v H (aV.refl _ _) (Fz.refl _) ⟨S,r⟩⟩
 .obtain⟨v,e1,r⟩:=S.slot i _ hd
  exact⟨v,e1,q v H (aV.refl _ _) (Fz.refl _) ⟨S,r⟩⟩
theorem aQ(h:PE X e (tK i)):PE X e (gn X.K (aO i)):=h.weak λσ H Q aK=>by
 obtain⟨Z,Θ,env,C,d,env',C',S,hf,q⟩:=aK
 unfold aO at hf;split at hf
 .rename_i x hx
  obtain⟨v,e1,r⟩:=S.slot i _ hx
  have ex:dat x=aa d/\env=env'/\C=C':=by
   cases hd:dat x with
   |none=>rw[hd] at hf;cases hf
   |some d'=>rw[hd] at hf;cases hf;exact⟨rfl,rfl,rfl⟩
  obtain⟨ex,rfl,rfl⟩:=ex
  refine⟨v,e1,q v H (aV.refl _ _) (Fz.refl _) S ?_⟩
  cases x with
  |im d'=>cases ex;exact RZ.bor aa7 r
  |ow d'=>
   cases ex
   obtain⟨a,rfl,r⟩:=r
   have na:=(S.mX (lX.mpr ⟨i,_,hx,e1⟩)).2;have ha:∀o,H a=aa o->er Θ H a=aa o:=λo ho=>by unfold er;rw[bw na];exact ho
   cases d<;>first|exact r.elim|skip
   .obtain⟨vs,e,q⟩:=r
    exact⟨a,vs,rfl,ha _ e,q⟩
   .obtain⟨vs,e,q⟩:=r
    refine⟨a,vs,rfl,?_,q⟩
    rcases e with⟨ks,k,ep,e⟩|⟨ks,k,ep,e⟩
    .exact .inl ⟨ks,k,ep,ha _ e⟩
    .exact .inr ⟨ks,k,ep,ha _ e⟩
  |ce n=>cases ex
  |sc ns=>cases ex
  |tp=>cases ex
 .cases hf
theorem aN(h:PE X e (tC v))(f:lB d=aq:=by rfl)(hv:v=toV d:=by rfl):PE X e (tE X.K (aL d)):=h.weak λσ H Q aK=>by
 obtain⟨Z,Θ,env,C,r,env',C',S,hf,q⟩:=aK
 cases hf;exact q v H (aV.refl _ _) (Fz.refl _) (iu S f hv)
theorem aD(h:PE X e (tE X.K f)):PE X e (gn X.K (aC f)):=h.weak λσ H Q aK=>by
 obtain⟨Z,Θ,env,C,d,env',C',S,hf,q⟩:=aK
 unfold aC at hf;split at hf
 .rename_i r e' C1 hr;cases hd:dat r with
  |none=>rw[hd] at hf;cases hf
  |some d'=>
   rw[hd] at hf;cases hf
   exact⟨Z,Θ,env,C,r,env',C',S,hr,λv H' k f R=>q v H' k f R.sm (R.bor hd)⟩
 .cases hf
end
def eZ:Nat:=1000000
theorem qg(h:n<=eZ):n<=bL:=by rw[jo];unfold eZ at h;lia
def gf(K:aF)(r:R2)(op:au->au->Option Vl):Prop:=
 ∀(Z Θ:List ao)(env:En)(C:Ce)(σ:St)(H:Hp)(x y:V)(dx dy:au)(res:Vl),Sm K Z Θ env C σ H->eU Z Θ env σ H dx x->eU Z Θ env σ H dy y->op dx dy=aa res->
  ∀Q:VK,(∀v H',aV Θ H H'->Res K Z Θ env C σ H H' res v->Q v H')->r x y H Q
def aP(op:au->au->Option Vl)(fa fb:FB):FE:=λenv C=>match fa env C with
 |some (x,e1,C1)=>match fb e1 C1 with
  |some (y,e2,C2)=>match op x y with
   |some r=>aa (r,rst r env e2,C2)
   |none=>aj
  |none=>aj
 |none=>aj
theorem Ik{K:aF}{r:R2}{op:au->au->Option Vl}(L:gf K r op){fa fb:FB}:∀σ H Q,tE K (aP op fa fb) σ H Q->Fo r (gn K fa) (gn K fb) σ H Q:=by
 rintro σ H Q ⟨Z,Θ,env,C,res,env',C',S,hf,q⟩;unfold aP at hf;split at hf
 .rename_i x e1 C1 h1;split at hf
  .rename_i y e2 C2 h2;split at hf
   .rename_i r0 h3;cases hf
    refine⟨Z,Θ,env,C,x,e1,C1,S,h1,λv H1 k1 f1 S1 b1=>⟨Z,Θ,e1,C1,y,e2,C',S1,h2,λu H2 k2 f2 S2 b2=>?_⟩⟩
    refine L Z Θ e2 C' σ H2 v u x y res S2 (b1.go S1 k2 f2) b2 h3 Q λz H3 k3 R=>?_
    have k:=(k1.trans k2).trans k3;exact q z H3 k ((f1.trans f2).rst res) ((R.from (k1.trans k2)).rst S k)
   .cases hf
  .cases hf
 .cases hf
section
variable{X:Cx}{a b:Expr}{fa fb:FB}{pos:Pos}{r:R2}{op:au->au->Option Vl}
theorem cD(ho:cY X (lW o) r)(L:gf X.K r op)(ha:PE X a (gn X.K fa))(hb:PE X b (gn X.K fb)):PE X (.BinOp a o b pos) (tE X.K (aP op fa fb)):=(ak8 ho ha hb).weak (Ik L)
theorem Ak(ho:cY X (gb o) r)(L:gf X.K r op)(ha:PE X a (gn X.K fa))(hb:PE X b (gn X.K fb))(hm:Cu o b=aB):PE X (.Compare a [o] [b] pos) (tE X.K (aP op fa fb)):=(aif ho ha hb hm).weak (Ik L)
theorem cO(ho:qz X r)(L:gf X.K r op)(ha:PE X a (gn X.K fa))(hb:PE X b (gn X.K fb))(hs:Jc b):PE X (.Subscript a b pos) (tE X.K (aP op fa fb)):=(RC ho ha hb hs).weak (Ik L)
end
theorem gf.or{K:aF}{r r':R2}{op op':au->au->Option Vl}(h:gf K r op)(h':gf K r' op'):gf K (λx y H Q=>r x y H Q\/r' x y H Q) (λx y=>match op x y with|some z=>aa z|none=>op' x y):=by
 intro Z Θ env C σ H x y dx dy res S bx dw e Q q;cases h1:op dx dy with
 |some z=>
  simp only[h1] at e;cases e;exact .inl (h Z Θ env C σ H x y dx dy _ S bx dw h1 Q q)
 |none=>
  simp only[h1] at e;exact .inr (h' Z Θ env C σ H x y dx dy res S bx dw e Q q)
section
variable{K:aF}{Z Θ:List ao}{env:En}{C:Ce}{σ:St}{H:Hp}{x:V}
theorem eU.int(h:eU Z Θ env σ H (.int i) x):x=.int i:=h
theorem eU.str(h:eU Z Θ env σ H (.str i) x):x=.str i:=h
theorem eU.tup(h:eU Z Θ env σ H (.tuple ds) x):∃a vs,x=.ref a/\H a=aa (.tup vs)/\bY (er (aX Z Θ env σ) H) ds vs:=by
 obtain⟨a,vs,e,q,r⟩:=h
 exact⟨a,vs,e,fJ q,r⟩
theorem eU.lst(h:eU Z Θ env σ H (.list ds) x):∃a vs,x=.ref a/\H a=aa (.lst vs)/\bY (er (aX Z Θ env σ) H) ds vs:=by
 obtain⟨a,vs,e,q,r⟩:=h
 exact⟨a,vs,e,fJ q,r⟩
theorem eU.dct(h:eU Z Θ env σ H (.dict kvs) x):∃a vs,x=.ref a/\rH H a kvs vs/\gG (er (aX Z Θ env σ) H) kvs vs:=by
 obtain⟨a,vs,e,q,r⟩:=h
 exact⟨a,vs,e,q.same (Ay _ _),r⟩
theorem eU.flat(f:lB d=aq)(h:eU Z Θ env σ H d x):x=toV d:=by
 cases d<;>first|exact h|cases f
theorem eU.rx(n:kO d=aq)(h:eU Z Θ env σ H d x):RX H d x:=by
 cases d<;>first|exact h|skip
 .obtain⟨a,vs,e,q,r⟩:=h
  exact⟨a,vs,e,fJ q,(r.same (Ay _ _)).rx n⟩
 .obtain⟨a,vs,e,q,r⟩:=h
  exact⟨a,vs,e,fJ q,(r.same (Ay _ _)).rx n⟩
 .cases n
end
section
variable{X:Cx}
def dj:au->au->Option Vl
 |.int i,.int j=>aa (.im (.int (i+j)))
 |.str x,.str y=>if x.length+y.length<=eZ then aa (.im (.str (x++y))) else aj
 |.list xs,.list ys=>if xs.length+ys.length<=eZ then aa (.ow (.list (xs++ys))) else aj
 |.tuple xs,.tuple ys=>if xs.isEmpty then aa (.im (.tuple ys)) else if xs.length+ys.length<=eZ then aa (.im (.tuple (xs++ys))) else aj
 |_,_=>aj
def aa8(K:aF):R2:=λx y H Q=>∃a b ys,x=.ref a/\y=.ref b/\bW K H a []/\bW K H b ys/\Q (.ref b) H
theorem aiH:cY X (lW .Add) (aa8 X.K):=by
 intro pins s σ H x y v u Q I rx ry h
 obtain⟨a,b,ys,rfl,rfl,ha,hb,q⟩:=h
 cases rx;cases ry
 obtain⟨its,r1,p1,_⟩:=I.tuple ha
 obtain⟨its2,r2,p2,_⟩:=I.tuple hb
 obtain⟨⟨cls,dd,data,sl⟩,ho,hc,n,hd⟩:=id p1
 obtain⟨⟨cls2,dd2,data2,sl2⟩,ho2,hc2,n2,hd2⟩:=id p2
 simp only at hc hd hc2 hd2;subst hc hd hc2 hd2;exact Wd ⟨_,ho,rfl⟩ ⟨_,ho2,rfl⟩ Vo V4 Uu Ut (Um _ _)
  (tuple_addW0 a b its.toArray its2.toArray n n2 dd dd2 sl sl2 (by cases r1;rfl)) ⟨ho,ho2,⟨.ref b,H,I,rfl,q⟩⟩
def aa9(K:aF):R2:=λx y H Q=>(((pN λi j=>.int (i+j)) x y H Q\/∃i j,x=.str i/\y=.str j/\i.length+j.length<=bL/\Q (.str (i++j)) H)\/abz x y H Q)\/aa8 K x y H Q\/aa0 K x y H Q
theorem gw:cY X (lW .Add) (aa9 X.K):=((aj3.or afw).or akg).or (aiH.or ain)
theorem gA{K:aF}:gf K (aa9 K) dj:=by
 intro Z Θ env C σ H x y dx dy res S bx dw e Q q;unfold dj at e;split at e
 .cases e;cases bx.int;cases dw.int;exact .inl (.inl (.inl ⟨_,_,rfl,rfl,q _ _ (aV.refl _ _) (iu S rfl rfl)⟩))
 .split at e
  .rename_i hl;cases e;cases bx.str;cases dw.str;exact .inl (.inl (.inr ⟨_,_,rfl,rfl,qg hl,q _ _ (aV.refl _ _) (iu S rfl rfl)⟩))
  .cases e
 .split at e
  .rename_i hl;cases e
   obtain⟨a,vs,rfl,ha,r1⟩:=bx.lst
   obtain⟨b,ws,rfl,hb,r2⟩:=dw.lst
   exact .inl (.inr ⟨a,b,vs,ws,rfl,rfl,ha,hb,by rw[iw r1,iw r2];exact qg hl,λp hp=>q _ _ (aV.upd hp) (sE S (Ad r1 r2) hp)⟩)
  .cases e
 .split at e
  .rename_i xs ys he;cases e;have:xs=[]:=List.isEmpty_iff.mp he;subst this;have by2:=dw
   obtain⟨a,vs,rfl,ha,r1⟩:=bx.tup
   obtain⟨b,ws,rfl,hb,r2⟩:=dw.tup
   cases(show vs=[] from r1)
   exact .inr (.inl ⟨a,b,ws,rfl,rfl,bW.of ha,bW.of hb,q _ _ (aV.refl _ _) ⟨S,by2⟩⟩)
  split at e
  .rename_i xs ys he hl;cases e
   obtain⟨a,vs,rfl,ha,r1⟩:=bx.tup
   obtain⟨b,ws,rfl,hb,r2⟩:=dw.tup
   have l1:=iw r1;have l2:=iw r2;have hv:vs≠[]:=λz=>by
    subst z;cases xs with
    |nil=>exact he rfl
    |cons _ _=>cases l1
   refine .inr (.inr ⟨a,b,vs,ws,rfl,rfl,bW.of ha,bW.of hb,hv,by rw[l1,l2];exact qg hl,λz=>?_,λ_ p hp=>q _ _ (aV.upd hp) (Ae S (Ad r1 r2) hp)⟩);subst z;have:ys=[]:=List.eq_nil_of_length_eq_zero l2.symm;subst this;rw[pU] at q;refine q _ _ (aV.refl _ _) ⟨S,?_⟩;exact bx
  .cases e
 .cases e
def yz:au->au->Option Vl
 |.int i,.int j=>aa (.im (.int (i-j)))
 |_,_=>aj
theorem Qn{K:aF}{g:Int->Int->V}{op:au->au->Option Vl}(h:∀dx dy res,op dx dy=aa res->∃i j d,dx=.int i/\dy=.int j/\res=.im d/\lB d=aq/\g i j=toV d):gf K (pN g) op:=by
 intro Z Θ env C σ H x y dx dy res S bx dw e Q q
 obtain⟨i,j,d,rfl,rfl,rfl,f,hv⟩:=h _ _ _ e
 cases bx.int;cases dw.int
 exact⟨_,_,rfl,rfl,q _ _ (aV.refl _ _) (iu S f hv)⟩
theorem Jz{K:aF}{Cn:Int->Int->Prop}{g:Int->Int->V}{op:au->au->Option Vl}(h:∀dx dy res,op dx dy=aa res->∃i j d,dx=.int i/\dy=.int j/\res=.im d/\lB d=aq/\g i j=toV d/\Cn i j):gf K (rI Cn g) op:=by
 intro Z Θ env C σ H x y dx dy res S bx dw e Q q
 obtain⟨i,j,d,rfl,rfl,rfl,f,hv,c⟩:=h _ _ _ e
 cases bx.int;cases dw.int
 exact⟨_,_,rfl,rfl,c,q _ _ (aV.refl _ _) (iu S f hv)⟩
theorem JB{K:aF}:gf K (pN λi j=>.int (i-j)) yz:=Qn λdx dy res e=>by
 unfold yz at e;split at e<;>cases e
 exact⟨_,_,_,rfl,rfl,rfl,rfl,rfl⟩
def qu:au->au->Option Vl
 |.int i,.int j=>if 0<j then aa (.im (.int (i%j))) else aj
 |_,_=>aj
theorem ye{K:aF}:gf K (rI (λ_ j=>0<j) λi j=>.int (i%j)) qu:=Jz λdx dy res e=>by
 unfold qu at e;split at e
 .split at e
  .rename_i h;cases e;exact⟨_,_,_,rfl,rfl,rfl,rfl,rfl,h⟩
  .cases e
 .cases e
def Al:au->au->Option Vl
 |.int i,.int j=>if 0<j/\j<1073741824 then aa (.im (.int (i / j))) else aj
 |_,_=>aj
theorem ZJ{K:aF}:gf K (rI abu λi j=>.int (i / j)) Al:=Jz λdx dy res e=>by
 unfold Al at e;split at e
 .split at e
  .rename_i h;cases e;exact⟨_,_,_,rfl,rfl,rfl,rfl,rfl,h⟩
  .cases e
 .cases e
def nR:au->au->Option Vl
 |.int i,.int j=>if 0<=j/\j<=1000000/\i.natAbs<2^64 then aa (.im (.int (i^j.toNat))) else aj
 |_,_=>aj
theorem DK{K:aF}:gf K (rI abv λi j=>.int (i^j.toNat)) nR:=Jz λdx dy res e=>by
 unfold nR at e;split at e
 .split at e
  .rename_i h;cases e;exact⟨_,_,_,rfl,rfl,rfl,rfl,rfl,h⟩
  .cases e
 .cases e
def pA:au->au->Option Vl
 |.int i,.int j=>if(-(2^64)<i/\i<2^64)\/(-(2^64)<j/\j<2^64) then aa (.im (.int (i*j))) else aj
 |_,_=>aj
theorem yf{K:aF}:gf K (rI Ko λi j=>.int (i*j)) pA:=Jz λdx dy res e=>by
 unfold pA at e;split at e
 .split at e
  .rename_i h;cases e;exact⟨_,_,_,rfl,rfl,rfl,rfl,rfl,h⟩
  .cases e
 .cases e
end
section
variable{X:Cx}
def uT:au->au->Option Bool
 |.int i,.int j=>aa (i==j)
 |.str x,.str y=>aa (x==y)
 |.bool a,.bool b=>aa (a==b)
 |d,e=>if kO d&&kO e&&(jN d&&jN e) then aa (CJ d e) else aj
def lG(d e:au):Option Vl:=(uT d e).map λb=>.im (.bool b)
def kj(d e:au):Option Vl:=(uT d e).map λb=>.im (.bool (!b))
theorem afQ(hu:X.A.units+64<dB):cY X (gb .Eq) (λx y H Q=>∃d e,RX H d x/\RX H e y/\jN d=aq/\jN e=aq/\Q (.bl (CJ d e)) H):=by
 intro pins s σ H x y v u Q I rx ry h
 obtain⟨d,e,hd,he,h1,h2,q⟩:=h
 obtain⟨as,ra⟩:=RD.reads I (hd.rd (K:=X.K)) rx
 obtain⟨bs,rb⟩:=RD.reads I (he.rd (K:=X.K)) ry
 exact PySem.SeqAt.compareEq_shaped ra rb h1 h2 hu ⟨.bl _,H,I,rfl,q⟩
def abG:R2:=λx y H Q=>rEq x y H Q\/∃d e,RX H d x/\RX H e y/\jN d=aq/\jN e=aq/\Q (.bl (CJ d e)) H
def abH:R2:=λx y H Q=>rNe x y H Q\/∃d e,RX H d x/\RX H e y/\jN d=aq/\jN e=aq/\Q (.bl (!PyData.eqv d e)) H
theorem sX(hu:X.A.units+64<dB):cY X (gb .Eq) abG:=ak9.or (afQ hu)
theorem Am(hu:X.A.units+64<dB):cY X (gb .NotEq) abH:=ala.or (afJ hu)
theorem Xr(h:uT d e=aa b):(lB d=aq/\lB e=aq/\Sh (toV d) (toV e)=aq/\b=decide (toV d=toV e))\/(kO d=aq/\kO e=aq/\jN d=aq/\jN e=aq/\b=CJ d e):=by
 unfold uT at h;split at h
 .cases h;exact .inl ⟨rfl,rfl,rfl,Qe.symm⟩
 .cases h;exact .inl ⟨rfl,rfl,rfl,Qf.symm⟩
 .cases h;exact .inl ⟨rfl,rfl,rfl,QL.symm⟩
 .split at h
  .rename_i q;cases h;rw[iT,iT,iT] at q;exact .inr ⟨q.1.1,q.1.2,q.2.1,q.2.2,rfl⟩
  .cases h
theorem tG{K:aF}:gf K abG lG:=by
 intro Z Θ env C σ H x y dx dy res S bx dw e Q q;unfold lG at e;cases h:uT dx dy with
 |none=>rw[h] at e;cases e
 |some b=>
  rw[h] at e;cases e;have fin:=q (.bl b) H (aV.refl _ _) (iu S rfl rfl);rcases Xr h with⟨f1,f2,sc,eb⟩|⟨n1,n2,s1,s2,eb⟩
  .rw[bx.flat f1,dw.flat f2];rw[eb] at fin;exact .inl ⟨sc,fin⟩
  .rw[eb] at fin;exact .inr ⟨dx,dy,bx.rx n1,dw.rx n2,s1,s2,fin⟩
theorem Az{K:aF}:gf K abH kj:=by
 intro Z Θ env C σ H x y dx dy res S bx dw e Q q;unfold kj at e;cases h:uT dx dy with
 |none=>rw[h] at e;cases e
 |some b=>
  rw[h] at e;cases e;have fin:=q (.bl (!b)) H (aV.refl _ _) (iu S rfl rfl);rcases Xr h with⟨f1,f2,sc,eb⟩|⟨n1,n2,s1,s2,eb⟩
  .rw[bx.flat f1,dw.flat f2];rw[eb] at fin;exact .inl ⟨sc,fin⟩
  .rw[eb] at fin;exact .inr ⟨dx,dy,bx.rx n1,dw.rx n2,s1,s2,fin⟩
def strLt(x y:Str):Bool:=decide (x.cps.toList<y.cps.toList)
def aba(xs ys:List au):Option Bool:=match keysOf xs,keysOf ys with
 |some ks,some js=>if ks.map cA=js.map cA then aa (jH ks js) else aj
 |_,_=>aj
def Et:au->au->Option Vl
 |.int i,.int j=>aa (.im (.bool (decide (i<j))))
 |.str x,.str y=>aa (.im (.bool (strLt x y)))
 |.tuple xs,.tuple ys=>(aba xs ys).map λb=>.im (.bool b)
 |_,_=>aj
theorem xP:∀{ds:List au}{ks:List Key}{vs:List V},keysOf ds=aa ks->bY E ds vs->vs=ks.map kV
 |[],ks,vs,h,r=>by cases h;exact r
 |d::ds,ks,vs,h,r=>by
  unfold keysOf at h;split at h
  .rename_i k t h1 h2;cases h
   obtain⟨u,w,e1,q,s⟩:=r
   rw[e1,xP h2 s];have:u=kV k:=by
    cases d<;>first|(cases h1;exact q)|cases h1
   rw[this];rfl
  .cases h
def amm:R2:=λx y H Q=>(∃a b,x=kV a/\y=kV b/\cA a=cA b/\Q (.bl (kLt a b)) H)\/∃a b ks js,x=.ref a/\y=.ref b/\H a=aa (.tup (ks.map kV))/\H b=aa (.tup (js.map kV))/\ks.map cA=js.map cA/\Q (.bl (jH ks js)) H
theorem alo{K:aF}:gf K amm Et:=by
 intro Z Θ env C σ H x y dx dy res S bx dw e Q q;unfold Et at e;split at e
 .cases e;cases bx.int;cases dw.int;exact .inl ⟨.inl _,.inl _,rfl,rfl,rfl,q _ _ (aV.refl _ _) (iu S rfl rfl)⟩
 .cases e;cases bx.str;cases dw.str;exact .inl ⟨.inr _,.inr _,rfl,rfl,rfl,q _ _ (aV.refl _ _) (iu S rfl rfl)⟩
 .rename_i xs ys;unfold aba at e;split at e
  .rename_i ks js h1 h2;split at e
   .rename_i ht;cases e
    obtain⟨a,vs,rfl,ha,r1⟩:=bx.tup
    obtain⟨b,ws,rfl,hb,r2⟩:=dw.tup
    rw[xP h1 r1] at ha;rw[xP h2 r2] at hb;exact .inr ⟨a,b,ks,js,rfl,rfl,ha,hb,ht,q _ _ (aV.refl _ _) (iu S rfl rfl)⟩
   .cases e
  .cases e
 .cases e
def Eu:au->au->Option Vl
 |.int i,.int j=>aa (.im (.bool (decide (i<=j))))
 |.str x,.str y=>aa (.im (.bool (!strLt y x)))
 |_,_=>aj
def abI:R2:=λx y H Q=>(pN λi j=>.bl (decide (i<=j))) x y H Q\/∃i j,x=.str i/\y=.str j/\Q (.bl (!(decide (j.cps.toList<i.cps.toList)))) H
theorem aaC:cY X (gb .LtE) abI:=alb.or agr
theorem abb{K:aF}:gf K abI Eu:=by
 intro Z Θ env C σ H x y dx dy res S bx dw e Q q;unfold Eu at e;split at e
 .cases e;cases bx.int;cases dw.int;exact .inl ⟨_,_,rfl,rfl,q _ _ (aV.refl _ _) (iu S rfl rfl)⟩
 .cases e;cases bx.str;cases dw.str;exact .inr ⟨_,_,rfl,rfl,q _ _ (aV.refl _ _) (iu S rfl rfl)⟩
 .cases e
def Ew:au->au->Option Vl
 |.int i,.int j=>aa (.im (.bool (decide (j<i))))
 |_,_=>aj
def Kq:au->au->Option Vl
 |.int i,.int j=>aa (.im (.bool (decide (j<=i))))
 |_,_=>aj
theorem abd{K:aF}:gf K (pN λi j=>.bl (decide (j<i))) Ew:=Qn λdx dy res e=>by
 unfold Ew at e;split at e<;>cases e
 exact⟨_,_,_,rfl,rfl,rfl,rfl,rfl⟩
theorem alp{K:aF}:gf K (pN λi j=>.bl (decide (j<=i))) Kq:=Qn λdx dy res e=>by
 unfold Kq at e;split at e<;>cases e
 exact⟨_,_,_,rfl,rfl,rfl,rfl,rfl⟩
def isNone:au->Bool
 |.none=>aq
 |_=>aB
def nU(d e:au):Option Vl:=if isNone e then aa (.im (.bool (isNone d))) else aj
theorem Yx(h:eU Z Θ env σ H d x):decide (x=V.non)=isNone d:=by
 cases d<;>first
  |(cases(show x=_ from h);rfl)
  |(obtain⟨a,vs,e,_⟩:=h;subst e;rfl)
theorem JC{K:aF}:gf K (λx y H Q=>y=.non/\Q (.bl (decide (x=.non))) H) nU:=by
 intro Z Θ env C σ H x y dx dy res S bx dw e Q q;unfold nU at e;split at e
 .rename_i hn;cases e;have hy:y=.non:=of_decide_eq_true ((Yx dw).trans hn)
  exact⟨hy,by rw[Yx bx];exact q _ _ (aV.refl _ _) (iu S rfl rfl)⟩
 .cases e
end
section
variable{X:Cx}{pins:List (ao×Obj)}{σ:St}{H:Hp}{s:aA}{a b:ao}
theorem Inv.FQ(I:Inv X pins σ H s)(h:H a=aa (.dK [] uU)):Inv X pins σ (upd H a (.dT [] uU)) s:=by
 obtain⟨z,hm,vs,r,o,es,h1,h2,h3,h4,h5,h6⟩:=I.hok a _ h
 cases r;have e0:es.toList=[]:=by
  cases hh:es.toList with
  |nil=>rfl
  |cons x xs=>rw[hh] at h5;cases h5
 have:=Dh (t':=s.toks) (ob:=.dT [] uU) I (by rw[h];trivial) (Vh a s.heap) ⟨_,h1⟩ ⟨iI _,hm,[],.nil,o,es,h1,h2,h3,e0,mQ⟩;exact this
theorem Inv.K3(I:Inv X pins σ (upd H a (.dT [] uU)) s)(h:H a=aa (.dK [] uU)):Inv X pins σ H s:=by
 obtain⟨z,hm,xs,r,o,es,h1,h2,h3,h4,h5⟩:=I.hok a _ eN
 cases r;have e0:es=#[]:=by
  cases es;simp at h4;rw[h4]
 subst e0;have:=Dh (t':=s.toks) (ob:=.dK [] uU) I (by rw[eN];trivial) (Vh a s.heap) ⟨_,h1⟩ (Jx (iI _) hm .nil ⟨o,#[],h1,h2,h3,λi hi=>absurd hi (by simp),.nil,mQ⟩);rw[Zd] at this;have e:upd H a (.dK [] uU)=H:=by
  funext b;by_cases hb:b=a
  .subst hb;rw[eN,h]
  .exact cI hb
 rw[e] at this;exact this
end
def nZ(H:Hp)(a:ao)(y:V)(r:Option V):Prop:=lE H a y r\/((∃ep,H a=aa (.dK [] ep))/\(∃(b:ao)(ks:List Key),y=.ref b/\H b=aa (.tup (ks.map kV)))/\r=aj)
section
variable{X:Cx}{pins:List (ao×Obj)}{σ:St}{H:Hp}{s:aA}{a:ao}{y v:V}{u r:Value}{o:Option V}{A:bV}{E:Value->aA->Prop}
theorem nZ.re(ha:H a=aa (.dK [] uU)){b:ao}{ks:List Key}(hb:H b=aa (.tup (ks.map kV))):lE (upd H a (.dT [] uU)) a (.ref b) aj:=by
 have:(upd H a (.dT [] uU)) b=aa (.tup (ks.map kV)):=by rw[cI (Rx hb ha (λz=>nomatch z))];exact hb
 exact lE.t (kvs:=[]) (k:=ks) eN this
theorem alq(hu:A.units+1<dB)(I:Inv X pins σ H s)(g:nZ H a y o)(ry:RelV y u)(h:∀s',Inv X pins σ H s'->Q (.bool o.isSome) s'):aH (model X.prog X.w) A (gb .In u (.ref a)) Q E s:=by
 rcases g with g|⟨⟨ep,ha⟩,⟨b,ks,rfl,hb⟩,rfl⟩
 .exact abA hu I g ry h
 .exact abA hu (I.FQ ha) (nZ.re ha hb) ry λs' I'=>h s' (I'.K3 ha)
theorem ahw(hu:A.units+1<dB)(I:Inv X pins σ H s)(g:nZ H a y o)(ry:RelV y u)(h:∀s',Inv X pins σ H s'->Q (.bool (!o.isSome)) s'):aH (model X.prog X.w) A (gb .NotIn u (.ref a)) Q E s:=by
 rcases g with g|⟨⟨ep,ha⟩,⟨b,ks,rfl,hb⟩,rfl⟩
 .exact Zm hu I g ry h
 .exact Zm hu (I.FQ ha) (nZ.re ha hb) ry λs' I'=>h s' (I'.K3 ha)
theorem aku(hu:X.A.units+1<dB):cY X (gb .In) (λy x H Q=>∃a o,x=.ref a/\nZ H a y o/\Q (.bl o.isSome) H):=by
 intro pins s σ H x y v u Q I rx ry h
 obtain⟨a,o,rfl,g,q⟩:=h
 cases ry;exact alq hu I g rx λs' I'=>⟨.bl _,H,I',rfl,q⟩
theorem agD(hu:X.A.units+1<dB):cY X (gb .NotIn) (λy x H Q=>∃a o,x=.ref a/\nZ H a y o/\Q (.bl (!o.isSome)) H):=by
 intro pins s σ H x y v u Q I rx ry h
 obtain⟨a,o,rfl,g,q⟩:=h
 cases ry;exact ahw hu I g rx λs' I'=>⟨.bl _,H,I',rfl,q⟩
theorem aiI(hu:X.A.units+1<dB):qz X (λx y H Q=>∃a v,x=.ref a/\lE H a y (aa v)/\Q v H):=by
 intro value slice pins s σ H x y v u Q I rx ry h hs
 obtain⟨a,z,rfl,g,q⟩:=h
 cases rx;have hT:=afd I g;have h2:aH (model X.prog X.w) X.A (vH (.ref a) u) (EP X pins σ Q) X.xe s:=agl hu I g ry λw' s' I' r'=>⟨z,H,I',r',q⟩
 unfold subscriptTail;refine az ?_;rw[getitemInPython_of_ne hT.not_modules];refine az (wpAny_specialOf hT PySem.F.slot_dict_getitem.lookup ?_);have fin:aH (model X.prog X.w) X.A (Wu slice aB (.ref a) u) (λr s₃=>aH (model X.prog X.w) X.A (letTemporaryGo value (.ref a) r >>= λ_=>pure r) (EP X pins σ Q) X.xe s₃) X.xe s:=by
  rw[hs];exact wpAny_operating (pZ h2 (λr s₃ h₃=>az (wpAny_letTemporaryGo (aM h₃))) λ_ _ x=>x)
 first
  |exact aM (az fin)
  |exact az (aM (az fin))
  |exact az fin
end
def mZ{κ:Type}[DecidableEq κ](f:au->Option κ)(k:κ):List (au×au)->Option au
 |[]=>aj
 |p::r=>if f p.1=aa k then aa p.2 else mZ f k r
def nW(kvs:List (au×au))(d:au):Option (Option au):=match dD d with
 |some k=>if(cg dD kvs).isSome then aa (mZ dD k kvs) else aj
 |none=>match gB d with
  |some ks=>if(cg gB kvs).isSome then aa (mZ gB ks kvs) else aj
  |none=>aj
theorem O8[DecidableEq κ]:∀{kvs:List (au×au)}{ks:List κ}{vs:List V},cg f kvs=aa ks->gG E kvs vs->
  (∃d v,mZ f k kvs=aa d/\mD (ks.zip vs) k=aa v/\RZ E d v)\/(mZ f k kvs=aj/\mD (ks.zip vs) k=aj)
 |[],ks,vs,h,r=>by
  cases h
  cases(show vs=[] from r)
  exact .inr ⟨rfl,rfl⟩
 |(p,d)::kvs,ks,vs,h,r=>by
  unfold cg at h;split at h
  .rename_i k' t h1 h2;cases h
   obtain⟨v,w,rfl,q,s⟩:=r
   by_cases e:k'=k
   .subst e;refine .inl ⟨d,v,?_,?_,q⟩
    .unfold mZ;rw[aY h1]
    .exact Ie (p:=(k',v)) rfl
   .have e1:mZ f k ((p,d)::kvs)=mZ f k kvs:=by
     show(if f p=aa k then aa d else mZ f k kvs)=_
     rw[bw];intro z;rw[h1] at z;exact e (fU z)
    have e2:mD ((k'::t).zip (v::w)) k=mD (t.zip w) k:=Ig (p:=(k',v)) e;rw[e1,e2];exact O8 h2 s
  .cases h
theorem rZ:∀{kvs:List (au×au)}{ks:List κ},cg f kvs=aa ks->ks.length=kvs.length
 |[],ks,h=>by cases h;rfl
 |p::kvs,ks,h=>by
  unfold cg at h;split at h
  .rename_i k' t h1 h2;cases h;rw[cL,cL,rZ h2]
  .cases h
theorem akv(h:dD d=aa k)(r:RZ E d v):v=kV k:=by
 cases d<;>first|(cases h;exact r)|cases h
theorem akx(h:dD d=aa k)(g:gB d=aa ks):False:=by
 cases d<;>first|(cases h;done)|(cases g;done)
section
variable{K:aF}{Z Θ:List ao}{env:En}{C:Ce}{σ:St}{H:Hp}{x y:V}
theorem xR(h:cg dD kvs=aa ks)(g:cg gB kvs=aa js):kvs=[]:=by
 cases kvs with
 |nil=>rfl
 |cons p r=>
  unfold cg at h g;split at h
  .rename_i h1 h2;split at g
   .rename_i h3 h4
    exact(akx h1 h3).elim
   .cases g
  .cases h
theorem eU.get(h:eU Z Θ env σ H (.dict kvs) x)(hy:eU Z Θ env σ H d y)(e:nW kvs d=aa o):
  ∃a r,x=.ref a/\nZ H a y r/\((∃v,r=aa v/\∃d',o=aa d'/\RZ (er (aX Z Θ env σ) H) d' v/\lE H a y (aa v))\/(r=aj/\o=aj)):=by
 obtain⟨a,vs,rfl,dt,rd⟩:=h.dct
 unfold nW at e;split at e
 .rename_i k hk;split at e
  .rename_i hs;cases e;have yk:y=kV k:=by
    cases d<;>first|(cases hk;exact hy)|cases hk
   have dk:∃ks,cg dD kvs=aa ks/\∃ep,H a=aa (.dK (ks.zip vs) ep):=by
    rcases dt with h|⟨ks,⟨ne,h2⟩,_⟩
    .exact h
    .obtain⟨ks',h1⟩:=wW.mp hs
     exact absurd (xR h1 h2) ne
   obtain⟨ks,h1,ep,ha⟩:=dk
   have g:=lE.k (k:=k) ha;rw[<-yk] at g;rcases O8 (k:=k) h1 rd with⟨d',v,e1,e2,r⟩|⟨e1,e2⟩
   .rw[e2] at g
    exact⟨a,aa v,rfl,.inl g,.inl ⟨v,rfl,d',e1,r,g⟩⟩
   .rw[e2] at g
    exact⟨a,aj,rfl,.inl g,.inr ⟨rfl,e1⟩⟩
  .cases e
 .split at e
  .rename_i ks hks;split at e
   .rename_i hs;cases e
    obtain⟨b,hb,rfl⟩:∃b,H b=aa (.tup (ks.map kV))/\y=.ref b:=by
     cases d<;>first|cases hks|skip
     obtain⟨b,ws,rfl,hb,r⟩:=hy.tup
     rw[xP hks r] at hb
     exact⟨b,hb,rfl⟩
    rcases dt with⟨js,h1,ha⟩|⟨js,⟨ne,h1⟩,ep,ha⟩
    .obtain⟨js',h2⟩:=wW.mp hs
     have:=xR h1 h2;subst this;cases h1
     exact⟨a,aj,rfl,.inr ⟨ha,⟨b,ks,rfl,hb⟩,rfl⟩,.inr ⟨rfl,rfl⟩⟩
    .have g:=lE.t (k:=ks) ha hb;rcases O8 (k:=ks) h1 rd with⟨d',v,e1,e2,r⟩|⟨e1,e2⟩
     .rw[e2] at g
      exact⟨a,aa v,rfl,.inl g,.inl ⟨v,rfl,d',e1,r,g⟩⟩
     .rw[e2] at g
      exact⟨a,aj,rfl,.inl g,.inr ⟨rfl,e1⟩⟩
   .cases e
  .cases e
end
def inD(d:au)(ds:List au):Bool:=ds.any λe=>rF (toV e) (toV d)
def inB(d:au):au->Option Bool
 |.list ds=>if lB d&&ds.all lB then aa (inD d ds) else aj
 |.tuple ds=>if lB d&&ds.all lB then aa (inD d ds) else aj
 |.dict kvs=>(nW kvs d).map (·.isSome)
 |_=>aj
def Bj(d e:au):Option Vl:=(inB d e).map λb=>.im (.bool b)
def Dk(d e:au):Option Vl:=(inB d e).map λb=>.im (.bool (!b))
def abJ(K:aF):R2:=λx y H Q=>KR K aB x y H Q\/∃a o,y=.ref a/\nZ H a x o/\Q (.bl o.isSome) H
def ZK(K:aF):R2:=λx y H Q=>KR K aq x y H Q\/∃a o,y=.ref a/\nZ H a x o/\Q (.bl (!o.isSome)) H
theorem aky(hu:X.A.units+1<dB):cY X (gb .In) (abJ X.K):=agk.or (aku hu)
theorem agE(hu:X.A.units+1<dB):cY X (gb .NotIn) (ZK X.K):=aeZ.or (agD hu)
theorem Ol(f:lB d=aq):o9 (toV d)=aq:=by
 cases d<;>first|rfl|cases f
theorem abe:inV (toV d) (ds.map toV)=inD d ds:=by
 unfold inV inD;rw[Wl];rfl
theorem ZL{ds:List au}(f:ds.all lB=aq):(ds.map toV).all o9=aq:=by
 rw[List.all_map,jO];intro d hd;exact Ol (jO.mp f d hd)
theorem Yy{K:aF}{Z Θ:List ao}{env:En}{σ:St}{H:Hp}{x y:V}{dx dy:au}{b:Bool}(bx:eU Z Θ env σ H dx x)(dw:eU Z Θ env σ H dy y)(e:inB dx dy=aa b):
  (∃p xs,y=.ref p/\(bG K H p xs\/bW K H p xs)/\o9 x=aq/\xs.all o9=aq/\inV x xs=b)\/∃a o,y=.ref a/\nZ H a x o/\o.isSome=b:=by
 unfold inB at e;split at e
 .split at e
  .rename_i ds hf;rw[iT] at hf;cases e
   obtain⟨a,vs,rfl,ha,r⟩:=dw.lst
   rw[O7 hf.2 r] at ha;rw[bx.flat hf.1];exact .inl ⟨a,_,rfl,.inl (bG.of ha),Ol hf.1,ZL hf.2,abe⟩
  .cases e
 .split at e
  .rename_i ds hf;rw[iT] at hf;cases e
   obtain⟨a,vs,rfl,ha,r⟩:=dw.tup
   rw[O7 hf.2 r] at ha;rw[bx.flat hf.1];exact .inl ⟨a,_,rfl,.inr (bW.of ha),Ol hf.1,ZL hf.2,abe⟩
  .cases e
 .rename_i kvs;cases hl:nW kvs dx with
  |none=>rw[hl] at e;cases e
  |some o=>
   rw[hl] at e;cases e
   obtain⟨a,r,rfl,g,q⟩:=dw.get bx hl
   refine .inr ⟨a,r,rfl,g,?_⟩;rcases q with⟨v,rfl,d',rfl,_⟩|⟨rfl,rfl⟩<;>rfl
 .cases e
theorem alr{K:aF}:gf K (abJ K) Bj:=by
 intro Z Θ env C σ H x y dx dy res S bx dw e Q q;unfold Bj at e;cases h:inB dx dy with
 |none=>rw[h] at e;cases e
 |some b=>
  rw[h] at e;cases e;have fin:=q (.bl b) H (aV.refl _ _) (iu S rfl rfl);rcases Yy (K:=K) bx dw h with⟨p,xs,e1,e2,e3,e4,e5⟩|⟨a,o,e1,e2,e3⟩
  .rw[<-e5] at fin;exact .inl ⟨p,xs,e1,e2,e3,e4,fin⟩
  .rw[<-e3] at fin;exact .inr ⟨a,o,e1,e2,fin⟩
theorem ahx{K:aF}:gf K (ZK K) Dk:=by
 intro Z Θ env C σ H x y dx dy res S bx dw e Q q;unfold Dk at e;cases h:inB dx dy with
 |none=>rw[h] at e;cases e
 |some b=>
  rw[h] at e;cases e;have fin:=q (.bl (!b)) H (aV.refl _ _) (iu S rfl rfl);rcases Yy (K:=K) bx dw h with⟨p,xs,e1,e2,e3,e4,e5⟩|⟨a,o,e1,e2,e3⟩
  .rw[<-e5] at fin;exact .inl ⟨p,xs,e1,e2,e3,e4,fin⟩
  .rw[<-e3] at fin;exact .inr ⟨a,o,e1,e2,fin⟩
def qD:au->au->Option au
 |.list ds,.int i=>dF ds i
 |.tuple ds,.int i=>dF ds i
 |.str z,.int i=>if z.length<=eZ then(dF z.cps.toList i).map λc=>.str ⟨#[c]⟩ else aj
 |.dict kvs,d=>match nW kvs d with
  |some (some e)=>aa e
  |_=>aj
 |_,_=>aj
def bF(d e:au):Option Vl:=(qD d e).map .im
def abK(K:aF):R2:=λx y H Q=>rIx K x y H Q\/∃a v,x=.ref a/\lE H a y (aa v)/\Q v H
theorem cN(hu:X.A.units+1<dB):qz X (abK X.K):=akd.or (aiI hu)
theorem ZM(r:bY E ds vs)(e:dF ds i=aa d):∃v,dF vs i=aa v/\RZ E d v:=by
 unfold dF at e⊢;rw[iw r];cases h:nD ds.length i with
 |none=>rw[h] at e;cases e
 |some j=>
  rw[h] at e;exact sV r e
theorem cP{K:aF}:gf K (abK K) bF:=by
 intro Z Θ env C σ H x y dx dy res S bx dw e Q q;unfold bF at e;cases h:qD dx dy with
 |none=>rw[h] at e;cases e
 |some d=>
  rw[h] at e;cases e;unfold qD at h;split at h
  .obtain⟨a,vs,rfl,ha,r⟩:=bx.lst
   cases dw.int
   obtain⟨v,e1,r1⟩:=ZM r h
   exact .inl (.inl ⟨a,vs,_,v,rfl,rfl,bG.of ha,e1,q _ _ (aV.refl _ _) ⟨S,r1⟩⟩)
  .obtain⟨a,vs,rfl,ha,r⟩:=bx.tup
   cases dw.int
   obtain⟨v,e1,r1⟩:=ZM r h
   exact .inl (.inr (.inl ⟨a,vs,_,v,rfl,rfl,bW.of ha,e1,q _ _ (aV.refl _ _) ⟨S,r1⟩⟩))
  .split at h
   .rename_i z i hz;cases bx.str;cases dw.int;cases hc:dF z.cps.toList i with
    |none=>rw[hc] at h;cases h
    |some c=>
     rw[hc] at h;cases h;exact .inl (.inr (.inr ⟨z,i,c,rfl,rfl,qg hz,hc,q _ _ (aV.refl _ _) (iu S rfl rfl)⟩))
   .cases h
  .split at h
   .rename_i kvs e' hl;cases h
    obtain⟨a,r,rfl,g,hq⟩:=bx.get dw hl
    rcases hq with⟨v,rfl,d',e1,r1,g1⟩|⟨_,e1⟩
    .cases e1;exact .inr ⟨a,v,rfl,g1,q _ _ (aV.refl _ _) ⟨S,r1⟩⟩
    .cases e1
   .cases h
  .cases h
def Ex:au->Option Bool
 |.none=>aa aB
 |.bool b=>aa b
 |.int i=>aa (i != 0)
 |.str x=>if x.length<=eZ then aa ((x.length:Int) != 0) else aj
 |.list ds=>aa (!ds.isEmpty)
 |.tuple ds=>aa (!ds.isEmpty)
 |.dict kvs=>if(cg dD kvs).isSome then aa (!kvs.isEmpty) else aj
def tQ(f:FB):FT:=λenv C=>match f env C with
 |some (d,_,C')=>match Ex d with
  |some b=>aa (b,C')
  |none=>aj
 |none=>aj
def gk(f:FE):FT:=λenv C=>match f env C with
 |some (.im (.bool b),_,C')=>aa (b,C')
 |_=>aj
def yC(f:FT):FT:=λenv C=>match f env C with
 |some (b,C')=>aa (!b,C')
 |none=>aj
def vZ(f g:FT):FT:=λenv C=>match f env C with
 |some (true,C')=>g env C'
 |some (false,C')=>aa (aB,C')
 |none=>aj
def yM(f g:FT):FT:=λenv C=>match f env C with
 |some (true,C')=>aa (aq,C')
 |some (false,C')=>g env C'
 |none=>aj
theorem akz{K:aF}{Z Θ:List ao}{env:En}{σ:St}{H:Hp}{x:V}{d:au}{b:Bool}(h:eU Z Θ env σ H d x)(e:Ex d=aa b):Sq K x H b:=by
 cases d with
 |none=>cases e;cases(show x=_ from h);rfl
 |bool c=>cases e;cases(show x=_ from h);rfl
 |int i=>cases e;cases(show x=_ from h);rfl
 |str z=>
  simp only[Ex] at e;split at e
  .rename_i hz;cases e;cases(show x=_ from h);exact⟨qg hz,rfl⟩
  .cases e
 |list ds=>
  cases e
  obtain⟨a,vs,rfl,ha,r⟩:=h.lst
  refine .inl ⟨vs,bG.of ha,?_⟩;have:=iw r;cases ds<;>cases vs<;>first|rfl|cases this
 |tuple ds=>
  cases e
  obtain⟨a,vs,rfl,ha,r⟩:=h.tup
  refine .inr (.inl ⟨vs,bW.of ha,?_⟩);have:=iw r;cases ds<;>cases vs<;>first|rfl|cases this
 |dict kvs=>
  simp only[Ex] at e;split at e
  .rename_i hs;cases e
   obtain⟨a,vs,rfl,da,r⟩:=h.dct
   rcases da with⟨ks,h1,ep,ha⟩|⟨ks,⟨ne,h2⟩,ha⟩
   .refine .inr (.inr ⟨_,ep,ha,?_⟩);have l1:=rZ h1;have l2:=Ac r;cases kvs<;>cases ks<;>cases vs<;>first|rfl|cases l1|cases l2
   .obtain⟨ks',h1⟩:=wW.mp hs
    exact absurd (xR h1 h2) ne
  .cases e
section
variable{X:Cx}{a b:Expr}{pos:Pos}
theorem yg(h:PE X a (gn X.K f))(he:∀whole,isTrue a X.env whole=(do let v <-whole;zZ a.pos;oV [v] (truthy v)):=by intro _;rfl):PT X a (fH X.K (tQ f)):=
 (ag8 h he).weak λσ H Q aK=>by
  obtain⟨Z,Θ,env,C,b,C',S,hf,q⟩:=aK
  unfold tQ at hf;split at hf
  .rename_i d e1 C1 h1;split at hf
   .rename_i b' hb;cases hf
    exact⟨Z,Θ,env,C,d,e1,C',S,h1,λv H' k f S' bo=>⟨b,akz bo hb,q H' k (S.go k S'.cell)⟩⟩
   .cases hf
  .cases hf
theorem ahy{K:aF}{t:TE}{f:FE}(w:∀σ H Q,tE K f σ H Q->t σ H Q):∀σ H Q,fH K (gk f) σ H Q->aaZ t σ H Q:=by
 rintro σ H Q ⟨Z,Θ,env,C,b,C',S,hf,q⟩;unfold gk at hf;split at hf
 .rename_i b' e1 C1 h1;cases hf;refine w _ _ _ ⟨Z,Θ,env,C,.im (.bool b),e1,C',S,h1,λv H' k f R=>?_⟩
  obtain⟨S',r⟩:=R
  exact⟨b,r,q H' k (S.go k S'.cell)⟩
 .cases hf
theorem jt(ho:cY X (gb o) r)(L:gf X.K r op)(ha:PE X a (gn X.K fa))(hb:PE X b (gn X.K fb))(hm:Cu o b=aB):
  PT X (.Compare a [o] [b] pos) (fH X.K (gk (aP op fa fb))):=(aih ho ha hb hm).weak (ahy (Ik L))
theorem QW(h:PT X a (fH X.K f)):PT X (.UnaryOp .Not a pos) (fH X.K (yC f)):=(ajW h).weak λσ H Q aK=>by
 obtain⟨Z,Θ,env,C,b,C',S,hf,q⟩:=aK
 unfold yC at hf;split at hf
 .rename_i b' C1 h1;cases hf
  exact⟨Z,Θ,env,C,b',C',S,h1,q⟩
 .cases hf
theorem ahz{K:aF}{f g:FT}:∀σ H Q,fH K (vZ f g) σ H Q->abp (fH K f) (fH K g) σ H Q:=by
 rintro σ H Q ⟨Z,Θ,env,C,b,C',S,hf,q⟩;unfold vZ at hf;split at hf
 .rename_i C1 h1
  exact⟨Z,Θ,env,C,aq,C1,S,h1,λH1 k1 S1=>yJ ⟨Z,Θ,env,C1,b,C',S1,hf,λH2 k2 S2=>q H2 (k1.trans k2) S2⟩⟩
 .rename_i C1 h1;cases hf
  exact⟨Z,Θ,env,C,aB,C',S,h1,λH1 k1 S1=>yI (q H1 k1 S1)⟩
 .cases hf
theorem aiJ{K:aF}{f g:FT}:∀σ H Q,fH K (yM f g) σ H Q->tOr (fH K f) (fH K g) σ H Q:=by
 rintro σ H Q ⟨Z,Θ,env,C,b,C',S,hf,q⟩;unfold yM at hf;split at hf
 .rename_i C1 h1;cases hf
  exact⟨Z,Θ,env,C,aq,C',S,h1,λH1 k1 S1=>yJ (q H1 k1 S1)⟩
 .rename_i C1 h1
  exact⟨Z,Θ,env,C,aB,C1,S,h1,λH1 k1 S1=>yI ⟨Z,Θ,env,C1,b,C',S1,hf,λH2 k2 S2=>q H2 (k1.trans k2) S2⟩⟩
 .cases hf
variable{rest:List Expr}
theorem ZP(h:PT X a (fH X.K f)):PW X (.BoolOp .And [a] pos) (fH X.K f):=pw_and1 h
theorem aaD(h:PT X a (fH X.K f)):PW X (.BoolOp .Or [a] pos) (fH X.K f):=pw_or1 h
theorem aaE(h:PT X a (fH X.K f))(hb:PW X (.BoolOp .And (b::rest) pos) (fH X.K g)):PW X (.BoolOp .And (a::b::rest) pos) (fH X.K (vZ f g)):=(pw_and h hb).weak ahz
theorem abf(h:PT X a (fH X.K f))(hb:PW X (.BoolOp .Or (b::rest) pos) (fH X.K g)):PW X (.BoolOp .Or (a::b::rest) pos) (fH X.K (yM f g)):=(pw_or h hb).weak aiJ
end
section
variable{X:Cx}{a b c:Expr}{pos:Pos}{r r':R2}{o o':CmpOp}{op op':au->au->Option Vl}{fa fb fc:FB}
end
def qX(f g:FE):FE:=λenv C=>match f env C with
 |some (.im (.bool true),_,C')=>g env C'
 |some (.im (.bool false),_,C')=>aa (.im (.bool aB),env,C')
 |_=>aj
def Ef(f:FE):FE:=λenv C=>match f env C with
 |some (.im (.bool b),_,C')=>aa (.im (.bool (!b)),env,C')
 |_=>aj
def yN(c:FT)(f g:FE):FE:=λenv C=>match c env C with
 |some (true,C')=>f env C'
 |some (false,C')=>g env C'
 |none=>aj
def amn(f:FB):FE:=λenv C=>match f env C with
 |some (.int i,_,C')=>aa (.im (.int (-i)),env,C')
 |_=>aj
section
variable{X:Cx}{a b c:Expr}{pos:Pos}{rest:List Expr}
theorem JD{o}(h:PE X a (tE X.K f)):PE X (.BoolOp o [a] pos) (tE X.K f):=ajX h
theorem DN(ha:PE X a (tE X.K f))(hb:PE X (.BoolOp .And (b::rest) pos) (tE X.K g)):PE X (.BoolOp .And (a::b::rest) pos) (tE X.K (qX f g)):=(ajY ha hb).weak λσ H Q aK=>by
 obtain⟨Z,Θ,env,C,r,env',C',S,hf,q⟩:=aK
 unfold qX at hf;split at hf
 .rename_i e1 C1 h1
  refine⟨Z,Θ,env,C,_,e1,C1,S,h1,λv H1 k1 f1 R1=>⟨aq,R1.2,yJ ⟨Z,Θ,env,C1,r,env',C',S.go k1 R1.1.cell,hf,λw H2 k2 f2 R2=>q w H2 (k1.trans k2) f2 (R2.from k1)⟩⟩⟩
 .rename_i e1 C1 h1;cases hf
  exact⟨Z,Θ,env,C,_,e1,C',S,h1,λv H1 k1 f1 R1=>⟨aB,R1.2,yI (q _ H1 k1 (Fz.refl _) ⟨S.go k1 R1.1.cell,rfl⟩)⟩⟩
 .cases hf
theorem akA(ha:PE X a (tE X.K f)):PE X (.UnaryOp .Not a pos) (tE X.K (Ef f)):=(ajZ ha).weak λσ H Q aK=>by
 obtain⟨Z,Θ,env,C,r,env',C',S,hf,q⟩:=aK
 unfold Ef at hf;split at hf
 .rename_i b e1 C1 h1;cases hf
  exact⟨Z,Θ,env,C,_,e1,C',S,h1,λv H1 k1 f1 R1=>⟨b,R1.2,q _ H1 k1 (Fz.refl _) ⟨S.go k1 R1.1.cell,rfl⟩⟩⟩
 .cases hf
theorem RK(hc:PT X c (fH X.K t))(ha:PE X a (tE X.K f))(hb:PE X b (tE X.K g)):PE X (.IfExp c a b pos) (tE X.K (yN t f g)):=(ag4 hc ha hb).weak λσ H Q aK=>by
 obtain⟨Z,Θ,env,C,r,env',C',S,hf,q⟩:=aK
 unfold yN at hf;split at hf
 .rename_i C1 h1
  exact⟨Z,Θ,env,C,aq,C1,S,h1,λH1 k1 S1=>yJ ⟨Z,Θ,env,C1,r,env',C',S1,hf,λw H2 k2 f2 R2=>q w H2 (k1.trans k2) f2 (R2.from k1)⟩⟩
 .rename_i C1 h1
  exact⟨Z,Θ,env,C,aB,C1,S,h1,λH1 k1 S1=>yI ⟨Z,Θ,env,C1,r,env',C',S1,hf,λw H2 k2 f2 R2=>q w H2 (k1.trans k2) f2 (R2.from k1)⟩⟩
 .cases hf
end
def uy(K:aF)(E:Hp)(Θ:List ao):Vl->V->Prop
 |.im d,v=>RZ E d v
 |.ow _,_=>False
 |.ce n,v=>∃a,v=.ref a/\Θ[n]?=aa a
 |.sc ns,v=>∃a,v=.ref a/\bG K E a (ns.map V.int)
 |.tp _ _ _,_=>False
inductive qp(K:aF)(E:Hp)(Θ:List ao):List Vl->List V->Prop
 |nil:qp K E Θ [] []
 |cons {x:Vl} {v:V} {xs:List Vl} {vs:List V}:uy K E Θ x v->qp K E Θ xs vs->qp K E Θ (x::xs) (v::vs)
theorem uy.same{K:aF}{E E':Hp}{Θ:List ao}(s:bC E E'){x:Vl}{v:V}(h:uy K E Θ x v):uy K E' Θ x v:=by
 cases x with
 |im d=>exact RZ.same s h
 |ow d=>exact h
 |ce n=>exact h
 |sc ns=>obtain⟨a,e,q⟩:=h;exact⟨a,e,s.seq q⟩
 |tp=>exact h
theorem qp.same{K:aF}{E E':Hp}{Θ:List ao}(s:bC E E'){xs:List Vl}{vs:List V}(h:qp K E Θ xs vs):qp K E' Θ xs vs:=by
 induction h with
 |nil=>exact .nil
 |cons a _ ih=>exact .cons (a.same s) ih
inductive wM(K:aF)(f:FA)(σ:St)(H:Hp)(Q:List V->Hp->Prop):Prop
 |mk (Z Θ:List ao) (env:En) (C:Ce) (xs:List Vl) (env':En) (C':Ce) (S:Sm K Z Θ env C σ H) (hf:f env C=aa (xs,env',C')) (q:∀vs H',aV Θ H H'->Fz env env'->Sm K Z Θ env' C' σ H'->qp K (er (aX Z Θ env' σ) H') Θ xs vs->Q vs H'):wM K f σ H Q
def aW:FA:=λenv C=>aa ([],env,C)
def aG(f:FE)(g:FA):FA:=λenv C=>match f env C with
 |some (r,e1,C1)=>match g e1 C1 with
  |some (xs,e2,C2)=>aa (still r::xs,e2,C2)
  |none=>aj
 |none=>aj
def dR:wK:=λenv C=>aa ([],env,C)
def cX(f:FB)(g:wK):wK:=λenv C=>match f env C with
 |some (d,e1,C1)=>match g e1 C1 with
  |some (ds,e2,C2)=>aa (d::ds,e2,C2)
  |none=>aj
 |none=>aj
theorem Res.arg{K:aF}{Z Θ:List ao}{env:En}{C:Ce}{σ:St}{H H':Hp}{r:Vl}{v:V}(h:Res K Z Θ env C σ H H' r v):Sm K Z Θ env C σ H'/\uy K (er (aX Z Θ env σ) H') Θ (L2.still r) v:=by
 have g:=h.still;cases r with
 |im d=>exact g
 |ow d=>exact g
 |ce n=>exact g
 |sc ns=>exact g
 |tp=>exact h.elim
theorem yL.same(s:bC E E')(t:bC T T')(h:yL E T ds vs):yL E' T' ds vs:=by
 induction h with
 |nil=>exact .nil
 |cons a _ ih=>exact .cons (a.same s t) ih
section
variable{X:Cx}{e:Expr}{es:List Expr}{pos:Pos}
theorem bf:PA X [] (wM X.K aW):=sO.weak λσ H Q aK=>by
 obtain⟨Z,Θ,env,C,xs,env',C',S,hf,q⟩:=aK
 cases hf;exact q [] H (aV.refl _ _) (Fz.refl _) S .nil
theorem aJ{f:FE}{g:FA}(h:PE X e (tE X.K f))(hr:PA X es (wM X.K g))(hs:bD (e::es) X.env=(aB,eval e X.env)::bD es X.env:=by rfl):PA X (e::es) (wM X.K (aG f g)):=(oW h hr hs).weak λσ H Q aK=>by
 obtain⟨Z,Θ,env,C,xs,env',C',S,hf,q⟩:=aK
 unfold aG at hf;split at hf
 .rename_i r e1 C1 h1;split at hf
  .rename_i ys e2 C2 h2;cases hf
   refine⟨Z,Θ,env,C,r,e1,C1,S,h1,λv H1 k1 f1 R1=>?_⟩
   obtain⟨S1,a1⟩:=R1.arg
   exact⟨Z,Θ,e1,C1,ys,env',C',S1,h2,λvs H2 k2 f2 S2 a2=>q _ H2 (k1.trans k2) (f1.trans f2) S2 (.cons (a1.same (RJ S1 k2 f2)) a2)⟩
  .cases hf
 .cases hf
theorem eO:PA X [] (wL X.K dR):=sO.weak λσ H Q aK=>by
 obtain⟨Z,Θ,env,C,xs,env',C',S,hf,q⟩:=aK
 cases hf;exact q [] H (aV.refl _ _) (Fz.refl _) S .nil
theorem dH(h:PE X e (gn X.K f))(hr:PA X es (wL X.K g))(hs:bD (e::es) X.env=(aB,eval e X.env)::bD es X.env:=by rfl):PA X (e::es) (wL X.K (cX f g)):=(oW h hr hs).weak λσ H Q aK=>by
 obtain⟨Z,Θ,env,C,xs,env',C',S,hf,q⟩:=aK
 unfold cX at hf;split at hf
 .rename_i d e1 C1 h1;split at hf
  .rename_i ys e2 C2 h2;cases hf
   exact⟨Z,Θ,env,C,d,e1,C1,S,h1,λv H1 k1 f1 S1 b1=>⟨Z,Θ,e1,C1,ys,env',C',S1,h2,λvs H2 k2 f2 S2 b2=>q _ H2 (k1.trans k2) (f1.trans f2) S2 (.cons (b1.go S1 k2 f2) b2)⟩⟩
  .cases hf
 .cases hf
end
def Ba:List Vl->Option (List au)
 |[]=>aa []
 |.im d::r=>match Ba r with
  |some ds=>aa (d::ds)
  |none=>aj
 |_=>aj
theorem O9{K:aF}{E:Hp}{Θ:List ao}:∀{xs:List Vl}{ds:List au}{vs:List V},Ba xs=aa ds->qp K E Θ xs vs->bY E ds vs
 |[],ds,vs,h,a=>by cases h;cases a;rfl
 |.im d::r,ds,vs,h,a=>by
  unfold Ba at h;split at h
  .rename_i t ht;cases h;cases a with
   |cons a1 a2=>exact⟨_,_,rfl,a1,O9 ht a2⟩
  .cases h
 |.ow _::r,ds,vs,h,a=>by cases h
 |.ce _::r,ds,vs,h,a=>by cases h
 |.sc _::r,ds,vs,h,a=>by cases h
 |.tp _ _ _::r,ds,vs,h,a=>by cases h
def eG(g:FA):FE:=λenv C=>match g env C with
 |some (xs,e',C')=>match Ba xs with
  |some ds=>if ds.length<=eZ then aa (.ow (.list ds),e',C') else aj
  |none=>aj
 |none=>aj
def jd(g:FA):FE:=λenv C=>match g env C with
 |some (xs,e',C')=>match Ba xs with
  |some ds=>if ds.length<=eZ then aa (.im (.tuple ds),e',C') else aj
  |none=>aj
 |none=>aj
section
variable{X:Cx}{e:Expr}{es:List Expr}{pos:Pos}
theorem fX{g:FA}(h:PA X es (wM X.K g)):PE X (.List es pos) (tE X.K (eG g)):=(aj6 h).weak λσ H Q aK=>by
 obtain⟨Z,Θ,env,C,r,env',C',S,hf,q⟩:=aK
 unfold eG at hf;split at hf
 .rename_i xs e1 C1 h1;split at hf
  .rename_i ds hd;split at hf
   .rename_i hl;cases hf
    refine⟨Z,Θ,env,C,xs,env',C',S,h1,λvs H1 k1 f1 S1 a1=>?_⟩
    have r:=O9 hd a1
    exact⟨by rw[iw r];exact qg hl,λp hp=>q _ _ (k1.trans (aV.upd hp)) f1 ((sE S1 r hp).from k1)⟩
   .cases hf
  .cases hf
 .cases hf
theorem jE{x1}{g:FA}(h:PA X es (wM X.K g)):PE X (.Tuple es x1 pos) (tE X.K (jd g)):=(QM h).weak λσ H Q aK=>by
 obtain⟨Z,Θ,env,C,r,env',C',S,hf,q⟩:=aK
 unfold jd at hf;split at hf
 .rename_i xs e1 C1 h1;split at hf
  .rename_i ds hd;split at hf
   .rename_i hl;cases hf
    refine⟨Z,Θ,env,C,xs,env',C',S,h1,λvs H1 k1 f1 S1 a1=>?_⟩
    have r:=O9 hd a1
    exact⟨by rw[iw r];exact qg hl,λp hp=>q _ _ (k1.trans (aV.upd hp)) f1 ((Ae S1 r hp).from k1)⟩
   .cases hf
  .cases hf
 .cases hf
def DP:FE:=λenv C=>aa (.ow (.dict []),env,C)
theorem Yz:PE X (.Dict [] [] pos) (tE X.K DP):=ahc.weak λσ H Q aK=>by
 obtain⟨Z,Θ,env,C,r,env',C',S,hf,q⟩:=aK
 cases hf;exact λp hp=>q _ _ (aV.upd hp) (Fz.refl _) (Ql (vs:=[]) S (λ_ z=>nomatch z) (.inl ⟨[],rfl,0,eN⟩) rfl hp)
end
def jm(K:aF)(r:List V->Hp->VK->Prop)(op:List au->Option Vl):Prop:=
 ∀(Z Θ:List ao)(env:En)(C:Ce)(σ:St)(H:Hp)(xs:List V)(ds:List au)(res:Vl),Sm K Z Θ env C σ H->J1 Z Θ env σ H ds xs->op ds=aa res->
  ∀Q:VK,(∀v H',aV Θ H H'->Res K Z Θ env C σ H H' res v->Q v H')->r xs H Q
def dM(op:List au->Option Vl)(g:wK):FE:=λenv C=>match g env C with
 |some (ds,e',C')=>match op ds with
  |some r=>aa (r,rst r env e',C')
  |none=>aj
 |none=>aj
theorem YB{K:aF}{r:List V->Hp->VK->Prop}{op:List au->Option Vl}(L:jm K r op){g:wK}:∀σ H Q,tE K (dM op g) σ H Q->Ti r (wL K g) σ H Q:=by
 rintro σ H Q ⟨Z,Θ,env,C,res,env',C',S,hf,q⟩;unfold dM at hf;split at hf
 .rename_i ds e1 C1 h1;split at hf
  .rename_i r0 h2;cases hf
   refine⟨Z,Θ,env,C,ds,e1,C',S,h1,λvs H1 k1 f1 S1 b1=>L Z Θ e1 C' σ H1 vs ds res S1 b1 h2 Q λz H2 k2 R=>?_⟩
   exact q z H2 (k1.trans k2) (f1.rst res) ((R.from k1).rst S (k1.trans k2))
  .cases hf
 .cases hf
section
variable{X:Cx}{x:Str}{p pos:Pos}{e:Expr}{es:List Expr}{g:wK}{id T:String}{r:List V->Hp->VK->Prop}{op:List au->Option Vl}
theorem iJ(hc:fO X (.builtin id) r)(L:jm X.K r op)(hg:Gl X x)(hm:X.mg x=aj)(hv:rR x=aa (.builtin id))(ha:PA X (e::es) (wL X.K g))(hn:x≠"__name__":=by decide)(hdb:(x==("__debug__":Str))=aB:=by decide)
  (he:bD (e::es) X.env=(aB,eval e X.env)::bD es X.env:=by rfl)(hpl:(gO pos (bD es X.env)).any (·.1)=aB:=by rfl):PE X (.Call (.Name x p) (e::es) [] pos) (tE X.K (dM op g)):=(Ia hc hg hm hv ha hn hdb he hpl).weak (YB L)
theorem sr(hc:fO X (.type T) r)(L:jm X.K r op)(hg:Gl X x)(hm:X.mg x=aj)(hv:rR x=aa (.type T))(ha:PA X (e::es) (wL X.K g))(hn:x≠"__name__":=by decide)(hdb:(x==("__debug__":Str))=aB:=by decide)
  (he:bD (e::es) X.env=(aB,eval e X.env)::bD es X.env:=by rfl)(hpl:(gO pos (bD es X.env)).any (·.1)=aB:=by rfl):PE X (.Call (.Name x p) (e::es) [] pos) (tE X.K (dM op g)):=(agj hc hg hm hv ha hn hdb he hpl).weak (YB L)
end
abbrev FN:=List Vl->Ce->Option (Vl×Ce)
def Ey:Vl->Bool
 |.tp _ _ _=>aq
 |_=>aB
def Kr(K:aF)(Z Θ:List ao)(C:Ce)(H H':Hp):Vl->V->Prop
 |.tp p d q,v=>∃t a vs us,v=.ref t/\H' t=aa (.tup (vs++.ref a::us))/\H a=aj/\Sm K (a::Z) Θ [] C [] H'/\jx (er (aX (a::Z) Θ [] []) H') H' a d/\bY (er (aX (a::Z) Θ [] []) H') p vs/\bY (er (aX (a::Z) Θ [] []) H') q us
 |r,v=>Res K Z Θ [] C [] H H' r v
theorem Kr.res{K:aF}{Z Θ:List ao}{C:Ce}{H H':Hp}{r:Vl}{v:V}(n:Ey r=aB)(h:Kr K Z Θ C H H' r v):Res K Z Θ [] C [] H H' r v:=by
 cases r<;>first|exact h|cases n
def spT(K:aF)(f:FN):Sp:=λvs H Q _=>∃Z Θ C xs r C',Sm K Z Θ [] C [] H/\qp K (er (aX Z Θ [] []) H) Θ xs vs/\f xs C=aa (r,C')/\
 ∀v H',aV Θ H H'->Kr K Z Θ C' H H' r v->Q v H'
def bR(f:FN)(g:FA):FE:=λenv C=>match g env C with
 |some (xs,e',C1)=>match f xs C1 with
  |some (r,C2)=>if Ey r then aj else aa (r,rst r env e',C2)
  |none=>aj
 |none=>aj
theorem qT(h:∀a,a∈P↔a∈P'):er P H=er P' H:=by
 funext b;unfold er;by_cases hb:b∈P
 .rw[aY hb,aY ((h b).mp hb)]
 .rw[bw hb,bw (λz=>hb ((h b).mpr z))]
theorem Qo(a:ao):a∈aX (Z++bJ env σ) Θ [] []↔a∈aX Z Θ env σ:=by
 simp only[aX,bJ,cF,pU];constructor
 .rintro((h|h)|h)
  .exact .inl h
  .exact .inr (.inr h)
  .exact .inr (.inl h)
 .rintro(h|h|h)
  .exact .inl (.inl h)
  .exact .inr h
  .exact .inl (.inr h)
section
variable{K:aF}{Z Θ:List ao}{env:En}{C C':Ce}{σ:St}{H H':Hp}{a:ao}
theorem Sm.Eg(S:Sm K Z Θ env C σ H)(ha:H a=aj)(k:aV Θ H H')(h':NT (H' a))(c:oY Θ C' H'):Sm K (a::Z) Θ env C' σ H':=by
 have sm:bC (er (aX Z Θ env σ) H) (er (aX (a::Z) Θ env σ) H'):=j6 k S.qC λb m=>by
  rcases bI.mp m with rfl|m
  .exact .inr ha
  .exact .inl m
 refine⟨S.len,j0.mpr ⟨λm=>S.yK a m ha,S.nd⟩,λb m=>?_,λi x e=>?_,c⟩
 .rcases bI.mp m with rfl|m
  .exact h'
  .obtain⟨u,e,n⟩:=S.dom b m
   exact⟨u,k.keep _ _ e λz=>by
    have h:=S.nd;rw[jZ] at h;exact h.2.2 b m b (gK _ z) rfl,n⟩
 .obtain⟨v,e1,r⟩:=S.slot i x e
  refine⟨v,e1,r.same sm λd b ex ev o' ho=>k.keep _ _ ho ?_⟩
  subst ex ev
  exact(S.mX (lX.mpr ⟨i,d,e,e1⟩)).2
theorem Sm.bare(S:Sm K Z Θ env C σ H):Sm K (Z++bJ env σ) Θ [] C [] H:=by
 refine⟨rfl,?_,λb m=>?_,λi x e=>by simp at e,S.cell⟩
 .have h:=S.nd
  show((Z++bJ env σ)++(Θ++[])).Nodup
  rw[pU,oG];have p:(Z++(Θ++bJ env σ)).Perm (Z++(bJ env σ++Θ)):=adi Z List.perm_append_comm;exact p.nodup h
 .rcases cF.mp m with m|m
  .exact S.dom b m
  .exact S.K1 b (eF _ (eF _ m))
theorem Res.back(S:Sm K Z Θ env C σ H)(k:aV Θ H H')(h:Res K (Z++bJ env σ) Θ [] C' [] H H' r v):Res K Z Θ env C' σ H H' r v:=by
 have e1:er (aX (Z++bJ env σ) Θ [] []) H'=er (aX Z Θ env σ) H':=qT Qo;cases r with
 |im d=>
  obtain⟨S',r⟩:=h
  rw[e1] at r
  exact⟨S.go k S'.cell,r⟩
 |ow d=>
  obtain⟨a,rfl,hn,S',r⟩:=h
  have e2:er (aX (a::(Z++bJ env σ)) Θ [] []) H'=er (aX (a::Z) Θ env σ) H':=qT λb=>by
   show b∈a::aX (Z++bJ env σ) Θ [] []↔b∈a::aX Z Θ env σ;rw[bI,bI,Qo]
  rw[e2] at r
  exact⟨a,rfl,hn,S.Eg hn k (S'.dom a cV) S'.cell,r⟩
 |ce n=>exact⟨S.go k h.1.cell,h.2⟩
 |sc ns=>
  obtain⟨S',a,rfl,q⟩:=h
  rw[e1] at q
  exact⟨S.go k S'.cell,a,rfl,q⟩
 |tp=>exact h
end
section
variable{X:Cx}{x:Str}{k:Nat}{ps:List Str}{p pos:Pos}{e:Expr}{es:List Expr}{f:FN}{g:FA}
theorem ahA{K:aF}:∀σ H Q,tE K (bR f g) σ H Q->RB (spT K f) [] E0 (wM K g) σ H Q:=by
 rintro σ H Q ⟨Z,Θ,env,C,res,env',C',S,hf,q⟩;unfold bR at hf;split at hf
 .rename_i xs e1 C1 h1;split at hf
  .rename_i r C2 h2;split at hf
   .cases hf
   rename_i nt;cases hf
   refine⟨Z,Θ,env,C,xs,e1,C1,S,h1,λvs H1 k1 f1 S1 a1=>?_⟩
   show spT K f (vs++[]) H1 Q E0;rw[pU];have e2:er (aX (Z++bJ e1 σ) Θ [] []) H1=er (aX Z Θ e1 σ) H1:=qT Qo;rw[<-e2] at a1
   exact⟨Z++bJ e1 σ,Θ,C1,xs,res,C',S1.bare,a1,h2,λv H2 k2 R=>q v H2 (k1.trans k2) (f1.rst res) (((Res.back S1 k2 (R.res (Bool.eq_false_iff.mpr nt))).from k1).rst S (k1.trans k2))⟩
  .cases hf
 .cases hf
theorem b7(F:fY X.prog X.w X.K X.mg X.base x k ps (spT X.K f))(hr:gC k X.A)(hg:Gl X x)(ha:PA X (e::es) (wM X.K g))(hdb:(x==("__debug__":Str))=aB:=by decide)
  (he:bD (e::es) X.env=(aB,eval e X.env)::bD es X.env:=by rfl)(hpl:(gO pos (bD es X.env)).any (·.1)=aB:=by rfl):PE X (.Call (.Name x p) (e::es) [] pos) (tE X.K (bR f g)):=(alk F hr hg ha hdb he hpl).weak ahA
end
theorem Om:∀{env:En}{σ:St},(∀(i j:Nat)(d e:au)(a:ao),env[i]?=aa (aa (Vl.ow d))->σ[i]?=aa (aa (V.ref a))->env[j]?=aa (aa (Vl.ow e))->σ[j]?=aa (aa (V.ref a))->i=j)->(bJ env σ).Nodup
 |[],σ,_=>by cases σ<;>exact mQ
 |_::_,[],_=>mQ
 |x::en,v::s,h=>by
  rw[bJ,jZ]
  refine⟨?_,Om λi j d e a h1 h2 h3 h4=>?_,λa ha b hb e=>?_⟩
  .unfold own1;split
   .exact j0.mpr ⟨by simp,mQ⟩
   .exact mQ
  .have:=h (i+1) (j+1) d e a (by simpa using h1) (by simpa using h2) (by simpa using h3) (by simpa using h4);lia
  .subst e;unfold own1 at ha;split at ha
   .rw[fQ] at ha;subst ha
    obtain⟨j,d,h1,h2⟩:=lX.mp hb
    have:=h 0 (j+1) _ d a rfl rfl (by simpa using h1) (by simpa using h2);lia
   .simp at ha
theorem get_set{α:Type}{l:List α}{i j:Nat}{x y:α}(h:(l.set i x)[j]?=aa y):(j=i/\y=x/\i<l.length)\/(j≠i/\l[j]?=aa y):=by
 by_cases e:i=j
 .subst e;rw[BZ,aY rfl] at h;split at h
  .rename_i hl;cases h;exact .inl ⟨rfl,rfl,hl⟩
  .cases h
 .rw[zg e] at h;exact .inr ⟨λz=>e z.symm,h⟩
theorem ZQ{α:Type}{l:List α}{i:Nat}{x:α}(h:i<l.length):(l.set i x)[i]?=aa x:=by
 rw[BZ,aY rfl,aY h]
theorem xX{env:En}{σ:St}{i:Nat}{x:Vl}{v:V}{a:ao}(h:a∈bJ (env.set i (aa x)) (σ.set i (aa v))):a∈bJ env σ\/(∃d,x=.ow d)/\v=.ref a:=by
 obtain⟨j,d,h1,h2⟩:=lX.mp h
 rcases get_set h1 with⟨rfl,e,_⟩|⟨n,h1⟩
 .rcases get_set h2 with⟨_,e2,_⟩|⟨n,_⟩
  .cases e;cases e2;exact .inr ⟨⟨d,rfl⟩,rfl⟩
  .exact absurd rfl n
 .rcases get_set h2 with⟨e,_,_⟩|⟨_,h2⟩
  .exact absurd e n
  .exact .inl (lX.mpr ⟨j,d,h1,h2⟩)
section
variable{K:aF}{Z Θ:List ao}{env:En}{C:Ce}{σ:St}{H:Hp}{a:ao}{i:Nat}{v:V}
theorem Sm.dm(S:Sm K Z Θ env C σ H):Z.Nodup/\Θ.Nodup/\(bJ env σ).Nodup/\(∀b∈Z,b∉Θ):=by
 have h:=S.nd;rw[jZ,jZ] at h
 obtain⟨h1,⟨h2,h3,_⟩,h4⟩:=h
 exact⟨h1,h2,h3,λb m m'=>h4 b m b (gK _ m') rfl⟩
theorem yZ(h1:Z.Nodup)(h2:Θ.Nodup)(h3:O.Nodup)(h4:∀b∈Z,b∉Θ)(h5:∀b∈O,b∉Z/\b∉Θ):(Z++(Θ++O)).Nodup:=by
 rw[jZ,jZ]
 refine⟨h1,⟨h2,h3,λb m c m' e=>?_⟩,λb m c m' e=>?_⟩
 .subst e;exact(h5 b m').2 m
 .subst e;rcases cF.mp m' with m'|m'
  .exact h4 b m m'
  .exact(h5 b m').1 m
theorem Sm.Bm(S:Sm K Z Θ env C σ H){x:Vl}(hx:∀d,x≠.ow d)(r:Bh K (er (aX Z Θ env σ) H) H Θ x v):Sm K Z Θ (env.set i (aa x)) C (σ.set i (aa v)) H:=by
 have sub:∀b,b∈bJ (env.set i (aa x)) (σ.set i (aa v))->b∈bJ env σ:=λb m=>by
  rcases xX m with m|⟨⟨d,e⟩,_⟩
  .exact m
  .exact absurd e (hx d)
 have dm:=S.dm;have sm:bC (er (aX Z Θ env σ) H) (er (aX Z Θ (env.set i (aa x)) (σ.set i (aa v))) H):=sW λb m=>by
  rcases cF.mp m with m|m
  .exact gK _ m
  .rcases cF.mp m with m|m
   .exact eF _ (gK _ m)
   .exact eF _ (eF _ (sub b m))
 refine⟨by rw[vg,vg];exact S.len,?_,S.dom,λj y e=>?_,S.cell⟩
 .refine yZ dm.1 dm.2.1 (Om λp q d e b h1 h2 h3 h4=>?_) dm.2.2.2 λb m=>S.mX (sub b m)
  rcases get_set h1 with⟨rfl,e1,_⟩|⟨n1,h1⟩
  .cases e1;exact absurd rfl (hx d)
  .rcases get_set h3 with⟨rfl,e1,_⟩|⟨n2,h3⟩
   .cases e1;exact absurd rfl (hx e)
   .rcases get_set h2 with⟨e2,_,_⟩|⟨_,h2⟩
    .exact absurd e2 n1
    .rcases get_set h4 with⟨e4,_,_⟩|⟨_,h4⟩
     .exact absurd e4 n2
     .exact Dj dm.2.2.1 h1 h2 h3 h4
 .rcases get_set e with⟨rfl,e1,hl⟩|⟨n,e⟩
  .cases e1
   exact⟨v,ZQ (by rw[S.len];exact hl),r.same sm λd b ex _=>absurd ex (hx d)⟩
  .obtain⟨u,e1,r1⟩:=S.slot j y e
   exact⟨u,by rw[zg (jr n)];exact e1,r1.same sm λ_ _ _ _ _ h=>h⟩
theorem Sm.abL(S:Sm K (a::Z) Θ env C σ H){d:au}(r:jx (er (aX (a::Z) Θ env σ) H) H a d):Sm K Z Θ (env.set i (aa (.ow d))) C (σ.set i (aa (.ref a))) H:=by
 have sub:∀b,b∈bJ (env.set i (aa (.ow d))) (σ.set i (aa (.ref a)))->b∈bJ env σ\/b=a:=λb m=>by
  rcases xX m with m|⟨_,e⟩
  .exact .inl m
  .cases e;exact .inr rfl
 have dm:=S.dm;have FW:=j0.mp dm.1;have sm:bC (er (aX (a::Z) Θ env σ) H) (er (aX Z Θ (env.set i (aa (.ow d))) (σ.set i (aa (.ref a)))) H):=sW λb m=>by
  rcases cF.mp m with m|m
  .exact gK _ (dg _ m)
  .rcases cF.mp m with m|m
   .exact eF _ (gK _ m)
   .rcases sub b m with m|rfl
    .exact eF _ (eF _ m)
    .exact gK _ cV
 have abM:a∉bJ env σ:=λm=>(S.mX m).1 cV
 refine⟨by rw[vg,vg];exact S.len,?_,λb m=>S.dom b (dg _ m),λj y e=>?_,S.cell⟩
 .refine yZ FW.2 dm.2.1 (Om λp q d1 e b h1 h2 h3 h4=>?_) (λb m=>dm.2.2.2 b (dg _ m)) λb m=>?_
  .rcases get_set h1 with⟨rfl,e1,_⟩|⟨n1,h1⟩
   .rcases get_set h3 with⟨e3,_,_⟩|⟨n2,h3⟩
    .exact e3.symm
    .rcases get_set h2 with⟨_,e2,_⟩|⟨n,_⟩
     .cases e2;rcases get_set h4 with⟨e4,_,_⟩|⟨_,h4⟩
      .exact e4.symm
      .exact absurd (lX.mpr ⟨q,e,h3,h4⟩) abM
     .exact absurd rfl n
   .rcases get_set h2 with⟨e2,_,_⟩|⟨_,h2'⟩
    .exact absurd e2 n1
    .have mp:=lX.mpr ⟨p,d1,h1,h2'⟩;rcases get_set h3 with⟨rfl,e3,_⟩|⟨n2,h3⟩
     .rcases get_set h4 with⟨_,e4,_⟩|⟨n,_⟩
      .cases e4;exact absurd mp abM
      .exact absurd rfl n
     .rcases get_set h4 with⟨e4,_,_⟩|⟨_,h4⟩
      .exact absurd e4 n2
      .exact Dj dm.2.2.1 h1 h2' h3 h4
  .rcases sub b m with m|rfl
   .obtain⟨p,q⟩:=S.mX m
    exact⟨λz=>p (dg _ z),q⟩
   .exact⟨FW.1,dm.2.2.2 b cV⟩
 .rcases get_set e with⟨rfl,e1,hl⟩|⟨n,e⟩
  .cases e1
   exact⟨_,ZQ (by rw[S.len];exact hl),a,rfl,r.same sm λ_ h=>h⟩
  .obtain⟨u,e1,r1⟩:=S.slot j y e
   exact⟨u,by rw[zg (jr n)];exact e1,r1.same sm λ_ _ _ _ _ h=>h⟩
theorem Res.set(h:Res K Z Θ env C σ H0 H r v):Sm K Z Θ (env.set i (aa r)) C (σ.set i (aa v)) H:=by
 cases r with
 |im d=>exact h.1.Bm (λ_ e=>nomatch e) h.2
 |ow d=>obtain⟨a,rfl,_,S,r⟩:=h;exact S.abL r
 |ce n=>exact h.1.Bm (λ_ e=>nomatch e) h.2
 |sc ns=>exact h.1.Bm (λ_ e=>nomatch e) h.2
 |tp=>exact h.elim
end
inductive Fl where
 |nx|rt (r:Vl)|bk|ct
abbrev FS:=En->Ce->Option (Fl×En×Ce)
structure jV(Θ Θ':List ao)(H:Hp):Prop where
 ex:∃Δ,Θ'=Θ++Δ/\∀a∈Δ,H a=aj
theorem jV.refl(Θ:List ao)(H:Hp):jV Θ Θ H:=⟨[],by rw[pU],λ_ m=>nomatch m⟩
structure dY(K:aF)(Z Θ:List ao)(env:En)(σ:St)(H:Hp)(Θ':List ao)(env':En)(C':Ce)(σ':St)(H':Hp):Prop where
 th:jV Θ Θ' H
 kp:aV (Θ++bJ env σ) H H'
 own:∀a∈bJ env' σ',a∈bJ env σ\/H a=aj
 sm:Sm K Z Θ' env' C' σ' H'
def J2(K:aF)(Z Θ:List ao)(C:Ce)(own:List ao)(H H':Hp):Vl->V->Prop
 |.im d,v=>Sm K Z Θ [] C [] H'/\RZ (er (aX Z Θ [] []) H') d v
 |.ow d,v=>∃a,v=.ref a/\(a∈own\/H a=aj)/\Sm K (a::Z) Θ [] C [] H'/\jx (er (aX (a::Z) Θ [] []) H') H' a d
 |.ce n,v=>Sm K Z Θ [] C [] H'/\∃a,v=.ref a/\Θ[n]?=aa a
 |.sc ns,v=>Sm K Z Θ [] C [] H'/\∃a,v=.ref a/\bG K (er (aX Z Θ [] []) H') a (ns.map V.int)
 |.tp p d q,v=>∃t a vs us,v=.ref t/\H' t=aa (.tup (vs++.ref a::us))/\(a∈own\/H a=aj)/\Sm K (a::Z) Θ [] C [] H'/\jx (er (aX (a::Z) Θ [] []) H') H' a d/\bY (er (aX (a::Z) Θ [] []) H') p vs/\bY (er (aX (a::Z) Θ [] []) H') q us
structure TF(K:aF)(Z Θ:List ao)(env:En)(σ:St)(H:Hp)(Θ':List ao)(C':Ce)(r:Vl)(v:V)(H':Hp):Prop where
 th:jV Θ Θ' H
 kp:aV (Θ++bJ env σ) H H'
 ok:J2 K Z Θ' C' (bJ env σ) H H' r v
def Ks(K:aF)(Z Θ:List ao)(env:En)(σ:St)(H:Hp)(env':En)(C':Ce)(D:Ends):Fl->Prop
 |.nx=>∀Θ' σ' H',dY K Z Θ env σ H Θ' env' C' σ' H'->D.nx σ' H'
 |.bk=>∀Θ' σ' H',dY K Z Θ env σ H Θ' env' C' σ' H'->D.bk σ' H'
 |.ct=>∀Θ' σ' H',dY K Z Θ env σ H Θ' env' C' σ' H'->D.ct σ' H'
 |.rt r=>∀Θ' v H',TF K Z Θ env σ H Θ' C' r v H'->D.rt v H'
inductive tS(K:aF)(f:FS)(D:Ends)(σ:St)(H:Hp):Prop
 |mk (Z Θ:List ao) (env:En) (C:Ce) (fl:Fl) (env':En) (C':Ce) (S:Sm K Z Θ env C σ H) (hf:f env C=aa (fl,env',C')) (q:Ks K Z Θ env σ H env' C' D fl):tS K f D σ H
section
variable{K:aF}{Z Θ Θ1 Θ2:List ao}{env e1 e2:En}{C C1 C2:Ce}{σ σ1 σ2:St}{H H1 H2:Hp}
theorem jV.trans(h:jV Θ Θ1 H)(k:∀a,H a≠aj->H1 a≠aj)(g:jV Θ1 Θ2 H1):jV Θ Θ2 H:=by
 obtain⟨Δ,e,n⟩:=h.ex
 obtain⟨Δ',e',n'⟩:=g.ex
 refine⟨Δ++Δ',by rw[e',e,oG],λa m=>?_⟩
 rcases cF.mp m with m|m
 .exact n a m
 .cases h:H a with
  |none=>rfl
  |some o=>exact absurd (n' a m) (k a (by rw[h];exact vd _))
theorem YC(th:jV Θ Θ1 H)(k1:aV (Θ++bJ env σ) H H1)(ow:∀a∈bJ e1 σ1,a∈bJ env σ\/H a=aj)(k2:aV (Θ1++bJ e1 σ1) H1 H2):aV (Θ++bJ env σ) H H2:=by
 refine⟨λa o e n=>k2.keep a o (k1.keep a o e n) λm=>n ?_,λa e=>k2.dom a (k1.dom a e)⟩
 have hn:H a≠aj:=by rw[e];exact vd _
 rcases cF.mp m with m|m
 .obtain⟨Δ,e',n'⟩:=th.ex
  rw[e'] at m;rcases cF.mp m with m|m
  .exact gK _ m
  .exact absurd (n' a m) hn
 .rcases ow a m with m|m
  .exact eF _ m
  .exact absurd m hn
theorem dY.trans(p:dY K Z Θ env σ H Θ1 e1 C1 σ1 H1)(q:dY K Z Θ1 e1 σ1 H1 Θ2 e2 C2 σ2 H2):dY K Z Θ env σ H Θ2 e2 C2 σ2 H2 where
 th:=p.th.trans p.kp.dom q.th
 kp:=YC p.th p.kp p.own q.kp
 own:=λa m=>by
  rcases q.own a m with m|m
  .exact p.own a m
  .exact .inr (p.kp.none m)
 sm:=q.sm
theorem dY.ret(p:dY K Z Θ env σ H Θ1 e1 C1 σ1 H1)(q:TF K Z Θ1 e1 σ1 H1 Θ2 C2 r v H2):TF K Z Θ env σ H Θ2 C2 r v H2 where
 th:=p.th.trans p.kp.dom q.th
 kp:=YC p.th p.kp p.own q.kp
 ok:=by
  have h:=q.ok;cases r with
  |im d=>exact h
  |ow d=>
   obtain⟨a,e,m,S,r⟩:=h
   refine⟨a,e,?_,S,r⟩
   rcases m with m|m
   .exact p.own a m
   .exact .inr (p.kp.none m)
  |ce n=>exact h
  |sc ns=>exact h
  |tp=>
   obtain⟨t,a,vs,us,e,e',m,R⟩:=h
   exact⟨t,a,vs,us,e,e',m.elim (p.own a) λm=>.inr (p.kp.none m),R⟩
theorem Ks.trans(p:dY K Z Θ env σ H Θ1 e1 C1 σ1 H1)(h:Ks K Z Θ env σ H e2 C2 D fl):Ks K Z Θ1 e1 σ1 H1 e2 C2 D fl:=by
 cases fl with
 |nx=>exact λΘ' σ' H' q=>h Θ' σ' H' (p.trans q)
 |bk=>exact λΘ' σ' H' q=>h Θ' σ' H' (p.trans q)
 |ct=>exact λΘ' σ' H' q=>h Θ' σ' H' (p.trans q)
 |rt r=>exact λΘ' v H' q=>h Θ' v H' (p.ret q)
theorem vJ(k:aV Θ H H1):aV (Θ++O) H H1:=⟨λa o e n=>k.keep a o e λm=>n (gK _ m),k.dom⟩
theorem dY.tV(k:aV Θ H H1)(f:Fz env e1)(S:Sm K Z Θ e1 C1 σ H1):dY K Z Θ env σ H Θ e1 C1 σ H1:=
 ⟨jV.refl _ _,vJ k,λa m=>.inl (f.own.subset m),S⟩
end
def ju:FS:=λenv C=>aa (.nx,env,C)
def bU(f g:FS):FS:=λenv C=>match f env C with
 |some (.nx,e1,C1)=>g e1 C1
 |r=>r
def je(c:FT)(f g:FS):FS:=λenv C=>match c env C with
 |some (true,C1)=>f env C1
 |some (false,C1)=>g env C1
 |none=>aj
def iG(f:FE):FS:=λenv C=>match f env C with
 |some (r,e1,C1)=>aa (.rt r,e1,C1)
 |none=>aj
def uz(i:Nat):FS:=λenv C=>match env[i]? with
 |some (some x)=>aa (.rt x,env,C)
 |_=>aj
def dU(i:Nat)(f:FE):FS:=λenv C=>match f env C with
 |some (r,e1,C1)=>aa (.nx,e1.set i (aa r),C1)
 |none=>aj
section
variable{X:Cx}{st:dZ}{rest:List dZ}{pos:Pos}
theorem dY.same{K:aF}{Z Θ:List ao}{env:En}{C:Ce}{σ:St}{H:Hp}(S:Sm K Z Θ env C σ H):dY K Z Θ env σ H Θ env C σ H:=dY.tV (aV.refl _ _) (Fz.refl _) S
theorem lz:iR X [] (tS X.K ju):=aic.weak λD σ H aK=>by
 obtain⟨Z,Θ,env,C,fl,env',C',S,hf,q⟩:=aK
 cases hf;exact q Θ σ H (dY.same S)
theorem cR(h:PS X st (tS X.K f)):iR X [st] (tS X.K f):=aid h
theorem ahB{K:aF}{f g:FS}:∀D σ H,tS K (bU f g) D σ H->abq (tS K f) (tS K g) D σ H:=by
 rintro D σ H ⟨Z,Θ,env,C,fl,env',C',S,hf,q⟩;unfold bU at hf;split at hf
 .rename_i e1 C1 h1
  exact⟨Z,Θ,env,C,.nx,e1,C1,S,h1,λΘ1 σ1 H1 p=>⟨Z,Θ1,e1,C1,fl,env',C',p.sm,hf,q.trans p⟩⟩
 .rename_i hne
  refine⟨Z,Θ,env,C,fl,env',C',S,hf,?_⟩
  cases fl with
  |nx=>exact absurd hf (hne _ _)
  |bk=>exact q
  |ct=>exact q
  |rt r=>exact q
theorem bZ(h:PS X st (tS X.K f))(hr:iR X rest (tS X.K g)):iR X (st::rest) (tS X.K (bU f g)):=(ag5 h hr).weak ahB
theorem lC(hc:PT X c (fH X.K t))(ha:iR X a (tS X.K f))(hb:iR X b (tS X.K g)):PS X (.If c a b pos) (tS X.K (je t f g)):=(ak5 hc ha hb).weak λD σ H aK=>by
 obtain⟨Z,Θ,env,C,fl,env',C',S,hf,q⟩:=aK
 unfold je at hf;split at hf
 .rename_i C1 h1
  exact⟨Z,Θ,env,C,aq,C1,S,h1,λH1 k1 S1=>yJ ⟨Z,Θ,env,C1,fl,env',C',S1,hf,q.trans (dY.tV k1 (Fz.refl _) S1)⟩⟩
 .rename_i C1 h1
  exact⟨Z,Θ,env,C,aB,C1,S,h1,λH1 k1 S1=>yI ⟨Z,Θ,env,C1,fl,env',C',S1,hf,q.trans (dY.tV k1 (Fz.refl _) S1)⟩⟩
 .cases hf
theorem Sm.none{K:aF}{Z Θ:List ao}{env:En}{C:Ce}{σ:St}{H:Hp}(S:Sm K Z Θ env C σ H):Sm K Z Θ [] C [] H:=by
 have dm:=S.dm
 exact⟨rfl,yZ dm.1 dm.2.1 mQ dm.2.2.2 (λ_ m=>nomatch m),S.dom,λi x e=>by simp at e,S.cell⟩
theorem CZ:bC (er (aX Z Θ env σ) H) (er (aX Z Θ [] []) H):=sW λb m=>by
 rcases cF.mp m with m|m
 .exact gK _ m
 .rcases cF.mp m with m|m
  .exact eF _ (gK _ m)
  .nomatch m
theorem Res.ret{K:aF}{Z Θ:List ao}{env:En}{C:Ce}{σ:St}{H H':Hp}{O:List ao}{r:Vl}{v:V}(h:Res K Z Θ env C σ H H' r v):J2 K Z Θ C O H H' r v:=by
 cases r with
 |im d=>exact⟨h.1.none,h.2.same CZ⟩
 |ow d=>obtain⟨a,e,n,S,r⟩:=h;exact⟨a,e,.inr n,S.none,r.same CZ λ_ h=>h⟩
 |ce n=>exact⟨h.1.none,h.2⟩
 |sc ns=>obtain⟨S,a,e,q⟩:=h;exact⟨S.none,a,e,CZ.seq q⟩
 |tp=>exact h.elim
theorem ji(h:PE X e (tE X.K f)):PS X (.Return (aa e) pos) (tS X.K (iG f)):=(aao h).weak λD σ H aK=>by
 obtain⟨Z,Θ,env,C,fl,env',C',S,hf,q⟩:=aK
 unfold iG at hf;split at hf
 .rename_i r e1 C1 h1;cases hf
  exact⟨Z,Θ,env,C,r,env',C',S,h1,λv H1 k f R=>q Θ v H1 ⟨jV.refl _ _,vJ k,R.ret⟩⟩
 .cases hf
theorem Af(h:PE X e (tK i)):PS X (.Return (aa e) pos) (tS X.K (uz i)):=(aao h).weak λD σ H aK=>by
 obtain⟨Z,Θ,env,C,fl,env',C',S,hf,q⟩:=aK
 unfold uz at hf;split at hf
 .rename_i x hx;cases hf
  obtain⟨v,e1,r⟩:=S.slot i x hx
  refine⟨v,e1,q Θ v H ⟨jV.refl _ _,aV.refl _ _,?_⟩⟩
  cases x with
  |im d=>exact⟨S.none,RZ.same CZ r⟩
  |ow d=>
   obtain⟨a,rfl,r⟩:=r
   have m:a∈bJ env σ:=lX.mpr ⟨i,d,hx,e1⟩;have sm:bC (er (aX Z Θ env σ) H) (er (aX (a::Z) Θ [] []) H):=sW λb mb=>by
    rcases cF.mp mb with mb|mb
    .rcases bI.mp mb with rfl|mb
     .exact eF _ (eF _ m)
     .exact gK _ mb
    .rcases cF.mp mb with mb|mb
     .exact eF _ (gK _ mb)
     .nomatch mb
   have dm:=S.dm
   refine⟨a,rfl,.inl m,⟨rfl,yZ (j0.mpr ⟨(S.mX m).1,dm.1⟩) dm.2.1 mQ (λb mb=>?_) (λ_ m=>nomatch m),λb mb=>?_,λi x e=>by simp at e,S.cell⟩,r.same sm λ_ h=>h⟩
   .rcases bI.mp mb with rfl|mb
    .exact(S.mX m).2
    .exact dm.2.2.2 b mb
   .rcases bI.mp mb with rfl|mb
    .exact r.nt
    .exact S.dom b mb
  |ce n=>exact⟨S.none,r⟩
  |sc ns=>obtain⟨a,e,q⟩:=r;exact⟨S.none,a,e,CZ.seq q⟩
  |tp=>exact r.elim
 .cases hf
theorem Pa{K:aF}{i:Nat}{t:TE}{f:FE}(w:∀σ H Q,tE K f σ H Q->t σ H Q):∀D σ H,tS K (dU i f) D σ H->Be t (vQ i) D σ H:=by
 rintro D σ H ⟨Z,Θ,env,C,fl,env',C',S,hf,q⟩;unfold dU at hf;split at hf
 .rename_i r e1 C1 h1;cases hf;refine w _ _ _ ⟨Z,Θ,env,C,r,e1,C',S,h1,λv H1 k f R=>q Θ _ H1 ⟨jV.refl _ _,vJ k,λa m=>?_,R.set⟩⟩;rcases xX m with m|⟨⟨d,e⟩,e2⟩
  .exact .inl (f.own.subset m)
  .subst e
   obtain⟨b,e3,n,_⟩:=R
   rw[e2] at e3;cases e3;exact .inr n
 .cases hf
theorem iK(hN:X.N.Nodup)(hi:X.N[i]?=aa x)(hx:Loc X.env.scope x)(he:PE X e (tE X.K f))(hs:vz e (aa (.Name x pos')) pos.line X.env=pure aB:=by rfl)(hf:X.fn x=aq\/X.env.scope.names.lookup x=aa .local:=by first|exact .inl rfl|exact .inr rfl|assumption):
  PS X (.Assign [.Name x pos'] e pos) (tS X.K (dU i f)):=(aap hN hi hx he hs hf).weak (Pa λ_ _ _ h=>h)
end
abbrev FG:=au->En->Option En
abbrev FZ:=List au->En->Option En
def Bt(K:aF)(g:TG)(fg:FG):Prop:=∀(Z Θ:List ao)(env:En)(C:Ce)(σ:St)(H:Hp)(v:V)(d:au)(env':En),Sm K Z Θ env C σ H->RZ (er (aX Z Θ env σ) H) d v->fg d env=aa env'->
 ∀Q:St->Hp->Prop,(∀σ',Sm K Z Θ env' C σ' H->(∀a∈bJ env' σ',a∈bJ env σ)->Q σ' H)->g v σ H Q
def Ku(K:aF)(g:uO)(fg:FZ):Prop:=∀(Z Θ:List ao)(env:En)(C:Ce)(σ:St)(H:Hp)(vs:List V)(ds:List au)(env':En),Sm K Z Θ env C σ H->bY (er (aX Z Θ env σ) H) ds vs->fg ds env=aa env'->
 ∀Q:St->Hp->Prop,(∀σ',Sm K Z Θ env' C σ' H->(∀a∈bJ env' σ',a∈bJ env σ)->Q σ' H)->g vs σ H Q
def cQ(i:Nat):FG:=λd env=>aa (env.set i (aa (.im d)))
def wg:FZ:=λds env=>match ds with
 |[]=>aa env
 |_=>aj
def oZ(g:FG)(u:FZ):FZ:=λds env=>match ds with
 |d::r=>match g d env with
  |some e1=>u r e1
  |none=>aj
 |[]=>aj
def wN(n:Nat)(u:FZ):FG:=λd env=>match d with
 |.tuple ds=>if ds.length=n then u ds env else aj
 |_=>aj
theorem aaF(h:∀a∈bJ e1 σ1,a∈bJ env σ):bC (er (aX Z Θ env σ) H) (er (aX Z Θ e1 σ1) H):=sW λb m=>by
 rcases cF.mp m with m|m
 .exact gK _ m
 .rcases cF.mp m with m|m
  .exact eF _ (gK _ m)
  .exact eF _ (eF _ (h b m))
section
variable{K:aF}
theorem jC:Bt K (vQ i) (cQ i):=by
 intro Z Θ env C σ H v d env' S r e Q q;cases e;refine q _ (S.Bm (λ_ z=>nomatch z) r) λa m=>?_
 rcases xX m with m|⟨⟨_,z⟩,_⟩
 .exact m
 .cases z
theorem Qp:Ku K R8 wg:=by
 intro Z Θ env C σ H vs ds env' S r e Q q;unfold wg at e;split at e
 .cases e
  exact⟨r,q _ S λ_ m=>m⟩
 .cases e
theorem zV(h:Bt K g fg)(hu:Ku K u fu):Ku K (Rz g u) (oZ fg fu):=by
 intro Z Θ env C σ H vs ds env' S r e Q q;unfold oZ at e;split at e
 .rename_i d r'
  obtain⟨v,ws,rfl,r1,r2⟩:=r
  split at e
  .rename_i e1 h1
   refine⟨v,ws,rfl,h Z Θ env C σ H v d e1 S r1 h1 _ λσ1 S1 o1=>?_⟩
   exact hu Z Θ e1 C σ1 H ws r' env' S1 (r2.same (aaF o1)) e Q λσ2 S2 o2=>q σ2 S2 λa m=>o1 a (o2 a m)
  .cases e
 .cases e
theorem QX(hu:Ku K u fu):Bt K (R9 K n u) (wN n fu):=by
 intro Z Θ env C σ H v d env' S r e Q q;unfold wN at e;split at e
 .rename_i ds;split at e
  .rename_i hl
   obtain⟨a,vs,rfl,ha,r⟩:=r
   exact⟨a,vs,rfl,bW.of (fJ ha),(iw r).trans hl,hu Z Θ env C σ H vs ds env' S r e Q q⟩
  .cases e
 .cases e
end
def Ez(f:FE)(g:FG):FS:=λenv C=>match f env C with
 |some (r,e1,C1)=>match still r with
  |.im d=>match g d e1 with
   |some e2=>aa (.nx,e2,C1)
   |none=>aj
  |_=>aj
 |none=>aj
theorem Res.qY{K:aF}{Z Θ:List ao}{env:En}{C:Ce}{σ:St}{H H':Hp}{r:Vl}{v:V}{d:au}(h:Res K Z Θ env C σ H H' r v)(e:L2.still r=.im d):Sm K Z Θ env C σ H'/\RZ (er (aX Z Θ env σ) H') d v:=by
 have g:=h.still;rw[e] at g;exact g
section
variable{X:Cx}{pos:Pos}
theorem aaG{tg e:Expr}{f:FE}{g:TG}{fg:FG}(he:PE X e (tE X.K f))(hg:PG X tg g)(L:Bt X.K g fg)(hs:xu [tg] e pos.line X.env=pure aB:=by rfl)(hw:xx [tg] e X.env=pure aj:=by rfl)(h1:(rU [tg] X.env).map (·.2)=[assign tg X.env]:=by rfl):
  PS X (.Assign [tg] e pos) (tS X.K (Ez f fg)):=(QK he hg hs hw h1).weak λD σ H aK=>by
 obtain⟨Z,Θ,env,C,fl,env',C',S,hf,q⟩:=aK
 unfold Ez at hf;split at hf
 .rename_i r e1 C1 h1;split at hf
  .rename_i d hd;split at hf
   .rename_i e2 h2;cases hf
    refine⟨Z,Θ,env,C,r,e1,C',S,h1,λv H1 k f R=>?_⟩
    obtain⟨S1,r1⟩:=R.qY hd
    exact L Z Θ e1 C' σ H1 v d env' S1 r1 h2 D.nx λσ' S' o=>q Θ σ' H1 ⟨jV.refl _ _,vJ k,λa m=>.inl (f.own.subset (o a m)),S'⟩
   .cases hf
  .cases hf
 .cases hf
end
inductive ni(K:aF)(E H:Hp)(Θ:List ao):List ao->List Vl->List V->Prop
 |nil:ni K E H Θ [] [] []
 |cons {as:List ao} {x:Vl} {v:V} {xs:List Vl} {vs:List V}:uy K E Θ x v->ni K E H Θ as xs vs->ni K E H Θ as (x::xs) (v::vs)
 |own {as:List ao} {a:ao} {d:au} {xs:List Vl} {vs:List V}:jx E H a d->ni K E H Θ as xs vs->ni K E H Θ (as++[a]) (.ow d::xs) (.ref a::vs)
theorem ni.same{K:aF}{E E' H:Hp}{Θ as:List ao}{xs:List Vl}{vs:List V}(s:bC E E')(h:ni K E H Θ as xs vs):ni K E' H Θ as xs vs:=by
 induction h with
 |nil=>exact .nil
 |cons a _ ih=>exact .cons (a.same s) ih
 |own r _ ih=>exact .own (r.same s λ_ h=>h) ih
theorem ni.heap{K:aF}{E H H':Hp}{Θ as:List ao}{xs:List Vl}{vs:List V}(s:bC H H')(h:ni K E H Θ as xs vs):ni K E H' Θ as xs vs:=by
 induction h with
 |nil=>exact .nil
 |cons a _ ih=>exact .cons a ih
 |own r _ ih=>exact .own (r.same (bC.refl _) λo ho=>s _ _ ho) ih
inductive wO(K:aF)(f:FA)(σ:St)(H:Hp)(Q:List V->Hp->Prop):Prop
 |mk (Z Θ:List ao) (env:En) (C:Ce) (xs:List Vl) (env':En) (C':Ce) (S:Sm K Z Θ env C σ H) (hf:f env C=aa (xs,env',C')) (q:∀vs as H',aV Θ H H'->Fz env env'->(∀a∈as,H a=aj)->Sm K (as++Z) Θ env' C' σ H'->ni K (er (aX (as++Z) Θ env' σ) H') H' Θ as xs vs->Q vs H'):wO K f σ H Q
def jw(f:FE)(g:FA):FA:=λenv C=>match f env C with
 |some (r,e1,C1)=>match g e1 C1 with
  |some (xs,e2,C2)=>aa (r::xs,e2,C2)
  |none=>aj
 |none=>aj
section
variable{K:aF}{Z Z' Θ:List ao}{env:En}{C:Ce}{σ:St}{H:Hp}
theorem jf:a∈aX Z Θ env σ↔a∈Z\/a∈Θ\/a∈bJ env σ:=by rw[cF,cF]
theorem Sm.perm(S:Sm K Z Θ env C σ H)(p:Z.Perm Z'):Sm K Z' Θ env C σ H:=by
 have e:er (aX Z Θ env σ) H=er (aX Z' Θ env σ) H:=qT λa=>by rw[jf,jf,p.mem_iff]
 refine⟨S.len,(List.Perm.append_right _ p).nodup S.nd,λa m=>S.dom a (p.mem_iff.mpr m),λi x h=>?_,S.cell⟩
 rw[<-e];exact S.slot i x h
end
section
variable{X:Cx}{e:Expr}{es:List Expr}{pos:Pos}
theorem vN:PA X [] (wO X.K aW):=sO.weak λσ H Q aK=>by
 obtain⟨Z,Θ,env,C,xs,env',C',S,hf,q⟩:=aK
 cases hf;exact q [] [] H (aV.refl _ _) (Fz.refl _) (λ_ m=>nomatch m) S .nil
theorem j5(h:PE X e (tE X.K f))(hr:PA X es (wO X.K g))(hs:bD (e::es) X.env=(aB,eval e X.env)::bD es X.env:=by rfl):PA X (e::es) (wO X.K (jw f g)):=(oW h hr hs).weak λσ H Q aK=>by
 obtain⟨Z,Θ,env,C,xs,env',C',S,hf,q⟩:=aK
 unfold jw at hf;split at hf
 .rename_i r e1 C1 h1;split at hf
  .rename_i ys e2 C2 h2;cases hf
   refine⟨Z,Θ,env,C,r,e1,C1,S,h1,λv H1 k1 f1 R1=>?_⟩
   have plain:∀{x:Vl},Sm X.K Z Θ e1 C1 σ H1->uy X.K (er (aX Z Θ e1 σ) H1) Θ x v->r=x->wO X.K g σ H1 λxs H2=>Q (v::xs) H2:=λ{x} S1 a1 ex=>by
    subst ex
    refine⟨Z,Θ,e1,C1,ys,env',C',S1,h2,λvs as H2 k2 f2 n2 S2 a2=>q _ as H2 (k1.trans k2) (f1.trans f2) (λa m=>k1.none (n2 a m)) S2 (.cons (a1.same (j6 k2 S1.qC λa m=>?_)) a2)⟩
    rcases cF.mp m with m|m
    .rcases cF.mp m with m|m
     .exact .inr (n2 a m)
     .exact .inl (gK _ m)
    .exact .inl (f2.sub (Z:=Z) a (eF _ m))
   cases r with
   |im d=>exact plain (x:=.im d) R1.1 R1.2 rfl
   |ce n=>exact plain (x:=.ce n) R1.1 R1.2 rfl
   |sc ns=>exact plain (x:=.sc ns) R1.1 R1.2 rfl
   |tp=>exact R1.elim
   |ow d=>
    obtain⟨a,rfl,hn,S1,r1⟩:=R1
    refine⟨a::Z,Θ,e1,C1,ys,env',C',S1,h2,λvs as H2 k2 f2 n2 S2 a2=>?_⟩
    have ez:as++a::Z=(as++[a])++Z:=by rw[oG];rfl
    rw[ez] at S2 a2;have na:a∉Θ:=λm=>(S1.dm.2.2.2 a cV) m
    refine q _ (as++[a]) H2 (k1.trans k2) (f1.trans f2) (λb m=>?_) S2 (.own (r1.same (j6 k2 S1.qC λb m=>?_) λo ho=>k2.keep _ _ ho na) a2)
    .rcases cF.mp m with m|m
     .exact k1.none (n2 b m)
     .rw[fQ.mp m];exact hn
    .rcases cF.mp m with m|m
     .rcases cF.mp m with m|m
      .rcases cF.mp m with m|m
       .exact .inr (n2 b m)
       .rw[fQ.mp m];exact .inl cV
      .exact .inl (gK _ (dg _ m))
     .exact .inl (f2.sub (Z:=a::Z) b (eF _ m))
  .cases hf
 .cases hf
end
def setM{α:Type}:List Nat->List α->List (Option α)->List (Option α)
 |i::is,x::xs,e=>setM is xs (e.set i (aa x))
 |_,_,e=>e
theorem Qq{K:aF}{Z Θ:List ao}{C:Ce}{H:Hp}{E:Hp}:∀{as:List ao}{xs:List Vl}{vs:List V},ni K E H Θ as xs vs->∀{is:List Nat}{env:En}{σ:St},is.length=xs.length->bC E (er (aX (as++Z) Θ env σ) H)->Sm K (as++Z) Θ env C σ H->
  Sm K Z Θ (setM is xs env) C (setM is vs σ) H/\∀a∈bJ (setM is xs env) (setM is vs σ),a∈bJ env σ\/a∈as:=by
 intro as xs vs h;induction h with
 |nil=>
  intro is env σ hl _ S;cases is with
  |nil=>exact⟨S,λa m=>.inl m⟩
  |cons _ _=>cases hl
 |@cons as x v xs vs a1 _ ih=>
  intro is env σ hl sm S;cases is with
  |nil=>cases hl
  |cons i is=>
   have hx:∀d,x≠.ow d:=λd z=>by subst z;exact a1
   have sl:Bh K (er (aX (as++Z) Θ env σ) H) H Θ x v:=by
    have a2:=a1.same sm;cases x with
    |im d=>exact a2
    |ow d=>exact absurd rfl (hx d)
    |ce n=>exact a2
    |sc ns=>exact a2
    |tp=>exact a2
   have S1:Sm K (as++Z) Θ (env.set i (aa x)) C (σ.set i (aa v)) H:=S.Bm hx sl;have o1:∀b∈bJ (env.set i (aa x)) (σ.set i (aa v)),b∈bJ env σ:=λb m=>by
    rcases xX m with m|⟨⟨d,z⟩,_⟩
    .exact m
    .exact absurd z (hx d)
   obtain⟨S2,o2⟩:=ih (is:=is) (by simpa using hl) (sm.trans (aaF o1)) S1
   refine⟨S2,λb m=>?_⟩
   rcases o2 b m with m|m
   .exact .inl (o1 b m)
   .exact .inr m
 |@own as a d xs vs r _ ih=>
  intro is env σ hl sm S;cases is with
  |nil=>cases hl
  |cons i is=>
   have pm:((as++[a])++Z).Perm (a::(as++Z)):=by
    rw[oG];exact List.perm_middle
   have S0:=S.perm pm;have ee:er (aX ((as++[a])++Z) Θ env σ) H=er (aX (a::(as++Z)) Θ env σ) H:=qT λb=>by rw[jf,jf,pm.mem_iff]
   rw[ee] at sm;have S1:Sm K (as++Z) Θ (env.set i (aa (.ow d))) C (σ.set i (aa (.ref a))) H:=S0.abL (r.same sm λ_ h=>h);have o1:∀b∈bJ (env.set i (aa (.ow d))) (σ.set i (aa (.ref a))),b∈bJ env σ\/b=a:=λb m=>by
    rcases xX m with m|⟨_,z⟩
    .exact .inl m
    .cases z;exact .inr rfl
   obtain⟨S2,o2⟩:=ih (is:=is) (by simpa using hl) (sm.trans (sW λb m=>by
    rcases cF.mp m with m|m
    .exact gK _ (dg _ m)
    .rcases cF.mp m with m|m
     .exact eF _ (gK _ m)
     .rcases o1 b m with m|rfl
      .exact eF _ (eF _ m)
      .exact gK _ cV)) S1
   refine⟨S2,λb m=>?_⟩
   rcases o2 b m with m|m
   .rcases o1 b m with m|rfl
    .exact .inl m
    .exact .inr (eF _ (fQ.mpr rfl))
   .exact .inr (gK _ m)
theorem Ji{K:aF}{E H:Hp}{Θ as:List ao}{xs:List Vl}{vs:List V}(h:ni K E H Θ as xs vs):vs.length=xs.length:=by
 induction h with
 |nil=>rfl
 |cons _ _ ih=>rw[cL,cL,ih]
 |own _ _ ih=>rw[cL,cL,ih]
def nA(is:List Nat)(g:FA):FS:=λenv C=>match g env C with
 |some (xs,e1,C1)=>if is.length=xs.length/\xs.length<=eZ then aa (.nx,setM is xs e1,C1) else aj
 |none=>aj
def TJ(is:List Nat):uO:=match is with
 |[]=>R8
 |i::r=>Rz (vQ i) (TJ r)
theorem ZR:∀{is:List Nat}{vs:List V}{σ:St}{H:Hp}{Q:St->Hp->Prop},is.length=vs.length->Q (setM is vs σ) H->TJ is vs σ H Q
 |[],[],σ,H,Q,_,q=>⟨rfl,q⟩
 |i::is,v::vs,σ,H,Q,h,q=>⟨v,vs,rfl,ZR (by simpa using h) q⟩
 |[],_::_,_,_,_,h,_=>by cases h
 |_::_,[],_,_,_,h,_=>by cases h
section
variable{X:Cx}{pos:Pos}
theorem DQ{i j:Nat}{x y:Str}{a b:Expr}{g:FA}{px py pt:Pos}{kt k2 nC}(hc:X.calm=aq)(hN:X.N.Nodup)(hi:X.N[i]?=aa x)(hj:X.N[j]?=aa y)(hij:i≠j)
  (hx:X.env.scope.names.lookup x=aa .local)(hy:X.env.scope.names.lookup y=aa .local)(ha:PA X [a,b] (wO X.K g))
  (hw:xx [.Tuple [.Name x px,.Name y py] kt pt] (.Tuple [a,b] k2 nC) X.env=pure (aa [x,y]))
  (hs:xu [.Tuple [.Name x px,.Name y py] kt pt] (.Tuple [a,b] k2 nC) pos.line X.env=pure aB:=by rfl):
  PS X (.Assign [.Tuple [.Name x px,.Name y py] kt pt] (.Tuple [a,b] k2 nC) pos) (tS X.K (nA [i,j] g)):=(aj1 hc hN hi hj hij hx hy ha hw hs).weak λD σ H aK=>by
 obtain⟨Z,Θ,env,C,fl,env',C',S,hf,q⟩:=aK
 unfold nA at hf;split at hf
 .rename_i xs e1 C1 h1;split at hf
  .rename_i hl;cases hf
   refine⟨Z,Θ,env,C,xs,e1,C',S,h1,λvs as H1 k1 f1 n1 S1 a1=>?_⟩
   have l2:=Ji a1
   obtain⟨S2,o2⟩:=Qq a1 hl.1 (bC.refl _) S1
   have e2:∃v w,vs=[v,w]:=by
    have:vs.length=2:=by rw[l2,<-hl.1];rfl
    match vs,this with
    |[v,w],_=>exact⟨v,w,rfl⟩
   obtain⟨v,w,rfl⟩:=e2
   refine⟨v,w,rfl,q Θ _ H1 ⟨jV.refl _ _,vJ k1,λb m=>?_,S2⟩⟩
   rcases o2 b m with m|m
   .exact .inl (f1.own.subset m)
   .exact .inr (n1 b m)
  .cases hf
 .cases hf
theorem ZS{tg:Expr}{es:List Expr}{g:FA}{is:List Nat}{n:Nat}{x1 pt}(ha:PA X es (wO X.K g))(hg:PG X tg (R9 X.K n (TJ is)))(hn:n=is.length:=by rfl)
  (hs:xu [tg] (.Tuple es x1 pt) pos.line X.env=pure aB:=by rfl)(hw:xx [tg] (.Tuple es x1 pt) X.env=pure aj:=by rfl)(h1:(rU [tg] X.env).map (·.2)=[assign tg X.env]:=by rfl):
  PS X (.Assign [tg] (.Tuple es x1 pt) pos) (tS X.K (nA is g)):=(QK (QM ha) hg hs hw h1).weak λD σ H aK=>by
 obtain⟨Z,Θ,env,C,fl,env',C',S,hf,q⟩:=aK
 unfold nA at hf;split at hf
 .rename_i xs e1 C1 h1;split at hf
  .rename_i hl;cases hf
   refine⟨Z,Θ,env,C,xs,e1,C',S,h1,λvs as H1 k1 f1 n1 S1 a1=>⟨by rw[Ji a1];exact qg hl.2,λp hp=>?_⟩⟩
   have l2:=Ji a1
   refine⟨p,vs,rfl,bW.of eN,by rw[l2,hn,hl.1],ZR (by rw[hl.1,l2]) ?_⟩
   have kp:aV Θ H1 (upd H1 p (.tup vs)):=aV.upd hp;have S1':=S1.yx (bC.upd (o:=.tup vs) hp);have a1':ni X.K (er (aX (as++Z) Θ e1 σ) H1) (upd H1 p (.tup vs)) Θ as xs vs:=a1.heap λb o ho=>by rw[cI (oO ho hp)];exact ho
   obtain⟨S2,o2⟩:=Qq a1' hl.1 (j6 kp S1.qC λb m=>.inl m) S1'
   refine q Θ _ _ ⟨jV.refl _ _,vJ (k1.trans kp),λb m=>?_,S2⟩;rcases o2 b m with m|m
   .exact .inl (f1.own.subset m)
   .exact .inr (n1 b m)
  .cases hf
 .cases hf
end
theorem YD:∀{env:En}{σ:St}{i:Nat}{d d':au},env[i]?=aa (aa (.ow d))->bJ (env.set i (aa (.ow d'))) σ=bJ env σ
 |[],σ,i,d,d',h=>by simp at h
 |x::e,[],i,d,d',h=>by cases i<;>rfl
 |x::e,v::s,0,d,d',h=>by
  simp at h;subst h;show own1 (aa (.ow d')) v++bJ e s=own1 (aa (.ow d)) v++bJ e s;rcases v with _|v
  .rfl
  .cases v<;>rfl
 |x::e,v::s,i+1,d,d',h=>by
  show own1 x v++bJ (e.set i (aa (.ow d'))) s=own1 x v++bJ e s;rw[YD (by simpa using h)]
section
variable{K:aF}{Z Θ:List ao}{env:En}{C:Ce}{σ:St}{H:Hp}{a:ao}{i:Nat}{d d':au}{o:HO}
theorem QZ(h:a∈P):er P (upd H a o)=er P H:=by
 funext b;unfold er;by_cases hb:b=a
 .subst hb;rw[aY h,aY h]
 .rw[cI hb]
theorem Sm.write(S:Sm K Z Θ env C σ H)(e1:env[i]?=aa (aa (.ow d)))(e2:σ[i]?=aa (aa (.ref a)))(r:jx (er (aX Z Θ env σ) H) (upd H a o) a d'):dY K Z Θ env σ H Θ (env.set i (aa (.ow d'))) C σ (upd H a o):=by
 have m:a∈bJ env σ:=lX.mpr ⟨i,d,e1,e2⟩;have no:=S.mX m;have eo:bJ (env.set i (aa (.ow d'))) σ=bJ env σ:=YD e1;have mp:a∈aX Z Θ env σ:=eF _ (eF _ m);have ep:aX Z Θ (env.set i (aa (.ow d'))) σ=aX Z Θ env σ:=by show _++(_++_)=_;rw[eo]
 refine⟨jV.refl _ _,⟨λb u hb n=>?_,λb hb=>?_⟩,λb mb=>.inl (by rw[eo] at mb;exact mb),⟨by rw[vg];exact S.len,by rw[ep];exact S.nd,λb mb=>?_,λj y ej=>?_,⟨S.cell.len,λn b ns h1 h2=>?_⟩⟩⟩
 .rw[cI (λz=>n (eF _ (by rw[z];exact m)))];exact hb
 .by_cases z:b=a
  .subst z;rw[eN];exact vd _
  .rw[cI z];exact hb
 .rw[cI (λz=>no.1 (by rw[<-z];exact mb))];exact S.dom b mb
 .rw[ep,QZ mp];rcases get_set ej with⟨rfl,ex,hl⟩|⟨n,ej⟩
  .cases ex
   exact⟨_,e2,a,rfl,r⟩
  .obtain⟨v,e3,r3⟩:=S.slot j y ej
   refine⟨v,e3,r3.same (bC.refl _) λd2 b ex ev u hu=>?_⟩
   subst ex ev;rw[cI]
   .exact hu
   .intro z;subst z;exact n (Dj S.dm.2.2.1 ej e3 e1 e2)
 .rw[cI (λz=>no.2 (by rw[<-z];exact jY h1))];exact S.cell.at_ n b ns h1 h2
end
def tH:Option (Option Vl)->Bool
 |some (some (.ow (.list _)))=>aq
 |_=>aB
def mG(i:Nat)(f:FE):FS:=λenv C=>if tH env[i]? then match f env C with
  |some (r,e1,C1)=>match still r,e1[i]? with
   |.im d,some (some (.ow (.list ds)))=>if ds.length<eZ then aa (.nx,e1.set i (aa (.ow (.list (ds++[d])))),C1) else aj
   |_,_=>aj
  |none=>aj
 else aj
theorem ahC(h:tH x=aq):∃ds,x=aa (aa (.ow (.list ds))):=by
 unfold tH at h;split at h
 .exact⟨_,rfl⟩
 .cases h
section
variable{X:Cx}{pos:Pos}
theorem yh(ho:PE X o (tK i))(he:PE X e (tE X.K f))
  (hs0:vz (.Call (.Attribute o "append" apos) [e] [] cpos) aj pos.line X.env=pure aB:=by rfl)
  (hbase:G4 o "append" X.env (eval o X.env)=eval o X.env:=by rfl)
  (hfew:((gO cpos (bD [e] X.env)).all (λx=>!x.1)&&(Ib cpos (Hh [] X.env)).all (λx=>x.1.isSome)
   &&decide (([e]:List Expr).length+([]:List su).length+(if([]:List su).isEmpty then 0 else 1)<30))=aq:=by rfl)
  (hline:(apos.endLine==cpos.line)=aq:=by rfl)(hs:bD [e] X.env=(aB,eval e X.env)::bD [] X.env:=by rfl)(hplain:(gO cpos (bD [] X.env)).any (·.1)=aB:=by rfl):
  PS X (.Expr (.Call (.Attribute o "append" apos) [e] [] cpos) pos) (tS X.K (mG i f)):=
 (aie (aa1 PySem.F.plainAttrs_list adI PySem.F.type_list_append (Br.r Xh) ho (oW he sO hs) hbase hfew hline hs hplain) hs0).weak λD σ H aK=>by
  obtain⟨Z,Θ,env,C,fl,env',C',S,hf,q⟩:=aK
  unfold mG at hf;split at hf
  .rename_i h0
   obtain⟨ds0,h0⟩:=ahC h0
   obtain⟨v0,TQ,a,rfl,vs0,ha0,r0⟩:=S.slot i _ h0
   split at hf
   .rename_i r e1 C1 h1;split at hf
    .rename_i d ds hd hi;split at hf
     .rename_i hl;cases hf
      refine⟨_,TQ,.inl ⟨rfl,vs0,bG.of ha0⟩,Z,Θ,env,C,r,e1,C',S,h1,λv H1 k f R=>?_⟩
      obtain⟨S1,r1⟩:=R.qY hd
      obtain⟨v1,ev1,a1,ea1,vs,ha1,r2⟩:=S1.slot i _ hi
      subst ea1;rw[TQ] at ev1;cases ev1
      refine⟨a,vs,v,rfl,rfl,ha1,by rw[iw r2,jo];unfold eZ at hl;lia,?_⟩
      have w:dY X.K Z Θ e1 σ H1 Θ (e1.set i (aa (.ow (.list (ds++[d]))))) C' σ (upd H1 a (.lst (vs++[v]))):=S1.write hi TQ ⟨_,eN,Ad r2 ⟨v,[],rfl,r1,rfl⟩⟩;exact q Θ σ _ ((dY.tV k f S1).trans w)
     .cases hf
    .cases hf
   .cases hf
  .cases hf
def mH{κ:Type}[DecidableEq κ](f:au->Option κ)(k:κ)(dk d:au)(kvs:List (au×au)):List (au×au):=
 if(kvs.any λp=>decide (f p.1=aa k))=aq then kvs.map (λp=>if f p.1=aa k then(p.1,d) else p) else kvs++[(dk,d)]
def putD(kvs:List (au×au))(dk d:au):Option (List (au×au)):=match dD dk with
 |some k=>if(cg dD kvs).isSome then aa (mH dD k dk d kvs) else aj
 |none=>match gB dk with
  |some ks=>if(cg gB kvs).isSome then aa (mH gB ks dk d kvs) else aj
  |none=>aj
theorem ZV[DecidableEq κ]:∀{kvs:List (au×au)}{ks:List κ}{vs:List V},cg f kvs=aa ks->gG E kvs vs->(kvs.any λp=>decide (f p.1=aa k))=((ks.zip vs).any λkv=>decide (kv.1=k))
 |[],ks,vs,h,r=>by
  cases h
  cases(show vs=[] from r)
  rfl
 |(p,d)::kvs,ks,vs,h,r=>by
  unfold cg at h;split at h
  .rename_i k' t h1 h2;cases h
   obtain⟨v,w,rfl,q,s⟩:=r
   show(decide (f p=aa k)||_)=(decide (k'=k)||_)
   rw[ZV h2 s,h1];congr 1;rw[qK,decide_eq_true_iff,decide_eq_true_iff]
   exact⟨λe=>fU e,λe=>by rw[e]⟩
  .cases h
theorem ZW[DecidableEq κ](hv:RZ E d v):∀{kvs:List (au×au)}{ks:List κ}{vs:List V},cg f kvs=aa ks->gG E kvs vs->
  ∃vs',cg f (kvs.map λp=>if f p.1=aa k then(p.1,d) else p)=aa ks/\gG E (kvs.map λp=>if f p.1=aa k then(p.1,d) else p) vs'/\ks.zip vs'=(ks.zip vs).map λkv=>if kv.1=k then(kv.1,v) else kv
 |[],ks,vs,h,r=>by
  cases h
  exact⟨[],rfl,rfl,rfl⟩
 |(p,e)::kvs,ks,vs,h,r=>by
  unfold cg at h;split at h
  .rename_i k' t h1 h2;cases h
   obtain⟨u,w,rfl,q,s⟩:=r
   obtain⟨vs',g1,g2,g3⟩:=ZW (k:=k) hv h2 s
   have h1':f p=aa k':=h1;by_cases ek:k'=k
   .subst ek
    refine⟨v::vs',?_,?_,?_⟩
    .rw[cB];show cg f ((if f p=aa k' then(p,d) else(p,e))::_)=_;rw[aY h1'];unfold cg;rw[g1];simp only[h1']
    .rw[cB];show gG E ((if f p=aa k' then(p,d) else(p,e))::_) _;rw[aY h1']
     exact⟨v,vs',rfl,hv,g2⟩
    .show(k',v)::t.zip vs'=(if k'=k' then(k',v) else(k',u))::_
     rw[aY rfl,g3];rfl
   .have ne:¬f p=aa k:=λz=>ek (fU (h1'.symm.trans z))
    refine⟨u::vs',?_,?_,?_⟩
    .rw[cB];show cg f ((if f p=aa k then(p,d) else(p,e))::_)=_;rw[bw ne];unfold cg;rw[g1];simp only[h1']
    .rw[cB];show gG E ((if f p=aa k then(p,d) else(p,e))::_) _;rw[bw ne]
     exact⟨u,vs',rfl,q,g2⟩
    .show(k',u)::t.zip vs'=(if k'=k then(k',v) else(k',u))::_
     rw[bw ek,g3];rfl
  .cases h
theorem YF{κ:Type}{f:au->Option κ}{k:κ}{E:Hp}{dk d:au}{v:V}(hk:f dk=aa k)(hv:RZ E d v):∀{kvs:List (au×au)}{ks:List κ}{vs:List V},cg f kvs=aa ks->gG E kvs vs->
  cg f (kvs++[(dk,d)])=aa (ks++[k])/\gG E (kvs++[(dk,d)]) (vs++[v])/\(ks++[k]).zip (vs++[v])=ks.zip vs++[(k,v)]
 |[],ks,vs,h,r=>by
  cases h
  cases(show vs=[] from r)
  refine⟨?_,⟨v,[],rfl,hv,rfl⟩,rfl⟩
  show cg f [(dk,d)]=_;unfold cg cg;simp only[hk];rfl
 |(p,e)::kvs,ks,vs,h,r=>by
  unfold cg at h;split at h
  .rename_i k' t h1 h2;cases h
   obtain⟨u,w,rfl,q,s⟩:=r
   obtain⟨g1,g2,g3⟩:=YF hk hv h2 s
   refine⟨?_,⟨u,_,rfl,q,g2⟩,?_⟩
   .show cg f ((p,e)::(kvs++[(dk,d)]))=_;unfold cg;rw[g1];simp only[show f p=aa k' from h1];rfl
   .show(k',u)::(t++[k]).zip (w++[v])=_
    rw[g3];rfl
  .cases h
theorem Jj{κ:Type}[DecidableEq κ]{f:au->Option κ}{k:κ}{E:Hp}{dk d:au}{v:V}(hk:f dk=aa k)(hv:RZ E d v){kvs:List (au×au)}{ks:List κ}{vs:List V}(h:cg f kvs=aa ks)(r:gG E kvs vs):
  ∃ks' vs',cg f (mH f k dk d kvs)=aa ks'/\gG E (mH f k dk d kvs) vs'/\ks'.zip vs'=putK (ks.zip vs) k v:=by
 unfold mH putK;rw[ZV h r];split
 .obtain⟨vs',g1,g2,g3⟩:=ZW (k:=k) hv h r
  exact⟨ks,vs',g1,g2,g3⟩
 .obtain⟨g1,g2,g3⟩:=YF hk hv h r
  exact⟨_,_,g1,g2,g3⟩
theorem set_dict(hu:X.A.units+1<dB):uD X (λo i v H Q=>∃a H',o=.ref a/\rA H a i v H'/\∀e,Q (H' e)):=by
 intro pins s σ H o i v ov iv u Q I ro ri rv h
 obtain⟨a,H',rfl,g,q⟩:=h
 cases ro;exact Xj hu I g ri rv λe s' I'=>⟨H' e,I',q e⟩
theorem agF(hu:X.A.units+1<dB):uD X (λo i v H Q=>∃(a b:ao)(ks:List Key),o=.ref a/\(∃ep,H a=aa (.dK [] ep))/\i=.ref b/\H b=aa (.tup (ks.map kV))/\∀e,Q (upd H a (.dT [(ks,v)] e))):=by
 intro pins s σ H o i v ov iv u Q I ro ri rv h
 obtain⟨a,b,ks,rfl,⟨ep,ha⟩,rfl,hb,q⟩:=h
 cases ro;have hb':(upd H a (.dT [] ep)) b=aa (.tup (ks.map kV)):=by rw[cI (Rx hb ha (λz=>nomatch z))];exact hb
 refine Xj hu (I.FQ ha) (rA.t (kvs:=[]) (k:=ks) (v:=v) eN hb' (by rw[jo];decide)) ri rv λe s' I'=>⟨_,I',?_⟩
 show Q (upd (upd H a (.dT [] ep)) a _);rw[Zd];exact q e
theorem uD.or(h:uD X t)(h':uD X t'):uD X (λo i v H Q=>t o i v H Q\/t' o i v H Q):=by
 intro pins s σ H o i v ov iv u Q I ro ri rv q;rcases q with q|q
 .exact h pins s σ H o i v ov iv u Q I ro ri rv q
 .exact h' pins s σ H o i v ov iv u Q I ro ri rv q
theorem aiK(hu:X.A.units+1<dB):uD X (λo i v H Q=>(RG o i v H Q\/∃a H',o=.ref a/\rA H a i v H'/\∀e,Q (H' e))\/∃(a b:ao)(ks:List Key),o=.ref a/\(∃ep,H a=aa (.dK [] ep))/\i=.ref b/\H b=aa (.tup (ks.map kV))/\∀e,Q (upd H a (.dT [(ks,v)] e))):=
 (set_list.or (set_dict hu)).or (agF hu)
def uA:Option (Option Vl)->Bool
 |some (some _)=>aq
 |_=>aB
theorem aiL(h:uA x=aq):∃y,x=aa (aa y):=by
 unfold uA at h;split at h
 .exact⟨_,rfl⟩
 .cases h
def Bo(i:Nat)(d dk:au)(e:En)(C:Ce):Option Vl->Option (Fl×En×Ce)
 |some (.ow (.list ds))=>(intD dk).bind λz=>(nD ds.length z).bind λj=>aa (.nx,e.set i (aa (.ow (.list (ds.set j d)))),C)
 |some (.ow (.dict kvs))=>(putD kvs dk d).bind λkvs'=>bif decide (kvs.length<eZ) then aa (.nx,e.set i (aa (.ow (.dict kvs'))),C) else aj
 |some (.ce n)=>(intD dk).bind λz=>(intD d).bind λy=>(C[n]?).bind λns=>(nD ns.length z).bind λj=>aa (.nx,e,C.set n (ns.set j y))
 |_=>aj
def rD(i:Nat)(fk:FB)(fe:FE):FS:=λenv C=>(fe env C).bind λp=>(tU (still p.1)).bind λd=>(fk p.2.1 p.2.2).bind λk=>bif uA p.2.1[i]? then(k.2.1[i]?).bind (Bo i d k.1 k.2.1 k.2.2) else aj
def Eh(o i v:V)(H:Hp)(Q:Hp->Prop):Prop:=(RG o i v H Q\/∃a H',o=.ref a/\rA H a i v H'/\∀e,Q (H' e))\/∃(a b:ao)(ks:List Key),o=.ref a/\(∃ep,H a=aa (.dK [] ep))/\i=.ref b/\H b=aa (.tup (ks.map kV))/\∀e,Q (upd H a (.dT [(ks,v)] e))
section
variable{K:aF}{Z Θ:List ao}{e2:En}{C2:Ce}{σ:St}{H2:Hp}{i:Nat}{d dk:au}{v w:V}{a:ao}{R:Hp->Prop}{p:Fl×En×Ce}
theorem ahD(S2:Sm K Z Θ e2 C2 σ H2)(eu:σ[i]?=aa (aa (.ref a)))(hi:e2[i]?=aa (aa (.ow (.list ds))))(rt:jx (er (aX Z Θ e2 σ) H2) H2 a (.list ds))(r2:RZ (er (aX Z Θ e2 σ) H2) d v)(b2:eU Z Θ e2 σ H2 dk w)(hf:Bo i d dk e2 C2 (aa (.ow (.list ds)))=aa p):
  p.1=.nx/\((∀Hx,dY K Z Θ e2 σ H2 Θ p.2.1 p.2.2 σ Hx->R Hx)->Eh (.ref a) w v H2 R):=by
 obtain⟨z,hz,hf⟩:=jg hf
 obtain⟨j,hj,hf⟩:=jg hf
 cases hf;have hz:=Qm hz;subst hz
 obtain⟨vs,ha,r3⟩:=rt
 have b2:w=.int z:=b2;subst b2
 exact⟨rfl,λq=>.inl (.inl ⟨a,vs,z,j,rfl,rfl,ha,by rw[iw r3];exact hj,q _ (S2.write hi eu ⟨_,eN,ZG r2 j r3⟩)⟩)⟩
theorem ZX(kvs:List (au×au)):mH gB TV dk d kvs≠[]:=λz=>by
 unfold mH at z;split at z
 .rename_i hz;cases kvs with
  |nil=>cases hz
  |cons _ _=>cases z
 .cases kvs<;>cases z
theorem ahE{kvs:List (au×au)}(S2:Sm K Z Θ e2 C2 σ H2)(eu:σ[i]?=aa (aa (.ref a)))(hi:e2[i]?=aa (aa (.ow (.dict kvs))))(rt:jx (er (aX Z Θ e2 σ) H2) H2 a (.dict kvs))(r2:RZ (er (aX Z Θ e2 σ) H2) d v)(b2:eU Z Θ e2 σ H2 dk w)(hf:Bo i d dk e2 C2 (aa (.ow (.dict kvs)))=aa p):
  p.1=.nx/\((∀Hx,dY K Z Θ e2 σ H2 Θ p.2.1 p.2.2 σ Hx->R Hx)->Eh (.ref a) w v H2 R):=by
 refine hide λGG gg=>?_
 obtain⟨kvs',hp,hf⟩:=jg hf
 cases hl:decide (kvs.length<eZ) with
 |false=>rw[hl] at hf;cases hf
 |true=>
 rw[hl] at hf;cases hf;have hl:=of_decide_eq_true hl;have hl':∀{κ:Type}(ks:List κ)(vs:List V),ks.length=kvs.length->(ks.zip vs).length<bL:=λks vs e=>by
  rw[zx,jo,e];unfold eZ at hl;lia
 obtain⟨vs,da,r3⟩:=rt
 unfold putD at hp;split at hp
 .rename_i k hk;split at hp
  case isFalse=>cases hp
  rename_i hs';cases hp;have wk:w=kV k:=by
   cases dk<;>first|(cases hk;exact b2)|cases hk
  rcases da with⟨ks,g1,ep,ha⟩|⟨ks,⟨ne,g2⟩,ha⟩
  .obtain⟨ks',vs',g3,g4,g5⟩:=Jj hk r2 g1 r3
   subst wk;exact gg ⟨rfl,λq=>.inl (.inr ⟨a,_,rfl,rA.k (k:=k) (v:=v) ha (hl' ks vs (rZ g1)),λe=>q _ (S2.write hi eu ⟨vs',.inl ⟨ks',g3,e,by rw[g5];exact eN⟩,g4⟩)⟩)⟩
  .obtain⟨amo,g1⟩:=wW.mp hs'
   exact absurd (xR g1 g2) ne
 .split at hp
  case h_2=>cases hp
  rename_i TV hks;split at hp
  case isFalse=>cases hp
  rename_i hs';cases hp
  obtain⟨b,hb,rfl⟩:∃b,H2 b=aa (.tup (TV.map kV))/\w=.ref b:=by
   cases dk<;>first|cases hks|skip
   obtain⟨b,ws,rfl,hb,rr⟩:=b2.tup
   rw[xP hks rr] at hb
   exact⟨b,hb,rfl⟩
  rcases da with⟨ks,g1,ha⟩|⟨ks,⟨ne,g1⟩,ep,ha⟩
  .obtain⟨amo,g2⟩:=wW.mp hs'
   have e0:=xR g1 g2;subst e0;cases g1;have e0:vs=[]:=r3;subst e0
   obtain⟨ks',vs',g3,g4,g5⟩:=Jj (kvs:=[]) (vs:=[]) (ks:=[]) hks r2 rfl rfl
   exact gg ⟨rfl,λq=>.inr ⟨a,b,TV,rfl,ha,rfl,hb,λe=>q _ (S2.write hi eu ⟨vs',.inr ⟨ks',⟨ZX [],g3⟩,e,by rw[g5];exact eN⟩,g4⟩)⟩⟩
  .obtain⟨ks',vs',g3,g4,g5⟩:=Jj hks r2 g1 r3
   exact gg ⟨rfl,λq=>.inl (.inr ⟨a,_,rfl,rA.t ha hb (hl' ks vs (rZ g1)),λe=>q _ (S2.write hi eu ⟨vs',.inr ⟨ks',⟨ZX kvs,g3⟩,e,by rw[g5];exact eN⟩,g4⟩)⟩)⟩
theorem ahF(S2:Sm K Z Θ e2 C2 σ H2)(hth:Θ[n]?=aa a)(r2:RZ (er (aX Z Θ e2 σ) H2) d v)(b2:eU Z Θ e2 σ H2 dk w)(hf:Bo i d dk e2 C2 (aa (.ce n))=aa p):
  p.1=.nx/\((∀Hx,dY K Z Θ e2 σ H2 Θ p.2.1 p.2.2 σ Hx->R Hx)->Eh (.ref a) w v H2 R):=by
 refine hide λGG gg=>?_
 obtain⟨z,hz,hf⟩:=jg hf
 obtain⟨y,hy,hf⟩:=jg hf
 obtain⟨ns,hns,hf⟩:=jg hf
 obtain⟨j,hj,hf⟩:=jg hf
 cases hf;have hz:=Qm hz;have hy:=Qm hy;subst hz hy;have b2:w=.int z:=b2;have ev:v=.int y:=r2;subst ev b2;have ha:=S2.cell.at_ n a ns hth hns;have am:a∈Θ:=jY hth;refine gg ⟨rfl,λq=>.inl (.inl ⟨a,_,z,j,rfl,rfl,ha,by rw[bh];exact hj,q _ ?_⟩)⟩;have kc:aV Θ H2 (upd H2 a (.lst ((ns.map V.int).set j (.int y)))):=⟨λb o hb nb=>by rw[cI (λzz=>nb (by rw[zz];exact am))];exact hb,λb hb=>by
  by_cases zz:b=a
  .subst zz;rw[eN];exact vd _
  .rw[cI zz];exact hb⟩
 refine dY.tV kc (Fz.refl _) (S2.go kc ⟨by rw[vg];exact S2.cell.len,λm b ms h5 h6=>?_⟩);rcases get_set h6 with⟨rfl,e6,_⟩|⟨nm,h6⟩
 .rw[hth] at h5;cases h5;cases e6;rw[eN,List.map_set]
 .rw[cI]
  .exact S2.cell.at_ m b ms h5 h6
  .intro zz;subst zz
   obtain⟨l1,l1'⟩:=f9.mp h5
   obtain⟨l2,l2'⟩:=f9.mp hth
   rcases Vk m n with hlt|heq|hgt
   .exact uY.mp S2.dm.2.1 m n l1 l2 hlt (l1'.trans l2'.symm)
   .exact nm heq
   .exact uY.mp S2.dm.2.1 n m l2 l1 hgt (l2'.trans l1'.symm)
theorem aiM(S2:Sm K Z Θ e2 C2 σ H2)(eu:σ[i]?=aa (aa u))(hi:e2[i]?=aa s)(r2:RZ (er (aX Z Θ e2 σ) H2) d v)(b2:eU Z Θ e2 σ H2 dk w)(hf:Bo i d dk e2 C2 s=aa p):
  p.1=.nx/\((∀Hx,dY K Z Θ e2 σ H2 Θ p.2.1 p.2.2 σ Hx->R Hx)->Eh u w v H2 R):=by
 cases s with
 |none=>cases hf
 |some s=>
 obtain⟨u',eu',sl⟩:=S2.slot i _ hi
 rw[eu] at eu';cases eu';cases s with
 |im _=>cases hf
 |sc _=>cases hf
 |tp=>cases hf
 |ce n=>
  obtain⟨a,rfl,hth⟩:=sl
  exact ahF S2 hth r2 b2 hf
 |ow x=>
  obtain⟨a,rfl,rt⟩:=sl
  cases x<;>first|exact ahD S2 eu hi rt r2 b2 hf|exact ahE S2 eu hi rt r2 b2 hf|cases hf
end
theorem DR(hu:X.A.units+1<dB)(ho:PE X o (tK i))(hk:PE X k (gn X.K fk))(he:PE X e (tE X.K fe))
  (ha:∀v,assign (.Subscript o k p) X.env v=(do
   let ov <-oV [v] (eval o X.env)
   let iv <-oV [v,ov] (eval k X.env)
   zZ p
   oV [v,ov,iv] (setItem ov iv v)
   release [v,ov,iv] []):=by intro _;rfl)
  (hs:xu [.Subscript o k p] e pos.line X.env=pure aB:=by rfl)(hw:xx [.Subscript o k p] e X.env=pure aj:=by rfl)(h1:(rU [.Subscript o k p] X.env).map (·.2)=[assign (.Subscript o k p) X.env]:=by rfl):
  PS X (.Assign [.Subscript o k p] e pos) (tS X.K (rD i fk fe)):=(QK he (aj0 (t:=Eh) ho hk (aiK hu) ha) hs hw h1).weak λD σ H aK=>by
 obtain⟨Z,Θ,env,C,fl,env',C',S,hf,q⟩:=aK
 obtain⟨p,h1,hf⟩:=jg hf
 obtain⟨d,hd,hf⟩:=jg hf
 obtain⟨kp,h2,hf⟩:=jg hf
 cases h3:uA p.2.1[i]? with
 |false=>rw[h3] at hf;cases hf
 |true=>
 rw[h3] at hf
 obtain⟨s,hi,hf⟩:=jg hf
 obtain⟨y3,h3⟩:=aiL h3
 refine⟨Z,Θ,env,C,p.1,p.2.1,p.2.2,S,h1,λv H1 k1 f1 R1=>?_⟩
 obtain⟨S1,r1⟩:=R1.qY (DG hd)
 obtain⟨u,eu,_⟩:=S1.slot i _ h3
 refine⟨u,eu,Z,Θ,p.2.1,p.2.2,kp.1,kp.2.1,kp.2.2,S1,h2,λw H2 k2 f2 S2 b2=>?_⟩
 obtain⟨e0,go⟩:=aiM (R:=λHx=>D.nx σ Hx) S2 eu hi (r1.same (RJ S1 k2 f2)) b2 hf
 have e0:fl=.nx:=e0;subst e0;exact go λHx st=>q Θ σ _ ((dY.tV (k1.trans k2) (f1.trans f2) S2).trans st)
end
def intsOf:List au->Option (List Int)
 |[]=>aa []
 |.int i::r=>match intsOf r with
  |some t=>aa (i::t)
  |none=>aj
 |_=>aj
theorem Il:∀{ds:List au}{ns:List Int}{vs:List V},intsOf ds=aa ns->bY E ds vs->vs=ns.map V.int
 |[],ns,vs,h,r=>by cases h;exact r
 |.int i::ds,ns,vs,h,r=>by
  unfold intsOf at h;split at h
  .rename_i t ht;cases h
   obtain⟨u,w,rfl,q,s⟩:=r
   rw[Il ht s];have:u=.int i:=q;rw[this];rfl
  .cases h
 |.none::_,_,_,h,_=>by cases h
 |.bool _::_,_,_,h,_=>by cases h
 |.str _::_,_,_,h,_=>by cases h
 |.list _::_,_,_,h,_=>by cases h
 |.tuple _::_,_,_,h,_=>by cases h
 |.dict _::_,_,_,h,_=>by cases h
def EY(i:Nat)(f:FE):FS:=λenv C=>match f env C with
 |some (.ow (.list ds),e1,C1)=>match intsOf ds with
  |some ns=>aa (.nx,e1.set i (aa (.ce C1.length)),C1++[ns])
  |none=>aj
 |_=>aj
section
variable{X:Cx}{pos:Pos}
theorem Sm.akB{K:aF}{Z Θ:List ao}{e1:En}{C1:Ce}{σ:St}{H1:Hp}{a:ao}{ns:List Int}(S1:Sm K (a::Z) Θ e1 C1 σ H1)(ha:H1 a=aa (.lst (ns.map V.int))):Sm K Z (Θ++[a]) e1 (C1++[ns]) σ H1:=by
 have dm:=S1.dm;have FW:=j0.mp dm.1;have cl:=S1.cell.len;have c':oY (Θ++[a]) (C1++[ns]) H1:=by
  refine⟨by rw[lO,lO,cl];rfl,λm b ms h5 h6=>?_⟩
  by_cases hm:m<Θ.length
  .rw[ou hm] at h5;rw[ou (by rw[cl];exact hm)] at h6;exact S1.cell.at_ m b ms h5 h6
  .rw[oh (by lia)] at h5;rw[oh (by lia)] at h6;rw[cl] at h6;cases hm0:m-Θ.length with
   |zero=>rw[hm0] at h5 h6;cases h5;cases h6;exact ha
   |succ j=>rw[hm0] at h5;simp at h5
 have mm:∀b,b∈aX Z (Θ++[a]) e1 σ↔b∈aX (a::Z) Θ e1 σ:=λb=>by
  rw[jf,jf,cF,fQ,bI];constructor
  .rintro(h|(h|h)|h)
   .exact .inl (.inr h)
   .exact .inr (.inl h)
   .exact .inl (.inl h)
   .exact .inr (.inr h)
  .rintro((h|h)|h|h)
   .exact .inr (.inl (.inr h))
   .exact .inl h
   .exact .inr (.inl (.inl h))
   .exact .inr (.inr h)
 refine⟨S1.len,yZ FW.2 ?_ dm.2.2.1 (λb m=>?_) λb m=>?_,λb m=>S1.dom b (dg _ m),λj x e=>?_,c'⟩
 .rw[jZ]
  exact⟨dm.2.1,j0.mpr ⟨by simp,mQ⟩,λb m c m' e=>by
   rw[fQ] at m';subst e m';exact dm.2.2.2 b cV m⟩
 .intro m';rcases cF.mp m' with m'|m'
  .exact dm.2.2.2 b (dg _ m) m'
  .rw[fQ.mp m'] at m;exact FW.1 m
 .obtain⟨p1,p2⟩:=S1.mX m
  refine⟨λz=>p1 (dg _ z),λm'=>?_⟩
  rcases cF.mp m' with m'|m'
  .exact p2 m'
  .rw[fQ.mp m'] at p1;exact p1 cV
 .obtain⟨v,e3,r3⟩:=S1.slot j x e
  rw[qT mm]
  refine⟨v,e3,?_⟩
  cases x with
  |im d=>exact r3
  |ow d=>exact r3
  |ce n=>
   obtain⟨b,e5,e6⟩:=r3
   exact⟨b,e5,by rw[ou (f9.mp e6).1];exact e6⟩
  |sc ns=>exact r3
  |tp=>exact r3
theorem ahG{K:aF}{i:Nat}{f:FE}:∀D σ H,tS K (EY i f) D σ H->Be (tE K f) (vQ i) D σ H:=by
 rintro D σ H ⟨Z,Θ,env,C,fl,env',C',S,hf,q⟩;unfold EY at hf;split at hf
 .rename_i ds e1 C1 h1;split at hf
  .rename_i ns hns;cases hf
   refine⟨Z,Θ,env,C,_,e1,C1,S,h1,λv H1 k f R=>?_⟩
   obtain⟨a,rfl,hn,S1,vs,ha,r⟩:=R
   have ev:=Il hns r;subst ev;have cl:=S1.cell.len;have o1:∀b∈bJ (e1.set i (aa (.ce C1.length))) (σ.set i (aa (.ref a))),b∈bJ e1 σ:=λb m=>by
    rcases xX m with m|⟨⟨_,z⟩,_⟩
    .exact m
    .cases z
   have S2:=S1.akB ha;have S3:Sm K Z (Θ++[a]) (e1.set i (aa (.ce C1.length))) (C1++[ns]) (σ.set i (aa (.ref a))) H1:=
    S2.Bm (λ_ z=>nomatch z) ⟨a,rfl,by rw[cl,oh (bK _),Wi];rfl⟩
   exact q (Θ++[a]) _ H1 ⟨⟨[a],rfl,λb m=>by rw[fQ.mp m];exact hn⟩,vJ k,λb m=>.inl (f.own.subset (o1 b m)),S3⟩
  .cases hf
 .cases hf
theorem akC(hN:X.N.Nodup)(hi:X.N[i]?=aa x)(hx:Loc X.env.scope x)(he:PE X e (tE X.K f))(hs:vz e (aa (.Name x pos')) pos.line X.env=pure aB:=by rfl)(hf:X.fn x=aq\/X.env.scope.names.lookup x=aa .local:=by first|exact .inl rfl|exact .inr rfl|assumption):
  PS X (.Assign [.Name x pos'] e pos) (tS X.K (EY i f)):=(aap hN hi hx he hs hf).weak ahG
end
def sY(c:FT)(body:FS):Nat->FS
 |0=>λ_ _=>aj
 |n+1=>λenv C=>match c env C with
  |some (false,C1)=>aa (.nx,env,C1)
  |some (true,C1)=>match body env C1 with
   |some (.nx,e2,C2)=>sY c body n e2 C2
   |some (.ct,e2,C2)=>sY c body n e2 C2
   |some (.bk,e2,C2)=>aa (.nx,e2,C2)
   |some (.rt r,e2,C2)=>aa (.rt r,e2,C2)
   |none=>aj
  |none=>aj
def abg:Nat:=100000
def TX(c:FT)(body:FS):FS:=sY c body abg
theorem afR{K:aF}{c:FT}{body:FS}{n:Nat}:∀D σ H,tS K (sY c body n) D σ H->aaq (fH K c) (tS K body) D σ H:=by
 rintro D σ H ⟨Z,Θ,env,C,fl,env',C',S,hf,q⟩
 refine⟨λm σ1 H1=>∃Θ1 e1 C1,dY K Z Θ env σ H Θ1 e1 C1 σ1 H1/\sY c body m e1 C1=aa (fl,env',C'),⟨n,Θ,env,C,dY.same S,hf⟩,?_⟩
 rintro m σ1 H1 ⟨Θ1,e1,C1,p,hf⟩;cases m with
 |zero=>cases hf
 |succ m=>
  unfold sY at hf;split at hf
  .rename_i C2 h1;cases hf
   exact⟨Z,Θ1,env',C1,aB,C',p.sm,h1,λH2 k2 S2=>yI (q Θ1 σ1 H2 (p.trans (dY.tV k2 (Fz.refl _) S2)))⟩
  .rename_i C2 h1
   refine⟨Z,Θ1,e1,C1,aq,C2,p.sm,h1,λH2 k2 S2=>yJ ⟨λσ' H'=>∃Θ1 e1 C1,dY K Z Θ env σ H Θ1 e1 C1 σ' H'/\sY c body m e1 C1=aa (fl,env',C'),λσ' H' h=>⟨m,Gz m,h⟩,?_⟩⟩
   have p2:=p.trans (dY.tV k2 (Fz.refl _) S2);split at hf
   .rename_i e3 C3 h2
    exact⟨Z,Θ1,e1,C2,.nx,e3,C3,S2,h2,λΘ3 σ3 H3 p3=>⟨Θ3,e3,C3,p2.trans p3,hf⟩⟩
   .rename_i e3 C3 h2
    exact⟨Z,Θ1,e1,C2,.ct,e3,C3,S2,h2,λΘ3 σ3 H3 p3=>⟨Θ3,e3,C3,p2.trans p3,hf⟩⟩
   .rename_i e3 C3 h2;cases hf
    exact⟨Z,Θ1,e1,C2,.bk,env',C',S2,h2,λΘ3 σ3 H3 p3=>q Θ3 σ3 H3 (p2.trans p3)⟩
   .rename_i r e3 C3 h2;cases hf
    exact⟨Z,Θ1,e1,C2,.rt r,env',C',S2,h2,λΘ3 v H3 p3=>q Θ3 v H3 (p2.ret p3)⟩
   .cases hf
  .cases hf
theorem ahH(hp:Oa (model X.prog X.w) X.A X.env X.xe)(hc:PT X c (fH X.K t))(hb:iR X body (tS X.K f)):PS X (.While c body [] pos) (tS X.K (TX t f)):=(ag6 hp hc hb).weak afR
abbrev FI:=En->Ce->Option (List au×En×Ce)
def uG(P T:List ao)(H:Hp)(J:It)(its:List au):Prop:=∀(i:Nat)(H2:Hp)(P2:List ao),bC (er P H) (er P2 H2)->bC (er T H) (er T H2)->(∀a∈P2,H2 a≠aj)->
 (∀d,its[i]?=aa d->J.go i H2/\∀x H3,J.uP i H2 x H3->bC H2 H3/\RZ (er P2 H3) d x)/\(i=its.length->J.stop i H2)
inductive tI(K:aF)(b:Bool)(f:FI)(σ:St)(H:Hp)(R:It->Hp->Prop):Prop
 |mk (Z Θ:List ao) (env:En) (C:Ce) (its:List au) (env':En) (C':Ce) (S:Sm K Z Θ env C σ H) (hf:f env C=aa (its,env',C')) (q:∀J H',aV Θ H H'->Fz env env'->Sm K Z Θ env' C' σ H'->uG (aX Z Θ env' σ) (if b then Θ else aX Z Θ env' σ) H' J its->R J H'):tI K b f σ H R
theorem PI.weak(h:PI X tg e t)(w:∀σ H Q,t' σ H Q->t σ H Q):PI X tg e t':=λpins s σ H Q I q=>h pins s σ H Q I (w σ H Q q)
theorem PI.or(h:PI X tg e t)(h':PI X tg e t'):PI X tg e (λσ H R=>t σ H R\/t' σ H R):=λpins s σ H R I q=>q.elim (h pins s σ H R I) (h' pins s σ H R I)
section
variable{K:aF}{P T:List ao}{H:Hp}{a:ao}{ds:List au}{vs:List V}
theorem Jk(ha:er T H a=aa (.lst vs))(r:bY (er P H) ds vs):uG P T H (Tc K a) ds:=λi H2 P2 s1 s2 n=>by
 have h2:bG K H2 a vs:=bG.of (fJ (s2 _ _ ha))
 refine⟨λd hd=>?_,λhi=>⟨vs,h2,by rw[iw r,hi];exact bK _⟩⟩
 obtain⟨v,ev,rv⟩:=sV r hd
 refine⟨⟨vs,v,h2,ev⟩,λx H3 y=>?_⟩
 obtain⟨rfl,y⟩:=y
 have:=y vs h2;rw[ev] at this;cases this
 exact⟨bC.refl _,rv.same s1⟩
theorem JF(ha:er P H a=aa (.tup vs))(r:bY (er P H) ds vs):uG P T H (Td K a) ds:=λi H2 P2 s1 s2 n=>by
 have h2:bW K H2 a vs:=bW.of (fJ (s1 _ _ ha))
 refine⟨λd hd=>?_,λhi=>⟨vs,h2,by rw[iw r,hi];exact bK _⟩⟩
 obtain⟨v,ev,rv⟩:=sV r hd
 refine⟨⟨vs,v,h2,ev⟩,λx H3 y=>?_⟩
 obtain⟨rfl,y⟩:=y
 have:=y vs h2;rw[ev] at this;cases this
 exact⟨bC.refl _,rv.same s1⟩
def chars(z:Str):List au:=z.cps.toList.map λc=>.str ⟨#[c]⟩
theorem aaH(z:Str):uG P T H (Tq z) (chars z):=λi H2 P2 s1 s2 n=>by
 refine⟨λd hd=>?_,λhi=>?_⟩
 .unfold chars at hd;rw[ie] at hd;cases hc:z.cps.toList[i]? with
  |none=>rw[hc] at hd;cases hd
  |some c=>
   rw[hc] at hd;cases hd;have hc':z.cps[i]?=aa c:=by rw[<-LC];exact hc
   have hlt:i<z.cps.size:=by
    obtain⟨h,_⟩:=acU.mp hc'
    exact h
   refine⟨hlt,λx H3 y=>?_⟩
   obtain⟨rfl,c',ec,rfl⟩:=y
   rw[hc'] at ec;cases ec
   exact⟨bC.refl _,rfl⟩
 .show z.cps.size<=i;rw[hi];unfold chars;rw[bh,j8];exact bK _
def lH(lo:Int)(n:Nat):List au:=(dX n).map λ(k:Nat)=>.int (lo+(k:Int))
theorem ahI(lo:Int)(n:Nat):uG P T H (KN lo n) (lH lo n):=λi H2 P2 s1 s2 nn=>by
 refine⟨λd hd=>?_,λhi=>?_⟩
 .unfold lH at hd;rw[ie] at hd;by_cases hlt:i<n
  .rw[adB hlt] at hd;cases hd
   refine⟨hlt,λx H3 y=>?_⟩
   obtain⟨rfl,rfl⟩:=y
   exact⟨bC.refl _,rfl⟩
  .rw[Gj (by rw[oH];lia)] at hd;cases hd
 .show n<=i;rw[hi];unfold lH;rw[bh,oH];exact bK _
end
def TY:au->Option (List au)
 |.list ds=>aa ds
 |.tuple ds=>aa ds
 |.str z=>aa (chars z)
 |_=>aj
def iB(f:FB):FI:=λenv C=>match f env C with
 |some (d,e1,C1)=>match TY d with
  |some its=>aa (its,e1,C1)
  |none=>aj
 |none=>aj
def iV(f:FE):FI:=λenv C=>match f env C with
 |some (r,e1,C1)=>match still r with
  |.im d=>match TY d with
   |some its=>aa (its,e1,C1)
   |none=>aj
  |_=>aj
 |none=>aj
def kW(f:FB):FI:=λenv C=>match f env C with
 |some (.int j,_,C1)=>if -(2^62)<=j/\j<2^62 then aa (lH 0 j.toNat,env,C1) else aj
 |_=>aj
section
variable{X:Cx}{tg e:Expr}
theorem uH(h:PE X e (gn X.K f))(hgo:∀i u,xm tg i u=pure ():=by intro _ _;rfl):PI X tg e (tI X.K aq (iB f)):=(((Jb h).or (Ju h)).or (aaw h hgo)).weak λσ H R aK=>by
 obtain⟨Z,Θ,env,C,its,env',C',S,hf,q⟩:=aK
 unfold iB at hf;split at hf
 .rename_i d e1 C1 h1;split at hf
  .rename_i ys hi;cases hf;cases d<;>first|cases hi|skip
   .refine .inr ⟨Z,Θ,env,C,_,env',C',S,h1,λv H1 k f S1 b=>⟨_,b,q _ H1 k f S1 (aaH _)⟩⟩
   .refine .inl (.inl ⟨Z,Θ,env,C,_,env',C',S,h1,λv H1 k f S1 b=>?_⟩)
    obtain⟨a,vs,rfl,ha,r⟩:=b
    exact⟨a,rfl,⟨vs,bG.of (fJ ha)⟩,q _ H1 k f S1 (Jk ha r)⟩
   .refine .inl (.inr ⟨Z,Θ,env,C,_,env',C',S,h1,λv H1 k f S1 b=>?_⟩)
    obtain⟨a,vs,rfl,ha,r⟩:=b
    exact⟨a,rfl,⟨vs,bW.of (fJ ha)⟩,q _ H1 k f S1 (JF ha r)⟩
  .cases hf
 .cases hf
theorem yO(h:PE X e (tE X.K f))(hgo:∀i u,xm tg i u=pure ():=by intro _ _;rfl):PI X tg e (tI X.K aB (iV f)):=(((Jb h).or (Ju h)).or (aaw h hgo)).weak λσ H R aK=>by
 obtain⟨Z,Θ,env,C,its,env',C',S,hf,q⟩:=aK
 unfold iV at hf;split at hf
 .rename_i r e1 C1 h1;split at hf
  .rename_i d hd;split at hf
   .rename_i ys hi;cases hf;cases d<;>first|cases hi|skip
    .refine .inr ⟨Z,Θ,env,C,_,env',C',S,h1,λv H1 k f R=>?_⟩
     obtain⟨S1,b⟩:=R.qY hd
     exact⟨_,b,q _ H1 k f S1 (aaH _)⟩
    .refine .inl (.inl ⟨Z,Θ,env,C,_,env',C',S,h1,λv H1 k f R=>?_⟩)
     obtain⟨S1,a,vs,rfl,ha,r⟩:=R.qY hd
     exact⟨a,rfl,⟨vs,bG.of (fJ ha)⟩,q _ H1 k f S1 (Jk ha r)⟩
    .refine .inl (.inr ⟨Z,Θ,env,C,_,env',C',S,h1,λv H1 k f R=>?_⟩)
     obtain⟨S1,a,vs,rfl,ha,r⟩:=R.qY hd
     exact⟨a,rfl,⟨vs,bW.of (fJ ha)⟩,q _ H1 k f S1 (JF ha r)⟩
   .cases hf
  .cases hf
 .cases hf
theorem vC(hg:Gl X "range")(hm:X.mg "range"=aj)(ha:PE X a (gn X.K f))(hs:bD [a] X.env=(aB,eval a X.env)::bD [] X.env:=by rfl)(hs':bD [a] X.env=[(aB,eval a X.env)]:=by rfl):PI X tg (.Call (.Name "range" p) [a] [] pos) (tI X.K b (kW f)):=
 (agd hg hm (dH ha eO hs) hs').weak λσ H R aK=>by
  obtain⟨Z,Θ,env,C,its,env',C',S,hf,q⟩:=aK
  unfold kW at hf;split at hf
  .rename_i j e1 C1 h1;split at hf
   .rename_i hj;cases hf
    refine⟨Z,Θ,env,C,[.int j],e1,C',S,by unfold cX dR;rw[h1],λvs H1 k f S1 b1=>?_⟩
    cases b1 with
    |cons b1 b2=>
     cases b2
     exact⟨j,by rw[show _=V.int j from b1],hj.1,hj.2,q _ H1 k (Fz.refl _) (S.go k S1.cell) (ahI 0 j.toNat)⟩
   .cases hf
  .cases hf
end
def iM(g:FG)(body:FS):List au->FS
 |[]=>λenv C=>aa (.nx,env,C)
 |d::r=>λenv C=>match g d env with
  |some e1=>match body e1 C with
   |some (.nx,e2,C2)=>iM g body r e2 C2
   |some (.ct,e2,C2)=>iM g body r e2 C2
   |some (.bk,e2,C2)=>aa (.nx,e2,C2)
   |some (.rt v,e2,C2)=>aa (.rt v,e2,C2)
   |none=>aj
  |none=>aj
def eY(fi:FI)(g:FG)(body:FS):FS:=λenv C=>match fi env C with
 |some (its,e1,C1)=>iM g body its e1 C1
 |none=>aj
theorem dY.er{K:aF}{Z Θ Θ1:List ao}{env e1:En}{C1:Ce}{σ σ1:St}{H H1:Hp}(p:dY K Z Θ env σ H Θ1 e1 C1 σ1 H1):bC (er (aX Z Θ env σ) H) (er (aX Z Θ1 e1 σ1) H1):=λb o h=>by
 unfold L2.er at h⊢;split at h
 .cases h
 .rename_i n;have hb:H b≠aj:=by rw[h];exact vd _
  rw[bw]
  .refine p.kp.keep b o h λm=>n ?_
   rcases cF.mp m with m|m
   .exact jf.mpr (.inr (.inl m))
   .exact jf.mpr (.inr (.inr m))
  .intro m;rcases jf.mp m with m|m|m
   .exact n (jf.mpr (.inl m))
   .obtain⟨Δ,e,hn⟩:=p.th.ex
    rw[e] at m;rcases cF.mp m with m|m
    .exact n (jf.mpr (.inr (.inl m)))
    .exact hb (hn b m)
   .rcases p.own b m with m|m
    .exact n (jf.mpr (.inr (.inr m)))
    .exact hb m
theorem aiN(s:bC (er P H) (er P2 H2)):bC (er P H) (er P H2):=λb o h=>by
 have h2:=fJ (s b o h);unfold er at h⊢;split at h
 .cases h
 .rename_i n;rw[bw n];exact h2
theorem ahJ{K:aF}{fi:FI}{g:TG}{fg:FG}{body:FS}(L:Bt K g fg):∀D σ H,tS K (eY fi fg body) D σ H->abr (tI K aB fi) g (tS K body) D σ H:=by
 rintro D σ H ⟨Z,Θ,env,C,fl,env',C',S,hf,q⟩;unfold eY at hf;split at hf
 .rename_i its e1 C1 h1
  refine⟨Z,Θ,env,C,its,e1,C1,S,h1,λJ H1 k1 f1 S1 it=>?_⟩
  have p1:=dY.tV k1 f1 S1
  refine⟨λi m σ2 H2=>m=its.length-i/\i<=its.length/\∃Θ2 e2 C2,dY K Z Θ e1 σ H1 Θ2 e2 C2 σ2 H2/\iM fg body (its.drop i) e2 C2=aa (fl,env',C'),⟨its.length,rfl,iI _,Θ,e1,C1,dY.same S1,hf⟩,?_⟩
  rintro i m σ2 H2 ⟨rfl,hi,Θ2,e2,C2,p2,hl⟩
  obtain⟨T3,T4⟩:=it i H2 (aX Z Θ2 e2 σ2) p2.er (aiN p2.er) p2.sm.yK
  cases hd:its[i]? with
  |none=>
   have hi2:i=its.length:=by
    have:=Uk.mp hd;lia
   rw[hi2,aeh] at hl;cases hl;exact .inl ⟨T4 hi2,q Θ2 σ2 H2 (p1.trans p2)⟩
  |some d=>
   have hlt:i<its.length:=(f9.mp hd).1;have ed:its.drop i=d::its.drop (i+1):=by
    rw[Ul hlt]
    obtain⟨_,e⟩:=f9.mp hd
    rw[e]
   rw[ed] at hl;unfold iM at hl
   obtain⟨go,yl⟩:=T3 d hd
   refine .inr ⟨go,λσ' H'=>∃Θ2 e2 C2,dY K Z Θ e1 σ H1 Θ2 e2 C2 σ' H'/\iM fg body (its.drop (i+1)) e2 C2=aa (fl,env',C'),λσ' H' h=>⟨its.length-(i+1),by lia,rfl,hlt,h⟩,λx H3 y=>?_⟩
   obtain⟨s3,r3⟩:=yl x H3 y
   have S3:=p2.sm.yx s3;have p3:=p2.trans (dY.tV (aV.of s3) (Fz.refl _) S3);split at hl
   .rename_i e4 h4;refine L Z Θ2 e2 C2 σ2 H3 x d e4 S3 r3 h4 _ λσ4 S4 o4=>?_
    have p4:dY K Z Θ e1 σ H1 Θ2 e4 C2 σ4 H3:=p3.trans ⟨jV.refl _ _,aV.refl _ _,λa m=>.inl (o4 a m),S4⟩;split at hl
    .rename_i e5 C5 h5
     exact⟨Z,Θ2,e4,C2,.nx,e5,C5,S4,h5,λΘ5 σ5 H5 p5=>⟨Θ5,e5,C5,p4.trans p5,hl⟩⟩
    .rename_i e5 C5 h5
     exact⟨Z,Θ2,e4,C2,.ct,e5,C5,S4,h5,λΘ5 σ5 H5 p5=>⟨Θ5,e5,C5,p4.trans p5,hl⟩⟩
    .rename_i e5 C5 h5;cases hl
     exact⟨Z,Θ2,e4,C2,.bk,env',C',S4,h5,λΘ5 σ5 H5 p5=>q Θ5 σ5 H5 (p1.trans (p4.trans p5))⟩
    .rename_i r e5 C5 h5;cases hl
     exact⟨Z,Θ2,e4,C2,.rt r,env',C',S4,h5,λΘ5 v H5 p5=>q Θ5 v H5 (p1.ret (p4.ret p5))⟩
    .cases hl
   .cases hl
 .cases hf
theorem mj(hp:Oa (model X.prog X.w) X.A X.env X.xe)(hc:X.calm=aq)(hi:PI X tg iter (tI X.K aB fi))(hg:PG X tg g)(L:Bt X.K g fg)(hb:iR X body (tS X.K f))
  (hs:∀x,wY iter X.env x=pure x:=by intro _;rfl):PS X (.For tg iter body [] pos) (tS X.K (eY fi fg f)):=(aj2 hp hc hi hg hb hs).weak (ahJ L)
def uV:gR->au->Option (List au)
 |.one,d=>aa [d]
 |.many n,.tuple ds=>if ds.length=n then aa ds else aj
 |_,_=>aj
def frB(js:List Nat)(env:En):En:=js.map λj=>((env[j]?).join).map still
def dG(ds:List au):En:=ds.map λd=>aa (.im d)
def iD(T:gR)(ft:FT)(fe:FE)(fs:En):List au->Ce->Option (List au×Ce)
 |[],C=>aa ([],C)
 |d::r,C=>match uV T d with
  |some ts=>match ft (dG ts++fs) C with
   |some (false,C1)=>iD T ft fe fs r C1
   |some (true,C1)=>match fe (dG ts++fs) C1 with
    |some (x,_,C2)=>match still x with
     |.im y=>match iD T ft fe fs r C2 with
      |some (ys,C3)=>aa (y::ys,C3)
      |none=>aj
     |_=>aj
    |none=>aj
   |none=>aj
  |none=>aj
def fZ(js:List Nat)(env:En):En:=env.mapIdx λi x=>if i∈js then x.map still else x
def jK(fi:FI)(T:gR)(ft:FT)(fe:FE)(js:List Nat):FE:=λenv C=>match fi env C with
 |some (its,e1,C1)=>match iD T ft fe (frB js e1) its C1 with
  |some (ys,C2)=>if ys.length<=eZ then aa (.ow (.list ys),if gP ys then e1 else fZ js e1,C2) else aj
  |none=>aj
 |none=>aj
theorem abh:∀{a b:En},a.length=b.length->(∀(i:Nat)(x y:Option Vl),a[i]?=aa x->b[i]?=aa y->Tz x y)->Fz a b
 |[],[],_,_=>trivial
 |x::r,y::t,hl,h=>⟨h 0 x y rfl rfl,abh (by simpa using hl) λi u v h1 h2=>h (i+1) u v (by simpa using h1) (by simpa using h2)⟩
 |[],_::_,hl,_=>by cases hl
 |_::_,[],hl,_=>by cases hl
theorem An(js:List Nat)(env:En):Fz env (fZ js env):=abh (by unfold fZ;rw[List.length_mapIdx]) λi x y h1 h2=>by
 unfold fZ at h2;rw[adt,h1] at h2;have h2:(if i∈js then afS still x else x)=y:=fU h2;rw[<-h2];split
 .cases x with
  |none=>exact .inl rfl
  |some x=>
   cases x with
   |ow d=>exact .inr ⟨d,rfl,rfl⟩
   |im d=>exact .inl rfl
   |ce n=>exact .inl rfl
   |sc ns=>exact .inl rfl
   |tp=>exact .inl rfl
 .exact .inl rfl
theorem aaI{js:List Nat}{env:En}{k:Nat}{x:Vl}(h:(frB js env)[k]?=aa (aa x)):∃j:Nat,js[k]?=aa j/\(fZ js env)[j]?=aa (aa x)/\∀d,x≠.ow d:=by
 unfold frB at h;rw[ie] at h;cases hj:js[k]? with
 |none=>rw[hj] at h;cases h
 |some j=>
  rw[hj] at h;have h':((env[j]?).join).map still=aa x:=fU h
  refine⟨j,rfl,?_,?_⟩
  .unfold fZ;rw[adt];cases hv:env[j]? with
   |none=>rw[hv] at h';cases h'
   |some y=>
    rw[hv] at h';show aa (if j∈js then afS still y else y)=_;rw[aY (jY hj)];exact congrArg aa h'
  .cases hv:(env[j]?).join with
   |none=>rw[hv] at h';cases h'
   |some y=>
    rw[hv] at h';have e:still y=x:=fU h';rw[<-e];intro d z;cases y<;>cases z
theorem Ao:∀{env:En}{σ:St},(∀(i:Nat)(d:au),env[i]?≠aa (aa (.ow d)))->bJ env σ=[]
 |[],σ,_=>by cases σ<;>rfl
 |_::_,[],_=>rfl
 |x::e,v::s,h=>by
  rw[bJ,Ao (env:=e) (σ:=s) λi d z=>h (i+1) d (by simpa using z)];have h0:=h 0;simp at h0;unfold own1;split
  .rename_i d a;exact absurd rfl (h0 d)
  .rfl
section
variable{K:aF}{Z Θ:List ao}{env:En}{C C2:Ce}{σ:St}{H H2:Hp}{D:ao}
abbrev jQ(D:ao)(Z:List ao)(env:En)(σ:St):List ao:=D::(Z++bJ env σ)
theorem nO{js:List Nat}{a:ao}{eB:En}{sB:St}(h:bJ eB sB=[]):a∈aX (jQ D Z env σ) Θ eB sB↔a=D\/a∈aX Z Θ env σ:=by
 rw[jf,jf,h,bI,cF];constructor
 .rintro((h|h|h)|h|h)
  .exact .inl h
  .exact .inr (.inl h)
  .exact .inr (.inr (.inr h))
  .exact .inr (.inr (.inl h))
  .nomatch h
 .rintro(h|h|h|h)
  .exact .inl (.inl h)
  .exact .inl (.inr (.inl h))
  .exact .inr (.inl h)
  .exact .inl (.inr (.inr h))
theorem JG{js:List Nat}{ts:List au}:∀(i:Nat)(d:au),(dG ts++frB js env)[i]?≠aa (aa (.ow d)):=λi d z=>by
 by_cases hi:i<(dG ts).length
 .rw[ou hi] at z;unfold dG at z;rw[ie] at z;cases h:ts[i]? with
  |none=>rw[h] at z;cases z
  |some t=>rw[h] at z;cases z
 .rw[oh (by lia)] at z
  obtain⟨j,_,_,h⟩:=aaI z
  exact h d rfl
theorem Sm.blk{js:List Nat}{ts:List au}{vs:List V}(S:Sm K Z Θ (fZ js env) C σ H)(hD:H D=mR)(k:aV Θ H H2)(nt:NT (H2 D))(c:oY Θ C2 H2)(r:bY (er (aX (jQ D Z (fZ js env) σ) Θ [] []) H2) ts vs):
  Sm K (jQ D Z (fZ js env) σ) Θ (dG ts++frB js env) C2 (vs.map aa++frees js σ) H2:=by
 have no:=Ao (env:=dG ts++frB js env) (σ:=vs.map aa++frees js σ) JG;have dm:=S.dm;have lv:=iw r;have K4:(dG ts).length=ts.length:=by unfold dG;rw[bh]
 have ee:er (aX (jQ D Z (fZ js env) σ) Θ (dG ts++frB js env) (vs.map aa++frees js σ)) H2=er (aX (jQ D Z (fZ js env) σ) Θ [] []) H2:=qT λa=>by rw[nO (js:=js) no,nO (js:=js) rfl]
 have sm:bC (er (aX Z Θ (fZ js env) σ) H) (er (aX (jQ D Z (fZ js env) σ) Θ [] []) H2):=j6 k S.qC λb m=>by
  rcases(nO (js:=js) rfl).mp m with rfl|m
  .exact .inr hD
  .exact .inl m
 refine⟨?_,?_,λb m=>?_,λi x e=>?_,c⟩
 .rw[lO,lO,bh,lv,K4];unfold frees frB;rw[bh,bh]
 .show(jQ D Z (fZ js env) σ++(Θ++bJ (dG ts++frB js env) (vs.map aa++frees js σ))).Nodup
  rw[no];refine yZ (j0.mpr ⟨λm=>?_,?_⟩) dm.2.1 mQ (λb m m'=>?_) (λ_ m=>nomatch m)
  .rcases cF.mp m with m|m
   .exact(S.dom D m).ne hD
   .exact S.yK D (jf.mpr (.inr (.inr m))) hD
  .rw[jZ]
   exact⟨dm.1,dm.2.2.1,λb m c' m' e=>by subst e;exact(S.mX m').1 m⟩
  .rcases bI.mp m with rfl|m
   .exact S.yK b (jf.mpr (.inr (.inl m'))) hD
   .rcases cF.mp m with m|m
    .exact dm.2.2.2 b m m'
    .exact(S.mX m).2 m'
 .rcases bI.mp m with rfl|m
  .exact nt
  .have:NT (H b)/\b∉Θ:=by
    rcases cF.mp m with m|m
    .exact⟨S.dom b m,dm.2.2.2 b m⟩
    .exact⟨S.K1 b (jf.mpr (.inr (.inr m))),(S.mX m).2⟩
   obtain⟨⟨u,e,n⟩,nb⟩:=this
   exact⟨u,k.keep _ _ e nb,n⟩
 .rw[ee];by_cases hi:i<ts.length
  .rw[ou (by rw[K4];exact hi)] at e;unfold dG at e;rw[ie] at e;cases ht:ts[i]? with
   |none=>rw[ht] at e;cases e
   |some t=>
    rw[ht] at e;cases e
    obtain⟨v,ev,rv⟩:=sV r ht
    exact⟨v,by rw[ou (by rw[bh,lv];exact hi),ie,ev];rfl,rv⟩
  .rw[oh (by rw[K4];lia),K4] at e
   obtain⟨j,hj,hx,nx⟩:=aaI e
   obtain⟨v,ev,rv⟩:=S.slot j x hx
   refine⟨v,?_,rv.same sm λd _ z=>absurd z (nx d)⟩
   rw[oh (by rw[bh,lv];lia),bh,lv];unfold frees;rw[ie,hj];show aa ((σ[j]?).join)=_;rw[ev];rfl
end
def fL:FT:=λ_ C=>aa (aq,C)
theorem ql{X:Cx}:pP X [] (fH X.K fL):=λpins s σ H Q I aK=>by
 obtain⟨Z,Θ,env,C,b,C',S,hf,q⟩:=aK
 cases hf;exact ais pins s σ H Q I (q H (aV.refl _ _) S)
theorem Jl{X:Cx}{c:Expr}{f:FT}(h:PT X c (fH X.K f)):pP X [c] (fH X.K f):=ait h
theorem als{K:aF}{T:gR}{E H:Hp}{d:au}{x:V}{ts:List au}(h:uV T d=aa ts)(r:RZ E d x)(s:bC E H):∃vs,wH K T x H vs/\bY E ts vs:=by
 cases T with
 |one=>cases h;exact⟨[x],rfl,x,[],rfl,r,rfl⟩
 |many n=>
  cases d<;>first|cases h|skip
  rename_i ds;have h:(if ds.length=n then aa ds else aj)=aa ts:=h;split at h
  .rename_i hl;cases h
   obtain⟨a,vs,rfl,ha,r⟩:=r
   exact⟨vs,⟨a,rfl,bW.of (s _ _ ha),(iw r).trans hl⟩,r⟩
  .cases h
def wj{α:Type}(T:gR)(ft:FT)(st:En->α->Ce->Option (α×Ce))(fs:En):List au->α->Ce->Option (α×Ce)
 |[],a,C=>aa (a,C)
 |d::r,a,C=>(uV T d).bind λts=>(ft (dG ts++fs) C).bind λp=>bif p.1 then(st (dG ts++fs) a p.2).bind λq=>wj T ft st fs r q.1 q.2 else wj T ft st fs r a p.2
inductive abN{α:Type}(Θ:List ao)(H1:Hp)(n:Nat)(Ob:α->Hp->Prop)(run:Nat->α->Ce->Prop)(i m:Nat)(H2:Hp):Prop
 |mk (a:α) (Ci:Ce) (hm:m=n-i) (hi:i<=n) (ki:aV Θ H1 H2) (ci:oY Θ Ci H2) (ob:Ob a H2) (hc:run i a Ci):abN Θ H1 n Ob run i m H2
section
variable{K:aF}{α:Type}{T:gR}{ft:FT}{st:En->α->Ce->Option (α×Ce)}{js:List Nat}{Z Θ:List ao}{e1:En}{C1 C':Ce}{σ:St}{H1:Hp}{J:It}{its:List au}{D:ao}{o0:HO}{a0 aE:α}
theorem aaJ{Hx Hy:Hp}{u:HO}(hD:H1 D=mR)(kk:aV Θ H1 Hx):aV Θ H1 (upd Hx D u):=by
 refine⟨λa o ha na=>?_,λa ha=>?_⟩
 .rw[cI (oO ha hD)];exact kk.keep _ _ ha na
 .by_cases z:a=D
  .subst z;rw[eN];exact vd _
  .rw[cI z];exact kk.dom a ha
theorem Pb{Hx:Hp}{u:HO}(hD:D∉Θ)(c:oY Θ C1 Hx):oY Θ C1 (upd Hx D u):=by
 refine⟨c.len,λn b ns e2 e3=>?_⟩
 rw[cI]
 .exact c.at_ n b ns e2 e3
 .intro z;subst z;exact hD (jY e2)
theorem YG{em:TM}{Ob:α->Hp->Prop}{done:Hp->Prop}(S1:Sm K Z Θ e1 C1 σ H1)(it:uG (aX Z Θ e1 σ) Θ H1 J its)(hD:H1 D=mR)(ob0:Ob a0 (upd H1 D o0))(Bu:∀a Hx Hy,aV Θ Hx Hy->Ob a Hx->Ob a Hy)(obn:∀a Hx,Ob a Hx->NT (Hx D))
  (hem:∀(ts:List au)(a:α)(C2:Ce)(p:α×Ce)(vs:List V)(H4:Hp)(Q:Hp->Prop),st (dG ts++frB js e1) a C2=aa p->Sm K (jQ D Z (fZ js e1) σ) Θ (dG ts++frB js e1) C2 (vs.map aa++frees js σ) H4->aV Θ H1 H4->Ob a H4->(∀H6,aV Θ H1 H6->oY Θ p.2 H6->Ob p.1 H6->Q H6)->em (vs.map aa++frees js σ) H4 Q)
  (hc:wj T ft st (frB js e1) its a0 C1=aa (aE,C'))(hq:∀H2,aV Θ H1 H2->oY Θ C' H2->Ob aE H2->done H2):Bg K T (fH K ft) em (frees js σ) J (upd H1 D o0) done:=by
 have wB:D∉Θ:=λm=>(S1.cell.dom D m).ne hD
 have S1f:=S1.fz (An js e1)
 refine⟨abN Θ H1 its.length Ob (λi a Ci=>wj T ft st (frB js e1) (its.drop i) a Ci=aa (aE,C')),⟨its.length,⟨a0,C1,rfl,iI _,aV.upd hD,Pb wB S1.cell,ob0,hc⟩⟩,λi m H2 hh=>?_⟩
 cases hh with
 |mk a Ci hm hi ki ci ob hc=>
 subst hm;have nt:=obn a H2 ob;have smP:bC (er (aX Z Θ e1 σ) H1) (er (aX (jQ D Z (fZ js e1) σ) Θ [] []) H2):=j6 ki S1.qC λb m=>by
  rcases(nO (js:=js) rfl).mp m with rfl|m
  .exact .inr hD
  .exact .inl ((An js e1).sub b m)
 have amq:∀a∈aX (jQ D Z (fZ js e1) σ) Θ [] [],H2 a≠mR:=λa m=>(S1f.blk hD ki nt ci (show bY _ [] [] from rfl)).yK a ((nO (js:=js) (Ao (env:=dG []++frB js e1) JG)).mpr ((nO (js:=js) rfl).mp m))
 obtain⟨T3,T4⟩:=it i H2 _ smP (aaA ki) amq
 cases hd:its[i]? with
 |none=>
  have hi2:i=its.length:=Nat.le_antisymm hi (Uk.mp hd);rw[hi2,aeh] at hc;cases hc;exact .inl ⟨T4 hi2,hq H2 ki ci ob⟩
 |some d=>
  obtain⟨hlt,ed⟩:=f9.mp hd
  rw[Ul hlt,ed] at hc
  obtain⟨go,yl⟩:=T3 d hd
  refine .inr ⟨go,λx H3 y=>?_⟩
  obtain⟨s3,r3⟩:=yl x H3 y
  obtain⟨ts,ht,hc⟩:=jg hc
  obtain⟨p,hft,hc⟩:=jg hc
  obtain⟨vs,tv,rvs⟩:=als (K:=K) ht r3 (Ay _ _)
  refine⟨vs,tv,?_⟩
  have k3:aV Θ H1 H3:=ki.trans (aV.of s3);have T5:=Bu a _ _ (aV.of s3) ob;have SB:=S1f.blk (js:=js) hD k3 (obn a H3 T5) ⟨ci.len,λn b ns e2 e3=>s3 _ _ (ci.at_ n b ns e2 e3)⟩ rvs;have lt:its.length-(i+1)<its.length-i:=by lia
  refine⟨_,Θ,_,Ci,p.1,p.2,SB,hft,λH4 k4 S4=>?_⟩
  cases hp:p.1 with
  |false=>
   rw[hp] at hc;exact yI ⟨_,lt,⟨a,p.2,rfl,hlt,k3.trans k4,S4.cell,Bu a _ _ k4 T5,hc⟩⟩
  |true=>
   rw[hp] at hc
   obtain⟨q,hs,hc⟩:=jg hc
   exact yJ (hem ts a p.2 q vs H4 _ hs S4 (k3.trans k4) (Bu a _ _ k4 T5) λH6 k6 c6 o6=>⟨_,lt,⟨q.1,q.2,rfl,hlt,k6,c6,o6,hc⟩⟩)
end
def Sy(fe:FE):En->List au->Ce->Option (List au×Ce):=λenv acc C=>(fe env C).bind λq=>(tU (still q.1)).bind λy=>bif decide (acc.length<eZ) then aa (acc++[y],q.2.2) else aj
theorem Qs{T:gR}{ft:FT}{fe:FE}{fs:En}{C':Ce}:∀{its:List au}{ys acc:List au}{C:Ce},iD T ft fe fs its C=aa (ys,C')->acc.length+ys.length<=eZ->wj T ft (Sy fe) fs its acc C=aa (acc++ys,C')
 |[],ys,acc,C,h,_=>by
  cases h;rw[pU];rfl
 |d::r,ys,acc,C,h,hl=>by
  unfold iD at h;unfold wj;split at h
  case h_2=>cases h
  rename_i ts ht;rw[ht,mO];split at h
  case h_3=>cases h
  .rename_i C1 hf;rw[hf,mO];exact Qs h hl
  .rename_i C1 hf;rw[hf,mO];split at h
   case h_2=>cases h
   rename_i x e2 C2 hx;split at h
   case h_2=>cases h
   rename_i y hy;split at h
   case h_2=>cases h
   rename_i zs C3 hz;cases h;rw[cL] at hl
   show(Sy fe (dG ts++fs) acc C1).bind _=_
   unfold Sy;rw[hx,mO,hy,show tU (.im y)=aa y from rfl,mO,fP (by lia),show acc++y::zs=(acc++[y])++zs by rw[oG];rfl];exact Qs hz (by rw[lO];show acc.length+1+_<=_;lia)
theorem ZZ{K:aF}{fi:FI}{T:gR}{ft:FT}{fe:FE}{js:List Nat}:∀σ H Q,tE K (jK fi T ft fe js) σ H Q->Tn K (tI K aq fi) T (λ_=>fH K ft) (λ_=>tE K fe) js σ H Q:=by
 rintro σ H Q ⟨Z,Θ,env,C,res,env',C',S,hf,q⟩;unfold jK at hf;split at hf
 case h_2=>cases hf
 rename_i its e1 C1 h1;split at hf
 case h_2=>cases hf
 rename_i ys C2 h2;split at hf
 case isFalse=>cases hf
 rename_i hl;cases hf
 refine⟨Z,Θ,env,C,its,e1,C1,S,h1,λJ H1 k1 f1 S1 it D hD b=>?_⟩
 have wB:D∉Θ:=λm=>(S1.cell.dom D m).ne hD
 have T6:D∈aX (jQ D Z (fZ js e1) σ) Θ [] []:=(nO (js:=js) rfl).mpr (.inl rfl);refine YG (a0:=[]) (Ob:=λacc Hx=>jx (er (aX (jQ D Z (fZ js e1) σ) Θ [] []) Hx) Hx D (.list acc)) S1 it hD ⟨[],eN,rfl⟩ (λa Hx Hy kk r=>r.same (j6 kk (λa m=>jf.mpr (.inr (.inl m))) λa m=>.inl m) λo h=>kk.keep _ _ h wB)
  (λa Hx r=>by obtain⟨vs,e,_⟩:=r;exact⟨_,e,λ_ z=>nomatch z⟩) ?_ (Qs (acc:=[]) h2 (by rw[Mt,M7];exact hl)) λH2 ki ci r=>?_
 .intro ts acc C2 p vs H4 Q hs S4 k4 r4 hQ
  obtain⟨w,hfe,hs⟩:=jg hs
  obtain⟨yd,za,hs⟩:=jg hs
  have za:=DG za;cases hlt:decide (acc.length<eZ) with
  |false=>rw[hlt] at hs;cases hs
  |true=>
  rw[hlt] at hs;cases hs
  refine⟨_,Θ,_,C2,w.1,w.2.1,w.2.2,S4,hfe,λy H5 k5 f5 R5=>?_⟩
  obtain⟨S5,r5⟩:=R5.qY za
  obtain⟨uI,hD5,rr⟩:=r4.same (j6 k5 (λa m=>jf.mpr (.inr (.inl m))) λa m=>.inl m) λo h=>k5.keep _ _ h wB
  have T7:bJ w.2.1 (vs.map aa++frees js σ)=[]:=by
   have:=(Fz.own (σ:=vs.map aa++frees js σ) f5)
   rw[Ao JG] at this;exact aei.mp this
  have e5:er (aX (jQ D Z (fZ js e1) σ) Θ w.2.1 (vs.map aa++frees js σ)) H5=er (aX (jQ D Z (fZ js e1) σ) Θ [] []) H5:=qT λa=>by rw[nO (js:=js) T7,nO (js:=js) rfl]
  rw[e5] at r5;have lt:=of_decide_eq_true hlt
  refine⟨uI,hD5,by rw[iw rr,jo];unfold eZ at lt;lia,hQ _ (aaJ (Hy:=H5) hD (k4.trans k5)) (Pb wB S5.cell) ⟨_,eN,?_⟩⟩
  rw[QZ T6];exact Ad rr ⟨y,[],rfl,r5,rfl⟩
 .obtain⟨uI,hDi,ri⟩:=r
  refine q _ H2 (k1.trans ki) ?_ ?_
  .split
   .exact f1
   .exact f1.trans (An js e1)
  .refine⟨D,rfl,k1.none hD,?_⟩
   split
   .rename_i hn;have SD:=S1.Eg hD ki ⟨_,hDi,λ_ z=>nomatch z⟩ ci
    exact⟨SD,uI,hDi,ri.jl (λa vs e=>Dz SD (fJ e)) hn⟩
   .refine⟨(S1.fz (An js e1)).Eg hD ki ⟨_,hDi,λ_ z=>nomatch z⟩ ci,uI,hDi,?_⟩
    rw[qT (P':=aX (D::Z) Θ (fZ js e1) σ) λa=>by rw[nO (js:=js) rfl];show _↔a∈D::aX Z Θ (fZ js e1) σ;rw[bI]] at ri;exact ri
section
variable{X:Cx}{NT NF:List Str}{js:List Nat}{elt tg iter:Expr}{ifs:List Expr}{T:gR}{fi:FI}{ft:FT}{fe:FE}{scope:jF}{pos:Pos}
theorem qZ(B:tD X NT NF js scope)(tk:rB tg NT T)(hc:X.calm=aq)(hi:PI X tg iter (tI X.K aq fi))
  (hin:∀b,pP (X.bk (NT++NF) scope b) ifs (fH X.K ft)/\PE (X.bk (NT++NF) scope b) elt (tE X.K fe))
  (hs:∀x,wY iter X.env x=pure x:=by intro _;rfl):PE X (.ListComp elt [⟨tg,iter,ifs,0⟩] scope pos) (tE X.K (jK fi T ft fe js)):=(alj B tk hc hi hin hs).weak ZZ
theorem Im{i:Nat}{y:Str}{pos' spos:Pos}(B:tD X NT NF js scope)(tk:rB tg NT T)(hc:X.calm=aq)(hi:PI X tg iter (tI X.K aq fi))
  (hin:∀b,pP (X.bk (NT++NF) scope b) ifs (fH X.K ft)/\PE (X.bk (NT++NF) scope b) elt (tE X.K fe))
  (hsw:vz (.ListComp elt [⟨tg,iter,ifs,0⟩] scope pos) (aa (.Name y pos')) spos.line X.env=pure aq)(hN:X.N.Nodup)(hI:X.N[i]?=aa y)(hy:X.env.scope.names.lookup y=aa .local)
  (hs:∀x,wY iter X.env x=pure x:=by intro _;rfl):PS X (.Assign [.Name y pos'] (.ListComp elt [⟨tg,iter,ifs,0⟩] scope pos) spos) (tS X.K (dU i (jK fi T ft fe js))):=(ahf B tk hc hi hin hsw hN hI hy hs).weak (Pa ZZ)
end
def Ei(n:Nat):Vl->Bool
 |.ce m=>decide (m<n)
 |_=>aq
def fN(k n:Nat)(body:FS):FN:=λxs C=>if xs.length=k then match body (xs.map aa++cC (n-xs.length) aj) C with
  |some (.rt r,_,C')=>if Ei C.length r then aa (r,C'.take C.length) else aj
  |some (.nx,_,C')=>aa (.im .none,C'.take C.length)
  |_=>aj
 else aj
section
variable{K:aF}{Z Θ:List ao}{C:Ce}{H:Hp}{xs:List Vl}{vs:List V}
theorem Pg(a:qp K E Θ xs vs):vs.length=xs.length:=by
 induction a with
 |nil=>rfl
 |cons _ _ ih=>rw[cL,cL,ih]
theorem aiO(a:qp K E Θ xs vs):∀{i:Nat}{x:Vl},xs[i]?=aa x->∃v,vs[i]?=aa v/\uy K E Θ x v:=by
 induction a with
 |nil=>intro i x e;simp at e
 |cons h _ ih=>
  intro i x e;cases i with
  |zero=>simp at e;subst e;exact⟨_,rfl,h⟩
  |succ i=>
   obtain⟨v,e2,h2⟩:=ih (i:=i) (by simpa using e)
   exact⟨v,by simpa using e2,h2⟩
theorem Sm.start(S:Sm K Z Θ [] C [] H)(a:qp K (er (aX Z Θ [] []) H) Θ xs vs):Sm K Z Θ (xs.map aa++cC n mR) C (vs.map aa++cC n mR) H/\bJ (xs.map aa++cC n mR) (vs.map aa++cC n mR)=[]:=by
 have lv:=Pg a;have at':∀{i:Nat}{x:Vl},(xs.map aa++cC n mR)[i]?=aa (aa x)->∃v,vs[i]?=aa v/\uy K (er (aX Z Θ [] []) H) Θ x v/\i<vs.length:=λ{i x} e=>by
  by_cases hi:i<xs.length
  .rw[ou (by rw[bh];exact hi),ie] at e;cases hx:xs[i]? with
   |none=>rw[hx] at e;cases e
   |some y=>
    rw[hx] at e;cases e
    obtain⟨v,e1,h⟩:=aiO a hx
    exact⟨v,e1,h,by rw[lv];exact hi⟩
  .rw[oh (by rw[bh];lia)] at e;have:=jY e;exact nomatch(Ur this)
 have no:bJ (xs.map aa++cC n mR) (vs.map aa++cC n mR)=[]:=Ao λi d e=>by
  obtain⟨v,_,h,_⟩:=at' e
  exact h
 refine⟨⟨by simp[lv],?_,S.dom,λi x e=>?_,S.cell⟩,no⟩
 .show(Z++(Θ++bJ _ _)).Nodup
  rw[no];exact S.nd
 .obtain⟨v,e1,h,hl⟩:=at' e
  refine⟨v,by rw[ou (by rw[bh];exact hl),ie,e1];rfl,?_⟩
  have ee:er (aX Z Θ (xs.map aa++cC n mR) (vs.map aa++cC n mR)) H=er (aX Z Θ [] []) H:=by
   show er (Z++(Θ++bJ _ _)) H=_;rw[no];rfl
  rw[ee];cases x with
  |im d=>exact h
  |ow d=>exact h.elim
  |ce m=>exact h
  |sc ns=>exact h
  |tp=>exact h.elim
theorem Sm.cut(S:Sm K Z (Θ++Δ) [] C [] H):Sm K Z Θ [] (C.take Θ.length) [] H:=by
 have dm:=S.dm;have cl:=S.cell.len;rw[lO] at cl
 refine⟨rfl,yZ dm.1 (jZ.mp dm.2.1).1 mQ (λb m m'=>dm.2.2.2 b m (gK _ m')) (λ_ m=>nomatch m),S.dom,λi x e=>by simp at e,⟨by rw[vf];lia,λn a ns e1 e2=>?_⟩⟩
 have hn:n<Θ.length:=(f9.mp e1).1;rw[LR,aY hn] at e2;exact S.cell.at_ n a ns (by rw[ou hn];exact e1) e2
theorem J2.cut(t:jV Θ Θ' H)(ok:Ei Θ.length r=aq)(no:O=[])(h:J2 K Z Θ' C' O H H' r v):Kr K Z Θ (C'.take Θ.length) H H' r v:=by
 obtain⟨Δ,rfl,hn⟩:=t.ex
 have sm:∀{Y:List ao},bC (er (aX Y (Θ++Δ) [] []) H') (er (aX Y Θ [] []) H'):=λ{Y}=>sW λa m=>by
  rcases jf.mp m with m|m|m
  .exact jf.mpr (.inl m)
  .exact jf.mpr (.inr (.inl (gK _ m)))
  .nomatch m
 cases r with
 |im d=>exact⟨h.1.cut,h.2.same sm⟩
 |ow d=>
  obtain⟨a,e,m,S,r⟩:=h
  refine⟨a,e,?_,S.cut,r.same sm λ_ h=>h⟩
  rcases m with m|m
  .rw[no] at m;nomatch m
  .exact m
 |ce n=>
  obtain⟨S,a,e,e2⟩:=h
  refine⟨S.cut,a,e,?_⟩
  rw[ou (of_decide_eq_true ok)] at e2;exact e2
 |sc ns=>
  obtain⟨S,a,e,q⟩:=h
  exact⟨S.cut,a,e,sm.seq q⟩
 |tp=>
  obtain⟨t,a,vs,us,e,e',m,S,r,p,q⟩:=h
  refine⟨t,a,vs,us,e,e',?_,S.cut,r.same sm λ_ h=>h,p.same sm,q.same sm⟩
  rcases m with m|m
  .rw[no] at m;nomatch m
  .exact m
end
section
variable{P:bA}{w:bu}{K:aF}{mg:Str->Option Value}{base:aU}
theorem mq{x qual:Str}{st:dZ}{f:ao}{fd:fB}{N ps:List Str}{k:Nat}{body:FS}{k1 k2:Nat}(F:iH K x qual st f fd)(S:jP N ps (dz st))
  (hb:∀(cdv:Value)(A:bV)(outer:List Env)(s:aA)(H:Hp)(E:XK),gC k (A.deeper (envOfC qual (dz st) s.heap.objs.size f cdv))->iR (yH gF P w K mg base N qual (dz st) f cdv A outer s H E).uN (vI st) (tS K body))
  (e1:k1=ps.length:=by rfl)(e2:k2=N.length:=by rfl):eX P w K mg base gF (k+1) f fd ps (spT K (fN k1 k2 body)):=by
 subst e1 e2;refine F.ok S (λvs H Q E h=>?_) (λcdv A outer s H vs Q E hr h=>⟨_,hb cdv A outer s H E hr,?_⟩)
 .obtain⟨Z,Θ,C,xs,r,C',S0,a,hf,_⟩:=h
  unfold fN at hf;split at hf
  .rename_i hl;rw[Pg a,hl]
  .cases hf
 .obtain⟨Z,Θ,C,xs,r,C',S0,a,hf,q⟩:=h
  unfold fN at hf;split at hf
  case isFalse=>cases hf
  rename_i hl;have lv:=Pg a
  obtain⟨S1,no⟩:=S0.start (n:=N.length-vs.length) a
  rw[lv] at S1 no;have hs:start N vs=vs.map aa++cC (N.length-xs.length) aj:=by unfold start;rw[lv]
  rw[hs];have cl:=S0.cell.len;split at hf
  .rename_i r0 e' C1 hb';split at hf
   .rename_i hok;cases hf
    refine⟨Z,Θ,_,C,.rt r,e',C1,S1,hb',λΘ' v H' R=>?_⟩
    have kp:=R.kp;rw[no,pU] at kp;rw[cl] at q hok;exact q v H' kp (R.ok.cut R.th hok no)
   .cases hf
  .rename_i e' C1 hb';cases hf
   refine⟨Z,Θ,_,C,.nx,e',C1,S1,hb',λΘ' σ' H' R=>?_⟩
   have kp:=R.kp;rw[no,pU] at kp
   obtain⟨Δ,e,hn⟩:=R.th.ex
   have S2:=R.sm.none;rw[e] at S2;rw[cl] at q;exact q .non H' kp ⟨S2.cut,rfl⟩
  .cases hf
theorem akD(hS:bG K H a (ns.map V.int))(h:f [.sc ns] []=aa (.im (.bool aq),C')):spT K f [.ref a] H (λv _=>v=.bl aq) E:=by
 refine⟨[],[],[],[.sc ns],_,C',⟨rfl,mQ,(λ_ m=>nomatch m),λi x e=>by simp at e,⟨rfl,λn b ms e _=>by simp at e⟩⟩,.cons ⟨a,rfl,?_⟩ .nil,h,λv H' _ R=>R.2⟩
 show bG K (er [] H) a _;rw[Dw];exact hS
end
def wu(i:Nat):FE:=λenv C=>match env[i]? with
 |some (some (.sc ns))=>aa (.im (.int ns.length),env,C)
 |_=>aj
def Fb(i:Nat)(f:FB):FE:=λenv C=>match env[i]? with
 |some (some (.sc ns))=>match f env C with
  |some (.int k,_,C1)=>match dF ns k with
   |some z=>aa (.im (.int z),env,C1)
   |none=>aj
  |_=>aj
 |_=>aj
section
variable{X:Cx}{o k:Expr}{i:Nat}{p pos:Pos}
theorem Z1(ho:PE X o (tK i))(hg:Gl X "len")(hm:X.mg "len"=aj)(hv:rR "len"=aa (.builtin "len"))
  (he:bD [o] X.env=(aB,eval o X.env)::bD [] X.env:=by rfl)(hpl:(gO pos (bD [] X.env)).any (·.1)=aB:=by rfl):PE X (.Call (.Name "len" p) [o] [] pos) (tE X.K (wu i)):=
 (Ia Wf hg hm hv (oW ho sO he) (by decide) (by decide) he hpl).weak λσ H Q aK=>by
  obtain⟨Z,Θ,env,C,r,env',C',S,hf,q⟩:=aK
  unfold wu at hf;split at hf
  .rename_i ns h0;cases hf
   obtain⟨v,ev,a,rfl,sq⟩:=S.slot i _ h0
   have:=q (.int ns.length) H (aV.refl _ _) (Fz.refl _) ⟨S,rfl⟩
   exact⟨_,ev,a,_,rfl,.inl ((Ay _ _).seq sq),by rw[bh];exact this⟩
  .cases hf
theorem akE(ho:PE X o (tK i))(hk:PE X k (gn X.K f))(hs:Jc k):PE X (.Subscript o k pos) (tE X.K (Fb i f)):=(RC Qi ho hk hs).weak λσ H Q aK=>by
 obtain⟨Z,Θ,env,C,r,env',C',S,hf,q⟩:=aK
 unfold Fb at hf;split at hf
 case h_2=>cases hf
 rename_i ns h0;split at hf
 case h_2=>cases hf
 rename_i z e1 C1 h1;split at hf
 case h_2=>cases hf
 rename_i y hy;cases hf
 obtain⟨v,ev,a,rfl,sq⟩:=S.slot i _ h0
 refine⟨_,ev,Z,Θ,env,C,_,e1,C',S,h1,λw H1 k1 f1 S1 b1=>?_⟩
 have S2:=S.go k1 S1.cell
 obtain⟨v2,ev2,a2,ea2,sq2⟩:=S2.slot i _ h0
 rw[ev] at ev2;cases ev2;cases ea2
 refine⟨a,_,z,.int y,rfl,b1,(Ay _ _).seq sq2,?_,q _ H1 k1 (Fz.refl _) ⟨S2,rfl⟩⟩
 unfold dF at hy⊢;rw[bh];cases hj:nD ns.length z with
 |none=>rw[hj] at hy;cases hy
 |some j=>
  rw[hj] at hy
  show(ns.map V.int)[j]?=_
  rw[ie,show ns[j]?=aa y from hy];rfl
end
section
variable{K:aF}{X:Cx}
theorem nj(h:J1 Z Θ env σ H [d] vs):∃v,vs=[v]/\eU Z Θ env σ H d v:=by
 cases h with
 |cons a b=>cases b;exact⟨_,rfl,a⟩
theorem J3(h:J1 Z Θ env σ H [d,e] vs):∃v w,vs=[v,w]/\eU Z Θ env σ H d v/\eU Z Θ env σ H e w:=by
 cases h with
 |cons a b=>
  cases b with
  |cons b c=>cases c;exact⟨_,_,rfl,a,b⟩
def Kv:au->Option Nat
 |.list ds=>aa ds.length
 |.tuple ds=>aa ds.length
 |.str z=>if z.length<=eZ then aa z.length else aj
 |.dict kvs=>if(cg dD kvs).isSome then aa kvs.length else aj
 |_=>aj
def pB:List au->Option Vl
 |[d]=>(Kv d).map λn=>.im (.int n)
 |_=>aj
def abi(K:aF):List V->Hp->VK->Prop:=λxs H Q=>((∃p ys,xs=[.ref p]/\(bG K H p ys\/bW K H p ys)/\Q (.int ys.length) H)\/∃z,xs=[.str z]/\z.length<=bL/\Q (.int z.length) H)\/∃a kvs,xs=[V.ref a]/\yV H a kvs/\Q (.int kvs.length) H
theorem vA:fO X (.builtin "len") (abi X.K):=(Wf.or ae0).or ago
theorem vO:jm K (abi K) pB:=by
 intro Z Θ env C σ H xs ds res S b e Q q;unfold pB at e;split at e
 case h_2=>cases e
 rename_i d
 obtain⟨v,rfl,bb⟩:=nj b
 cases hn:Kv d with
 |none=>rw[hn] at e;cases e
 |some n=>
  rw[hn] at e;cases e;have fin:=q (.int n) H (aV.refl _ _) (iu S rfl rfl);cases d<;>first|cases hn|skip
  .rename_i z;simp only[Kv] at hn;split at hn
   .rename_i hl;cases hn;cases bb.str;exact .inl (.inr ⟨z,rfl,qg hl,fin⟩)
   .cases hn
  .obtain⟨a,vs,rfl,ha,r⟩:=bb.lst
   exact .inl (.inl ⟨a,vs,rfl,.inl (bG.of ha),by rw[iw r];exact fin⟩)
  .obtain⟨a,vs,rfl,ha,r⟩:=bb.tup
   exact .inl (.inl ⟨a,vs,rfl,.inr (bW.of ha),by rw[iw r];exact fin⟩)
  .rename_i kvs;simp only[Kv] at hn;split at hn
   .rename_i hs;cases hn
    obtain⟨a,vs,rfl,da,r⟩:=bb.dct
    rcases da with⟨ks,h1,ha⟩|⟨ks,⟨ne,h2⟩,ha⟩
    .refine .inr ⟨a,_,rfl,rdK ha,?_⟩;rw[zx,rZ h1,Ac r,M9];exact fin
    .obtain⟨ks',h1⟩:=wW.mp hs
     exact absurd (xR h1 h2) ne
   .cases hn
def Ej:List au->Option Vl
 |[.int i]=>aa (.im (.int (if i<0 then -i else i)))
 |_=>aj
theorem aaK:jm K (λxs H Q=>∃i,xs=[.int i]/\Q (.int (if i<0 then -i else i)) H) Ej:=by
 intro Z Θ env C σ H xs ds res S b e Q q;unfold Ej at e;split at e
 case h_2=>cases e
 cases e
 obtain⟨v,rfl,bb⟩:=nj b
 cases bb.int
 exact⟨_,rfl,q _ H (aV.refl _ _) (iu S rfl rfl)⟩
def J4:List au->Option Vl
 |[.int i]=>aa (.im (.int i))
 |[.bool k]=>aa (.im (.int (if k then 1 else 0)))
 |_=>aj
theorem akF:jm K (λxs H Q=>(∃i,xs=[.int i]/\Q (.int i) H)\/∃k,xs=[.bl k]/\Q (.int (if k then 1 else 0)) H) J4:=by
 intro Z Θ env C σ H xs ds res S b e Q q;unfold J4 at e;split at e
 case h_3=>cases e
 .cases e
  obtain⟨v,rfl,bb⟩:=nj b
  cases bb.int;exact .inl ⟨_,rfl,q _ H (aV.refl _ _) (iu S rfl rfl)⟩
 .cases e
  obtain⟨v,rfl,bb⟩:=nj b
  cases(show v=.bl _ from bb)
  exact .inr ⟨_,rfl,q _ H (aV.refl _ _) (iu S rfl rfl)⟩
def Aq:List au->Option Vl
 |[.int i,.int j]=>aa (.im (.int (if j>i then j else i)))
 |_=>aj
def vP:List au->Option Vl
 |[.int i,.int j]=>aa (.im (.int (if j<i then j else i)))
 |_=>aj
theorem Z2:jm K (λxs H Q=>∃i j,xs=[.int i,.int j]/\Q (.int (if j>i then j else i)) H) Aq:=by
 intro Z Θ env C σ H xs ds res S b e Q q;unfold Aq at e;split at e
 case h_2=>cases e
 cases e
 obtain⟨v,w,rfl,b1,b2⟩:=J3 b
 cases b1.int;cases b2.int
 exact⟨_,_,rfl,q _ H (aV.refl _ _) (iu S rfl rfl)⟩
theorem Qt:jm K (λxs H Q=>∃i j,xs=[.int i,.int j]/\Q (.int (if j<i then j else i)) H) vP:=by
 intro Z Θ env C σ H xs ds res S b e Q q;unfold vP at e;split at e
 case h_2=>cases e
 cases e
 obtain⟨v,w,rfl,b1,b2⟩:=J3 b
 cases b1.int;cases b2.int
 exact⟨_,_,rfl,q _ H (aV.refl _ _) (iu S rfl rfl)⟩
def boolsOf:List au->Option (List Bool)
 |[]=>aa []
 |.bool b::r=>match boolsOf r with
  |some t=>aa (b::t)
  |none=>aj
 |_=>aj
theorem Xu:∀{ds:List au}{ns:List Bool}{vs:List V},boolsOf ds=aa ns->bY E ds vs->vs=ns.map V.bl
 |[],ns,vs,h,r=>by cases h;exact r
 |.bool i::ds,ns,vs,h,r=>by
  unfold boolsOf at h;split at h
  .rename_i t ht;cases h
   obtain⟨u,w,rfl,q,s⟩:=r
   rw[Xu ht s];have:u=.bl i:=q;rw[this];rfl
  .cases h
 |.none::_,_,_,h,_=>by cases h
 |.int _::_,_,_,h,_=>by cases h
 |.str _::_,_,_,h,_=>by cases h
 |.list _::_,_,_,h,_=>by cases h
 |.tuple _::_,_,_,h,_=>by cases h
 |.dict _::_,_,_,h,_=>by cases h
def Ek:List au->Option Vl
 |[.list ds]=>(boolsOf ds).map λbs=>.im (.bool (bs.all id))
 |_=>aj
theorem akG:jm K (λxs H Q=>∃(p:ao)(bs:List Bool),xs=[.ref p]/\bG K H p (bs.map V.bl)/\Q (.bl (bs.all id)) H) Ek:=by
 intro Z Θ env C σ H xs ds res S b e Q q;unfold Ek at e;split at e
 case h_2=>cases e
 rename_i ds;cases hb:boolsOf ds with
 |none=>rw[hb] at e;cases e
 |some bs=>
  rw[hb] at e;cases e
  obtain⟨v,rfl,bb⟩:=nj b
  obtain⟨a,vs,rfl,ha,r⟩:=bb.lst
  rw[Xu hb r] at ha
  exact⟨a,bs,rfl,bG.of ha,q _ H (aV.refl _ _) (iu S rfl rfl)⟩
def Ar:List au->Option Vl
 |[d]=>if kO d&&d.showable&&decide (d.depth<=60)&&decide (d.shown.length<=eZ) then aa (.im (.str d.shown)) else aj
 |_=>aj
theorem Z3:jm K (λxs H Q=>∃v d,xs=[v]/\RD K H d v/\d.showable=aq/\d.depth<=60/\d.shown.length<=bL/\Q (.str d.shown) H) Ar:=by
 intro Z Θ env C σ H xs ds res S b e Q q;unfold Ar at e;split at e
 case h_2=>cases e
 rename_i d;split at e
 case isFalse=>cases e
 rename_i h;cases e;rw[iT,iT,iT,decide_eq_true_iff,decide_eq_true_iff] at h
 obtain⟨v,rfl,bb⟩:=nj b
 exact⟨v,d,rfl,(bb.rx h.1.1.1).rd,h.1.1.2,h.1.2,qg h.2,q _ H (aV.refl _ _) (iu S rfl rfl)⟩
def mW:List au->Option Vl
 |[.list ds]=>aa (.im (.tuple ds))
 |[.tuple ds]=>aa (.im (.tuple ds))
 |_=>aj
theorem vD:jm K (λxs H Q=>∃p ys,xs=[.ref p]/\((bG K H p ys/\∀l,H l=aj->Q (.ref l) (upd H l (.tup ys)))\/(bW K H p ys/\Q (.ref p) H))) mW:=by
 intro Z Θ env C σ H xs ds res S b e Q q;unfold mW at e;split at e
 case h_3=>cases e
 .cases e
  obtain⟨v,rfl,bb⟩:=nj b
  obtain⟨a,vs,rfl,ha,r⟩:=bb.lst
  exact⟨a,vs,rfl,.inl ⟨bG.of ha,λl hl=>q _ _ (aV.upd hl) (Ae S r hl)⟩⟩
 .cases e
  obtain⟨v,rfl,bb⟩:=nj b
  obtain⟨a,vs,rfl,ha,r⟩:=bb.tup
  exact⟨a,vs,rfl,.inr ⟨bW.of ha,q _ H (aV.refl _ _) ⟨S,bb⟩⟩⟩
end
def uJ(n:String):au->Option Bool
 |.none=>aa aB
 |.bool _=>aa (n=="bool"||n=="int")
 |.int _=>aa (n=="int")
 |.str _=>aa (n=="str")
 |.list _=>aa (n=="list")
 |.tuple _=>aa (n=="tuple")
 |.dict _=>aj
def Fd(n:String):Bool:=n=="bool"||n=="int"||n=="str"||n=="list"||n=="tuple"
theorem Q0{K:aF}{n:String}{d:au}{b:Bool}(hn:Fd n=aq)(e:uJ n d=aa b):zA K (FP d) (.type n)=aa b:=by
 unfold Fd at hn;simp only[Bool.or_eq_true,beq_iff_eq] at hn;rcases hn with(((rfl|rfl)|rfl)|rfl)|rfl<;>cases d<;>cases e<;>rfl
theorem YH(e:uJ n d=aa b):∀kvs,d≠.dict kvs:=λkvs z=>by subst z;cases e
theorem eU.ty{K:aF}{Z Θ:List ao}{env:En}{σ:St}{H:Hp}{d:au}{v:V}(h:eU Z Θ env σ H d v)(hd:∀kvs,d≠.dict kvs):lD K H v (FP d):=by
 cases d with
 |none=>exact RX.ty (d:=.none) h
 |bool b=>exact RX.ty (d:=.bool b) h
 |int i=>exact RX.ty (d:=.int i) h
 |str z=>exact RX.ty (d:=.str z) h
 |list ds=>
  obtain⟨a,vs,rfl,ha,r⟩:=h.lst
  exact .lst ha
 |tuple ds=>
  obtain⟨a,vs,rfl,ha,r⟩:=h.tup
  exact .tup ha
 |dict kvs=>exact absurd rfl (hd kvs)
def mJ(n:String)(f:FB):FE:=λenv C=>match f env C with
 |some (d,_,C1)=>match uJ n d with
  |some b=>aa (.im (.bool b),env,C1)
  |none=>aj
 |none=>aj
def yD(m n:String)(f:FB):FE:=λenv C=>match f env C with
 |some (d,_,C1)=>match uJ m d,uJ n d with
  |some p,some q=>aa (.im (.bool (p||q)),env,C1)
  |_,_=>aj
 |none=>aj
section
variable{X:Cx}{a t t':Expr}{p pos tp:Pos}{x1:Nat}
theorem sZ(hn:Fd n=aq)(ha:PE X a (gn X.K f))(ht:PE X t (tC (.ty n)))(hg:Gl X "isinstance")(hm:X.mg "isinstance"=aj)(hv:rR "isinstance"=aa (.builtin "isinstance"))
  (he:bD [a,t] X.env=(aB,eval a X.env)::bD [t] X.env:=by rfl)(he2:bD [t] X.env=(aB,eval t X.env)::bD [] X.env:=by rfl)(hpl:(gO pos (bD [t] X.env)).any (·.1)=aB:=by rfl):
  PE X (.Call (.Name "isinstance" p) [a,t] [] pos) (tE X.K (mJ n f)):=
 (Ia afg hg hm hv (oW ha (oW ht sO he2) he) (by decide) (by decide) he hpl).weak λσ H Q aK=>by
  obtain⟨Z,Θ,env,C,r,env',C',S,hf,q⟩:=aK
  unfold mJ at hf;split at hf
  case h_2=>cases hf
  rename_i d e1 C1 h1;split at hf
  case h_2=>cases hf
  rename_i b hb;cases hf
  refine⟨Z,Θ,env,C,d,e1,C',S,h1,λv H1 k f S1 b1=>⟨v,n,FP d,b,rfl,b1.ty (YH hb),Q0 hn hb,q _ H1 k (Fz.refl _) ⟨S.go k S1.cell,rfl⟩⟩⟩
theorem aiP(hm':Fd m=aq)(hn:Fd n=aq)(ha:PE X a (gn X.K f))(ht:PE X t (tC (.ty m)))(ht':PE X t' (tC (.ty n)))(hg:Gl X "isinstance")(hm:X.mg "isinstance"=aj)(hv:rR "isinstance"=aa (.builtin "isinstance"))
  (he:bD [a,.Tuple [t,t'] x1 tp] X.env=(aB,eval a X.env)::bD [.Tuple [t,t'] x1 tp] X.env:=by rfl)(he2:bD [.Tuple [t,t'] x1 tp] X.env=(aB,eval (.Tuple [t,t'] x1 tp) X.env)::bD [] X.env:=by rfl)
  (h3:bD [t,t'] X.env=(aB,eval t X.env)::bD [t'] X.env:=by rfl)(h4:bD [t'] X.env=(aB,eval t' X.env)::bD [] X.env:=by rfl)
  (hpl:(gO pos (bD [.Tuple [t,t'] x1 tp] X.env)).any (·.1)=aB:=by rfl):
  PE X (.Call (.Name "isinstance" p) [a,.Tuple [t,t'] x1 tp] [] pos) (tE X.K (yD m n f)):=
 (Ia ae2 hg hm hv (oW ha (oW (QM (oW ht (oW ht' sO h4) h3)) sO he2) he) (by decide) (by decide) he hpl).weak λσ H Q aK=>by
  obtain⟨Z,Θ,env,C,r,env',C',S,hf,q⟩:=aK
  unfold yD at hf;split at hf
  case h_2=>cases hf
  rename_i d e1 C1 h1;split at hf
  case h_2=>cases hf
  rename_i b b' hb hb';cases hf
  refine⟨Z,Θ,env,C,d,e1,C',S,h1,λv H1 k f S1 b1=>⟨by show 2<=bL;rw[jo];decide,λc hc=>?_⟩⟩
  have kc:aV Θ H1 (upd H1 c (.tup [.ty m,.ty n])):=aV.upd hc;have s2:=S1.yx (bC.upd (o:=.tup [.ty m,.ty n]) hc);have b2:=b1.go S1 kc (Fz.refl _)
  refine⟨v,c,m,n,FP d,b,b',rfl,eN,b2.ty (YH hb),Q0 hm' hb,Q0 hn hb',q _ _ (k.trans kc) (Fz.refl _) ⟨S.go (k.trans kc) s2.cell,rfl⟩⟩
end
def ins{α:Type}(lt:α->α->Bool)(x:α):List α->List α
 |[]=>[x]
 |y::r=>if lt y x then y::ins lt x r else x::y::r
def nq{α:Type}(lt:α->α->Bool):List α->List α
 |[]=>[]
 |x::r=>ins lt x (nq lt r)
section
variable{α:Type}{lt:α->α->Bool}
theorem Ph(x:α):∀l:List α,(ins lt x l).Perm (x::l)
 |[]=>vm _
 |y::r=>by
  unfold ins;split
  .exact((Ph x r).cons y).trans (V0 x y r)
  .exact vm _
theorem NB:∀l:List α,(nq lt l).Perm l
 |[]=>vm _
 |x::r=>(Ph x _).trans ((NB r).cons x)
structure Bb(lt:α->α->Bool)(P:α->Prop):Prop where
 abD:∀a b,P a->P b->lt a b=aq->lt b a=aB
 neg:∀a b c,P a->P b->P c->lt a c=aq->lt a b=aq\/lt b c=aq
 tot:∀a b,P a->P b->lt a b=aB->lt b a=aB->a=b
theorem aaL(O:Bb lt P)(hx:P x):∀{l:List α},(∀y∈l,P y)->l.Pairwise (λa b=>lt b a=aB)->(ins lt x l).Pairwise (λa b=>lt b a=aB)
 |[],_,_=>uc.mpr ⟨λ_ m=>(nomatch m),BX⟩
 |y::r,hp,h=>by
  rw[uc] at h;have py:=hp y cV;unfold ins;split
  .rename_i hl;rw[uc]
   refine⟨λz m=>?_,aaL O hx (λz m=>hp z (dg _ m)) h.2⟩
   rcases bI.mp ((Ph x r).mem_iff.mp m) with rfl|m
   .exact O.abD _ _ py hx hl
   .exact h.1 z m
  .rename_i hl;have hl:lt y x=aB:=by simpa using hl
   rw[uc,uc]
   refine⟨λz m=>?_,h.1,h.2⟩
   rcases bI.mp m with rfl|m
   .exact hl
   .have pz:=hp z (dg _ m);cases hz:lt z x with
    |false=>rfl
    |true=>
     rcases O.neg z y x pz py hx hz with h1|h1
     .rw[h.1 z m] at h1;cases h1
     .rw[hl] at h1;cases h1
theorem YJ(O:Bb lt P):∀{l:List α},(∀y∈l,P y)->(nq lt l).Pairwise (λa b=>lt b a=aB)
 |[],_=>BX
 |x::r,hp=>aaL O (hp x cV) (λy m=>hp y (dg _ ((NB r).mem_iff.mp m))) (YJ O λy m=>hp y (dg _ m))
theorem aaM(O:Bb lt P):∀{l m:List α},(∀y∈l,P y)->l.Perm m->l.Pairwise (λa b=>lt b a=aB)->m.Pairwise (λa b=>lt b a=aB)->l=m
 |[],m,_,p,_,_=>(List.nil_perm.mp p).symm
 |x::r,[],_,p,_,_=>absurd p.length_eq (by simp)
 |x::r,y::t,hp,p,h1,h2=>by
  have pm:∀z∈y::t,P z:=λz m=>hp z (p.mem_iff.mpr m)
  rw[uc] at h1 h2;have e:x=y:=by
   have m1:x∈y::t:=p.mem_iff.mp cV;have m2:y∈x::r:=p.mem_iff.mpr cV;rcases bI.mp m1 with e|m1
   .exact e
   .rcases bI.mp m2 with e|m2
    .exact e.symm
    .exact O.tot x y (hp x cV) (pm y cV) (h2.1 x m1) (h1.1 y m2)
  subst e;rw[aaM O (λz m=>hp z (dg _ m)) ((List.perm_cons x).mp p) h1.2 h2.2]
theorem Z4(O:Bb lt P)(hp:∀y∈l,P y)(p:m.Perm l)(h:m.Pairwise (λa b=>lt b a=aB)):m=nq lt l:=
 aaM O (λy hy=>hp y (p.mem_iff.mp hy)) (p.trans (NB l).symm) h (YJ O hp)
end
def ltI(i j:Int):Bool:=decide (i<j)
theorem amr:Bb ltI (λ_=>True):=⟨λa b _ _ h=>by unfold ltI at *;simp at *;lia,λa b c _ _ _ h=>by unfold ltI at *;simp at *;lia,λa b _ _ h1 h2=>by unfold ltI at *;simp at *;lia⟩
theorem abO:Bb strLt (λ_=>True):=by
 refine⟨λa b _ _ h=>?_,λa b c _ _ _ h=>?_,λa b _ _ h1 h2=>?_⟩
 .exact aiz (a:=.inr a) (b:=.inr b) h
 .exact akp (a:=.inr a) (b:=.inr b) (c:=.inr c) rfl rfl h
 .exact afa (akq (a:=.inr a) (b:=.inr b) rfl h1 h2)
def strsOf:List au->Option (List Str)
 |[]=>aa []
 |.str i::r=>match strsOf r with
  |some t=>aa (i::t)
  |none=>aj
 |_=>aj
theorem Pj:∀{ds:List au}{ns:List Str}{vs:List V},strsOf ds=aa ns->bY E ds vs->vs=ns.map V.str
 |[],ns,vs,h,r=>by cases h;exact r
 |.str i::ds,ns,vs,h,r=>by
  unfold strsOf at h;split at h
  .rename_i t ht;cases h
   obtain⟨u,w,rfl,q,s⟩:=r
   rw[Pj ht s];have:u=.str i:=q;rw[this];rfl
  .cases h
 |.none::_,_,_,h,_=>by cases h
 |.bool _::_,_,_,h,_=>by cases h
 |.int _::_,_,_,h,_=>by cases h
 |.list _::_,_,_,h,_=>by cases h
 |.tuple _::_,_,_,h,_=>by cases h
 |.dict _::_,_,_,h,_=>by cases h
def pJ:au->Option (List Bool)
 |.tuple xs=>(keysOf xs).map λks=>ks.map cA
 |_=>aj
def lK:Key->au
 |.inl i=>.int i
 |.inr x=>.str x
def J5:au->List Key
 |.tuple xs=>(keysOf xs).getD []
 |_=>[]
def pK(ds:List au):List au:=(tM (ds.map J5)).map λk=>.tuple (k.map lK)
def yE(ds:List au):Option (List au):=if ds.length<64 then match intsOf ds with
  |some ns=>aa ((nq ltI ns).map .int)
  |none=>match strsOf ds with
   |some zs=>aa ((nq strLt zs).map .str)
   |none=>match ds with
    |[]=>aa []
    |d::_=>match pJ d with
     |some (b::sh)=>if(ds.all λe=>decide (pJ e=aa (b::sh))) then aa (pK ds) else aj
     |_=>aj
 else aj
def xT:List au->Option Vl
 |[.list ds]=>(yE ds).map λl=>.ow (.list l)
 |_=>aj
def Q3(K:aF):List V->Hp->VK->Prop:=λxs H Q=>((∃(p:ao)(ns:List Int),xs=[.ref p]/\bG K H p (ns.map V.int)/\ns.length<64/\∀(l:ao)(ns':List Int),H l=aj->ns'.Perm ns->ns'.Pairwise (·<=·)->Q (.ref l) (upd H l (.lst (ns'.map V.int))))\/
 ∃(p:ao)(ns:List Str),xs=[.ref p]/\bG K H p (ns.map V.str)/\ns.length<64/\∀(l:ao)(ns':List Str),H l=aj->ns'.Perm ns->sortedS ns'=aq->Q (.ref l) (upd H l (.lst (ns'.map V.str))))\/
 ∃(p:ao)(rows:List Row)(b:Bool)(sh:List Bool),xs=[.ref p]/\bG K H p (rows.map λr=>V.ref r.1)/\rows.length<64/\(∀r∈rows,H r.1=aa (.tup (r.2.map kV))/\r.2.map cA=b::sh)/\∀(l:ao)(rows':List Row),H l=aj->rows'.Perm rows->rows'.map (·.2)=tM (rows.map (·.2))->Q (.ref l) (upd H l (.lst (rows'.map λr=>V.ref r.1)))
theorem afT:fO X (.builtin "sorted") (Q3 X.K):=(aeb.or aec).or adV
theorem sortI(p:ns'.Perm ns)(h:ns'.Pairwise (·<=·)):ns'=nq ltI ns:=Z4 amr (λ_ _=>trivial) p (h.imp λ{a b} hab=>by unfold ltI;simp;exact hab)
theorem aaN:∀{x:Str}{r:List Str},risingS x r=aq->(x::r).Pairwise (λa b=>strLt b a=aB)
 |x,[],_=>uc.mpr ⟨λ_ m=>(nomatch m),BX⟩
 |x,y::r,h=>by
  unfold risingS at h;rw[iT,Bool.not_eq_true'] at h;have ih:=aaN h.2;have hxy:strLt y x=aB:=by
   have:=h.1;unfold strLt;rw[lt_meets];exact this
  rw[uc]
  refine⟨λz m=>?_,ih⟩
  rcases bI.mp m with rfl|m
  .exact hxy
  .rw[uc] at ih;cases hz:strLt z x with
   |false=>rfl
   |true=>
    rcases abO.neg z y x trivial trivial trivial hz with h1|h1
    .rw[ih.1 z m] at h1;cases h1
    .rw[hxy] at h1;cases h1
theorem akH(p:ns'.Perm ns)(h:sortedS ns'=aq):ns'=nq strLt ns:=Z4 abO (λ_ _=>trivial) p (by
 cases ns' with
 |nil=>exact BX
 |cons x r=>exact aaN h)
theorem Io:∀{xs:List au}{ks:List Key},keysOf xs=aa ks->xs=ks.map lK
 |[],ks,h=>by cases h;rfl
 |x::xs,ks,h=>by
  unfold keysOf at h;split at h
  .rename_i k t h1 h2;cases h;rw[Io h2];have:x=lK k:=by
    cases x<;>first|(cases h1;rfl)|cases h1
   rw[this];rfl
  .cases h
theorem Pk:∀ks:List Key,keysOf (ks.map lK)=aa ks
 |[]=>rfl
 |k::ks=>by
  show(match dD (lK k),keysOf (ks.map lK) with|some k,some t=>aa (k::t)|_,_=>aj)=_
  rw[Pk ks];cases k<;>rfl
theorem agG{ds:List au}{rows rows':List Row}(e:ds=rows.map (λr=>.tuple (r.2.map lK)))(h:rows'.map (·.2)=tM (rows.map (·.2))):(rows'.map λr=>G7 (r.2.map lK))=pK ds:=by
 have e1:ds.map J5=rows.map (·.2):=by
  rw[e,gM];refine BL λr _=>?_
  show(keysOf (r.2.map lK)).getD []=r.2
  rw[Pk];rfl
 unfold pK;rw[e1,<-h,gM];rfl
theorem Xv(h:∀d∈ds,(pJ d).isSome=aq):(pK ds).Perm ds:=by
 have:=(agv (ds.map J5)).map λk=>G7 (k.map lK)
 refine this.trans (aer ?_);rw[gM]
 refine(BL λd hd=>?_).trans (Nj ds)
 have hs:=h d hd;cases d with
 |tuple xs=>
  show G7 (((keysOf xs).getD []).map lK)=.tuple xs;cases hk:keysOf xs with
  |none=>
   have hs:((keysOf xs).map λks=>ks.map cA).isSome=aq:=hs;rw[hk] at hs;cases hs
  |some ks=>rw[Io hk];rfl
 |_=>cases hs
theorem YK:∀{ds:List au}{vs:List V},(∀d∈ds,pJ d=aa sh)->bY E ds vs->∃rows:List Row,vs=rows.map (λr=>V.ref r.1)/\ds=rows.map (λr=>.tuple (r.2.map lK))/\∀r∈rows,E r.1=aa (.tup (r.2.map kV))/\r.2.map cA=sh
 |[],vs,_,r=>⟨[],r,rfl,λ_ m=>(nomatch m)⟩
 |d::ds,vs,h,r=>by
  obtain⟨u,w,rfl,q,s⟩:=r
  obtain⟨rows,e1,e2,e3⟩:=YK (λd m=>h d (dg _ m)) s
  have hd:=h d cV;cases d<;>first|cases hd|skip
  rename_i xs;have hd:(keysOf xs).map (λks=>ks.map cA)=aa sh:=hd;cases hk:keysOf xs with
  |none=>rw[hk] at hd;cases hd
  |some ks=>
   rw[hk] at hd
   obtain⟨a,vs',rfl,ha,rr⟩:=q
   rw[xP hk rr] at ha
   refine⟨(a,ks)::rows,by rw[e1];rfl,by rw[e2,Io hk];rfl,λr m=>?_⟩
   rcases bI.mp m with rfl|m
   .exact⟨ha,fU hd⟩
   .exact e3 r m
theorem Pn:∀{rows:List Row},(∀r∈rows,E r.1=aa (.tup (r.2.map kV)))->bY E (rows.map λr=>.tuple (r.2.map lK)) (rows.map λr=>V.ref r.1)
 |[],_=>rfl
 |r::rows,h=>by
  refine⟨_,_,rfl,⟨r.1,r.2.map kV,rfl,h r cV,?_⟩,Pn λr m=>h r (dg _ m)⟩
  generalize r.2=ks;induction ks with
  |nil=>rfl
  |cons k ks ih=>exact⟨_,_,rfl,by cases k<;>rfl,ih⟩
theorem Pq:∀{ds:List au}{ns:List Int},intsOf ds=aa ns->ds=ns.map .int
 |[],ns,h=>by cases h;rfl
 |.int i::ds,ns,h=>by
  unfold intsOf at h;split at h
  .rename_i t ht;cases h;rw[Pq ht];rfl
  .cases h
 |.none::_,_,h=>by cases h
 |.bool _::_,_,h=>by cases h
 |.str _::_,_,h=>by cases h
 |.list _::_,_,h=>by cases h
 |.tuple _::_,_,h=>by cases h
 |.dict _::_,_,h=>by cases h
theorem YL:∀{ds:List au}{ns:List Str},strsOf ds=aa ns->ds=ns.map .str
 |[],ns,h=>by cases h;rfl
 |.str i::ds,ns,h=>by
  unfold strsOf at h;split at h
  .rename_i t ht;cases h;rw[YL ht];rfl
  .cases h
 |.none::_,_,h=>by cases h
 |.bool _::_,_,h=>by cases h
 |.int _::_,_,h=>by cases h
 |.list _::_,_,h=>by cases h
 |.tuple _::_,_,h=>by cases h
 |.dict _::_,_,h=>by cases h
theorem agH{K:aF}:jm K (Q3 K) xT:=by
 intro Z Θ env C σ H xs ds0 res S b e Q q;unfold xT at e;split at e
 case h_2=>cases e
 rename_i ds;cases hs:yE ds with
 |none=>rw[hs] at e;cases e
 |some l=>
  rw[hs] at e;cases e
  obtain⟨v,rfl,bb⟩:=nj b
  obtain⟨a,vs,rfl,ha,r⟩:=bb.lst
  unfold yE at hs;split at hs
  case isFalse=>cases hs
  rename_i hl;split at hs
  .rename_i ns hns;cases hs;have ev:=Il hns r;subst ev;refine .inl (.inl ⟨a,ns,rfl,bG.of ha,by rw[Pq hns,bh] at hl;exact hl,λl ns' hn p hp=>?_⟩);rw[sortI p hp];exact q _ _ (aV.upd hn) (sE S (Yw _) hn)
  .split at hs
   .rename_i ns hns;cases hs;have ev:=Pj hns r;subst ev;refine .inl (.inr ⟨a,ns,rfl,bG.of ha,by rw[YL hns,bh] at hl;exact hl,λl ns' hn p hp=>?_⟩);rw[akH p hp];exact q _ _ (aV.upd hn) (sE S (ahv _) hn)
   .split at hs
    .cases hs
     cases(show vs=[] from r)
     exact .inl (.inl ⟨a,[],rfl,bG.of ha,by decide,λl ns' hn p hp=>by
      rw[List.perm_nil.mp p];exact q _ _ (aV.upd hn) (sE S rfl hn)⟩)
    .rename_i d0 dr hi1 hi2;split at hs
     case h_2=>cases hs
     rename_i b0 sh hsh;split at hs
     case isFalse=>cases hs
     rename_i hall;cases hs;have hall':∀d∈d0::dr,pJ d=aa (b0::sh):=λd m=>of_decide_eq_true (jO.mp hall d m)
     obtain⟨rows,e1,e2,e3⟩:=YK hall' r
     subst e1;refine .inr ⟨a,rows,b0,sh,rfl,bG.of ha,?_,λr m=>⟨fJ (e3 r m).1,(e3 r m).2⟩,λl rows' hn p hp=>?_⟩
     .have:=congrArg qM e2;rw[bh] at this;rw[<-this];exact hl
     .have es:(rows'.map λr=>G7 (r.2.map lK))=pK (d0::dr):=agG e2 hp;rw[<-es] at q;exact q _ _ (aV.upd hn) (sE S (Pn λr m=>(e3 r (p.mem_iff.mp m)).1) hn)
def Jm(ds:List au):Option (List au):=if ds.length<64 then match intsOf ds with
  |some ns=>aa ((nq ltI (dedup ns)).map .int)
  |none=>aj
 else aj
def J6(f:FB):FE:=λenv C=>match f env C with
 |some (.list ds,_,C1)=>match Jm ds with
  |some l=>aa (.ow (.list l),env,C1)
  |none=>aj
 |_=>aj
section
variable{X:Cx}{l:Expr}{f:FB}{p1 p2 pos1 pos2:Pos}
theorem aiQ(hc:X.calm=aq)(hl:PE X l (gn X.K f))(g1:Gl X "sorted")(m1:X.mg "sorted"=aj)(g2:Gl X "set")(m2:X.mg "set"=aj)
  (he:bD [.Call (.Name "set" p2) [l] [] pos2] X.env=(aB,eval (.Call (.Name "set" p2) [l] [] pos2) X.env)::bD [] X.env:=by rfl)(hpl:(gO pos1 (bD [] X.env)).any (·.1)=aB:=by rfl)
  (he2:bD [l] X.env=(aB,eval l X.env)::bD [] X.env:=by rfl)(Sx:(gO pos2 (bD [] X.env)).any (·.1)=aB:=by rfl):
  PE X (.Call (.Name "sorted" p1) [.Call (.Name "set" p2) [l] [] pos2] [] pos1) (tE X.K (J6 f)):=(afk hc hl g1 m1 g2 m2 he hpl he2 Sx).weak λσ H Q aK=>by
 obtain⟨Z,Θ,env,C,r,env',C',S,hf,q⟩:=aK
 unfold J6 at hf;split at hf
 case h_2=>cases hf
 rename_i ds e1 C1 h1;split at hf
 case h_2=>cases hf
 rename_i l' hs;cases hf
 refine⟨Z,Θ,env,C,_,e1,C',S,h1,λv H1 k f S1 b1=>?_⟩
 unfold Jm at hs;split at hs
 case isFalse=>cases hs
 rename_i hl;split at hs
 case h_2=>cases hs
 rename_i ns hns;cases hs
 obtain⟨a,vs,rfl,ha,r⟩:=b1.lst
 have ev:=Il hns r;subst ev;have S2:=S.go k S1.cell
 refine⟨a,ns,rfl,bG.of ha,by rw[Pq hns,bh] at hl;exact hl,λD ns' hn p hp=>?_⟩
 rw[sortI p hp];exact q _ _ (k.trans (aV.upd hn)) (Fz.refl _) ((sE S2 (Yw _) hn).from k)
end
theorem aiR(hu:A.units+1<dB)(I:Inv X pins σ H s)(g:nZ H a y o)(ry:RelV y u)(rd:RelV d r)(h:∀w' s',Inv X pins σ H s'->RelV (o.getD d) w'->Q w' s'):
  aH (model X.prog X.w) A (call (.builtin "dict.get") [.ref a,u,r]) Q E s:=by
 rcases g with g|⟨⟨ep,ha⟩,⟨b,ks,rfl,hb⟩,rfl⟩
 .exact aat hu I g ry rd h
 .exact aat hu (I.FQ ha) (nZ.re ha hb) ry rd λw' s' I'=>h w' s' (I'.K3 ha)
def alu(td ty tx:TE):TE:=λσ H Q=>td σ H λx H1=>∃a,x=.ref a/\IsD H1 a/\ty σ H1 λy H2=>tx σ H2 λz H3=>∃o,nZ H3 a y o/\Q (o.getD z) H3
theorem aiS(hu:X.A.units+1<dB)(ho:PE X o td)(he:PE X e ty)(hf:PE X f tx)(m:M2 X o "get" apos e f cpos):PE X (.Call (.Attribute o "get" apos) [e,f] [] cpos) (alu td ty tx):=by
 intro pins s σ H Q I h;refine wpAny_Call_method m.base m.few m.line PySem.F.plainAttrs_dict Ux PySem.F.type_dict_get (bQ (ho pins s σ H _ I h) λu s1 aK=>?_)
 obtain⟨x,H1,I1,rx,a,ex,d,q1⟩:=aK
 subst ex;obtain rfl:u=cM a:=rx
 obtain⟨t1,t2,_⟩:=aki I1 d
 refine⟨t1,t2,?_⟩
 rw[m.trees];refine ac4 rfl (adl (LQ (bQ (he pins s1 σ H1 _ I1 q1) λiv s2 ⟨y,H2,I2,ry,q2⟩=>
  LQ (bQ (hf pins s2 σ H2 _ I2 q2) λfv s3 ⟨z,H3,I3,rz,ov,g,q3⟩=>U9 ?_))))
 exact aiR hu I3 g ry rz λw' s4 I4 rw'=>⟨_,H3,I4,rw',q3⟩
def wC(fd fk:FB)(fx:FE):FE:=λenv C=>match fd env C with
 |some (.dict kvs,e1,C1)=>match fk e1 C1 with
  |some (dk,e2,C2)=>match fx e2 C2 with
   |some (r,e3,C3)=>match nW kvs dk with
    |some (some d)=>aa (.im d,rst (.im d) env e3,C3)
    |some none=>aa (still r,rst (still r) env e3,C3)
    |none=>aj
   |none=>aj
  |none=>aj
 |_=>aj
theorem aaO(hu:X.A.units+1<dB)(ho:PE X o (gn X.K fd))(he:PE X e (gn X.K fk))(hf:PE X f (tE X.K fx))(m:M2 X o "get" apos e f cpos):PE X (.Call (.Attribute o "get" apos) [e,f] [] cpos) (tE X.K (wC fd fk fx)):=(aiS hu ho he hf m).weak λσ H Q aK=>by
 obtain⟨Z,Θ,env,C,r,env',C',S,hf,q⟩:=aK
 unfold wC at hf;split at hf
 case h_2=>cases hf
 rename_i kvs e1 C1 h1;split at hf
 case h_2=>cases hf
 rename_i dk e2 C2 h2;split at hf
 case h_2=>cases hf
 rename_i r0 e3 C3 h3
 refine⟨Z,Θ,env,C,_,e1,C1,S,h1,λv H1 k1 f1 S1 b1=>?_⟩
 obtain⟨a,vs,rfl,da,rr⟩:=b1.dct
 refine⟨a,rfl,?_,Z,Θ,e1,C1,dk,e2,C2,S1,h2,λw H2 k2 f2 S2 b2=>⟨Z,Θ,e2,C2,r0,e3,C3,S2,h3,λz H3 k3 f3 R3=>?_⟩⟩
 .rcases da with⟨ks,_,h⟩|⟨ks,_,h⟩
  .exact .inl ⟨_,rdK h⟩
  .exact .inr ⟨_,rdT h⟩
 have b1':=(b1.go S1 k2 f2).go S2 k3 f3;have b2':=b2.go S2 k3 f3
 obtain⟨S3,a3⟩:=R3.arg
 have kk:=(k1.trans k2).trans k3;have ff:=(f1.trans f2).trans f3;split at hf
 .rename_i d hl;cases hf
  obtain⟨a',o',e',g,hq⟩:=b1'.get b2' hl
  cases e';rcases hq with⟨v',rfl,d',e1',r1,_⟩|⟨_,e1'⟩
  .cases e1'
   exact⟨aa v',g,q v' H3 kk (ff.rst _) (Res.rst S kk ⟨S3,r1⟩)⟩
  .cases e1'
 .rename_i hl;cases hf
  obtain⟨a',o',e',g,hq⟩:=b1'.get b2' hl
  cases e';rcases hq with⟨v',rfl,d',e1',_⟩|⟨rfl,_⟩
  .cases e1'
  .exact⟨aj,g,q z H3 kk (ff.rst _) (((R3.still).from (k1.trans k2)).rst S kk)⟩
 .cases hf
def JH:au->au->Option Vl
 |.str z,.list ds=>match strsOf ds with
  |some ys=>if(ys.map (·.length)).sum+ys.length*z.length<=eZ then aa (.im (.str (Txt.join z ys))) else aj
  |none=>aj
 |_,_=>aj
def J7(f g:FB):FE:=aP JH f g
theorem aiT(ho:PE X o (gn X.K f))(he:PE X e (gn X.K g))
  (hbase:G4 o "join" X.env (eval o X.env)=eval o X.env:=by rfl)
  (hfew:((gO cpos (bD [e] X.env)).all (λx=>!x.1)&&(Ib cpos (Hh [] X.env)).all (λx=>x.1.isSome)
   &&decide (([e]:List Expr).length+([]:List su).length+(if([]:List su).isEmpty then 0 else 1)<30))=aq:=by rfl)
  (hline:(apos.endLine==cpos.line)=aq:=by rfl)(hs:bD [e] X.env=(aB,eval e X.env)::bD [] X.env:=by rfl)(hplain:(gO cpos (bD [] X.env)).any (·.1)=aB:=by rfl):
  PE X (.Call (.Attribute o "join" apos) [e] [] cpos) (tE X.K (J7 f g)):=
 (aa1 PySem.F.plainAttrs_str PySem.F.slot_str_join PySem.F.type_str_join (Br.r aiu) ho (oW he sO hs) hbase hfew hline hs hplain).weak λσ H Q aK=>by
  obtain⟨Z,Θ,env,C,r,env',C',S,hf,q⟩:=aK
  unfold J7 aP at hf;split at hf
  case h_2=>cases hf
  rename_i x e1 C1 h1;split at hf
  case h_2=>cases hf
  rename_i y e2 C2 h2;split at hf
  case h_2=>cases hf
  rename_i r0 h3;cases hf
  refine⟨Z,Θ,env,C,x,e1,C1,S,h1,λv H1 k1 f1 S1 b1=>?_⟩
  unfold JH at h3;split at h3
  case h_2=>cases h3
  rename_i z ds;split at h3
  case h_2=>cases h3
  rename_i ys hys;split at h3
  case isFalse=>cases h3
  rename_i hl;cases h3;cases b1.str
  refine⟨rfl,Z,Θ,e1,C1,_,e2,C',S1,h2,λw H2 k2 f2 S2 b2=>?_⟩
  obtain⟨a,vs,rfl,ha,rr⟩:=b2.lst
  rw[Pj hys rr] at ha;have kk:=k1.trans k2
  refine⟨z,a,ys,rfl,rfl,bG.of ha,by unfold eZ at hl;lia,?_⟩
  exact q _ H2 kk ((f1.trans f2).rst _) (Res.rst S kk ⟨S2,rfl⟩)
abbrev FO:=En->Ce->Option (Option Int×Ce)
inductive Ga(K:aF)(f:FO)(σ:St)(H:Hp)(Q:Option Int->Hp->Prop):Prop
 |mk (Z Θ:List ao) (env:En) (C:Ce) (o:Option Int) (C':Ce) (S:Sm K Z Θ env C σ H) (hf:f env C=aa (o,C')) (q:∀H',aV Θ H H'->Sm K Z Θ env C' σ H'->Q o H'):Ga K f σ H Q
def tW:FO:=λ_ C=>aa (aj,C)
def rJ(f:FB):FO:=λenv C=>match f env C with
 |some (.int i,_,C1)=>aa (aa i,C1)
 |_=>aj
def Kw{α:Type}(xs:List α)(lo hi:Option Int):List α:=(xs.drop (HT.cj xs.length 0 lo)).take (HT.cj xs.length xs.length hi-HT.cj xs.length 0 lo)
def Bv(lo hi:Option Int):au->Option Vl
 |.str z=>if z.length<=eZ then aa (.im (.str (Txt.slice z lo hi))) else aj
 |.list ds=>aa (.ow (.list (Kw ds lo hi)))
 |.tuple ds=>aa (.im (.tuple (Kw ds lo hi)))
 |_=>aj
def rK(f:FB)(lo hi:FO):FE:=λenv C=>match f env C with
 |some (d,e1,C1)=>match lo e1 C1 with
  |some (l,C2)=>match hi e1 C2 with
   |some (h,C3)=>match Bv l h d with
    |some r=>aa (r,rst r env e1,C3)
    |none=>aj
   |none=>aj
  |none=>aj
 |none=>aj
theorem Qu{E:Hp}{ds:List au}{vs:List V}{lo hi:Option Int}(r:bY E ds vs):bY E (Kw ds lo hi) (rm vs lo hi):=by
 unfold Kw rm;rw[iw r];exact Yu _ (Yv _ r)
section
variable{X:Cx}{e:Expr}{lo hi:Option Expr}{pos p2:Pos}
theorem PO.weak(h:PO X o t)(w:∀σ H Q,t' σ H Q->t σ H Q):PO X o t':=λpins s σ H Q I q=>h pins s σ H Q I (w σ H Q q)
theorem J8:PO X aj (Ga X.K tW):=ail.weak λσ H Q aK=>by
 obtain⟨Z,Θ,env,C,o,C',S,hf,q⟩:=aK
 cases hf;exact q H (aV.refl _ _) S
theorem J9(h:PE X e (gn X.K f)):PO X (aa e) (Ga X.K (rJ f)):=(aim h).weak λσ H Q aK=>by
 obtain⟨Z,Θ,env,C,o,C',S,hf,q⟩:=aK
 unfold rJ at hf;split at hf
 .rename_i i e1 C1 h1;cases hf
  exact⟨Z,Θ,env,C,_,e1,C',S,h1,λv H1 k f S1 b1=>⟨i,b1,q H1 k (S.go k S1.cell)⟩⟩
 .cases hf
theorem Ka{f:FB}{flo fhi:FO}(he:PE X e (gn X.K f))(hl:PO X lo (Ga X.K flo))(hh:PO X hi (Ga X.K fhi)):PE X (.Subscript e (.Slice lo hi aj p2) pos) (tE X.K (rK f flo fhi)):=(ahb ((akl.or aio).or aiA) he hl hh).weak λσ H Q aK=>by
 obtain⟨Z,Θ,env,C,r,env',C',S,hf,q⟩:=aK
 unfold rK at hf;split at hf
 case h_2=>cases hf
 rename_i d e1 C1 h1;split at hf
 case h_2=>cases hf
 rename_i l C2 h2;split at hf
 case h_2=>cases hf
 rename_i h C3 h3;split at hf
 case h_2=>cases hf
 rename_i r0 h4;cases hf
 refine⟨Z,Θ,env,C,d,e1,C1,S,h1,λv H1 k1 f1 S1 b1=>⟨Z,Θ,e1,C1,l,C2,S1,h2,λH2 k2 S2=>⟨Z,Θ,e1,C2,h,C',S2,h3,λH3 k3 S3=>?_⟩⟩⟩
 have kk:=(k1.trans k2).trans k3;have b3:=b1.go S1 (k2.trans k3) (Fz.refl _);have fin:∀{w:V}{H4:Hp},aV Θ H3 H4->Res X.K Z Θ e1 C' σ H3 H4 r w->Q w H4:=λ{w H4} k4 R=>q w H4 (kk.trans k4) (f1.rst _) ((R.from kk).rst S (kk.trans k4))
 cases d<;>first|cases h4|skip
 .rename_i z;simp only[Bv] at h4;split at h4
  .rename_i hz;cases h4;cases b3.str;exact .inl (.inl ⟨z,rfl,qg hz,fin (aV.refl _ _) (iu S3 rfl rfl)⟩)
  .cases h4
 .obtain⟨a,vs,rfl,ha,rr⟩:=b3.lst
  exact .inl (.inr ⟨a,vs,rfl,bG.of ha,λp hp=>fin (aV.upd hp) (sE S3 (Qu rr) hp)⟩)
 .rename_i ds;have b3':=b3
  obtain⟨a,vs,rfl,ha,rr⟩:=b3.tup
  refine .inr ⟨a,vs,rfl,bW.of ha,λec=>?_,λp hp=>fin (aV.upd hp) (Ae S3 (Qu rr) hp)⟩;have rc:=Qu (lo:=l) (hi:=h) rr;rw[ec] at rc;refine fin (aV.refl _ _) ⟨S3,a,vs,rfl,Dz S3 ha,rc⟩
end
def wz(T:gR)(ft:FT)(fk fv:FE)(fs:En):List au->List (au×au)->Ce->Option (List (au×au)×Ce)
 |[],acc,C=>aa (acc,C)
 |d::r,acc,C=>match uV T d with
  |some ts=>match ft (dG ts++fs) C with
   |some (false,C1)=>wz T ft fk fv fs r acc C1
   |some (true,C1)=>match fk (dG ts++fs) C1 with
    |some (.im k,_,C2)=>match fv (dG ts++fs) C2 with
     |some (x,_,C3)=>match still x,dD k with
      |.im y,some kk=>if acc.length<eZ then wz T ft fk fv fs r (mH dD kk k y acc) C3 else aj
      |_,_=>aj
     |none=>aj
    |_=>aj
   |none=>aj
  |none=>aj
def yP:List (au×au)->Bool
 |[]=>aq
 |p::r=>jl p.2&&yP r
def Gb(fi:FI)(T:gR)(ft:FT)(fk fv:FE)(js:List Nat):FE:=λenv C=>match fi env C with
 |some (its,e1,C1)=>match wz T ft fk fv (frB js e1) its [] C1 with
  |some (kvs,C2)=>aa (.ow (.dict kvs),if yP kvs then e1 else fZ js e1,C2)
  |none=>aj
 |none=>aj
theorem gG.jl(t:∀a vs,H a=aa (.tup vs)->H' a=aa (.tup vs)):∀{ds:List (au×au)}{vs:List V},yP ds=aq->gG H ds vs->gG H' ds vs
 |[],_,_,h=>h
 |(k,d)::ds,vs,n,h=>by
  obtain⟨v,r,e,q,w⟩:=h
  have n':L2.jl d=aq/\yP ds=aq:=by rw[yP,iT] at n;exact n
  exact⟨v,r,e,RZ.jl t n'.1 q,gG.jl t n'.2 w⟩
def SJ(fk fv:FE):En->List (au×au)->Ce->Option (List (au×au)×Ce):=λenv acc C=>(fk env C).bind λp=>(tU p.1).bind λk=>(fv env p.2.2).bind λq=>(tU (still q.1)).bind λy=>(dD k).bind λkk=>bif decide (acc.length<eZ) then aa (mH dD kk k y acc,q.2.2) else aj
theorem Qv:∀{its:List au}{acc:List (au×au)}{C:Ce},wz T ft fk fv fs its acc C=aa p->wj T ft (SJ fk fv) fs its acc C=aa p
 |[],acc,C,h=>h
 |d::r,acc,C,h=>by
  unfold wz at h;unfold wj;split at h
  case h_2=>cases h
  rename_i ts ht;rw[ht,mO];split at h
  case h_3=>cases h
  .rename_i C1 hf;rw[hf,mO];exact Qv h
  .rename_i C1 hf;rw[hf,mO]
   show(SJ fk fv (dG ts++fs) acc C1).bind _=_
   unfold SJ;split at h
   case h_2=>cases h
   rename_i k e2 C2 hk;rw[hk,mO,show tU (.im k)=aa k from rfl,mO];split at h
   case h_2=>cases h
   rename_i x e3 C3 hx;rw[hx,mO];split at h
   case h_2=>cases h
   rename_i y kk hy hkk;rw[hy,show tU (.im y)=aa y from rfl,mO,hkk,mO];split at h
   case isFalse=>cases h
   rename_i hl;rw[fP hl];exact Qv h
inductive K5(P:List ao)(D:ao)(acc:List (au×au))(H:Hp):Prop
 |mk (ks:List Key) (vs:List V) (hk:cg dD acc=aa ks) (hD:∃ep,H D=aa (.dK (ks.zip vs) ep)) (r:gG (er P H) acc vs):K5 P D acc H
theorem aiU{K:aF}{fi:FI}{T:gR}{ft:FT}{fk fv:FE}{js:List Nat}:∀σ H Q,tE K (Gb fi T ft fk fv js) σ H Q->tDC K (tI K aq fi) T (λ_=>fH K ft) (λ_=>tE K fk) (λ_=>tE K fv) js σ H Q:=by
 rintro σ H Q ⟨Z,Θ,env,C,res,env',C',S,hf,q⟩;unfold Gb at hf;split at hf
 case h_2=>cases hf
 rename_i its e1 C1 h1;split at hf
 case h_2=>cases hf
 rename_i kvs C2 h2;cases hf
 refine⟨Z,Θ,env,C,its,e1,C1,S,h1,λJ H1 k1 f1 S1 it D hD b=>?_⟩
 have wB:D∉Θ:=λm=>(S1.cell.dom D m).ne hD
 have T6:D∈aX (jQ D Z (fZ js e1) σ) Θ [] []:=(nO (js:=js) rfl).mpr (.inl rfl);have Bu:∀a Hx Hy,aV Θ Hx Hy->K5 (aX (jQ D Z (fZ js e1) σ) Θ [] []) D a Hx->K5 (aX (jQ D Z (fZ js e1) σ) Θ [] []) D a Hy:=λa Hx Hy kk r=>by
  obtain⟨ks,vs,g1,g2,g3⟩:=r
  obtain⟨ep,g2⟩:=g2
  exact⟨ks,vs,g1,⟨ep,kk.keep _ _ g2 wB⟩,g3.same (j6 kk (λa m=>jf.mpr (.inr (.inl m))) λa m=>.inl m)⟩
 refine YG (a0:=[]) (Ob:=K5 (aX (jQ D Z (fZ js e1) σ) Θ [] []) D) S1 it hD ⟨[],[],rfl,⟨0,eN⟩,rfl⟩ Bu (λa Hx r=>by obtain⟨ks,vs,_,⟨ep,e⟩,_⟩:=r;exact⟨_,e,λ_ z=>nomatch z⟩) ?_ (Qv h2) λH2 ki ci r=>?_
 .intro ts acc C2 p vs H4 Q hs S4 k4 r4 hQ
  obtain⟨w,hfk,hs⟩:=jg hs
  obtain⟨kd,SM,hs⟩:=jg hs
  obtain⟨w2,hfv,hs⟩:=jg hs
  obtain⟨yd,za,hs⟩:=jg hs
  obtain⟨kk,hkd,hs⟩:=jg hs
  have SM:=DG SM;have za:=DG za;cases hlt:decide (acc.length<eZ) with
  |false=>rw[hlt] at hs;cases hs
  |true=>
  rw[hlt] at hs;cases hs
  refine⟨_,Θ,_,C2,w.1,w.2.1,w.2.2,S4,hfk,λy H5 k5 f5 R5=>?_⟩
  rw[SM] at R5;have S5:=S4.go k5 R5.1.cell
  refine⟨_,Θ,_,w.2.2,w2.1,w2.2.1,w2.2.2,S5,hfv,λz H6 k6 f6 R6=>?_⟩
  obtain⟨S6,r6⟩:=R6.qY za
  obtain⟨ks,uI,hks,hD6,r6'⟩:=Bu _ _ _ (k5.trans k6) r4
  have T7:bJ w2.2.1 (vs.map aa++frees js σ)=[]:=by
   have:=(Fz.own (σ:=vs.map aa++frees js σ) f6)
   rw[Ao JG] at this;exact aei.mp this
  have e6:er (aX (jQ D Z (fZ js e1) σ) Θ w2.2.1 (vs.map aa++frees js σ)) H6=er (aX (jQ D Z (fZ js e1) σ) Θ [] []) H6:=qT λa=>by rw[nO (js:=js) T7,nO (js:=js) rfl]
  rw[e6] at r6
  obtain⟨ks',vs',g3,g4,g5⟩:=Jj hkd r6 hks r6'
  have lt:=of_decide_eq_true hlt
  refine⟨ks.zip uI,kk,hD6,akv hkd R5.2,?_,λe=>hQ _ (aaJ (Hy:=H6) hD ((k4.trans k5).trans k6)) (Pb wB S6.cell) ⟨ks',vs',g3,⟨e,by rw[g5];exact eN⟩,?_⟩⟩
  .rw[zx,jo,rZ hks];unfold eZ at lt;lia
  .rw[QZ T6];exact g4
 .obtain⟨ks,uI,hks,⟨ep,hDi⟩,ri⟩:=r
  refine q _ H2 (k1.trans ki) ?_ ?_
  .split
   .exact f1
   .exact f1.trans (An js e1)
  .refine⟨D,rfl,k1.none hD,?_⟩
   split
   .rename_i hn;have SD:=S1.Eg hD ki ⟨_,hDi,λ_ z=>nomatch z⟩ ci
    exact⟨SD,uI,.inl ⟨ks,hks,ep,hDi⟩,ri.jl (λa vs e=>Dz SD (fJ e)) hn⟩
   .refine⟨(S1.fz (An js e1)).Eg hD ki ⟨_,hDi,λ_ z=>nomatch z⟩ ci,uI,.inl ⟨ks,hks,ep,hDi⟩,?_⟩
    rw[qT (P':=aX (D::Z) Θ (fZ js e1) σ) λa=>by rw[nO (js:=js) rfl];show _↔a∈D::aX Z Θ (fZ js e1) σ;rw[bI]] at ri;exact ri
section
variable{X:Cx}{NT NF:List Str}{js:List Nat}{kx vx tg iter:Expr}{ifs:List Expr}{T:gR}{fi:FI}{ft:FT}{fk fv:FE}{scope:jF}{pos:Pos}
theorem ahK(B:tD X NT NF js scope)(tk:rB tg NT T)(hc:X.calm=aq)(hu:X.A.units+1<dB)(hi:PI X tg iter (tI X.K aq fi))
  (hin:∀b,pP (X.bk (NT++NF) scope b) ifs (fH X.K ft)/\PE (X.bk (NT++NF) scope b) kx (tE X.K fk)/\PE (X.bk (NT++NF) scope b) vx (tE X.K fv))
  (hsw:vz (.DictComp kx vx [⟨tg,iter,ifs,0⟩] scope pos) (aa (.Name y pos')) spos.line X.env=pure aq)(hN:X.N.Nodup)(hI:X.N[i]?=aa y)(hy:X.env.scope.names.lookup y=aa .local)
  (hs:∀x,wY iter X.env x=pure x:=by intro _;rfl):PS X (.Assign [.Name y pos'] (.DictComp kx vx [⟨tg,iter,ifs,0⟩] scope pos) spos) (tS X.K (dU i (Gb fi T ft fk fv js))):=(ahi B tk hc hu hi hin hsw hN hI hy hs).weak (Pa aiU)
end
section
variable{X:Cx}
theorem YM:∀{kvs:List (au×au)}{ks:List Key}{vs:List V},cg dD kvs=aa ks->ks.length=vs.length->bY E (kvs.map (·.1)) ((ks.zip vs).map λkv=>kV kv.1)
 |[],ks,vs,h,_=>by cases h;rfl
 |(p,d)::kvs,ks,vs,h,hl=>by
  unfold cg at h;split at h
  .rename_i k t h1 h2;cases h;cases vs with
   |nil=>cases hl
   |cons v vs=>
    refine⟨_,_,rfl,?_,YM h2 (by simpa using hl)⟩
    cases p<;>first|(cases h1;rfl)|cases h1
  .cases h
def Jo:List au->Option Vl
 |[.dict []]=>aj
 |[.dict ((k,v)::r)]=>match pJ k with
  |some (b::sh)=>if r.length<63/\(((k,v)::r).all λp=>decide (pJ p.1=aa (b::sh)))=aq then aa (.ow (.list (pK (((k,v)::r).map (·.1))))) else aj
  |_=>aj
 |_=>aj
theorem Xw:∀{kvs:List (au×au)}{ks:List (List Key)},cg gB kvs=aa ks->(∀p∈kvs,pJ p.1=aa sh)->kvs.map (·.1)=ks.map (λk=>.tuple (k.map lK))/\∀k∈ks,k.map cA=sh
 |[],ks,h,_=>by cases h;exact⟨rfl,λ_ m=>(nomatch m)⟩
 |(p,d)::kvs,ks,h,hs=>by
  unfold cg at h;split at h
  .rename_i k t h1 h2;cases h
   obtain⟨g1,g2⟩:=Xw h2 λq m=>hs q (dg _ m)
   have hp:=hs (p,d) cV
   obtain⟨xs,rfl,hx⟩:∃xs,p=.tuple xs/\keysOf xs=aa k:=by
    have h1':gB p=aa k:=h1;cases p with
    |tuple xs=>exact⟨xs,rfl,h1'⟩
    |_=>cases h1'
   have hp:(keysOf xs).map (λks=>ks.map cA)=aa sh:=hp;rw[hx] at hp
   refine⟨by rw[cB,g1,Io hx];rfl,λk' m=>?_⟩
   rcases bI.mp m with rfl|m
   .exact fU hp
   .exact g2 k' m
  .cases h
theorem ahL{K:aF}:jm K (λxs H Q=>∃(d:ao)(kvs:List (List Key×V))(b:Bool)(sh:List Bool),xs=[.ref d]/\yW H d kvs/\kvs.length<64/\(∀kv∈kvs,kv.1.map cA=b::sh)/\
  ∀(l:ao)(rows:List Row),H l=aj->(rows.map (·.2)).Perm (kvs.map (·.1))->rows.map (·.2)=tM (kvs.map (·.1))->(∀r∈rows,H r.1=aa (.tup (r.2.map kV)))->Q (.ref l) (upd H l (.lst (rows.map λr=>V.ref r.1)))) Jo:=by
 intro Z Θ env C σ H xs ds res S b e Q q;unfold Jo at e;split at e
 .cases e
 .rename_i k0 v0 r0;split at e
  case h_2=>cases e
  rename_i b0 sh hsh;split at e
  case isFalse=>cases e
  rename_i hall;cases e;have hall':∀p∈(k0,v0)::r0,pJ p.1=aa (b0::sh):=λd m=>of_decide_eq_true (jO.mp hall.2 d m)
  obtain⟨v,rfl,bb⟩:=nj b
  obtain⟨a,vs,rfl,da,r⟩:=bb.dct
  rcases da with⟨ks,h1,ha⟩|⟨ks,⟨ne,h2⟩,ha⟩
  .exfalso;unfold cg at h1;split at h1
   .rename_i k' t g1 g2;have g1:dD k0=aa k':=g1;cases k0<;>first|cases g1|skip
    all_goals cases hsh
   .cases h1
  .obtain⟨e1,e2⟩:=Xw h2 hall'
   have lk:=rZ h2;have lr:=Ac r;have ez:(ks.zip vs).map (·.1)=ks:=by
    rw[List.map_fst_zip];rw[lk,lr];exact bK _
   refine⟨a,ks.zip vs,b0,sh,rfl,rdT ha,?_,λkv m=>e2 kv.1 (Ms (a:=kv.1) (b:=kv.2) m).1,λl rows hn p hp hr=>?_⟩
   .rw[zx,lk,lr,cL];lia
   .rw[ez] at hp;have ek:(((k0,v0)::r0).map (·.1)).map J5=ks:=by
     rw[e1,gM]
     refine(BL λk _=>?_).trans (Nj ks)
     show(keysOf (k.map lK)).getD []=k
     rw[Pk];rfl
    have es:(rows.map λr=>G7 (r.2.map lK))=pK (((k0,v0)::r0).map (·.1)):=by
     unfold pK;rw[ek,<-hp,gM];rfl
    rw[<-es] at q;exact q _ _ (aV.upd hn) (sE S (Pn λr m=>Dz S (hr r m)) hn)
 .cases e
theorem Q4{K:aF}{r r':List V->Hp->VK->Prop}{op op':List au->Option Vl}(h:jm K r op)(h':jm K r' op'):jm K (λxs H Q=>r xs H Q\/r' xs H Q) (λds=>match op ds with|some z=>aa z|none=>op' ds):=by
 intro Z Θ env C σ H xs ds res S b e Q q;cases h1:op ds with
 |some z=>
  simp only[h1] at e;cases e;exact .inl (h Z Θ env C σ H xs ds _ S b h1 Q q)
 |none=>
  simp only[h1] at e;exact .inr (h' Z Θ env C σ H xs ds res S b e Q q)
end
def kE:List au->List au->List au
 |x::xs,y::ys=>.tuple [x,y]::kE xs ys
 |_,_=>[]
theorem Qw:∀{xs ys:List au}{i:Nat}{d:au},(kE xs ys)[i]?=aa d->∃x y,xs[i]?=aa x/\ys[i]?=aa y/\d=.tuple [x,y]
 |[],_,i,d,h=>by simp[kE] at h
 |_::_,[],i,d,h=>by simp[kE] at h
 |x::xs,y::ys,0,d,h=>by
  simp[kE] at h
  exact⟨x,y,rfl,rfl,h.symm⟩
 |x::xs,y::ys,i+1,d,h=>by
  obtain⟨a,b,h1,h2,h3⟩:=Qw (i:=i) (by simpa[kE] using h)
  exact⟨a,b,by simpa using h1,by simpa using h2,h3⟩
theorem Pu:∀{xs ys:List au},(kE xs ys).length=min xs.length ys.length
 |[],_=>by simp[kE]
 |_::_,[]=>by simp[kE]
 |x::xs,y::ys=>by simp[kE,Pu,Nat.succ_min_succ]
theorem akI{K:aF}{P T:List ao}{H:Hp}{a b:ao}{ds es:List au}{vs ws:List V}(ha:er T H a=aa (.lst vs))(hb:er T H b=aa (.lst ws))(r1:bY (er P H) ds vs)(r2:bY (er P H) es ws):uG P T H (Tr K a b) (kE ds es):=λi H2 P2 s1 s2 n=>by
 have h2:bG K H2 a vs:=bG.of (fJ (s2 _ _ ha));have h3:bG K H2 b ws:=bG.of (fJ (s2 _ _ hb))
 refine⟨λd hd=>?_,λhi=>⟨vs,ws,h2,h3,by rw[hi,Pu,iw r1,iw r2]⟩⟩
 obtain⟨x,y,e1,e2,rfl⟩:=Qw hd
 obtain⟨v,ev,rv⟩:=sV r1 e1
 obtain⟨w,ew,rw'⟩:=sV r2 e2
 refine⟨⟨vs,ws,h2,h3,?_⟩,λz H3 yl=>?_⟩
 .have l1:=(f9.mp ev).1;have l2:=(f9.mp ew).1;lia
 .obtain⟨p,v',w',hp,rfl,rfl,hh⟩:=yl
  obtain⟨g1,g2⟩:=hh vs ws h2 h3
  rw[ev] at g1;rw[ew] at g2;cases g1;cases g2;have sp:bC H2 (upd H2 p (.tup [v,w])):=bC.upd hp
  refine⟨sp,p,[v,w],rfl,?_,v,[w],rfl,rv.same (s1.trans (Jf sp)),w,[],rfl,rw'.same (s1.trans (Jf sp)),rfl⟩
  unfold er;rw[bw (λm=>n p m hp),eN]
section
variable{X:Cx}{tg e:Expr}
def SN:au->Option (List au)
 |.list ds=>aa ds
 |.tuple ds=>aa ds
 |_=>aj
def wQ(f:FB):FI:=λenv C=>match f env C with
 |some (d,e1,C1)=>match SN d with
  |some its=>aa (its,e1,C1)
  |none=>aj
 |none=>aj
def K6(f:FE):FI:=λenv C=>match f env C with
 |some (r,e1,C1)=>match still r with
  |.im d=>match SN d with
   |some its=>aa (its,e1,C1)
   |none=>aj
  |_=>aj
 |none=>aj
theorem El(h:PE X e (gn X.K f)):PI X tg e (tI X.K aq (wQ f)):=((Jb h).or (Ju h)).weak λσ H R aK=>by
 obtain⟨Z,Θ,env,C,its,env',C',S,hf,q⟩:=aK
 unfold wQ at hf;split at hf
 .rename_i d e1 C1 h1;split at hf
  .rename_i ys hi;cases hf;cases d<;>first|cases hi|skip
   .refine .inl ⟨Z,Θ,env,C,_,env',C',S,h1,λv H1 k f S1 b=>?_⟩
    obtain⟨a,vs,rfl,ha,r⟩:=b
    exact⟨a,rfl,⟨vs,bG.of (fJ ha)⟩,q _ H1 k f S1 (Jk ha r)⟩
   .refine .inr ⟨Z,Θ,env,C,_,env',C',S,h1,λv H1 k f S1 b=>?_⟩
    obtain⟨a,vs,rfl,ha,r⟩:=b
    exact⟨a,rfl,⟨vs,bW.of (fJ ha)⟩,q _ H1 k f S1 (JF ha r)⟩
  .cases hf
 .cases hf
theorem alv(h:PE X e (tE X.K f)):PI X tg e (tI X.K aB (K6 f)):=((Jb h).or (Ju h)).weak λσ H R aK=>by
 obtain⟨Z,Θ,env,C,its,env',C',S,hf,q⟩:=aK
 unfold K6 at hf;split at hf
 .rename_i r e1 C1 h1;split at hf
  .rename_i d hd;split at hf
   .rename_i ys hi;cases hf;cases d<;>first|cases hi|skip
    .refine .inl ⟨Z,Θ,env,C,_,env',C',S,h1,λv H1 k f R=>?_⟩
     obtain⟨S1,a,vs,rfl,ha,r⟩:=R.qY hd
     exact⟨a,rfl,⟨vs,bG.of (fJ ha)⟩,q _ H1 k f S1 (Jk ha r)⟩
    .refine .inr ⟨Z,Θ,env,C,_,env',C',S,h1,λv H1 k f R=>?_⟩
     obtain⟨S1,a,vs,rfl,ha,r⟩:=R.qY hd
     exact⟨a,rfl,⟨vs,bW.of (fJ ha)⟩,q _ H1 k f S1 (JF ha r)⟩
   .cases hf
  .cases hf
 .cases hf
theorem aeA(hc:X.calm=aq):fO X (.builtin "sorted") (λxs H Q=>∃d:ao,xs=[.ref d]/\(∃ep,H d=aa (.dK [] ep))/\∀l,H l=aj->Q (.ref l) (upd H l (.lst []))):=by
 intro pins s σ H xs us Q I r h
 obtain⟨d,rfl,⟨ep,hd⟩,q⟩:=h
 refine bQ (VB hc pins s σ (upd H d (.dT [] ep)) [.ref d] us (λv H'=>∃l,v=.ref l/\H l=aj/\H'=upd (upd H d (.dT [] ep)) l (.lst [])) (I.FQ hd) r ⟨d,[],aq,[],rfl,⟨ep,.inl eN⟩,by decide,(λ_ m=>nomatch m),λl rows hl p _ _=>?_⟩) λu s' ⟨v,H',I',rv,l,ev,hl,eH⟩=>?_
 .have:rows=[]:=by
   cases rows with
   |nil=>rfl
   |cons _ _=>exact absurd p.length_eq (by simp)
  subst this
  refine⟨l,rfl,?_,rfl⟩
  by_cases z:l=d
  .subst z;rw[eN] at hl;cases hl
  .rw[cI z] at hl;exact hl
 .subst ev eH;have nd:d≠l:=oO hd hl;have e:upd (upd H d (.dT [] ep)) l (.lst [])=upd (upd H l (.lst [])) d (.dT [] ep):=by
   funext b;by_cases h1:b=l
   .subst h1;rw[eN,cI (jr nd),eN]
   .rw[cI h1];by_cases h2:b=d
    .subst h2;rw[eN,eN]
    .rw[cI h2,cI h2,cI h1]
  rw[e] at I'
  exact⟨.ref l,_,I'.K3 (by rw[cI nd];exact hd),rv,q l hl⟩
def Qx:List au->Option Vl
 |[.dict []]=>aa (.ow (.list []))
 |_=>aj
theorem ahM{K:aF}:jm K (λxs H Q=>∃d:ao,xs=[.ref d]/\(∃ep,H d=aa (.dK [] ep))/\∀l,H l=aj->Q (.ref l) (upd H l (.lst []))) Qx:=by
 intro Z Θ env C σ H xs ds res S b e Q q;unfold Qx at e;split at e
 case h_2=>cases e
 cases e
 obtain⟨v,rfl,bb⟩:=nj b
 obtain⟨a,vs,rfl,da,r⟩:=bb.dct
 rcases da with⟨ks,h1,ha⟩|⟨ks,⟨ne,_⟩,_⟩
 .cases h1
  exact⟨a,rfl,ha,λl hl=>q _ _ (aV.upd hl) (sE S rfl hl)⟩
 .exact absurd rfl ne
def lY(ds:List au):Option Vl:=match xT ds with
 |some z=>aa z
 |none=>match Jo ds with
  |some z=>aa z
  |none=>Qx ds
abbrev aaP(K:aF):List V->Hp->VK->Prop:=λxs H Q=>Q3 K xs H Q\/((∃(d:ao)(kvs:List (List Key×V))(b:Bool)(sh:List Bool),xs=[.ref d]/\yW H d kvs/\kvs.length<64/\(∀kv∈kvs,kv.1.map cA=b::sh)/\
  ∀(l:ao)(rows:List Row),H l=aj->(rows.map (·.2)).Perm (kvs.map (·.1))->rows.map (·.2)=tM (kvs.map (·.1))->(∀r∈rows,H r.1=aa (.tup (r.2.map kV)))->Q (.ref l) (upd H l (.lst (rows.map λr=>V.ref r.1))))\/∃d:ao,xs=[.ref d]/\(∃ep,H d=aa (.dK [] ep))/\∀l,H l=aj->Q (.ref l) (upd H l (.lst [])))
theorem CK(hc:X.calm=aq):fO X (.builtin "sorted") (aaP X.K):=afT.or ((VB hc).or (aeA hc))
theorem Dc{K:aF}:jm K (aaP K) lY:=Q4 agH (Q4 ahL ahM)
end
def RL:FN:=λ_ _=>aj
theorem aiV{P:bA}{w:bu}{K:aF}{mg:Str->Option Value}{base:aU}{f:ao}{fd:fB}{ps:List Str}:eX P w K mg base gF 0 f fd ps (spT K RL):=by
 have no:∀vs H Q E,¬spT K RL vs H Q E:=λvs H Q E ⟨_,_,_,_,_,_,_,_,h,_⟩=>nomatch h
 exact⟨λ_ _ _ _ h=>(no _ _ _ _ h).elim,λ_ _ _ _ _ _ _ _ _ _ _ _ _ h=>(no _ _ _ _ h).elim⟩
def rE(i:Nat)(f:FB):FE:=λenv C=>match env[i]? with
 |some (some (.ce n))=>match f env C with
  |some (.int k,_,C1)=>match C1[n]? with
   |some ns=>match dF ns k with
    |some z=>aa (.im (.int z),env,C1)
    |none=>aj
   |none=>aj
  |_=>aj
 |_=>aj
theorem yj(ho:PE X o (tK i))(hk:PE X k (gn X.K f))(hs:Jc k):PE X (.Subscript o k pos) (tE X.K (rE i f)):=(RC Qi ho hk hs).weak λσ H Q aK=>by
 obtain⟨Z,Θ,env,C,r,env',C',S,hf,q⟩:=aK
 unfold rE at hf;split at hf
 case h_2=>cases hf
 rename_i n h0;split at hf
 case h_2=>cases hf
 rename_i z e1 C1 h1;split at hf
 case h_2=>cases hf
 rename_i ns hns;split at hf
 case h_2=>cases hf
 rename_i y hy;cases hf
 obtain⟨v,ev,a,rfl,hth⟩:=S.slot i _ h0
 refine⟨_,ev,Z,Θ,env,C,_,e1,C',S,h1,λw H1 k1 f1 S1 b1=>?_⟩
 have S2:=S.go k1 S1.cell;have ha:=S1.cell.at_ n a ns hth hns
 refine⟨a,_,z,.int y,rfl,b1,bG.of ha,?_,q _ H1 k1 (Fz.refl _) ⟨S2,rfl⟩⟩
 unfold dF at hy⊢;rw[bh];cases hj:nD ns.length z with
 |none=>rw[hj] at hy;cases hy
 |some j=>
  rw[hj] at hy
  show(ns.map V.int)[j]?=_
  rw[ie,show ns[j]?=aa y from hy];rfl
def Bx(C:Ce)(b:Nat)(n:Int):Prop:=∃x y z:Int,C[b]?=aa [x,y,z]/\0<=x/\0<=y/\y<=3000000000/\0<=z/\z<=n
theorem Bx.mono(h:Bx C b n)(hm:n<=m):Bx C b m:=by
 obtain⟨x,y,z,h1,h2,h3,h4,h5,h6⟩:=h
 exact⟨x,y,z,h1,h2,h3,h4,h5,by lia⟩
theorem JK{C:Ce}{b:Nat}{l l':List Int}(h:C[b]?=aa l):(C.set b l')[b]?=aa l':=by
 rw[BZ,aY rfl,aY (f9.mp h).1]
theorem YQ{C C':Ce}(h:C'.length=C.length):C'.take C.length=C':=ac8 (by lia)
theorem mul_eq(h:(-18446744073709551616<i/\i<18446744073709551616)\/(-18446744073709551616<j/\j<18446744073709551616)):pA (.int i) (.int j)=aa (.im (.int (i*j))):=by
 unfold pA;exact aY h
theorem pow_eq(h0:0<=j)(h1:j<=1000000)(h2:i.natAbs<2^64):nR (.int i) (.int j)=aa (.im (.int (i^j.toNat))):=by
 unfold nR;exact aY ⟨h0,h1,h2⟩
theorem mod_eq(h:0<j):qu (.int i) (.int j)=aa (.im (.int (i%j))):=by
 unfold qu;exact aY h
theorem fdiv_eq(h:0<j)(h1:j<1073741824):Al (.int i) (.int j)=aa (.im (.int (i / j))):=by
 unfold Al;exact aY ⟨h,h1⟩
theorem YS(I:Nat->En->Ce->Prop):∀{its:List au}{env:En}{C:Ce}{k:Nat},I k env C->
  (∀i d env C,its[i]?=aa d->I (k+i) env C->∃e1 fl env' C',g d env=aa e1/\body e1 C=aa (fl,env',C')/\(fl=.nx\/fl=.ct)/\I (k+i+1) env' C')->
  ∃env' C',iM g body its env C=aa (.nx,env',C')/\I (k+its.length) env' C'
 |[],env,C,k,h,_=>⟨env,C,rfl,h⟩
 |d::r,env,C,k,h,st=>by
  obtain⟨e1,fl,ams,C1,h1,h2,h3,h4⟩:=st 0 d env C rfl h
  obtain⟨amu,C2,h5,h6⟩:=YS I (its:=r) (env:=ams) (C:=C1) (k:=k+1) h4 λi d' env C hd hi=>by
   have:=st (i+1) d' env C (by simpa using hd) (by rw[show k+(i+1)=k+1+i by lia];exact hi);rw[show k+(i+1)+1=k+1+i+1 by lia] at this;exact this
  refine⟨amu,C2,?_,by rw[cL,show k+(r.length+1)=k+1+r.length by lia];exact h6⟩
  unfold iM;rw[h1];simp only;rw[h2];rcases h3 with rfl|rfl<;>exact h5
theorem oU(I:Nat->En->Ce->Prop)(h:I 0 env C)
  (st:∀i d env C,its[i]?=aa d->I i env C->∃e1 fl env' C',g d env=aa e1/\body e1 C=aa (fl,env',C')/\(fl=.nx\/fl=.ct)/\I (i+1) env' C'):
  ∃env' C',iM g body its env C=aa (.nx,env',C')/\I its.length env' C':=by
 have:=YS I (k:=0) h λi d env C hd hi=>by
  rw[M7] at hi⊢;exact st i d env C hd hi
 rw[M7] at this;exact this
theorem xU(lo:Int)(n:Nat):(lH lo n).length=n:=by unfold lH;rw[bh,oH]
theorem vK{lo:Int}{n i:Nat}{d:au}(h:(lH lo n)[i]?=aa d):d=.int (lo+i)/\i<n:=by
 unfold lH at h;rw[ie] at h;by_cases hi:i<n
 .rw[adB hi] at h
  exact⟨(fU h).symm,hi⟩
 .rw[Gj (by rw[oH];lia)] at h;cases h
theorem NK(p:au->Bool)(g:au->au):∀{its:List au},(∀d∈its,∃ts,uV T d=aa ts/\ft (dG ts++fs) C=aa (p d,C)/\(p d=aq->∃x e,fe (dG ts++fs) C=aa (x,e,C)/\still x=.im (g d)))->
  iD T ft fe fs its C=aa ((its.filter p).map g,C)
 |[],_=>rfl
 |d::r,h=>by
  obtain⟨ts,h1,h2,h3⟩:=h d cV
  have ih:=NK p g (its:=r) λd m=>h d (dg _ m)
  unfold iD;simp only[h1];rw[h2];cases hp:p d with
  |true=>
   obtain⟨x,e,h4,h5⟩:=h3 hp
   simp only[h4,h5,ih,xj,hp,if_true,cB]
  |false=>
   simp only[ih,xj,hp];rfl
theorem Xx(I:Nat->Ce->Prop)(R:Nat->au->Prop):∀{its:List au}{C:Ce}{k:Nat},I k C->(∀i d C,its[i]?=aa d->I (k+i) C->∃ts x e C' y,uV T d=aa ts/\fe (dG ts++fs) C=aa (x,e,C')/\still x=.im y/\R (k+i) y/\I (k+i+1) C')->
  ∃ys C',iD T fL fe fs its C=aa (ys,C')/\I (k+its.length) C'/\ys.length=its.length/\∀i y,ys[i]?=aa y->R (k+i) y
 |[],C,k,h,_=>⟨[],C,rfl,h,rfl,λi y e=>by simp at e⟩
 |d::r,C,k,h,st=>by
  obtain⟨ts,x,e,C1,y,h1,h2,h3,h4,h5⟩:=st 0 d C rfl h
  obtain⟨ys,C2,h6,h7,h8,h9⟩:=Xx I R (its:=r) (C:=C1) (k:=k+1) h5 λi d' C hd hi=>by
   have:=st (i+1) d' C (by simpa using hd) (by rw[show k+(i+1)=k+1+i by lia];exact hi);rw[show k+(i+1)+1=k+1+i+1 by lia,show k+(i+1)=k+1+i by lia] at this;exact this
  refine⟨y::ys,C2,?_,by rw[cL,show k+(r.length+1)=k+1+r.length by lia];exact h7,by simp[h8],λi z hz=>?_⟩
  .unfold iD;simp only[h1,fL,h2,h3];rw[h6]
  .cases i with
   |zero=>simp at hz;subst hz;exact h4
   |succ i=>
    have:=h9 i z (by simpa using hz);rw[show k+(i+1)=k+1+i by lia];exact this
theorem akJ(h:f env C=aa (r,e1,C1))(h2:dat r=aa d):aC f env C=aa (d,e1,C1):=by
 unfold aC;simp only[h,h2,jA]
theorem akK(h1:fa env C=aa (x,e1,C1))(h2:fb e1 C1=aa (y,e2,C2))(h3:op x y=aa r):aP op fa fb env C=aa (r,rst r env e2,C2):=by
 unfold aP;simp only[h1,h2,h3]
theorem Q5(h0:0<=k)(h1:k<xs.length):∃x,dF xs k=aa x/\xs[k.toNat]?=aa x:=by
 have hk:k.toNat<xs.length:=by lia
 refine⟨xs[k.toNat],?_,gJ hk⟩
 unfold dF nD;rw[aY h0,aY h1];exact gJ hk
def Gd(z:Str):Bool:=z.cps.toList.all λc=>decide (97<=c)&&decide (c<=122)
def nameB(z:Str):Bool:=decide (1<=z.length)&&decide (z.length<=8)&&Gd z
abbrev abc:Str:=bM "abcdefghijklmnopqrstuvwxyz"
theorem akL(r0:0<=r)(r1:r<26):dF abc.cps.toList r=aa (97+r.toNat):=by
 have h:∀k:Nat,k<26->dF abc.cps.toList (k:Int)=aa (97+k):=by decide +kernel
 have:=h r.toNat (by lia)
 rwa [adA r0] at this
theorem W3:∀(l:List Nat)(a:Array Nat),((l.map λc=>(⟨#[c]⟩:Str)).foldl (λacc p=>acc++(bM "").cps++p.cps) a).toList=a.toList++l
 |[],a=>by simp
 |c::r,a=>by
  simp only[cB,GK];rw[W3 r];have e:(bM "").cps=#[]:=by decide +kernel
  rw[e];simp
theorem afU:∀(l:List Nat),(Txt.join (bM "") (l.map λc=>(⟨#[c]⟩:Str))).cps.toList=l
 |[]=>by decide +kernel
 |c::r=>by
  show(((r.map λc=>(⟨#[c]⟩:Str))).foldl (λacc p=>acc++(bM "").cps++p.cps) #[c]).toList=c::r
  rw[W3 r];rfl
theorem Z5:∀ys:List Nat,(ys.map ((λx:Str=>x.length) ∘ λc=>(⟨#[c]⟩:Str))).sum=ys.length
 |[]=>rfl
 |c::r=>by
  rw[cB,aeO,Z5 r,cL];show 1+r.length=r.length+1;lia
theorem agI{l:List Nat}(h1:1<=l.length)(h2:l.length<=8)(h3:∀c∈l,97<=c/\c<=122):nameB (Txt.join (bM "") (l.map λc=>(⟨#[c]⟩:Str)))=aq:=by
 have e:=afU l;have e2:(Txt.join (bM "") (l.map λc=>(⟨#[c]⟩:Str))).length=l.length:=by
  show(Txt.join (bM "") (l.map λc=>(⟨#[c]⟩:Str))).cps.size=_
  rw[show l.length=(Txt.join (bM "") (l.map λc=>(⟨#[c]⟩:Str))).cps.toList.length from congrArg qM e.symm];simp
 unfold nameB Gd;rw[e,e2];simp only[iT,decide_eq_true_eq,jO]
 exact⟨⟨h1,h2⟩,h3⟩
theorem abP(n:Nat):(BK aj (aa 7) 1 n).length<=7:=by
 unfold BK sliceRange;simp only[show(1:Int)>0 by decide,if_true,bh,oH];split<;>(try split)<;>(try split)<;>(try simp only[aeX])<;>lia
theorem Px(z:Str):(Txt.slice z aj (aa 7)).length<=7:=by
 unfold Txt.slice;split
 .rename_i h;have h2:(BK aj (aa 7) 1 z.length).length=z.length:=by simpa using h
  have:=abP z.length;lia
 .show(((BK aj (aa 7) 1 z.length).filterMap (z.cps[·]?)).toArray).size<=7
  rw[fj];exact ir (List.length_filterMap_le _ _) (abP _)
theorem aiW(hc:c∈(Txt.slice z l u).cps.toList):c∈z.cps.toList:=by
 unfold Txt.slice at hc;split at hc
 .exact hc
 .have hc':c∈((BK l u 1 z.length).filterMap (z.cps[·]?)):=by simpa using hc
  obtain⟨i,_,e⟩:=LK.mp hc'
  have:=adk e;simpa using this
def kI(z:Str)(k:Nat):Str:=Txt.slice z aj (aa 7)++(⟨#[97+k]⟩:Str)
theorem Oo(z:Str)(k:Nat):(kI z k).cps.toList=(Txt.slice z aj (aa 7)).cps.toList++[97+k]:=by
 show((Txt.slice z aj (aa 7)).cps++#[97+k]).toList=_
 simp
theorem Xy(h:nameB z=aq)(hk:k<26):nameB (kI z k)=aq:=by
 have hl:(kI z k).length=(Txt.slice z aj (aa 7)).length+1:=by
  show((Txt.slice z aj (aa 7)).cps++#[97+k]).size=_
  rw[Array.size_append];rfl
 have:=Px z;unfold nameB Gd at h⊢;simp only[iT,decide_eq_true_eq,jO] at h⊢
 refine⟨⟨by lia,by lia⟩,λc hc=>?_⟩
 rw[Oo] at hc;rcases cF.mp hc with hc|hc
 .exact h.2 c (aiW hc)
 .rw[fQ.mp hc];lia
theorem ahN(h:kI z i=kI z j):i=j:=by
 have e:(kI z i).cps.toList=(kI z j).cps.toList:=by rw[h]
 rw[Oo,Oo] at e;have:=List.append_cancel_left e;simp at this;exact this
theorem YT[DecidableEq α]:∀{l m:List α},l.Nodup->(∀x∈l,x∈m)->l.length<=m.length
 |[],_,_,_=>iI _
 |a::l,m,hn,hs=>by
  have hn':=j0.mp hn;have ha:=hs a cV;have ih:=YT (m:=m.erase a) hn'.2 λx hx=>(adu (λ(e:x=a)=>hn'.1 (by rw[<-e];exact hx))).mpr (hs x (dg _ hx))
  rw[acX ha] at ih;have:0<m.length:=Lz ha;rw[cL];lia
theorem ahO(z:Str){zs:List Str}(h:zs.length<26):∃k,k<26/\kI z k∉zs:=by
 by_cases hx:∃k,k<26/\kI z k∉zs
 .exact hx
 .have all:∀x∈(dX 26).map (kI z),x∈zs:=λx hm=>by
   obtain⟨k,hk,rfl⟩:=dW.mp hm
   by_cases hm2:kI z k∈zs
   .exact hm2
   .exact absurd ⟨k,ud.mp hk,hm2⟩ hx
  have nd:((dX 26).map (kI z)).Nodup:=by
   rw[List.Nodup,Vm];exact aox (λ{a b} hab e=>hab (ahN e)) (List.nodup_range (n:=26))
  have:=YT nd all;simp at this;lia
def Names(zs:List Str):Prop:=zs.Nodup/\∀z∈zs,nameB z=aq
theorem YW(z:Str)(zs:List Str):inD (.str z) (zs.map .str)=decide (z∈zs):=by
 unfold inD;rw[qK,Wl];simp[Vt,rF,toV]
theorem Py(h:nameB z=aq):1<=z.length/\z.length<=8/\∀c∈z.cps.toList,97<=c/\c<=122:=by
 unfold nameB Gd at h;simp only[iT,decide_eq_true_eq,jO] at h
 exact⟨h.1.1,h.1.2,h.2⟩
def Asc(z:Str):Prop:=∀c∈z.cps.toList,c<128
def lM(n:Nat)(z:Str):Prop:=Asc z/\z.length<=n
theorem lM.mono(h:lM n z)(hm:n<=m):lM m z:=⟨h.1,ir h.2 hm⟩
theorem lM.line(h:lM n z)(hn:n<=100000:=by lia):z.length<=bL:=aiv (m:=100000) (ir h.2 hn)
theorem lM.slice(h:lM n z)(l u:Option Int):lM n (Txt.slice z l u):=by
 refine⟨λc hc=>?_,ir (Txt.slice_le z l u) h.2⟩
 unfold Txt.slice at hc;split at hc
 .exact h.1 c hc
 .have hc':c∈((BK l u 1 z.length).filterMap (z.cps[·]?)):=by simpa using hc
  obtain⟨i,_,e⟩:=LK.mp hc'
  refine h.1 c ?_;have:=adk e;simpa using this
theorem lM.name(h:nameB z=aq):lM 8 z:=by
 unfold nameB Gd at h;simp only[iT,decide_eq_true_eq,jO] at h
 exact⟨λc hc=>by have:=h.2 c hc;lia,h.1.2⟩
def jh(zs:List Str)(ps:List (Str×Str)):Prop:=∀(i:Nat)(x:Str×Str),ps[i]?=aa x->zs[i]?=aa x.1/\(x.2=bM ""\/∃j,j<i/\zs[j]?=aa x.2)
theorem jh.snoc(h:jh zs ps)(ha:zs[ps.length]?=aa a)(hb:b=bM ""\/∃j,j<ps.length/\zs[j]?=aa b):jh zs (ps++[(a,b)]):=by
 intro i x e;by_cases hi:i<ps.length
 .rw[ou hi] at e;exact h i x e
 .rw[oh (by lia)] at e;by_cases h0:i-ps.length=0
  .rw[h0] at e;cases e;have:i=ps.length:=by lia
   subst this
   exact⟨ha,hb⟩
  .rw[Gj (by simp;lia)] at e;cases e
def gj(ps:List (Str×Str))(z:Str):Option Str:=(ps.find? λp=>decide (p.1=z)).map (·.2)
inductive Over(f:Str->Option Str):Str->List Str->Prop
 |stop {z:Str}:f z=aj->Over f z []
 |step {z y:Str} {r:List Str}:f z=aa y->Over f y r->Over f z (z::r)
structure mK(e B:Nat)(d:au):Prop where
 SQ:d.showable=aq
 deep:d.depth<=e
 len:d.shown.length<=B
theorem aiX(h0:0<=i)(h1:i<10^12):mK 0 12 (.int i):=by
 refine⟨?_,by simp[G8],?_⟩
 .have:i.natAbs<2^40:=by lia
  have h2:i.natAbs.log2<1920:=by
   by_cases h:i.natAbs=0
   .rw[h];decide
   .have:=(Nat.log2_lt h).mpr this;lia
  simpa[Mu] using h2
 .rw[PyData.shown_int];exact anV h0 (by decide) h1
theorem sG(h:lM 8 z):mK 0 82 (.str z):=by
 refine⟨by simp[Mu],by simp[G8],?_⟩
 rw[aej];refine ir (StrLaws.reprText_len z λc hc=>lN (h.1 c hc) (by decide)) ?_;have:=h.2;lia
theorem Z6:∀{ds:List au},(∀d∈ds,mK e B d)->U6 ds=aq/\xq ds<=e/\((GQ ds).map (·.length)).sum<=ds.length*B
 |[],_=>⟨by simp[U6],by simp[xq],by simp[GQ]⟩
 |d::ds,h=>by
  obtain⟨h1,h2,h3⟩:=Z6 λx hx=>h x (dg _ hx)
  have g:=h d cV
  refine⟨by simp[U6,g.SQ,h1],?_,?_⟩
  .simp only[xq];have:=g.deep;lia
  .simp only[GQ,cB,aeO,cL];have:=g.len;rw[ae1];lia
theorem qR(h:∀d∈ds,mK e B d)(hc:ds.length<=C):mK (e+1) (C*(B+2)+3) (.tuple ds):=by
 obtain⟨h1,h2,h3⟩:=Z6 h
 refine⟨by simpa[Mu] using h1,by simp[G8];lia,?_⟩
 simp only[Cy];have:=tupleText_len_le (GQ ds);have hl:(GQ ds).length=ds.length:=PyData.shownAll_length ds;rw[hl] at this;have hm:ds.length*B<=C*B:=Nat.mul_le_mul_right B hc;rw[Nat.mul_add];lia
theorem mK.mono(h:mK e B d)(he:e<=e')(hB:B<=B'):mK e' B' d:=⟨h.SQ,ir h.deep he,ir h.len hB⟩
abbrev pC:=Int×Str×Int×Str×Int×Int
abbrev ym:=Int×Str×Str×Str×Int×Int×Int
abbrev pD:=Int×Str
abbrev bN:=Str×Int×List pD
def mC(r:pC):au:=.tuple [.int r.1,.str r.2.1,.int r.2.2.1,.str r.2.2.2.1,.int r.2.2.2.2.1,.int r.2.2.2.2.2]
def tB(r:ym):au:=.tuple [.int r.1,.str r.2.1,.str r.2.2.1,.str r.2.2.2.1,.int r.2.2.2.2.1,.int r.2.2.2.2.2.1,.int r.2.2.2.2.2.2]
def fG(s:pD):au:=.tuple [.int s.1,.str s.2]
def dJ(ss:List pD):au:=.tuple (ss.map fG)
def bT(r:bN):au:=.tuple [.str r.1,.int r.2.1,dJ r.2.2]
def eV(p:Str×Str):au:=.tuple [.str p.1,.str p.2]
structure iY where
 ps:List (Str×Str)
 nu:List pC
 leaves:List ym
 rules:List bN
def cU(h:iY):au:=.tuple [.tuple (h.ps.map eV),.tuple (h.nu.map mC),.tuple (h.leaves.map tB),.tuple (h.rules.map bT)]
structure Q6(zs own:List Str)(r:pC):Prop where
 num:0<=r.1/\r.1<=2000
 who:r.2.1∈zs
 rank:1<=r.2.2.1/\r.2.2.1<=9
 part:r.2.2.2.1∈own
 days:0<=r.2.2.2.2.1/\r.2.2.2.2.1<=r.2.2.2.2.2/\r.2.2.2.2.2<=99999
structure Qy(zs own:List Str)(r:ym):Prop where
 num:0<=r.1/\r.1<=2000
 giver:r.2.1∈zs
 taker:r.2.2.1∈zs
 ne:r.2.1≠r.2.2.1
 part:r.2.2.2.1∈own
 days:0<=r.2.2.2.2.1/\r.2.2.2.2.1<=r.2.2.2.2.2.1/\r.2.2.2.2.2.1<=99999
 most:0<=r.2.2.2.2.2.2/\r.2.2.2.2.2.2<=1000000000
def Q7(own:List Str)(s:pD):Prop:=1<=s.1/\s.1<=9/\(s.2=bM ""\/s.2∈own)
structure nQ(own:List Str)(r:bN):Prop where
 part:r.1∈own
 sum:0<=r.2.1/\r.2.1<=1000000000
 many:r.2.2.length<=6
 seats:∀s∈r.2.2,Q7 own s
structure qP(zs:List Str)(ps:List (Str×Str))(h:iY):Prop where
 parts:h.ps.Perm ps
 p8:ps.length<=8
 r20:h.nu.length<=20
 l16:h.leaves.length<=16
 zb:h.rules.length<=10
 nu:∀r∈h.nu,Q6 zs (ps.map (·.1)) r
 rup:(h.nu.map (·.1)).Pairwise (·<·)
 leaves:∀r∈h.leaves,Qy zs (ps.map (·.1)) r
 lnd:(h.leaves.map (·.1)).Nodup
 rules:∀r∈h.rules,nQ (ps.map (·.1)) r
 unlike:(h.rules.map λr=>(r.1,r.2.1)).Nodup
theorem abj:lM 8 (bM ""):=by
 have e:(bM "").cps.toList=[]:=by decide +kernel
 refine⟨λc hc=>?_,by decide +kernel⟩
 rw[e] at hc;exact absurd hc (by simp)
theorem agJ(hz:∀z∈zs,nameB z=aq)(hp:jh zs ps)(g:qP zs ps h):mK 5 200000 (cU h):=by
 have sz:∀z∈zs,lM 8 z:=λz hm=>lM.name (hz z hm)
 have pz:∀x∈ps,lM 8 x.1/\lM 8 x.2:=λx hx=>by
  obtain⟨i,hi,rfl⟩:=t8 hx
  obtain⟨e1,e2⟩:=hp i ps[i] (gJ hi)
  refine⟨sz _ (jY e1),?_⟩
  rcases e2 with e2|⟨j,_,e2⟩
  .rw[e2];exact abj
  .exact sz _ (jY e2)
 have oz:∀z∈ps.map (·.1),lM 8 z:=λz hm=>by
  obtain⟨x,hx,rfl⟩:=dW.mp hm
  exact(pz x hx).1
 have int':∀{i:Int},0<=i->i<10^12->mK 0 82 (.int i):=λa b=>(aiX a b).mono (bK _) (by decide)
 have s1:mK 2 (8*(171+2)+3) (.tuple (h.ps.map eV)):=by
  refine qR (e:=1) (B:=171) (λd hd=>?_) (by rw[bh,g.parts.length_eq];exact g.p8)
  obtain⟨x,hx,rfl⟩:=dW.mp hd
  have:=pz x (g.parts.mem_iff.mp hx);refine qR (e:=0) (B:=82) (C:=2) (λd hd=>?_) (bK _);simp only[bI,gU,or_false] at hd;rcases hd with rfl|rfl
  .exact sG this.1
  .exact sG this.2
 have s2:mK 2 (20*(507+2)+3) (.tuple (h.nu.map mC)):=by
  refine qR (e:=1) (B:=507) (λd hd=>?_) (by rw[bh];exact g.r20)
  obtain⟨x,hx,rfl⟩:=dW.mp hd
  have k:=g.nu x hx;refine qR (e:=0) (B:=82) (C:=6) (λd hd=>?_) (bK _);have k1:=k.num;have k3:=k.rank;have k5:=k.days;simp only[bI,gU,or_false] at hd;rcases hd with rfl|rfl|rfl|rfl|rfl|rfl
  .exact int' (by lia) (by lia)
  .exact sG (sz _ k.who)
  .exact int' (by lia) (by lia)
  .exact sG (oz _ k.part)
  .exact int' (by lia) (by lia)
  .exact int' (by lia) (by lia)
 have s3:mK 2 (16*(591+2)+3) (.tuple (h.leaves.map tB)):=by
  refine qR (e:=1) (B:=591) (λd hd=>?_) (by rw[bh];exact g.l16)
  obtain⟨x,hx,rfl⟩:=dW.mp hd
  have k:=g.leaves x hx;refine qR (e:=0) (B:=82) (C:=7) (λd hd=>?_) (bK _);have k1:=k.num;have k3:=k.most;have k5:=k.days;simp only[bI,gU,or_false] at hd;rcases hd with rfl|rfl|rfl|rfl|rfl|rfl|rfl
  .exact int' (by lia) (by lia)
  .exact sG (sz _ k.giver)
  .exact sG (sz _ k.taker)
  .exact sG (oz _ k.part)
  .exact int' (by lia) (by lia)
  .exact int' (by lia) (by lia)
  .exact int' (by lia) (by lia)
 have s4:mK 4 (10*(3132+2)+3) (.tuple (h.rules.map bT)):=by
  refine qR (e:=3) (B:=3132) (λd hd=>?_) (by rw[bh];exact g.zb)
  obtain⟨x,hx,rfl⟩:=dW.mp hd
  have k:=g.rules x hx;have k2:=k.sum;have st:mK 2 (6*(171+2)+3) (dJ x.2.2):=by
   refine qR (e:=1) (B:=171) (λd hd=>?_) (by rw[bh];exact k.many)
   obtain⟨y,hy,rfl⟩:=dW.mp hd
   obtain⟨y1,y2,y3⟩:=k.seats y hy
   refine qR (e:=0) (B:=82) (C:=2) (λd hd=>?_) (bK _);simp only[bI,gU,or_false] at hd;rcases hd with rfl|rfl
   .exact int' (by lia) (by lia)
   .rcases y3 with y3|y3
    .rw[y3];exact sG abj
    .exact sG (oz _ y3)
  refine(qR (e:=2) (B:=1041) (C:=3) (ds:=[.str x.1,.int x.2.1,dJ x.2.2]) (λd hd=>?_) (bK _)).mono (by decide) (by decide)
  simp only[bI,gU,or_false] at hd;rcases hd with rfl|rfl|rfl
  .exact(sG (oz _ k.part)).mono (by decide) (by decide)
  .exact(int' (by lia) (by lia)).mono (by decide) (by decide)
  .exact st.mono (by decide) (by decide)
 refine(qR (e:=4) (B:=32000) (C:=4) (ds:=[.tuple (h.ps.map eV),.tuple (h.nu.map mC),.tuple (h.leaves.map tB),.tuple (h.rules.map bT)]) (λd hd=>?_) (bK _)).mono (by decide) (by decide)
 simp only[bI,gU,or_false] at hd;rcases hd with rfl|rfl|rfl|rfl
 .exact s1.mono (by decide) (by decide)
 .exact s2.mono (by decide) (by decide)
 .exact s3.mono (by decide) (by decide)
 .exact s4.mono (by decide) (by decide)
theorem HF(h:nameB z=aq):G9 z=aq:=by
 unfold G9;rw[Array.all_eq_true'];intro c hc;have:=(Py h).2.2 c (by simpa using hc);exact fP (by lia)
theorem Pz:∀{zs:List Str},(∀z∈zs,G9 z=aq)->Gx (zs.map jq)=aq/\xq (zs.map jq)=0/\iQ (zs.map jq)=aq
 |[],_=>⟨by simp[Gx],by simp[xq],rfl⟩
 |z::zs,h=>by
  obtain⟨h1,h2,h3⟩:=Pz λx hx=>h x (dg _ hx)
  refine⟨by simp[Gx,aeB,h z cV];simpa using h1,by simp only[cB,xq,G8,h2];rfl,?_⟩
  show(aq&&iQ (zs.map jq))=aq
  rw[h3];rfl
theorem afl{zs:List Str}(h:∀z∈zs,G9 z=aq):jN (.list (zs.map jq))=aq:=by
 obtain⟨h1,h2,_⟩:=Pz h
 unfold jN;simp only[aeB,h1,G8,h2];decide
theorem abk(a b:Int):∃lo hi:Int,lY [.list [.int a,.int b]]=aa (.ow (.list [.int lo,.int hi]))/\lo<=hi/\(lo=a\/lo=b)/\(hi=a\/hi=b):=by
 by_cases h:b<a
 .refine⟨b,a,?_,by lia,.inr rfl,.inl rfl⟩
  have:nq ltI [a,b]=[b,a]:=by simp[nq,ins,ltI,h]
  simp[lY,xT,yE,intsOf,this]
 .refine⟨a,b,?_,by lia,.inl rfl,.inr rfl⟩
  have:nq ltI [a,b]=[a,b]:=by simp[nq,ins,ltI,h]
  simp[lY,xT,yE,intsOf,this]
theorem Wm:∀{l:List α}{m:List β},m.Perm (l.map f)->∃l':List α,l'.Perm l/\m=l'.map f:=λ{l m} p=>by
 generalize e:l.map f=k at p;induction p generalizing l with
 |nil=>
  cases l with
  |nil=>exact⟨[],vm _,rfl⟩
  |cons _ _=>cases e
 |@cons x m k _ ih=>
  cases l with
  |nil=>cases e
  |cons a l=>
   rw[cB,VF] at e
   obtain⟨l',p',rfl⟩:=ih e.2
   exact⟨a::l',p'.cons a,by rw[cB,e.1]⟩
 |swap x y m=>
  cases l with
  |nil=>cases e
  |cons a l=>
   cases l with
   |nil=>cases e
   |cons b l=>
    rw[cB,cB,VF,VF] at e
    obtain⟨e1,e2,e3⟩:=e
    exact⟨b::a::l,V0 a b l,by rw[cB,cB,e1,e2,e3]⟩
 |trans _ _ ih1 ih2=>
  obtain⟨l2,p2,e2⟩:=ih2 e
  obtain⟨l1,p1,e1⟩:=ih1 e2.symm
  exact⟨l1,p1.trans p2,e1⟩
theorem afV(x:Str×Str)(ps:List (Str×Str))(z:Str):gj (x::ps) z=if x.1=z then aa x.2 else gj ps z:=by
 unfold gj;rw[pW];by_cases h:x.1=z
 .rw[fP h,aY h];rfl
 .rw[jk h,bw h]
theorem p6:∀{ps:List (Str×Str)}{z w:Str},(ps.map (·.1)).Nodup->(gj ps z=aa w↔(z,w)∈ps)
 |[],z,w,_=>by simp[gj]
 |x::ps,z,w,h=>by
  rw[cB,j0] at h;rw[afV];by_cases hz:x.1=z
  .rw[aY hz,bI];constructor
   .intro e;left;rw[<-hz,<-fU e]
   .rintro(e|e)
    .rw[<-e]
    .exact absurd (dW.mpr ⟨(z,w),e,hz.symm⟩) h.1
  .rw[bw hz,p6 h.2,bI];constructor
   .exact .inr
   .rintro(e|e)
    .exact absurd (by rw[<-e]) hz
    .exact e
theorem afW(p:ps'.Perm ps)(h:(ps.map (·.1)).Nodup)(z:Str):gj ps' z=gj ps z:=by
 have h':(ps'.map (·.1)).Nodup:=(p.map (·.1)).nodup_iff.mpr h;cases e:gj ps z with
 |some w=>exact(p6 h').mpr (p.mem_iff.mpr ((p6 h).mp e))
 |none=>
  cases e':gj ps' z with
  |none=>rfl
  |some w=>
   have:=(p6 h).mpr (p.mem_iff.mp ((p6 h').mp e'));rw[e] at this;cases this
theorem W4(h:jh zs ps):ps.map (·.1)=zs.take ps.length:=by
 apply adW;intro i;rw[ie,LR];cases e:ps[i]? with
 |none=>
  rw[bw (by have:=Uk.mp e;lia)];rfl
 |some x=>
  rw[aY (f9.mp e).1,(h i x e).1];rfl
theorem zN(hN:Names zs)(h:jh zs ps):(ps.map (·.1)).Nodup:=by
 rw[W4 h];exact hN.1.sublist (Mg _ _)
theorem Wn:nameB (bM "")=aB:=by decide +kernel
theorem NP(hN:Names zs)(h:jh zs ps)(hz:z∈ps.map (·.1)):nameB z=aq:=by
 rw[W4 h] at hz;exact hN.2 z (UT hz)
theorem NQ(hN:Names zs)(h:jh zs ps):gj ps (bM "")=aj:=by
 cases e:gj ps (bM "") with
 |none=>rfl
 |some w=>
  have:=(p6 (zN hN h)).mp e;have:=NP hN h (dW.mpr ⟨_,this,rfl⟩);rw[Wn] at this;cases this
def tX(f:Str->Option Str):Nat->Str->List Str
 |0,_=>[]
 |n+1,z=>match f z with
  |none=>[]
  |some y=>z::tX f n y
def up(ps:List (Str×Str))(z:Str):List Str:=tX (gj ps) (ps.length+1) z
theorem Ip(h:f z=aj):∀n,tX f n z=[]
 |0=>rfl
 |n+1=>by unfold tX;rw[h]
theorem YX(h:f z=aa y)(n:Nat):tX f (n+1) z=z::tX f n y:=by
 rw[tX,h]
theorem Z7:∀n z,(tX f n z).length<=n
 |0,_=>bK 0
 |n+1,z=>by
  cases h:f z with
  |none=>rw[Ip h];exact iI _
  |some y=>
   rw[YX h,cL];exact Vu (Z7 n y)
theorem Z8(hN:Names zs)(hP:jh zs ps):∀(n i:Nat),i<n->∀x,ps[i]?=aa x->Over (gj ps) x.1 (tX (gj ps) n x.1)
 |0,_,h,_,_=>absurd h (VG _)
 |n+1,i,h,x,hx=>by
  have e:gj ps x.1=aa x.2:=(p6 (zN hN hP)).mpr (jY hx);rw[YX e];refine .step e ?_
  rcases(hP i x hx).2 with h2|⟨j,hj,h2⟩
  .rw[h2,Ip (NQ hN hP)];exact .stop (NQ hN hP)
  .have hi:=(f9.mp hx).1;have hjl:j<ps.length:=by lia
   have g:=hP j ps[j] (gJ hjl);have e2:ps[j].1=x.2:=by
    have:=g.1;rw[h2] at this
    exact(fU this).symm
   rw[<-e2];exact Z8 hN hP n j (by lia) ps[j] (gJ hjl)
theorem Qz(hN:Names zs)(hP:jh zs ps)(z:Str):Over (gj ps) z (up ps z):=by
 unfold up;cases e:gj ps z with
 |none=>
  rw[Ip e];exact .stop e
 |some w=>
  obtain⟨i,hi,hx⟩:=t8 ((p6 (zN hN hP)).mp e)
  have:=Z8 hN hP (ps.length+1) i (by lia) _ (gJ hi);rw[hx] at this;exact this
theorem Over.det:∀{z:Str}{a b:List Str},Over f z a->Over f z b->a=b
 |_,_,_,.stop _,.stop _=>rfl
 |_,_,_,.stop h,.step g _=>by rw[h] at g;cases g
 |_,_,_,.step h _,.stop g=>by rw[h] at g;cases g
 |_,_,_,.step h r,.step g s=>by
  rw[h] at g;cases g;rw[Over.det r s]
theorem aiY(hN:Names zs)(hP:jh zs ps)(h:gj ps z=aa w):up ps z=z::up ps w:=(Qz hN hP z).det (.step h (Qz hN hP w))
theorem Z9(h:gj ps z=aj):up ps z=[]:=Ip h _
theorem aaQ(ps:List (Str×Str))(z:Str):(up ps z).length<=ps.length+1:=Z7 _ _
def cZ(l:List (Str×au)):List (au×au):=l.map λp=>(.str p.1,p.2)
theorem Ir:∀l:List (Str×au),cg dD (cZ l)=aa (l.map λp=>.inr p.1)
 |[]=>rfl
 |p::l=>by
  rw[show cZ (p::l)=(.str p.1,p.2)::cZ l from rfl];unfold cg;rw[Ir l];simp only[dD];rfl
theorem QB(x z:Str):(dD (.str x)=aa (.inr z))↔x=z:=by
 simp[dD]
theorem Xz(z:Str):∀l:List (Str×au),mZ dD (.inr z) (cZ l)=(l.find? λp=>decide (p.1=z)).map (·.2)
 |[]=>rfl
 |p::l=>by
  show(if dD (.str p.1)=aa (.inr z) then aa p.2 else mZ dD (.inr z) (cZ l))=_
  rw[pW];by_cases h:p.1=z
  .rw[aY ((QB _ _).mpr h),fP h];rfl
  .rw[bw (λe=>h ((QB _ _).mp e)),jk h,Xz z l]
theorem Oq(l:List (Str×au))(z:Str):nW (cZ l) (.str z)=aa ((l.find? λp=>decide (p.1=z)).map (·.2)):=by
 show(if(cg dD (cZ l)).isSome then aa (mZ dD (.inr z) (cZ l)) else aj)=_
 rw[Ir,Xz];rfl
theorem YZ(h:z∉l.map (·.1)):mH dD (.inr z) (.str z) d (cZ l)=cZ (l++[(z,d)]):=by
 unfold mH;rw[bw,cZ,cZ,j4]
 .rfl
 .rw[ad9,adN];intro p hp
  obtain⟨q,hq,rfl⟩:=dW.mp hp
  have:¬(dD (.str q.1)=aa (.inr z)):=λe=>h (dW.mpr ⟨q,hq,(QB _ _).mp e⟩)
  simpa using this
theorem ahP(h:z∉l.map (·.1)):putD (cZ l) (.str z) d=aa (cZ (l++[(z,d)])):=by
 show(if(cg dD (cZ l)).isSome then aa (mH dD (.inr z) (.str z) d (cZ l)) else aj)=_
 rw[Ir,YZ h];rfl
theorem PB(ps:List (Str×Str))(g:Str×Str->α)(z:Str):((ps.map λp=>(p.1,g p)).find? λp=>decide (p.1=z)).map (·.2)=(ps.find? λp=>decide (p.1=z)).map g:=by
 rw[List.find?_map,aeC];rfl
theorem rY(D:α->au)(p:α->Bool)(g:α->au):∀{l:List α},(∀a∈l,∃ts,uV T (D a)=aa ts/\ft (dG ts++fs) C=aa (p a,C)/\(p a=aq->∃x e,fe (dG ts++fs) C=aa (x,e,C)/\still x=.im (g a)))->
  iD T ft fe fs (l.map D) C=aa ((l.filter p).map g,C)
 |[],_=>rfl
 |d::r,h=>by
  obtain⟨ts,h1,h2,h3⟩:=h d cV
  have ih:=rY D p g (l:=r) λd m=>h d (dg _ m)
  rw[cB];unfold iD;simp only[h1];rw[h2];cases hp:p d with
  |true=>
   obtain⟨x,e,h4,h5⟩:=h3 hp
   simp only[h4,h5,ih,xj,hp,if_true,cB]
  |false=>
   simp only[ih,xj,hp];rfl
section
variable{prog:bA}{w:bu}{A:bV}{E:Value->aA->Prop}{R:nP->aA->Prop}{s:aA}
variable{T:Type}[DecidableEq T]{knd:vo prog w T}
end
section
variable{P:bA}{w:bu}{T0:Type}[DecidableEq T0](knd:vo P w T0)(mk:T0->V)
end
section
variable{X:Cx}{T0:Type}[DecidableEq T0]{knd:vo X.prog X.w T0}{mk:T0->V}{NT NF:List Str}{js:List Nat}{elt tg iter:Expr}{ifs:List Expr}{T:gR}{wi:TI}{ts:Bk->TT}{te:Bk->TE}{scope:jF}{pos:Pos}
end
section
variable{X:Cx}{tg:Expr}
end
theorem amv(x:α)(r:List α):dF (x::r) 0=aa x:=sy (j:=0) rfl
theorem amw(a x:α)(r:List α):dF (a::x::r) 1=aa x:=sy (j:=1) rfl
theorem amx(a b x:α)(r:List α):dF (a::b::x::r) 2=aa x:=sy (j:=2) rfl
theorem amy(a b c x:α)(r:List α):dF (a::b::c::x::r) 3=aa x:=sy (j:=3) rfl
theorem amz(a b c d x:α)(r:List α):dF (a::b::c::d::x::r) 4=aa x:=sy (j:=4) rfl
theorem amA(a b c d e x:α)(r:List α):dF (a::b::c::d::e::x::r) 5=aa x:=sy (j:=5) rfl
theorem amB(a b c d e f x:α)(r:List α):dF (a::b::c::d::e::f::x::r) 6=aa x:=sy (j:=6) rfl
theorem alw(op:au->au->Option Vl)(fa fb:FB)(env:En)(C:Ce):aP op fa fb env C=(fa env C).bind λp=>(fb p.2.1 p.2.2).bind λq=>(op p.1 q.1).bind λr=>aa (r,rst r env q.2.1,q.2.2):=by
 unfold aP;rcases h:fa env C with _|⟨x,e1,C1⟩
 .rfl
 .rcases h2:fb e1 C1 with _|⟨y,e2,C2⟩
  .simp only[mO,h2];rfl
  .simp only[mO,h2];cases op x y<;>rfl
theorem alx(f:FE)(env:En)(C:Ce):aC f env C=(f env C).bind λp=>(dat p.1).map λd=>(d,p.2.1,p.2.2):=by
 unfold aC;rcases h:f env C with _|⟨x,e1,C1⟩<;>rfl
theorem amC(i:Nat)(env:En)(C:Ce):aO i env C=(env[i]?).bind λo=>o.bind λx=>(dat x).map λd=>(d,env,C):=by
 unfold aO;rcases env[i]? with _|(_|x)<;>rfl
theorem aly(f g:FT)(env:En)(C:Ce):vZ f g env C=(f env C).bind λp=>if p.1 then g env p.2 else aa (aB,p.2):=by
 unfold vZ;rcases h:f env C with _|⟨_|_,D⟩<;>rfl
theorem amD(f g:FT)(env:En)(C:Ce):yM f g env C=(f env C).bind λp=>if p.1 then aa (aq,p.2) else g env p.2:=by
 unfold yM;rcases h:f env C with _|⟨_|_,D⟩<;>rfl
theorem alz(f:FT)(env:En)(C:Ce):yC f env C=(f env C).map λp=>(!p.1,p.2):=by
 unfold yC;rcases h:f env C with _|⟨b,D⟩<;>rfl
theorem amE(c:FT)(f g:FS)(env:En)(C:Ce):je c f g env C=(c env C).bind λp=>if p.1 then f env p.2 else g env p.2:=by
 unfold je;rcases h:c env C with _|⟨_|_,D⟩<;>rfl
theorem alA(c:FT)(f g:FE)(env:En)(C:Ce):yN c f g env C=(c env C).bind λp=>if p.1 then f env p.2 else g env p.2:=by
 unfold yN;rcases h:c env C with _|⟨_|_,D⟩<;>rfl
theorem amF(d:au)(e f:En):rst (.ow d) e f=f:=rfl
theorem akM(b:Bool)(e f:En):rst (.im (.bool b)) e f=e:=rfl
theorem alB(i:Int)(e f:En):rst (.im (.int i)) e f=e:=rfl
theorem alC(z:Str)(e f:En):rst (.im (.str z)) e f=e:=rfl
theorem amG(l r:List au)(e f:En):rst (.im (.tuple (.list l::r))) e f=f:=rfl
theorem add_int(i j:Int):dj (.int i) (.int j)=aa (.im (.int (i+j))):=rfl
theorem sub_int(i j:Int):yz (.int i) (.int j)=aa (.im (.int (i-j))):=rfl
theorem le_int(i j:Int):Eu (.int i) (.int j)=aa (.im (.bool (decide (i<=j)))):=rfl
theorem lt_int(i j:Int):Et (.int i) (.int j)=aa (.im (.bool (decide (i<j)))):=rfl
theorem ge_int(i j:Int):Kq (.int i) (.int j)=aa (.im (.bool (decide (j<=i)))):=rfl
theorem gt_int(i j:Int):Ew (.int i) (.int j)=aa (.im (.bool (decide (j<i)))):=rfl
theorem eq_int(i j:Int):lG (.int i) (.int j)=aa (.im (.bool (i==j))):=rfl
theorem eq_bool(a b:Bool):lG (.bool a) (.bool b)=aa (.im (.bool (a==b))):=rfl
theorem ne_bool(a b:Bool):kj (.bool a) (.bool b)=aa (.im (.bool (!(a==b)))):=rfl
theorem ne_int(i j:Int):kj (.int i) (.int j)=aa (.im (.bool (!(i==j)))):=rfl
theorem alD(ds:List au):pB [.list ds]=aa (.im (.int ds.length)):=rfl
theorem alE(ds:List au):pB [.tuple ds]=aa (.im (.int ds.length)):=rfl
theorem amH(ds:List au)(i:Int):bF (.tuple ds) (.int i)=(dF ds i).map .im:=rfl
theorem amI(ds:List au)(i:Int):bF (.list ds) (.int i)=(dF ds i).map .im:=rfl
theorem add_l(h:xs.length+ys.length<=1000000):dj (.list xs) (.list ys)=aa (.ow (.list (xs++ys))):=aY h
theorem RM(h:xs.length+ys.length<=1000000):dj (.tuple xs) (.tuple ys)=aa (.im (.tuple (xs++ys))):=by
 unfold dj;cases xs with
 |nil=>rfl
 |cons x xs=>exact aY h
theorem q9{ds:List au}{i:Nat}{d:au}(h:ds[i]?=aa d):bF (.tuple ds) (.int i)=aa (.im d):=by
 simp only[bF,qD,sy h,jA]
theorem alF(h:iY):bF (cU h) (.int 0)=aa (.im (.tuple (h.ps.map eV))):=q9 (i:=0) rfl
theorem alG(h:iY):bF (cU h) (.int 1)=aa (.im (.tuple (h.nu.map mC))):=q9 (i:=1) rfl
theorem alH(h:iY):bF (cU h) (.int 2)=aa (.im (.tuple (h.leaves.map tB))):=q9 (i:=2) rfl
theorem alI(h:iY):bF (cU h) (.int 3)=aa (.im (.tuple (h.rules.map bT))):=q9 (i:=3) rfl
theorem alJ(r:pC):bF (mC r) (.int 0)=aa (.im (.int r.1)):=q9 (i:=0) rfl
theorem alK(r:pC):bF (mC r) (.int 1)=aa (.im (.str r.2.1)):=q9 (i:=1) rfl
theorem alL(r:pC):bF (mC r) (.int 2)=aa (.im (.int r.2.2.1)):=q9 (i:=2) rfl
theorem alM(r:pC):bF (mC r) (.int 3)=aa (.im (.str r.2.2.2.1)):=q9 (i:=3) rfl
theorem alN(r:pC):bF (mC r) (.int 4)=aa (.im (.int r.2.2.2.2.1)):=q9 (i:=4) rfl
theorem alO(r:pC):bF (mC r) (.int 5)=aa (.im (.int r.2.2.2.2.2)):=q9 (i:=5) rfl
theorem wD(h0:-1000000<=m)(h1:m<=1000000)(a b:α):(if -(2^62)<=m/\m<2^62 then a else b)=a:=aY (by lia)
theorem lA(en:En)(hk:xs.length=k)(he:xs.map aa++cC (n-xs.length) aj=en)(h:(body en C).map (λp=>(p.1,p.2.2))=aa (.rt r,C1))(hr:Ei C.length r=aq)(hC:C1.length=C.length):fN k n body xs C=aa (r,C1):=by
 unfold fN;rw[aY hk,he];cases hb:body en C with
 |none=>rw[hb] at h;cases h
 |some p=>
  rw[hb] at h
  obtain⟨fl,e1,C2⟩:=p
  have h:(fl,C2)=(Fl.rt r,C1):=fU h;injection h with h1 h2
  subst h1 h2;simp only[hr,if_true,YQ hC]
theorem letters(k:Int)(h0:0<=k)(h1:k<26):qD (.str abc) (.int k)=aa (.str ⟨#[97+k.toNat]⟩):=by
 have e:=akL h0 h1;have hl:abc.length<=eZ:=by decide +kernel
 simp only[qD];rw[aY hl,e];rfl
theorem W5:∀ns:List Int,intsOf (ns.map mV)=aa ns
 |[]=>rfl
 |n::ns=>by
  show(match intsOf (ns.map mV) with|some t=>aa (n::t)|none=>aj)=_
  rw[W5 ns]
theorem ahQ:abc.cps.toList=(dX 26).map (97+·):=by decide +kernel
theorem XC:chars abc=(dX 26).map λi=>.str ⟨#[97+i]⟩:=by
 unfold chars;rw[ahQ,gM];rfl
theorem Ot:∀zs:List Str,gP (zs.map jq)=aq
 |[]=>rfl
 |z::zs=>by
  show(aq&&gP (zs.map jq))=aq
  rw[Ot zs];rfl
theorem W6:∀cs:List Nat,gP (cs.map λc=>jq ⟨#[c]⟩)=aq
 |[]=>rfl
 |c::cs=>by
  show(aq&&gP (cs.map λc=>jq ⟨#[c]⟩))=aq
  rw[W6 cs];rfl
theorem Wo:∀cs:List Nat,strsOf (cs.map λc=>jq ⟨#[c]⟩)=aa (cs.map λc=>(⟨#[c]⟩:Str))
 |[]=>rfl
 |c::cs=>by
  show(match strsOf (cs.map λc=>jq ⟨#[c]⟩) with|some t=>aa (_::t)|none=>aj)=_
  rw[Wo cs];rfl
theorem agK:(bM "").length=0:=by decide +kernel
theorem ne_nil(zs:List Str)(hz:∀z∈zs,nameB z=aq):kj (.list (zs.map .str)) (.list [])=aa (.im (.bool (!zs.isEmpty))):=by
 have s1:jN (.list (zs.map jq))=aq:=afl λz m=>HF (hz z m)
 have n1:kO (.list (zs.map jq))=aq:=(Pz λz m=>HF (hz z m)).2.2;have e:uT (.list (zs.map .str)) (.list [])=aa zs.isEmpty:=by
  show(if kO (.list (zs.map jq))&&kO (.list [])&&(jN (.list (zs.map jq))&&jN (.list [])) then aa (CJ (.list (zs.map .str)) (.list [])) else aj)=_
  rw[n1,s1];cases zs<;>rfl
 simp only[kj,e,jA]
theorem aiZ{zs:List Str}{k:Int}(h0:0<=k)(h1:k<zs.length):∃z,z∈zs/\zs[k.toNat]?=aa z/\bF (.list (zs.map .str)) (.int k)=aa (.im (.str z)):=by
 obtain⟨x,e1,e2⟩:=Q5 (xs:=zs.map jq) h0 (by rw[bh];exact h1)
 rw[ie] at e2;cases hz:zs[k.toNat]? with
 |none=>rw[hz] at e2;cases e2
 |some z=>
  rw[hz] at e2;cases e2
  refine⟨z,jY hz,rfl,?_⟩
  simp only[bF,qD,e1,jA]
theorem ai0:bF (.tuple (d::r)) (.int 0)=aa (.im d):=by
 have:dF (d::r) (0:Int)=aa d:=sy (j:=0) rfl;simp only[bF,qD,this,jA]
theorem Ou{fe:FE}{C:Ce}{ps:List (Str×Str)}(he:fe=aP bF (aO 0) (aC (aL (.int 0)))):iD .one fL fe [] (ps.map eV) C=aa ((ps.map (·.1)).map .str,C):=by
 subst he;rw[NK (λ_=>aq) (λd=>match d with|.tuple (x::_)=>x|_=>.none) λd hd=>?_]
 .rw[zj.mpr λ_ _=>rfl,gM,gM];rfl
 .obtain⟨p,_,rfl⟩:=dW.mp hd
  exact⟨_,rfl,rfl,λ_=>⟨.im (.str p.1),_,akK (x:=eV p) (e1:=[aa (.im (eV p))]) (e2:=[aa (.im (eV p))]) rfl (akJ rfl rfl) ai0,rfl⟩⟩
abbrev nG(b:Nat)(zs:List Str)(ps:List (Str×Str))(own:List Str)(rk:List pC)(lv:List ym)(ru:List (au×au))(v7 v8 v9 v10 v11 dh cJ tY tZ qF qG n6:Option Vl):En:=
 [aa (.ce b),aa (.im (.list (zs.map .str))),aa (.ow (.list (ps.map eV))),aa (.ow (.list (own.map .str))),aa (.ow (.list (rk.map mC))),aa (.ow (.list (lv.map tB))),aa (.ow (.dict ru)),v7,v8,v9,v10,v11,dh,cJ,tY,tZ,qF,qG,n6]
def eE(p:Str)(s:Int):au:=.tuple [.str p,.int s]
def cu(rs:List bN):List (au×au):=rs.map λr=>(eE r.1 r.2.1,dJ r.2.2)
def wA(p:Str)(s:Int)(q:bN):Bool:=decide (q.1=p/\q.2.1=s)
def wF(rs:List bN)(p:Str)(s:Int)(ss:List pD):List bN:=if rs.any (wA p s) then rs.map (λq=>if wA p s q then(q.1,q.2.1,ss) else q) else rs++[(p,s,ss)]
theorem Jp(p:Str)(s:Int):gB (eE p s)=aa [.inr p,.inl s]:=rfl
theorem Jq:∀rs:List bN,cg gB (cu rs)=aa (rs.map λr=>[.inr r.1,.inl r.2.1])
 |[]=>rfl
 |r::rs=>by
  rw[show cu (r::rs)=(eE r.1 r.2.1,dJ r.2.2)::cu rs from rfl];unfold cg;rw[Jq rs];simp only[Jp];rfl
theorem aaa(p:Str)(s:Int)(q:bN):decide (gB (eE q.1 q.2.1)=aa [.inr p,.inl s])=wA p s q:=by
 rw[Jp,qK];unfold wA;simp
theorem aaR(rs:List bN)(p:Str)(s:Int)(ss:List pD):putD (cu rs) (eE p s) (dJ ss)=aa (cu (wF rs p s ss)):=by
 have h:putD (cu rs) (eE p s) (dJ ss)=aa (mH gB [.inr p,.inl s] (eE p s) (dJ ss) (cu rs)):=by
  show(if(cg gB (cu rs)).isSome then aa (mH gB [.inr p,.inl s] (eE p s) (dJ ss) (cu rs)) else aj)=_
  rw[Jq];rfl
 rw[h];congr 1;unfold mH wF;have ha:((cu rs).any λq=>decide (gB q.1=aa [.inr p,.inl s]))=rs.any (wA p s):=by
  unfold cu;rw[Wl];congr 1;funext q;exact aaa p s q
 rw[ha];cases hb:rs.any (wA p s) with
 |true=>
  rw[aY rfl,aY rfl];unfold cu;rw[gM,gM];congr 1;funext q
  show(if gB (eE q.1 q.2.1)=aa [.inr p,.inl s] then(eE q.1 q.2.1,dJ ss) else(eE q.1 q.2.1,dJ q.2.2))=_
  have:=aaa p s q;cases hs:wA p s q with
  |true=>
   rw[hs] at this;rw[aY (of_decide_eq_true this)];simp[hs]
  |false=>
   rw[hs] at this;rw[bw (of_decide_eq_false this)];simp[hs]
 |false=>
  rw[bw (by decide),bw (by decide)];unfold cu;rw[j4];rfl
abbrev j7(r:bN):Str×Int:=(r.1,r.2.1)
theorem aab(h:∀r∈rs,nQ own r)(hr:nQ own (p,s,ss))(nd:(rs.map j7).Nodup):(∀r∈wF rs p s ss,nQ own r)/\((wF rs p s ss).map j7).Nodup/\(wF rs p s ss).length<=rs.length+1:=by
 unfold wF;split
 .refine⟨λr m=>?_,?_,by rw[bh];lia⟩
  .obtain⟨q,hq,rfl⟩:=dW.mp m
   split
   .rename_i hs;have e:q.1=p/\q.2.1=s:=of_decide_eq_true hs;have:=h q hq
    exact⟨this.part,this.sum,hr.many,hr.seats⟩
   .exact h q hq
  .rw[gM];have:(j7 ∘ λq:bN=>if wA p s q=aq then(q.1,q.2.1,ss) else q)=j7:=by
    funext q;show j7 (if _ then _ else _)=_;split<;>rfl
   rw[this];exact nd
 .rename_i hn
  refine⟨λr m=>?_,?_,by simp⟩
  .rcases cF.mp m with m|m
   .exact h r m
   .rw[fQ.mp m];exact hr
  .rw[j4,jZ]
   refine⟨nd,by simp,λx hx y hy e=>?_⟩
   have hy':y=(p,s):=fQ.mp hy;subst e
   obtain⟨q,hq,hqe⟩:=dW.mp hx
   refine hn (Vt.mpr ⟨q,hq,?_⟩);rw[hy'] at hqe;have h1:q.1=p:=congrArg Prod.fst hqe;have h2:q.2.1=s:=congrArg Prod.snd hqe;exact fP ⟨h1,h2⟩
theorem PJ(r:Vl)(e:En):rst r e e=e:=by
 cases r<;>simp[rst]
theorem aac{ns:List Int}{i:Nat}{d:au}(h:(ns.map mV)[i]?=aa d):∃x,d=.int x/\ns[i]?=aa x/\x∈ns/\i<ns.length:=by
 rw[ie] at h;cases hx:ns[i]? with
 |none=>rw[hx] at h;cases h
 |some x=>
  rw[hx] at h
  exact⟨x,(fU h).symm,rfl,jY hx,(f9.mp hx).1⟩
theorem take_snoc{ns:List Int}{i:Nat}{x:Int}(h:ns[i]?=aa x):ns.take (i+1)=ns.take i++[x]:=by
 rw[Vn,h];rfl
theorem aad:∀(rs:List bN),rs.length<=10->∃rs':List bN,rs'.Perm rs/\lY [.dict (cu rs)]=aa (.ow (.list (rs'.map λr=>eE r.1 r.2.1)))
 |[],_=>⟨[],vm _,rfl⟩
 |r::rs,h=>by
  rw[cL] at h;have hall:((cu (r::rs)).all λp=>decide (pJ p.1=aa [aB,aq]))=aq:=by
   rw[jO];intro p hp
   obtain⟨q,_,rfl⟩:=dW.mp hp
   exact fP rfl
  have e:lY [.dict (cu (r::rs))]=aa (.ow (.list (pK ((cu (r::rs)).map (·.1))))):=by
   have h2:Jo [.dict (cu (r::rs))]=aa (.ow (.list (pK ((cu (r::rs)).map (·.1))))):=by
    show(if(cu rs).length<63/\((cu (r::rs)).all λp=>decide (pJ p.1=aa [aB,aq]))=aq then aa (Vl.ow (.list (pK ((cu (r::rs)).map (·.1))))) else aj)=_
    exact aY ⟨by unfold cu;rw[bh];lia,hall⟩
   unfold lY;rw[show xT [.dict (cu (r::rs))]=aj from rfl,h2]
  have p:=Xv (ds:=(cu (r::rs)).map (·.1)) λd hd=>by obtain⟨p,hp,rfl⟩:=dW.mp hd;obtain⟨q,_,rfl⟩:=dW.mp hp;rfl
  have em:(cu (r::rs)).map (·.1)=(r::rs).map λr=>eE r.1 r.2.1:=by
   unfold cu;rw[gM];rfl
  rw[em] at p
  obtain⟨rs',p1,p2⟩:=Wm p
  exact⟨rs',p1,by rw[e,em,p2]⟩
theorem aae:∀{rs:List bN}{r:bN},r∈rs->(rs.map j7).Nodup->mZ gB [.inr r.1,.inl r.2.1] (cu rs)=aa (dJ r.2.2)
 |q::rs,r,hm,hn=>by
  rw[cB,j0] at hn
  show(if gB (eE q.1 q.2.1)=aa [.inr r.1,.inl r.2.1] then aa (dJ q.2.2) else mZ gB [.inr r.1,.inl r.2.1] (cu rs))=_
  rcases bI.mp hm with rfl|hm
  .rw[aY (Jp _ _)]
  .rw[bw,aae hm hn.2];intro e;rw[Jp] at e;have e1:q.1=r.1:=by injection e with e;injection e with e1 e2;injection e1
   have e2:q.2.1=r.2.1:=by injection e with e;injection e with e1 e2;injection e2 with e2 _;injection e2
   exact hn.1 (dW.mpr ⟨r,hm,by show(r.1,r.2.1)=(q.1,q.2.1);rw[e1,e2]⟩)
theorem abl(hm:r∈rs)(hn:(rs.map j7).Nodup):bF (.dict (cu rs)) (eE r.1 r.2.1)=aa (.im (dJ r.2.2)):=by
 have h:nW (cu rs) (eE r.1 r.2.1)=aa (aa (dJ r.2.2)):=by
  show(if(cg gB (cu rs)).isSome then aa (mZ gB [.inr r.1,.inl r.2.1] (cu rs)) else aj)=_
  rw[Jq,aae hm hn];rfl
 unfold bF qD;simp only[h,jA]
theorem zT:∀ss:List pD,gP (ss.map fG)=aq
 |[]=>rfl
 |s::ss=>by
  show(aq&&gP (ss.map fG))=aq
  rw[zT ss];rfl
theorem HW:∀rs:List bN,gP (rs.map bT)=aq
 |[]=>rfl
 |r::rs=>by
  show((aq&&(aq&&(gP (r.2.2.map fG)&&aq)))&&gP (rs.map bT))=aq
  rw[HW rs,zT];rfl
theorem afX:∀(ps:List (Str×Str)),ps.length<=8->∃ps':List (Str×Str),ps'.Perm ps/\lY [.list (ps.map eV)]=aa (.ow (.list (ps'.map eV)))
 |[],_=>⟨[],vm _,rfl⟩
 |r::rs,h=>by
  have hall:(((r::rs).map eV).all λp=>decide (pJ p=aa [aB,aB]))=aq:=by
   rw[jO];intro p hp
   obtain⟨q,_,rfl⟩:=dW.mp hp
   exact fP rfl
  have hs:yE ((r::rs).map eV)=aa (pK ((r::rs).map eV)):=by
   unfold yE;rw[aY (by rw[bh];lia),show intsOf ((r::rs).map eV)=aj from rfl,show strsOf ((r::rs).map eV)=aj from rfl]
   show(if(((r::rs).map eV).all λp=>decide (pJ p=aa [aB,aB]))=aq then aa (pK ((r::rs).map eV)) else aj)=_
   exact aY hall
  obtain⟨ps',p1,p2⟩:=Wm (Xv (ds:=(r::rs).map eV) λd hd=>by obtain⟨p,_,rfl⟩:=dW.mp hd;rfl)
  refine⟨ps',p1,?_⟩
  unfold lY xT;simp only[hs,p2,jA]
theorem Kc(hk:xs.length=k)(he:xs.map aa++cC (n-xs.length) aj=en)(h:body en C=aa (.rt r,e1,C1))(hr:Ei C.length r=aq)(hC:C1.length=C.length):fN k n body xs C=aa (r,C1):=by
 unfold fN;rw[aY hk,he,h];simp only[hr,if_true,YQ hC]
theorem Ov:∀zs:List Str,(zs.map jq).all lB=aq
 |[]=>rfl
 |z::zs=>by
  rw[cB,MN,Ov zs];rfl
theorem ai1(z:Str)(zs:List Str):Bj (.str z) (.list (zs.map .str))=aa (.im (.bool (decide (z∈zs)))):=by
 have:inB (.str z) (.list (zs.map .str))=aa (inD (.str z) (zs.map .str)):=aY (by rw[Ov];rfl);unfold Bj;rw[this,YW];rfl
theorem Dl(x z:Str):lG (.str x) (.str z)=aa (.im (.bool (decide (x=z)))):=by
 have:(x==z)=decide (x=z):=by rw[qK];simp
 show aa (Vl.im (.bool (x==z)))=_;rw[this]
theorem QC(x z:Str):kj (.str x) (.str z)=aa (.im (.bool (!decide (x=z)))):=by
 have:(x==z)=decide (x=z):=by rw[qK];simp
 show aa (Vl.im (.bool (!(x==z))))=_;rw[this]
def jW(ps:List (Str×Str))(q:List (Str×Str)):List (Str×au):=q.map λp=>(p.1,.list ((up ps p.1).map .str))
theorem aaf{ps:List (Str×Str)}(nd:(ps.map (·.1)).Nodup){z w:Str}{g:Str×Str->au}(h:(z,w)∈ps):((ps.map λp=>(p.1,g p)).find? λp=>decide (p.1=z)).map (·.2)=aa (g (z,w)):=by
 rw[PB];have e:=(p6 nd).mpr h;unfold gj at e;cases hf:ps.find? (λp=>decide (p.1=z)) with
 |none=>rw[hf] at e;cases e
 |some x=>
  rw[hf] at e;have h1:x.1=z:=by simpa using List.find?_some hf
  have h2:x.2=w:=fU e;rw[show x=(z,w) by rw[<-h1,<-h2]];rfl
theorem Y0{ps:List (Str×Str)}{z:Str}{g:Str×Str->au}(h:z∉ps.map (·.1)):((ps.map λp=>(p.1,g p)).find? λp=>decide (p.1=z)).map (·.2)=aj:=by
 rw[PB];rw[U7.mpr λx hx e=>h (dW.mpr ⟨x,hx,of_decide_eq_true e⟩)];rfl
theorem get_eq(h1:fd env C=aa (.dict kvs,e1,C1))(h2:fk e1 C1=aa (dk,e2,C2))(h3:fx e2 C2=aa (r,e3,C3))(h4:nW kvs dk=aa o)(h5:still r=.im x)(he:e3=env):wC fd fk fx env C=aa (.im (o.getD x),env,C3):=by
 subst he;unfold wC;simp only[h1,h2,h3,h4];cases o with
 |none=>simp only[h5,PJ];rfl
 |some d=>simp only[PJ];rfl
def jc(q:List (Str×Str)):List (Str×au):=q.map λp=>(p.1,.str p.2)
theorem Y4:∀q,yP (cZ (jc q))=aq
 |[]=>rfl
 |x::q=>by
  show(aq&&yP (cZ (jc q)))=aq
  rw[Y4 q];rfl
theorem Y5(q:List (Str×Str))(z:Str):nW (cZ (jc q)) (.str z)=aa ((gj q z).map .str):=by
 rw[Oq];unfold jc gj;rw[PB,aeC];rfl
theorem XD:∀l:List Int,gP (l.map mV)=aq
 |[]=>rfl
 |x::l=>by
  show(aq&&gP (l.map mV))=aq
  rw[XD l];rfl
theorem afY:∀(n:Nat),Ek [.list (cC n (.bool aq))]=aa (.im (.bool aq))/\gP (cC n (.bool aq))=aq:=by
 intro n;have h:boolsOf (cC n (.bool aq))=aa (cC n aq)/\gP (cC n (.bool aq))=aq:=by
  induction n with
  |zero=>exact⟨rfl,rfl⟩
  |succ n ih=>
   rw[t7,t7]
   refine⟨?_,?_⟩
   .unfold boolsOf;rw[ih.1]
   .show(aq&&gP (cC n (.bool aq)))=aq
    rw[ih.2];rfl
 refine⟨?_,h.2⟩
 unfold Ek;simp only[h.1,jA];congr 3;rw[jO];intro b hb
 exact(List.mem_replicate.mp hb).2
theorem aag{zs:List Str}{ps:List (Str×Str)}(hN:Names zs)(hP:jh zs ps)(z:Str):∃o,nW (cZ (jW ps ps)) (.str z)=aa o/\o.getD (.list [])=.list ((up ps z).map .str):=by
 have nd:=zN hN hP;rw[Oq];cases e:gj ps z with
 |none=>
  refine⟨aj,congrArg aa (Y0 λhm=>?_),by rw[Z9 e];rfl⟩
  obtain⟨x,hx,hz⟩:=dW.mp hm
  have:=(p6 nd (z:=z) (w:=x.2)).mpr (by rw[<-hz];exact hx);rw[e] at this;cases this
 |some w=>exact⟨_,congrArg aa (aaf nd ((p6 nd).mp e)),rfl⟩
theorem XF:∀ps:List (Str×Str),iQ (ps.map eV)=aq
 |[]=>rfl
 |p::ps=>by show(aq&&iQ (ps.map eV))=aq;rw[XF ps];rfl
theorem XH:∀ps:List pC,iQ (ps.map mC)=aq
 |[]=>rfl
 |p::ps=>by show(aq&&iQ (ps.map mC))=aq;rw[XH ps];rfl
theorem W7:∀ps:List ym,iQ (ps.map tB)=aq
 |[]=>rfl
 |p::ps=>by show(aq&&iQ (ps.map tB))=aq;rw[W7 ps];rfl
theorem XJ:∀ps:List pD,iQ (ps.map fG)=aq
 |[]=>rfl
 |p::ps=>by show(aq&&iQ (ps.map fG))=aq;rw[XJ ps];rfl
theorem XM:∀rs:List bN,iQ (rs.map bT)=aq
 |[]=>rfl
 |r::rs=>by
  show((aq&&(aq&&(iQ (r.2.2.map fG)&&aq)))&&iQ (rs.map bT))=aq
  rw[XM rs,XJ];rfl
theorem agL(h:iY):kO (cU h)=aq:=by
 show(iQ (h.ps.map eV)&&(iQ (h.nu.map mC)&&(iQ (h.leaves.map tB)&&(iQ (h.rules.map bT)&&aq))))=aq
 rw[XF,XH,W7,XM];rfl
theorem ai2(hz:∀z∈zs,nameB z=aq)(hp:jh zs ps)(g:qP zs ps h):Ar [cU h]=aa (.im (.str (cU h).shown)):=by
 have s:=agJ hz hp g;unfold Ar;refine aY ?_;have h1:(cU h).depth<=60:=ir s.deep (by decide);have h2:(cU h).shown.length<=eZ:=ir s.len (by show 200000<=1000000;decide);rw[agL,s.SQ,fP h1,fP h2];rfl
theorem qi{zs:List Str}{k:Int}(h0:0<=k)(h1:k<zs.length):∃z,z∈zs/\zs[k.toNat]?=aa z/\dF (zs.map jq) k=aa (.str z):=by
 obtain⟨x,e1,e2⟩:=Q5 (xs:=zs.map jq) h0 (by rw[bh];exact h1)
 rw[ie] at e2;cases hz:zs[k.toNat]? with
 |none=>rw[hz] at e2;cases e2
 |some z=>
  rw[hz] at e2;cases e2
  exact⟨z,jY hz,rfl,e1⟩
theorem akN{α:Type}{f:α->au}{l:List α}{i:Nat}{d:au}(h:(l.map f)[i]?=aa d):∃x,l[i]?=aa x/\d=f x:=by
 rw[ie] at h;cases hx:l[i]? with
 |none=>rw[hx] at h;cases h
 |some x=>rw[hx] at h;exact⟨x,rfl,(fU h).symm⟩
theorem aah{zs:List Str}{ps:List (Str×Str)}{i:Nat}{x:Str×Str}(hN:Names zs)(hP:jh zs ps)(hx:ps[i]?=aa x):
  ∃o,nW (cZ (jW ps (ps.take i))) (.str x.2)=aa o/\o.getD (.list [])=.list ((up ps x.2).map .str)/\putD (cZ (jW ps (ps.take i))) (.str x.1) (.list ((up ps x.1).map .str))=aa (cZ (jW ps (ps.take (i+1))))/\up ps x.1=x.1::up ps x.2:=by
 have nd:=zN hN hP;have hi:=(f9.mp hx).1;have lk:gj ps x.1=aa x.2:=(p6 nd).mpr (jY hx);have hu:=aiY hN hP lk;have ndt:((ps.take i).map (·.1)).Nodup:=by
  rw[aeP];exact nd.sublist (Mg _ _)
 have hg:∃o,nW (cZ (jW ps (ps.take i))) (.str x.2)=aa o/\o.getD (.list [])=.list ((up ps x.2).map .str):=by
  rw[Oq]
  rcases(hP i x hx).2 with h2|⟨j,hj,h2⟩
  .refine⟨aj,?_,?_⟩
   .congr 1;refine Y0 λhm=>?_
    have hm':x.2∈ps.map (·.1):=by
     rw[aeP] at hm;exact UT hm
    have:=NP hN hP hm';rw[h2,Wn] at this;cases this
   .rw[h2,Z9 (NQ hN hP)];rfl
  .have hjl:j<ps.length:=by lia
   have g:=hP j ps[j] (gJ hjl);have e2:ps[j].1=x.2:=by
    have:=g.1;rw[h2] at this
    exact(fU this).symm
   have hm:(x.2,ps[j].2)∈ps.take i:=by
    rw[<-e2];have:(ps.take i)[j]?=aa ps[j]:=by rw[LR,aY hj,gJ hjl]
    exact jY this
   exact⟨_,congrArg aa (aaf ndt hm),rfl⟩
 obtain⟨o,ho1,ho2⟩:=hg
 refine⟨o,ho1,ho2,?_,hu⟩
 have ht:ps.take (i+1)=ps.take i++[x]:=by rw[Vn,hx];rfl
 rw[ahP (l:=jW ps (ps.take i)) (z:=x.1) (d:=.list ((up ps x.1).map .str)),ht]
 .unfold jW;rw[j4];rfl
 .unfold jW;rw[gM];show x.1∉(ps.take i).map (·.1);intro hm
  obtain⟨y,hy,he⟩:=dW.mp hm
  obtain⟨j,hj,hjy⟩:=t8 hy
  rw[vf] at hj;rw[adX] at hjy;have h1:(ps.map (·.1))[j]'(by rw[bh];lia)=(ps.map (·.1))[i]'(by rw[bh];lia):=by
   rw[GD,GD,hjy,he,<-(f9.mp hx).2]
  exact uY.mp nd j i _ _ (by lia) h1
def Bf(L:Nat)(C:Ce)(b k:Nat):Prop:=C.length=L/\∃x y z:Int,C[b]?=aa [x,y,z]/\0<=x/\0<=y/\y<=3000000000/\0<=z/\z+k<=900000
theorem Bf.mono(h:Bf L C b k)(hj:j<=k):Bf L C b j:=by
 obtain⟨l,x,y,z,h1,h2,h3,h4,h5,h6⟩:=h
 exact⟨l,x,y,z,h1,h2,h3,h4,h5,by lia⟩
theorem Bf.dec(h:Bf L C b (k+1)):Bf L C b k:=h.mono (uf k)
theorem Bf.eq(h:Bf L C b k)(h':Bf L C' b' k'):C'.length=C.length:=h'.1.trans h.1.symm
theorem akO(C:Ce)(h0:0<=x)(h1:0<=y)(h2:y<=3000000000):Bf (C.length+1) (C++[[x,y,0]]) C.length 800000:=by
 refine⟨by simp,x,y,0,?_,h0,h1,h2,vq _,by lia⟩
 rw[oh (bK _),Wi];rfl
inductive HE(b:Nat)(zs:List Str)(ps:List (Str×Str))(own:List Str)(rk:List pC)(lv:List ym)(ru:List (au×au)):En->Prop
 |mk (v7 v8 v9 v10 v11 dh cJ tY tZ qF qG n6:Option Vl):HE b zs ps own rk lv ru (nG b zs ps own rk lv ru v7 v8 v9 v10 v11 dh cJ tY tZ qF qG n6)
theorem yF(a c:Nat)(h:i<n):a+c*(n-i)=a+c*(n-(i+1))+c:=by
 rw[show n-i=(n-(i+1))+1 by lia,Nat.mul_add,Nat.mul_one,Nat.add_assoc]
theorem aaS(a:Nat)(h:i<n):a+(n-i)=a+(n-(i+1))+1:=by lia
section
variable{prog:bA}{w:bu}{A:bV}{E:Value->aA->Prop}{s:aA}
theorem akP(hit:s.heap.IsTupleIter it t i)(ht:s.heap.IsTuple t its)(hx:its[i]?=aa x)
  (q:∀h',h'.IsTupleIter it t (i+1)->xG it s.heap h'->Q x {s with heap:=h'}):aH (model prog w) A (zc (.ref it)) Q E s:=by
 obtain⟨o,ho,hc,hd⟩:=id hit
 obtain⟨ol,hol,_,nl,hdl⟩:=ht
 unfold zc;refine az (pR (name:=bM "__next__") hit.typeIs Lp (lR Lp hit.typeIs acP (show aH _ _ (field (.ref it) 0 >>= _) _ _ s from az (nJ ho hd (x:=.ref t) rfl ?_)) (acM _)));show aH _ _ (if(cM t==iW)=aq then _ else _) _ _ s;rw[bw (show ¬((cM t==iW)=aq) from gr)]
 refine(show aH _ _ (field (.ref it) 1 >>= _) _ _ s from az (nJ ho hd (x:=.int i 0) rfl (show aH _ _ (HX (.ref t) >>= _) _ _ s from az (pX hol hdl ?_))))
 simp only[Gv,hx];refine az (ue ho hd (by simp) (aM ⟨x,rfl,aM (q _ ⟨_,u0 _ ho (UG (BP hd _)),(Vd ..).trans hc,?_⟩ (oE ..))⟩));rw[BP hd];simp[fW]
theorem afZ(hh:A.handled=aj)(hit:s.heap.IsTupleIter it t i)(ht:s.heap.IsTuple t its)(hx:its[i]?=aj)
  (q:∀h' e,Hi it s.heap h'->(∃o,h'.get? e=aa o/\o.cls=.type "StopIteration")->E (.ref e) {s with heap:=h'}):aH (model prog w) A (zc (.ref it)) Q E s:=by
 obtain⟨o,ho,hc,hd⟩:=id hit
 obtain⟨ol,hol,_,nl,hdl⟩:=ht
 unfold zc;refine az (pR (name:=bM "__next__") hit.typeIs Lp (lR Lp hit.typeIs acP (show aH _ _ (field (.ref it) 0 >>= _) _ _ s from az (nJ ho hd (x:=.ref t) rfl ?_)) (acM _)));show aH _ _ (if(cM t==iW)=aq then _ else _) _ _ s;rw[bw (show ¬((cM t==iW)=aq) from gr)]
 refine(show aH _ _ (field (.ref it) 1 >>= _) _ _ s from az (nJ ho hd (x:=.int i 0) rfl (show aH _ _ (HX (.ref t) >>= _) _ _ s from az (pX hol hdl ?_))))
 simp only[Gv,hx];refine az (rW (az (ue ho hd (by simp) (show aH _ _ (Dv (.type "StopIteration") [] >>= _) _ _ _ from az ?_))));simp only[Dv,O3];refine az (jz (az (m:=Cm _ _) (Hj (a:=iW) (by first|rfl|(simp only[Cm];rfl)) (jz ?_ (by size_fits)))) (by size_fits));simp only[O4];refine az (V7 ?_)
 first|rw[show A.in1.handled=aj from hh,] |rw[hh]
 exact az (aM (Wx (q _ _ (((oE ..).extBut.push _).push _) ⟨_,dI _ rfl,rfl⟩)))
end
theorem Ow(hh:A.handled=aj)(it t:ao)(ne:t≠it)(its:Array Value):Draws prog w A it [it,t] its.size (λi v=>its[i]?=aa v) (λi h=>h.IsTupleIter it t i/\h.IsTuple t its) where
 live:=λ_ _ st=>let ⟨o,ho,_⟩:=st.1;⟨o,ho⟩
 frame:=λ_ _ _ st k=>⟨let ⟨o,e,r⟩:=st.1;⟨o,k it (by simp) o e,r⟩,let ⟨o,e,r⟩:=st.2;⟨o,k t (by simp) o e,r⟩⟩
 item:=λi s Q E hi st q=>akP st.1 st.2 (x:=its[i]) (by simp[hi]) λh' a b=>q _ h' s.toks (by simp[hi]) ⟨a,st.2.extBut b.extBut ne⟩ b
 done:=λs Q E st q=>afZ hh st.1 st.2 (by simp) q
section
variable{prog:bA}{w:bu}{A:bV}{E:Value->aA->Prop}{s:aA}{z TI TO i1 i2 l1 l2:ao}{f1 f2:List ao}{n:Nat}{P1 P2:Nat->Value->Prop}{S1 S2:Nat->aU->Prop}
theorem ai3(D:O1 z TI TO i1 i2 l1 l2)(D1:Draws prog w A.in1 i1 [i1,l1] n P1 S1)(D2:Draws prog w A.in1 i2 [i2,l2] n P2 S2)(hi:i<n)
  (hz:qt s.heap z TI TO .none)(hI:lZ s.heap TI (.ref i1) (.ref i2))(hO:lZ s.heap TO a b)(h1:S1 i s.heap)(h2:S2 i s.heap)
  (q:∀h' tk x y T,P1 i x->P2 i y->s.heap.objs.size<=T->qt h' z TI TO (fW T)->lZ h' TO x y->S1 (i+1) h'->S2 (i+1) h'->lZ h' T x y->(∀c o,c∉[z,TO,i1,i2]->s.heap.get? c=aa o->h'.get? c=aa o)->Q (aa (.ref T)) {s with heap:=h',toks:=tk}):
  aH (model prog w) A (gZ (.ref z)) Q E s:=by
 have hT:s.TypeIs (.ref z) "zip":=⟨_,hz,rfl⟩
 have k1:∀{h h':aU}{c:ao}{j:Nat},c≠i1->c≠l1->Hi c h h'->S1 j h->S1 j h':=λ{h h' c j} e1 e2 k st=>D1.frame _ _ _ st λb hb o e=>k b o (λz=>by subst z;simp at hb;rcases hb with hb|hb;exact e1 hb;exact e2 hb) e
 have k2:∀{h h':aU}{c:ao}{j:Nat},c≠i2->c≠l2->Hi c h h'->S2 j h->S2 j h':=λ{h h' c j} e1 e2 k st=>D2.frame _ _ _ st λb hb o e=>k b o (λz=>by subst z;simp at hb;rcases hb with hb|hb;exact e1 hb;exact e2 hb) e
 unfold gZ;refine az (xF (pR (name:=bM "__next__") hT Mx (lR Mx hT aek ?_ (ad0 _))))
 refine(show aH _ _ (field (.ref z) 2 >>= _) _ _ _ from az (nJ hz rfl (x:=.bool aB) rfl (show aH _ _ (field (.ref z) 3 >>= _) _ _ _ from az (nJ hz rfl (x:=.ref TI) rfl (az (pX hI rfl ?_))))))
 show aH _ _ (Lh (.ref z) >>= _) _ _ _;refine az ?_;unfold Lh;refine az (nJ hz rfl (x:=.none) rfl (aM ?_));simp only[if_true];refine az (rW (az (nJ hz rfl (x:=.ref TO) rfl (az (Gr hz (by simp) λg1 z1 m1=>?_)))));replace z1:qt g1 z TI TO .ellipsis:=z1;refine az ?_;simp only[ael,aet,Vy,aeD];refine az (az (V8 (show aH _ _ (zc (.ref i1) >>= _) _ _ _ from az (D1.item i _ _ _ hi (k1 D.i1z.symm D.l1z.symm m1.extBut h1) λx g2 t2 px s2 m2=>aM ?_))));have o2:lZ g2 TO a b:=m2.extBut _ _ D.TOi1 (m1.extBut _ _ D.TOz hO);refine az (pX o2 rfl (az (adw o2 λg3 o3 m3=>az (zO (aM ?_)))));replace o3:lZ g3 TO x b:=o3;refine az (az (V8 (show aH _ _ (zc (.ref i2) >>= _) _ _ _ from az (D2.item i _ _ _ hi (k2 D.TOi2 D.l2TO.symm m3.extBut (k2 D.i12 D.l2i1.symm m2.extBut (k2 D.i2z.symm D.l2z.symm m1.extBut h2))) λy g4 t4 py s4 m4=>aM ?_))));have o4:lZ g4 TO x b:=m4.extBut _ _ D.TOi2 o3;refine az (pX o4 rfl (az (adw o4 λg5 o5 m5=>az (zO (aM (aM ?_))))));replace o5:lZ g5 TO x y:=o5;refine az (pX o5 rfl (az (wpAny_newTuple ?_)));have sz:g5.objs.size=s.heap.objs.size:=by rw[m5.1,m4.1,m3.1,m2.1,m1.1]
 have z5:qt g5 z TI TO .ellipsis:=m5.extBut _ _ D.TOz.symm (m4.extBut _ _ D.i2z.symm (m3.extBut _ _ D.TOz.symm (m2.extBut _ _ D.i1z.symm z1)));have keep:∀c o,c∉[z,TO,i1,i2]->s.heap.get? c=aa o->g5.get? c=aa o:=λc o hc e=>by
  simp only[bI,gU,or_false,not_or] at hc;exact m5.extBut _ _ hc.2.1 (m4.extBut _ _ hc.2.2.2 (m3.extBut _ _ hc.2.1 (m2.extBut _ _ hc.2.2.1 (m1.extBut _ _ hc.1 e))))
 have u1:S1 (i+1) g5:=k1 D.TOi1 D.l1TO.symm m5.extBut (k1 D.i12.symm D.l1i2.symm m4.extBut (k1 D.TOi1 D.l1TO.symm m3.extBut s2));have u2:S2 (i+1) g5:=k2 D.TOi2 D.l2TO.symm m5.extBut s4;have zl:z<g5.objs.size:=bO z5;show aH _ _ (acH (.ref z) (.ref g5.objs.size) >>= _) _ _ _;refine az ?_;unfold acH;have z6:qt (g5.push {cls:=.type "tuple",data:=.seq #[x,y]}) z TI TO .ellipsis:=bH _ z5;refine az (Gr z6 (by simp) λg7 z7 m7=>?_);replace z7:qt g7 z TI TO (fW g5.objs.size):=z7;refine Gr z7 (by simp) λg8 z8 m8=>?_
 replace z8:qt g8 z TI TO (fW g5.objs.size):=z8;have up:Hi z g5 g8:=λc o hc e=>m8.extBut _ _ hc (m7.extBut _ _ hc (bH _ e))
 refine aM ⟨_,rfl,aM ?_⟩;refine q g8 _ x y g5.objs.size px py (Wc sz.symm) z8 (up _ _ D.TOz o5) (k1 D.i1z.symm D.l1z.symm up u1) (k2 D.i2z.symm D.l2z.symm up u2) ?_ λc o hc e=>up _ _ (λz=>hc (by simp[z])) (keep c o hc e)
 exact m8.extBut _ _ (qL zl) (m7.extBut _ _ (qL zl) (dI _ rfl))
theorem akQ(D:O1 z TI TO i1 i2 l1 l2)(D1:Draws prog w A.in1 i1 [i1,l1] n P1 S1)(hz:qt s.heap z TI TO .none)(hI:lZ s.heap TI (.ref i1) (.ref i2))(hO:lZ s.heap TO a b)(h1:S1 n s.heap)
  (q:∀h',(∀c o,c∉[z,TO,i1,i2]->s.heap.get? c=aa o->h'.get? c=aa o)->Q aj {s with heap:=h'}):aH (model prog w) A (gZ (.ref z)) Q E s:=by
 have hT:s.TypeIs (.ref z) "zip":=⟨_,hz,rfl⟩
 unfold gZ;refine az (xF (pR (name:=bM "__next__") hT Mx (lR Mx hT aek ?_ (ad0 _))))
 refine(show aH _ _ (field (.ref z) 2 >>= _) _ _ _ from az (nJ hz rfl (x:=.bool aB) rfl (show aH _ _ (field (.ref z) 3 >>= _) _ _ _ from az (nJ hz rfl (x:=.ref TI) rfl (az (pX hI rfl ?_))))))
 show aH _ _ (Lh (.ref z) >>= _) _ _ _;refine az ?_;unfold Lh;refine az (nJ hz rfl (x:=.none) rfl (aM ?_));simp only[if_true];refine az (rW (az (nJ hz rfl (x:=.ref TO) rfl (az (Gr hz (by simp) λg1 z1 m1=>?_)))));replace z1:qt g1 z TI TO .ellipsis:=z1;refine az ?_;simp only[ael,aet,Vy,aeD];refine az (az (V8 (show aH _ _ (zc (.ref i1) >>= _) _ _ _ from az (D1.done _ _ _ (D1.frame _ _ _ h1 λb hb o e=>m1.extBut b o (λz=>by subst z;simp at hb;rcases hb with hb|hb;exact D.i1z hb.symm;exact D.l1z hb.symm) e) λg2 x m2 hx=>?_))))
 obtain⟨ox,e1,e2⟩:=hx
 have z2:qt g2 z TI TO .ellipsis:=m2 _ _ D.i1z.symm z1;have nz:x≠z:=λy=>by subst y;rw[z2] at e1;cases e1;simp at e2
 refine Gr z2 (by simp) λg3 _ m3=>?_
 refine az (Ml (T:="StopIteration") (b:=aq) ⟨ox,m3.extBut _ _ nz e1,e2⟩ VN (aM (q _ λc o hc e=>?_)));simp only[bI,gU,or_false,not_or] at hc;exact m3.extBut _ _ hc.1 (m2 _ _ hc.2.2.1 (m1.extBut _ _ hc.1 e))
end
abbrev Bw(h:aU)(a:ao):aU:=h.push {cls:=.type "tuple_iterator",data:=.fields #[.ref a,.int 0 0]}
abbrev K7(h:aU)(a b:ao):aU:=Bw (Bw h a) b
abbrev K8(h:aU)(a b:ao):aU:=(K7 h a b).push {cls:=.type "tuple",data:=.seq #[.ref h.objs.size,.ref (Bw h a).objs.size]}
abbrev K9(h:aU)(a b:ao):aU:=(K8 h a b).push {cls:=.type "tuple",data:=.seq #[.none,.none]}
abbrev By(h:aU)(a b:ao):aU:=(K9 h a b).push {cls:=.type "zip",data:=.fields #[.none,.bool aB,.bool aB,.ref (K7 h a b).objs.size,.ref (K8 h a b).objs.size]}
theorem akR(a b:ao)(xs ys:Array Value):Meets (gY.«zip.__new__» ⟨[.type "zip",.ref a,.ref b],[]⟩) (λ_ R s=>s.heap.IsTuple a xs/\s.heap.IsTuple b ys/\R (.ok (.ret (.ref (K9 s.heap a b).objs.size))) {s with heap:=By s.heap a b}):=
 .of_wp λprog w A R s h=>by
  obtain⟨hp,g,d,tk,os⟩:=s;obtain⟨h1,h2,q⟩:=h
  have sub:=sub_zip;have t1:ae7 (afm ⟨hp,g,d,tk,os⟩) a xs:=h1;have t2:ae7 (afm ⟨Bw hp a,g,d,tk,os⟩) b ys:=aoy h2 _;wp_walk using U3 t1,U3 t2
  exact⟨_,rfl,q⟩
theorem agM(h1:s.heap.IsTuple a xs)(h2:s.heap.IsTuple b ys)
  (q:∀h',qt h' (s.heap.objs.size+4) (s.heap.objs.size+2) (s.heap.objs.size+3) .none->lZ h' (s.heap.objs.size+2) (.ref s.heap.objs.size) (.ref (s.heap.objs.size+1))->lZ h' (s.heap.objs.size+3) .none .none->h'.IsTupleIter s.heap.objs.size a 0->h'.IsTupleIter (s.heap.objs.size+1) b 0->
   (∀c o,s.heap.get? c=aa o->h'.get? c=aa o)->Q (.ref (s.heap.objs.size+4)) {s with heap:=h'}):aH (model prog w) A (call (.type "zip") [.ref a,.ref b]) Q E s:=by
 refine callType_new F.called_zip (by decide) (F.typeCall_zip_2 _ _) (F.newCall_zip_2 _ _) (λobj=>F.args_object_init_3 obj _ _) F.entry_zip_new (akR a b xs ys) ⟨h1,h2,?_⟩;have z1:(Bw s.heap a).objs.size=s.heap.objs.size+1:=oJ ..;have z2:(K7 s.heap a b).objs.size=s.heap.objs.size+2:=(oJ ..).trans (by rw[z1]);have z3:(K8 s.heap a b).objs.size=s.heap.objs.size+3:=(oJ ..).trans (by rw[z2]);have z4:(K9 s.heap a b).objs.size=s.heap.objs.size+4:=(oJ ..).trans (by rw[z3]);have g5:(By s.heap a b).get? (K9 s.heap a b).objs.size=aa _:=dI _ rfl;have g4:(By s.heap a b).get? (K8 s.heap a b).objs.size=aa _:=bH _ (dI _ rfl);have g3:(By s.heap a b).get? (K7 s.heap a b).objs.size=aa _:=bH _ (bH _ (dI _ rfl));have g2:(By s.heap a b).get? (Bw s.heap a).objs.size=aa _:=bH _ (bH _ (bH _ (dI _ rfl)));have g1:(By s.heap a b).get? s.heap.objs.size=aa _:=bH _ (bH _ (bH _ (bH _ (dI _ rfl))));rw[z2,z3,z4] at g5;rw[z1,z2] at g3;rw[z3] at g4;rw[z1] at g2;show _/\_;rw[z4]
 exact⟨⟨_,g5,rfl⟩,q _ g5 g3 g4 ⟨_,g1,rfl,rfl⟩ ⟨_,g2,rfl,rfl⟩ λc o e=>bH _ (bH _ (bH _ (bH _ (bH _ e))))⟩
def SX(K:aF)(a b:ao):It:=⟨λi H=>∃xs ys,bW K H a xs/\bW K H b ys/\xs.length=ys.length/\i<xs.length,
 λi H v H'=>∃p x y,H p=aj/\v=.ref p/\H'=upd H p (.tup [x,y])/\∀xs ys,bW K H a xs->bW K H b ys->xs[i]?=aa x/\ys[i]?=aa y,
 λi H=>∃xs ys,bW K H a xs/\bW K H b ys/\xs.length=ys.length/\i=xs.length⟩
theorem agN{P:bA}{w:bu}{K:aF}{es:List Expr}{k:Nat}{ps:Pos}{a b z TI TO i1 i2:ao}(D:O1 z TI TO i1 i2 a b):
  Turn P w K (.Tuple es k ps) (SX K a b) [z,TI,TO,i1,i2] z (λi h=>qt h z TI TO .none/\lZ h TI (.ref i1) (.ref i2)/\(∃c d,lZ h TO c d)/\h.IsTupleIter i1 a i/\h.IsTupleIter i2 b i) where
 mem:=by simp
 obj:=λi h st c hc=>by
  obtain⟨h1,h2,⟨_,_,h3⟩,⟨o4,e4,_,d4⟩,⟨o5,e5,_,d5⟩⟩:=st
  simp only[bI,gU,or_false] at hc;rcases hc with rfl|rfl|rfl|rfl|rfl
  .exact⟨_,h1,λv q=>by cases q⟩
  .exact⟨_,h2,λv q=>by cases q⟩
  .exact⟨_,h3,λv q=>by cases q⟩
  .exact⟨_,e4,λv q=>by rw[d4] at q;cases q⟩
  .exact⟨_,e5,λv q=>by rw[d5] at q;cases q⟩
 keep:=λi h h' st kk=>by
  obtain⟨h1,h2,⟨c,d,h3⟩,⟨o4,e4,r4⟩,⟨o5,e5,r5⟩⟩:=st
  exact⟨kk z (by simp) _ h1,kk TI (by simp) _ h2,⟨c,d,kk TO (by simp) _ h3⟩,⟨o4,kk i1 (by simp) _ e4,r4⟩,⟨o5,kk i2 (by simp) _ e5,r5⟩⟩
 item:=by
  intro X hP hw hK hc i pins s σ H E I hf st hg;subst hP hw hK
  obtain⟨xs,ys,ha,hb,hn,hi⟩:=hg
  obtain⟨its,r1,p1,_⟩:=I.tuple ha
  obtain⟨its2,r2,p2,_⟩:=I.tuple hb
  have l1:=r1.length;have l2:=r2.length;have hh:X.A.in1.handled=aj:=by simp[I.ok.hd hc]
  have D1:=Ow (prog:=X.prog) (w:=X.w) hh i1 a D.l1i1 its.toArray;have D2:Draws X.prog X.w X.A.in1 i2 [i2,b] its.toArray.size (λi v=>its2.toArray[i]?=aa v) (λi h=>h.IsTupleIter i2 b i/\h.IsTuple b its2.toArray):=by
   have:=Ow (prog:=X.prog) (w:=X.w) hh i2 b D.l2i2 its2.toArray;rw[show its.toArray.size=its2.toArray.size by simp;lia];exact this
  obtain⟨s1,s2,⟨c3,d3,s3⟩,s4,s5⟩:=st
  refine ai3 D D1 D2 (by simp;lia) s1 s2 s3 ⟨s4,p1⟩ ⟨s5,p2⟩ λh' tk x y T px py hT a1 a2 a3 a4 a5 kk=>⟨_,rfl,wpAny_letOwnedTupleGo_zip a1 λh2 z2 m2=>?_⟩
  have ltz:z<T:=lN (bO s1) hT;have ex:xs[i]?=aa (xs.getD i .non):=by
   have:i<xs.length:=hi;simp[oR,this]
  have ey:ys[i]?=aa (ys.getD i .non):=by
   have:i<ys.length:=by lia
   simp[oR,this]
  obtain⟨u1,hu1,q1⟩:=r1.get ex
  obtain⟨u2,hu2,q2⟩:=r2.get ey
  have e1:u1=x:=by
   have:its[i]?=aa x:=by simpa using px
   rw[hu1] at this;exact fU this
  have e2:u2=y:=by
   have:its2[i]?=aa y:=by simpa using py
   rw[hu2] at this;exact fU this
  subst e1 e2;have wf:∀c,c∈[z,TO,i1,i2]->jG X pins H c:=λc hc=>hf c (by simp at hc⊢;rcases hc with rfl|rfl|rfl|rfl<;>simp)
  have Fv:H T=aj:=I.hok.fresh hT;have kT:lZ h2 T u1 u2:=m2.extBut _ _ (qL ltz) a5
  refine⟨.ref T,upd H T (.tup [xs.getD i .non,ys.getD i .non]),I.Jd (t':=tk) (λc o hc e=>m2.extBut _ _ (λz=>hc (by simp[z])) (kk c o hc e)) wf (bC.upd Fv) (λc o e n=>?_) (λc u e=>?_),rfl,⟨T,_,_,Fv,rfl,rfl,λxs' ys' h1 h2=>?_⟩,?_,λc hc=>?_⟩
  .rw[cI]
   .exact n
   .intro z;subst z;exact absurd (bO e) (CG.mpr hT)
  .by_cases Fw:c=T
   .subst Fw;rw[eN] at e;cases e;exact .inr ⟨by show 2<=bL;decide,[u1,u2],.cons q1 (.cons q2 .nil),_,kT,rfl,_,rfl⟩
   .rw[cI Fw] at e;exact .inl e
  .rw[I.N7 h1 ha,I.N7 h2 hb]
   exact⟨ex,ey⟩
  .have ltI:TI≠z:=D.TIz
   refine⟨z2,m2.extBut _ _ D.TIz (kk _ _ ?_ s2),⟨_,_,m2.extBut _ _ D.TOz a2⟩,a3.1.extBut m2.extBut D.i1z,a4.1.extBut m2.extBut D.i2z⟩
   simp only[bI,gU,or_false,not_or]
   exact⟨D.TIz,D.TITO,D.TIi1,D.TIi2⟩
  .rw[cI]
   .exact(hf c hc).1
   .intro e;subst e;have:c<s.heap.objs.size:=by
     simp only[bI,gU,or_false] at hc
     obtain⟨o4,e4,_⟩:=s4
     obtain⟨o5,e5,_⟩:=s5
     rcases hc with rfl|rfl|rfl|rfl|rfl
     .exact bO s1
     .exact bO s2
     .exact bO s3
     .exact bO e4
     .exact bO e5
    exact absurd this (CG.mpr hT)
 done:=by
  intro X hP hw hK hc i pins s σ H E I hf st hg;subst hP hw hK
  obtain⟨xs,ys,ha,hb,hn,hi⟩:=hg
  obtain⟨its,r1,p1,_⟩:=I.tuple ha
  have l1:=r1.length;have hh:X.A.in1.handled=aj:=by simp[I.ok.hd hc]
  have D1:=Ow (prog:=X.prog) (w:=X.w) hh i1 a D.l1i1 its.toArray
  obtain⟨s1,s2,⟨c3,d3,s3⟩,s4,s5⟩:=st
  have e:i=its.toArray.size:=by simp;lia
  subst e;have wf:∀c,c∈[z,TO,i1,i2]->jG X pins H c:=λc hc=>hf c (by simp at hc⊢;rcases hc with rfl|rfl|rfl|rfl<;>simp)
  exact akQ D D1 s1 s2 s3 ⟨s4,p1⟩ λh' kk=>⟨rfl,I.Jd (t':=s.toks) kk wf (bC.refl H) (λ_ _ _ n=>n) λ_ _ e=>.inl e⟩
 self:=λ_ _ _ _ _ st h=>Mj st.1 h
def alP(K:aF)(t:TA):TI:=λσ H R=>t σ H λvs H1=>∃a b xs ys,vs=[.ref a,.ref b]/\bW K H1 a xs/\bW K H1 b ys/\R (SX K a b) H1
theorem ai4{X:Cx}{es:List Expr}{k:Nat}{ps:Pos}{x y:Expr}{t:TA}{p pos:Pos}(hg:Gl X "zip")(hm:X.mg "zip"=aj)(ha:PA X [x,y] t)(hs:bD [x,y] X.env=[(aB,eval x X.env),(aB,eval y X.env)]:=by rfl)(hs2:bD [y] X.env=[(aB,eval y X.env)]:=by rfl):
  PI X (.Tuple es k ps) (.Call (.Name "zip" p) [x,y] [] pos) (alP X.K t):=by
 intro pins s σ H R I h;refine Call_ (vL I hg hm ade (Gg (bQ (ha pos pins s σ H _ I h) λus s1 aK=>?_) (by rw[hs,hs2]) (by rw[hs2];rfl)))
 obtain⟨vs,H1,I1,r1,a,b,xs,ys,e,h1,h2,q⟩:=aK
 subst e;cases r1 with
 |cons r rr=>
  cases rr with
  |cons r' rr=>
   cases rr;cases r;cases r'
   obtain⟨its,v1,p1,_⟩:=I1.tuple h1
   obtain⟨its2,v2,p2,_⟩:=I1.tuple h2
   have Tt:a<s1.heap.objs.size:=by obtain⟨_,e,_⟩:=p1;exact bO e
   have uR:b<s1.heap.objs.size:=by obtain⟨_,e,_⟩:=p2;exact bO e
   refine agM p1 p2 λh' g1 g2 g3 g4 g5 kk=>Mj g1 ?_
   have I2:Inv X pins σ H1 {s1 with heap:=h'}:=I1.kept (t':=s1.toks) kk
   refine⟨s1.heap.objs.size+4,[s1.heap.objs.size+4,s1.heap.objs.size+2,s1.heap.objs.size+3,s1.heap.objs.size,s1.heap.objs.size+1],_,_,H1,rfl,I2,agN (zipApart_new Tt uR),⟨g1,g2,⟨_,_,g3⟩,g4,g5⟩,λc hc=>?_,q⟩
   refine I1.uE ?_ (I1.hok.fresh ?_)
   all_goals
    simp only[bI,gU,or_false] at hc;rcases hc with rfl|rfl|rfl|rfl|rfl<;>lia
theorem ai5{K:aF}{P T:List ao}{H:Hp}{a b:ao}{ds es:List au}{vs ws:List V}(ha:er P H a=aa (.tup vs))(hb:er P H b=aa (.tup ws))(r1:bY (er P H) ds vs)(r2:bY (er P H) es ws)(hl:ds.length=es.length):uG P T H (SX K a b) (kE ds es):=λi H2 P2 s1 s2 n=>by
 have h2:bW K H2 a vs:=bW.of (fJ (s1 _ _ ha));have h3:bW K H2 b ws:=bW.of (fJ (s1 _ _ hb));have l1:=iw r1;have l2:=iw r2
 refine⟨λd hd=>?_,λhi=>⟨vs,ws,h2,h3,by lia,by rw[hi,Pu];lia⟩⟩
 obtain⟨x,y,e1,e2,rfl⟩:=Qw hd
 obtain⟨v,ev,rv⟩:=sV r1 e1
 obtain⟨w,ew,rw'⟩:=sV r2 e2
 refine⟨⟨vs,ws,h2,h3,by lia,(f9.mp ev).1⟩,λz H3 yl=>?_⟩
 obtain⟨p,v',w',hp,rfl,rfl,hh⟩:=yl
 obtain⟨g1,g2⟩:=hh vs ws h2 h3
 rw[ev] at g1;rw[ew] at g2;cases g1;cases g2;have sp:bC H2 (upd H2 p (.tup [v,w])):=bC.upd hp
 refine⟨sp,p,[v,w],rfl,?_,v,[w],rfl,rv.same (s1.trans (Jf sp)),w,[],rfl,rw'.same (s1.trans (Jf sp)),rfl⟩
 unfold er;rw[bw (λm=>n p m hp),eN]
def zL:au->Option (Bool×List au)
 |.list xs=>aa (aq,xs)
 |.tuple xs=>aa (aB,xs)
 |_=>aj
def Ky:List au->Option (List au)
 |[x,y]=>(zL x).bind λp=>(zL y).bind λq=>if p.1=q.1/\(p.1=aq\/p.2.length=q.2.length) then aa (kE p.2 q.2) else aj
 |_=>aj
theorem ai6(xs ys:List au):Ky [.list xs,.list ys]=aa (kE xs ys):=aY (c:=aq=aq/\(aq=aq\/xs.length=ys.length)) (e:=aj) ⟨rfl,.inl rfl⟩
theorem ai7(h:xs.length=ys.length):Ky [.tuple xs,.tuple ys]=aa (kE xs ys):=aY (c:=aB=aB/\(aB=aq\/xs.length=ys.length)) (e:=aj) ⟨rfl,.inr h⟩
theorem abm(h:zL x=aa (b,xs)):x=cond b (.list xs) (.tuple xs):=by
 cases x<;>first|(cases h;rfl)|cases h
theorem ai8(h:Ky ds=aa l):∃xs ys,(ds=[.list xs,.list ys]\/ds=[.tuple xs,.tuple ys]/\xs.length=ys.length)/\l=kE xs ys:=by
 match ds,h with
 |[x,y],h=>
  obtain⟨⟨b,xs⟩,hx,h⟩:=uZ.mp h
  obtain⟨⟨c,ys⟩,hy,h⟩:=uZ.mp h
  rw[abm hx,abm hy];split at h
  .rename_i hc
   obtain⟨h1,h2⟩:=hc
   cases h
   cases(show b=c from h1)
   refine⟨xs,ys,?_,rfl⟩
   cases b with
   |true=>exact .inl rfl
   |false=>exact .inr ⟨rfl,h2.resolve_left gr⟩
  .cases h
def Kz(f:wK):FI:=λenv C=>(f env C).bind λp=>(Ky p.1).map λl=>(l,p.2)
theorem ai9(hg:Gl X "zip")(hm:X.mg "zip"=aj)(ha:PA X [x,y] (wL X.K f))(hs:bD [x,y] X.env=[(aB,eval x X.env),(aB,eval y X.env)]:=by rfl)(hs2:bD [y] X.env=[(aB,eval y X.env)]:=by rfl):
  PI X (.Tuple es k ps) (.Call (.Name "zip" p) [x,y] [] pos) (tI X.K aq (Kz f)):=((ako hg hm ha hs hs2).or (ai4 hg hm ha hs hs2)).weak λσ H R aK=>by
 obtain⟨Z,Θ,env,C,its,env',C',S,hf,q⟩:=aK
 refine hide λGG gg=>?_
 obtain⟨⟨ds,e1,C1⟩,h1,h2⟩:=uZ.mp hf
 obtain⟨l,h3,h4⟩:=wX.mp h2
 cases h4
 obtain⟨xs,ys,hd,rfl⟩:=ai8 h3
 rcases hd with rfl|⟨rfl,hl⟩
 .refine gg (.inl ⟨Z,Θ,env,C,_,env',C',S,h1,λvs H1 k f S1 b1=>?_⟩);refine hide λG2 g2=>?_
  obtain⟨_,_,rfl,b1,b2⟩:=J3 b1
  obtain⟨a,vs1,rfl,ha,r1⟩:=b1
  obtain⟨b,vs2,rfl,hb,r2⟩:=b2
  exact g2 ⟨a,b,vs1,vs2,rfl,bG.of (fJ ha),bG.of (fJ hb),q _ H1 k f S1 (akI ha hb r1 r2)⟩
 .refine gg (.inr ⟨Z,Θ,env,C,_,env',C',S,h1,λvs H1 k f S1 b1=>?_⟩);refine hide λG2 g2=>?_
  obtain⟨_,_,rfl,b1,b2⟩:=J3 b1
  obtain⟨a,vs1,rfl,ha,r1⟩:=b1
  obtain⟨b,vs2,rfl,hb,r2⟩:=b2
  exact g2 ⟨a,b,vs1,vs2,rfl,bW.of (fJ ha),bW.of (fJ hb),q _ H1 k f S1 (ai5 ha hb r1 r2 hl)⟩
theorem aai(h:bY H ds vs):∀n,bY H (cC n ds).flatten (cC n vs).flatten
 |0=>rfl
 |n+1=>by
  rw[t7,t7,BW,BW];exact Ad h (aai h n)
section
variable{X:Cx}
end
section
variable{prog:bA}{w:bu}{A:bV}{E:Value->aA->Prop}{s:aA}{R:nP->aA->Prop}{I S:ao}{fp wr:List ao}{n:Nat}{Pv:Nat->Value->Prop}{St:Nat->aU->Prop}{bt:Nat->Nat->Bool}{HK:aU->Prop}
end
section
variable{X:Cx}
end
section
variable{prog:bA}{w:bu}{A:bV}{E:Value->aA->Prop}{s:aA}{r d:ao}{kvs:List (Key×Value)}{ep:Nat}{b c:Bool}{Q:Value->aA->Prop}
end
def Bl(L:Nat)(C:Ce)(b k:Nat):Prop:=C.length=L/\∃x y z:Int,C[b]?=aa [x,y,z]/\0<=x/\0<=z/\z+k<=900000
theorem Bl.mono(h:Bl L C b k)(hj:j<=k):Bl L C b j:=by
 obtain⟨l,x,y,z,h1,h2,h5,h6⟩:=h
 exact⟨l,x,y,z,h1,h2,h5,by lia⟩
theorem Bl.dec(h:Bl L C b (k+1)):Bl L C b k:=h.mono (uf k)
theorem Bl.eq(h:Bl L C b k)(h':Bl L C' b' k'):C'.length=C.length:=h'.1.trans h.1.symm
def n1(f s:Int)(k:Nat):Str:=⟨#[97+((f+s*k)%26).toNat]⟩
def v2(f s:Int)(k:Nat):Int:=(f+s*k)%676
def two(v:Int):Str:=(⟨#[97+(v / 26).toNat]⟩:Str)++(⟨#[97+(v%26).toNat]⟩:Str)
def n2(hd tl:Str)(f s:Int)(q:Nat->Int)(k:Nat):Str:=hd++two (v2 f s k)++Txt.slice tl aj (aa (q k))
def sl(z:Str)(n k:Nat):Str:=Txt.slice z (aa (k:Int)) (aa ((k:Int)+(n:Int)))
def sb(z:Str)(n:Nat):List Str:=(dX (8-n)).map (sl z (n+1))
end L2
namespace L2
section
variable{β:Type}[DecidableEq β]{ws:List (Int×β×β)}{s:β}
inductive qH(ws:List (Int×β×β)):β->List Int->β->Prop
 |nil (p:β):qH ws p [] p
 |cons {n:Int} {p q s:β} {r:List Int}:(n,p,q)∈ws->qH ws q r s->qH ws p (n::r) s
def jL(st:List (β×Int))(p:β):Option Int:=(st.find? λx=>decide (x.1=p)).map (·.2)
theorem Iu{st:List (β×Int)}{p:β}:jL st p=aj↔p∉st.map (·.1):=by
 unfold jL;rw[ac9,U7];simp only[dW,not_exists,not_and,decide_eq_true_eq]
theorem Jr(st:List (β×Int))(new:List β)(k:Int)(p:β):jL (st++new.map λg=>(g,k)) p=if p∈st.map (·.1) then jL st p else if p∈new then aa k else aj:=by
 unfold jL;rw[List.find?_append];by_cases h:p∈st.map (·.1)
 .rw[aY h]
  obtain⟨x,hx,rfl⟩:=dW.mp h
  cases e:st.find? λy=>decide (y.1=x.1) with
  |none=>exact absurd (fP rfl) (U7.mp e x hx)
  |some y=>rfl
 .rw[bw h,(ac9.mp (Iu.mpr h):st.find? _=aj),Option.none_or];induction new with
  |nil=>rfl
  |cons g new ih=>
   rw[cB,pW];by_cases e:g=p
   .subst e;rw[fP rfl,aY cV];rfl
   .rw[jk e,ih];have:p∈g::new↔p∈new:=by rw[bI];exact⟨λz=>z.resolve_left λz=>e z.symm,.inr⟩
    simp only[this]
structure uW(ws:List (Int×β×β))(s:β)(st:List (β×Int))(new:List β)(k:Nat):Prop where
 sound:∀p d,jL st p=aa d->d<=k/\∃r,qH ws p r s/\(r.length:Int)=d
 whole:∀p r,qH ws p r s->r.length<=k->∃d,jL st p=aa d/\d<=r.length
 last:∀p,p∈new↔jL st p=aa (k:Int)
 nd:(st.map (·.1)).Nodup
 sub:∀p∈st.map (·.1),p=s\/p∈ws.map (·.2.1)
 low:∀p d,jL st p=aa d->d+1<=st.length
theorem uW.init(ws:List (Int×β×β))(s:β):uW ws s [(s,0)] [s] 0 where
 sound p d h:=by
  unfold jL at h;rw[pW] at h;by_cases e:s=p
  .subst e;rw[fP rfl] at h;cases h
   exact⟨vq _,[],.nil _,rfl⟩
  .rw[jk e] at h;cases h
 whole p r h l:=by
  cases h with
  |nil=>exact⟨0,by unfold jL;rw[pW,fP rfl];rfl,vq _⟩
  |cons _ _=>exact absurd l (Nat.not_succ_le_zero _)
 last p:=by
  unfold jL;rw[pW,fQ];by_cases e:s=p
  .subst e;rw[fP rfl]
   exact⟨λ_=>rfl,λ_=>rfl⟩
  .rw[jk e]
   exact⟨λz=>absurd z.symm e,λz=>nomatch z⟩
 nd:=by simp
 sub p hp:=.inl (fQ.mp hp)
 low p d h:=by
  unfold jL at h;rw[pW] at h;by_cases e:s=p
  .rw[fP e] at h;cases h;exact vq _
  .rw[jk e] at h;cases h
theorem uW.step{st:List (β×Int)}{new new':List β}{k:Nat}(B:uW ws s st new k)(hn:new'.Nodup)(hm:∀g,g∈new'↔∃w∈ws,w.2.2∈new/\w.2.1∉st.map (·.1)/\w.2.1=g):uW ws s (st++new'.map λg=>(g,(k:Int)+1)) new' (k+1) where
 sound p d h:=by
  rw[Jr] at h;split at h
  .obtain⟨h1,h2⟩:=B.sound p d h
   exact⟨by lia,h2⟩
  .split at h
   .rename_i m;cases h
    refine⟨by lia,?_⟩
    obtain⟨w,m1,m2,m3,rfl⟩:=(hm p).mp m
    obtain⟨_,r,h3,h4⟩:=B.sound _ _ ((B.last _).mp m2)
    exact⟨w.1::r,.cons (p:=w.2.1) (q:=w.2.2) m1 h3,by rw[cL];lia⟩
   .cases h
 whole p r h l:=by
  rw[Jr];by_cases hp:p∈st.map (·.1)
  .rw[aY hp];cases e:jL st p with
   |none=>exact absurd hp (Iu.mp e)
   |some d=>
    refine⟨d,rfl,?_⟩
    by_cases l':r.length<=k
    .obtain⟨d',e',h'⟩:=B.whole p r h l'
     rw[e] at e';cases e';exact h'
    .have:=(B.sound p d e).1;lia
  .rw[bw hp];cases h with
   |nil=>
    obtain⟨d,e,_⟩:=B.whole s [] (.nil s) (iI _)
    rw[Iu.mpr hp] at e;cases e
   |cons hw hr=>
    rename_i n q r;rw[cL] at l⊢
    obtain⟨d,e,hd⟩:=B.whole q r hr (by lia)
    obtain⟨hk,r2,hr2,l2⟩:=B.sound q d e
    by_cases hdk:d=k
    .subst hdk;have m:p∈new':=(hm p).mpr ⟨_,hw,(B.last q).mpr e,hp,rfl⟩;rw[aY m]
     exact⟨_,rfl,by lia⟩
    .obtain⟨d',e',_⟩:=B.whole p (n::r2) (.cons hw hr2) (by rw[cL];lia)
     rw[Iu.mpr hp] at e';cases e'
 last p:=by
  rw[Jr];constructor
  .intro m
   obtain⟨w,m1,m2,m3,rfl⟩:=(hm p).mp m
   rw[bw m3,aY m];rfl
  .intro e;split at e
   .have:=(B.sound p _ e).1;lia
   .split at e
    .rename_i m;exact m
    .cases e
 nd:=by
  rw[j4,gM,show((λx:β×Int=>x.1) ∘ λg=>(g,(k:Int)+1))=id from rfl,Nj];refine jZ.mpr ⟨B.nd,hn,λa ha b hb e=>?_⟩;subst e
  obtain⟨w,_,_,m3,rfl⟩:=(hm a).mp hb
  exact m3 ha
 sub p hp:=by
  rw[j4,gM,show((λx:β×Int=>x.1) ∘ λg=>(g,(k:Int)+1))=id from rfl,Nj] at hp;rcases cF.mp hp with hp|hp
  .exact B.sub p hp
  .obtain⟨w,m1,_,_,rfl⟩:=(hm p).mp hp
   exact .inr (dW.mpr ⟨w,m1,rfl⟩)
 low p d h:=by
  rw[Jr] at h;rw[lO,bh];split at h
  .have:=B.low p d h;lia
  .split at h
   .rename_i m;cases h
    obtain⟨w,m1,m2,m3,rfl⟩:=(hm p).mp m
    have:=B.low _ _ ((B.last _).mp m2);have:=Lz m;lia
   .cases h
theorem len_sub:∀{l m:List β},l.Nodup->(∀x∈l,x∈m)->l.length<=m.length
 |[],_,_,_=>iI _
 |a::l,m,hn,h=>by
  have ha:=h a cV;have:=len_sub (m:=m.erase a) (j0.mp hn).2 λx hx=>(adu (show x≠a from λz=>(j0.mp hn).1 (z▸hx))).mpr (h x (dg _ hx))
  rw[acX ha] at this;have:=Lz ha;rw[cL];lia
theorem uW.few{st:List (β×Int)}{new:List β}{k:Nat}(B:uW ws s st new k):st.length<=ws.length+1:=by
 have h:(st.map (·.1)).length<=(s::ws.map (·.2.1)).length:=by
  refine len_sub B.nd λp hp=>?_
  rcases B.sub p hp with rfl|h
  .exact cV
  .exact dg _ h
 simpa using h
structure La(ws:List (Int×β×β))(s:β)(st:List (β×Int)):Prop where
 sound:∀p d,jL st p=aa d->∃r,qH ws p r s/\(r.length:Int)=d
 whole:∀p r,qH ws p r s->∃d,jL st p=aa d/\d<=r.length
 few:∀p d,jL st p=aa d->d<=ws.length
 nd:(st.map (·.1)).Nodup
theorem uW.done{st:List (β×Int)}{k:Nat}(B:uW ws s st [] k):La ws s st where
 sound p d h:=(B.sound p d h).2
 nd:=B.nd
 few p d h:=by
  have:=B.low p d h;have:=B.few;lia
 whole p r h:=by
  induction h with
  |nil p=>exact B.whole p [] (.nil p) (iI _)
  |cons hw hr ih=>
   rename_i n p q s' r
   obtain⟨d,e,hd⟩:=ih B
   obtain⟨hk,r2,hr2,l2⟩:=B.sound q d e
   have:d≠k:=λz=>by
    subst z;exact nomatch(B.last q).mpr e
   obtain⟨d',e',h'⟩:=B.whole p (n::r2) (.cons hw hr2) (by rw[cL];lia)
   refine⟨d',e',?_⟩
   rw[cL] at h'⊢;lia
theorem La.self{st:List (β×Int)}(B:La ws s st):jL st s=aa 0:=by
 obtain⟨d,e,h⟩:=B.whole s [] (.nil s)
 obtain⟨r,_,l⟩:=B.sound s d e
 rw[e];simp only[Mt] at h;congr 1;lia
theorem qH.snoc{a b c:β}{n:Int}{r:List Int}(h:qH ws a r b)(hw:(n,b,c)∈ws):qH ws a (r++[n]) c:=by
 induction h with
 |nil p=>exact .cons hw (.nil _)
 |cons h1 _ ih=>exact .cons h1 (ih hw)
def lexLe:List Int->List Int->Prop
 |[],_=>True
 |_::_,[]=>False
 |a::r,b::q=>a<b\/(a=b/\lexLe r q)
def Em(ws:List (Int×β×β))(p s:β)(r:List Int):Prop:=qH ws p r s/\∀r',qH ws p r' s->r.length<r'.length\/(r.length=r'.length/\lexLe r r')
theorem Em.self(ws:List (Int×β×β))(s:β):Em ws s s []:=⟨.nil s,λr' _=>by
 cases r' with
 |nil=>exact .inr ⟨rfl,trivial⟩
 |cons _ _=>exact .inl (Nat.succ_pos _)⟩
theorem Em.go{p q:β}{n d:Int}{r:List Int}{st:List (β×Int)}(hU:∀w∈ws,∀w'∈ws,w.1=w'.1->w=w')(B:La ws s st)(hp:jL st p=aa d)(hw:(n,p,q)∈ws)(hq:∃e,jL st q=aa e/\e<d)(hmin:∀n' q' e,(n',p,q')∈ws->jL st q'=aa e->e<d->n<=n')(hr:Em ws q s r):Em ws p s (n::r):=by
 obtain⟨e,hq,hlt⟩:=hq
 obtain⟨r1,hr1,l1⟩:=B.sound q e hq
 have hle:r.length<=r1.length:=by rcases hr.2 r1 hr1 with h|h<;>lia
 refine⟨.cons hw hr.1,λr' h'=>?_⟩
 obtain⟨d',e',hd'⟩:=B.whole p r' h'
 rw[hp] at e';cases e';rw[cL];cases h' with
 |nil=>
  simp only[Mt] at hd';lia
 |cons hw' hr'=>
  rename_i n' q' r';rw[cL] at hd'⊢
  obtain⟨e2,h2,l2⟩:=B.whole q' r' hr'
  by_cases hl:r.length<r'.length
  .exact .inl (by lia)
  .refine .inr ⟨by lia,?_⟩;have hn:=hmin n' q' e2 hw' h2 (by lia);by_cases hnn:n<n'
   .exact .inl hnn
   .have:n=n':=by lia
    subst this;have:=hU _ hw _ hw' rfl;cases this;refine .inr ⟨rfl,?_⟩;rcases hr.2 r' hr' with h|h
    .lia
    .exact h.2
end
end L2
namespace L2
open PySem PySem.Spec PyProof.Rows PySem.W
def alQ(i j k:Nat)(ta:TA):TS:=λD σ H=>ta σ H λvs H1=>vs.length=3/\(∀v w z,vs=[v,w,z]->D.nx (((σ.set i (aa v)).set j (aa w)).set k (aa z)) H1)
section
variable{X:Cx}{pos:Pos}
theorem aja{kt k2 nC}(hc:X.calm=aq)(hN:X.N.Nodup)(hi:X.N[i]?=aa x)(hj:X.N[j]?=aa y)(hk:X.N[k]?=aa z)(hij:i≠j)(hik:i≠k)(hjk:j≠k)
  (hx:X.env.scope.names.lookup x=aa .local)(hy:X.env.scope.names.lookup y=aa .local)(hz:X.env.scope.names.lookup z=aa .local)(ha:PA X [a,b,c] ta)
  (hw:xx [.Tuple [.Name x px,.Name y py,.Name z pz] kt pt] (.Tuple [a,b,c] k2 nC) X.env=pure (aa [x,y,z]))
  (hs:xu [.Tuple [.Name x px,.Name y py,.Name z pz] kt pt] (.Tuple [a,b,c] k2 nC) pos.line X.env=pure aB:=by rfl):
  PS X (.Assign [.Tuple [.Name x px,.Name y py,.Name z pz] kt pt] (.Tuple [a,b,c] k2 nC) pos) (alQ i j k ta):=by
 intro pins s σ H D I h;rw[exec_Assign_arm];refine az (zF ?_);rw[hs];refine az (aM ?_);rw[bw (by decide)];refine az (Tuple_ (bQ (ha _ pins s σ H _ I h) λus s1 aK=>?_))
 obtain⟨vs,H1,I1,r1,l1,q1⟩:=aK
 cases r1 with
 |nil=>cases l1
 |cons rv r1=>
 cases r1 with
 |nil=>cases l1
 |cons rw' r1=>
 cases r1 with
 |nil=>cases l1
 |cons rz r1=>
 cases r1 with
 |cons _ _=>cases l1
 |nil=>
 rename_i v u1 w u2 zz u3;refine jz ?_ (by show 3<=bL;decide);have I2:Inv X pins σ H1 {s1 with heap:=s1.heap.push {cls:=.type "tuple",data:=.seq [u1,u2,u3].toArray}}:=I1.kept (t':=s1.toks) λb o e=>bH _ e
 rw[hw];refine az (aM ?_);show aH (model X.prog X.w) X.A (do rule "assign.swapped-stores";let items <-unpackItems (.ref s1.heap.objs.size) 3 aj;Cr [λv=>uo X.env z v,λv=>uo X.env y v,λv=>uo X.env x v] items.reverse;pure N8) _ _ _;refine az (rW (az (unpackItems_tuple (items:=#[u1,u2,u3]) (I.ok.hd hc) (IsTup.new s1.heap _) λh' hx'=>?_)));have I3:=I2.kept (h':=h') (t':=s1.toks) λb o e=>hx' b o (cW (bO e)) e
 show aH _ _ (Cr [λv=>uo X.env z v,λv=>uo X.env y v,λv=>uo X.env x v] [u3,u2,u1] >>= λ_=>pure N8) _ _ _;refine az (assignInOrder_cons (GX (um I3 hN hk (.inl hz) rz (λs2 I4=>?_) (.inr hz))));refine assignInOrder_cons (GX (um I4 hN hj (.inl hy) rw' (λs3 I5=>?_) (.inr hy)));refine assignInOrder_cons (GX (um I5 hN hi (.inl hx) rv (λs4 I6=>assignInOrder_nil (aM ?_)) (.inr hx)));rw[MK _ _ (jr hij),MK _ _ (jr hik),MK _ _ (jr hjk)] at I6
 exact⟨_,H1,I6,q1 _ _ _ rfl⟩
theorem ajb{kt k2 nC}(hc:X.calm=aq)(hN:X.N.Nodup)(hi:X.N[i]?=aa x)(hj:X.N[j]?=aa y)(hk:X.N[k]?=aa z)(hij:i≠j)(hik:i≠k)(hjk:j≠k)
  (hx:X.env.scope.names.lookup x=aa .local)(hy:X.env.scope.names.lookup y=aa .local)(hz:X.env.scope.names.lookup z=aa .local)(ha:PA X [a,b,c] (wO X.K g))
  (hw:xx [.Tuple [.Name x px,.Name y py,.Name z pz] kt pt] (.Tuple [a,b,c] k2 nC) X.env=pure (aa [x,y,z]))
  (hs:xu [.Tuple [.Name x px,.Name y py,.Name z pz] kt pt] (.Tuple [a,b,c] k2 nC) pos.line X.env=pure aB:=by rfl):
  PS X (.Assign [.Tuple [.Name x px,.Name y py,.Name z pz] kt pt] (.Tuple [a,b,c] k2 nC) pos) (tS X.K (nA [i,j,k] g)):=(aja hc hN hi hj hk hij hik hjk hx hy hz ha hw hs).weak λD σ H aK=>by
 obtain⟨Z,Θ,env,C,fl,env',C',S,hf,q⟩:=aK
 unfold nA at hf;split at hf
 case h_2=>cases hf
 rename_i xs e1 C1 h1;split at hf
 case isFalse=>cases hf
 rename_i hl;cases hf
 refine⟨Z,Θ,env,C,xs,e1,C',S,h1,λvs as H1 k1 f1 n1 S1 a1=>⟨by rw[Ji a1,<-hl.1];rfl,λv w zz e=>?_⟩⟩
 obtain⟨S2,o2⟩:=Qq a1 hl.1 (bC.refl _) S1
 subst e;refine q Θ _ H1 ⟨jV.refl _ _,vJ k1,λb m=>?_,S2⟩;rcases o2 b m with m|m
 .exact .inl (f1.own.subset m)
 .exact .inr (n1 b m)
end
section
variable{X:Cx}
end
section
variable{X:Cx}{l de:Expr}{tl td:TE}{p pos kp:Pos}
end
inductive jj(K:aF)(x:Str)(st:dZ):Prop
 |mk {f:ao} {oc:Value} {od an:Option ao} {osl:Array (Option Value)} {kV doc pm cdv ct:Value} (a:kZ K fV x=aa (aa (.ref f))) (l:K.lookup f=aa ⟨oc,od,.func (xH x x (Ab st) (vI st) (dz st) .none kV doc pm an cdv ct),osl⟩) (c:MF K cdv x=aq) (k:vh K (.ref f)=aq):jj K x st
abbrev Q8(x:Str)(st:dZ)(ps:List Str):Prop:=∀(kV doc pm:Value)(an:Option ao)(cdv ct:Value)(us:List Value),us.length=ps.length->bindArgs (xH x x (Ab st) (vI st) (dz st) .none kV doc pm an cdv ct) ⟨us,[]⟩=pure (ps.zip us)
section
variable{P:bA}{w:bu}{K:aF}{mg:Str->Option Value}{base h:aU}{x:Str}{st:dZ}{k:Nat}{ps:List Str}{sp:Sp}
theorem jj.has(d:jj K x st)(X:K.In h)(G:h.Ns fV mg)(o:∀f fd,iH K x x st f fd->eX P w K mg base gF k f fd ps sp)(hb:Q8 x st ps):fY P w K mg base x k ps sp:=by
 obtain⟨a,l,c,kp⟩:=d
 have F:=QT l c kp
 exact⟨_,_,V9 X G a,kp,F.binds hb,o _ _ F⟩
theorem jj.amJ(d:jj K x st)(X:K.In h)(G:h.Ns fV mg)(o:∀f fd,mg x=aa (.ref f)->vh K (.ref f)=aq->Binds K fd ps []->iH K x x st f fd->fY P w K mg base x k ps sp)(hb:Q8 x st ps):fY P w K mg base x k ps sp:=by
 obtain⟨a,l,c,kp⟩:=d
 have F:=QT l c kp;exact o _ _ (V9 X G a) kp (F.binds hb) F
theorem jj.law{y:Str}{fa:ao}(d:jj K x st)(X:K.In h)(G:h.Ns fV mg)(hfa:mg x=aa (.ref fa))(o:∀base f fd,iH K x x st f fd->eX P w K mg base gF k f fd [y] sp)(hb:Q8 x st [y]):
  ∃fd:fB,(∀(s:aA)(v:Value),xW s fd ⟨[v],[]⟩ [(y,v)])/\∀base:aU,K.In base->base.Ns fV mg->eX P w K mg base gF k fa fd [y] sp:=by
 obtain⟨a,l,c,kp⟩:=d
 have e:=hfa.symm.trans (V9 X G a);cases e
 exact⟨_,λs v=>.of_eq (hb _ _ _ _ _ _ [v] rfl),λbase _ _=>o base _ _ (QT l c kp)⟩
theorem mL{B:List Value->Prop}(h:B []):∀us:List Value,us.length=0->B us
 |[],_=>h
theorem gh{n:Nat}{B:List Value->Prop}(h:∀a,∀us:List Value,us.length=n->B (a::us)):∀us:List Value,us.length=n+1->B us
 |a::us,e=>h a us (Nat.succ.inj e)
end
section
open PySem.SeqAt
open PySem.AutoSeq1 (wpAny_loadPart')
open PySem.MeetsSeq PySem.MeetsSeq2 PySem.MeetsSeq3
def amK(A:bV)(s:aA)(x y:Value)(r:Bool):Prop:=∀(prog:bA)(w:bu)(E Q:Value->aA->Prop),Q (.bool r) s->aH (model prog w) A (zM .Lt x y) Q E s
inductive Bc(A:bV)(s:aA):List Value->List Value->Bool->Prop
 |nil:Bc A s [] [] aB
 |eq:EqAt A s x y aq->Bc A s xs ys r->Bc A s (x::xs) (y::ys) r
 |ne:EqAt A s x y aB->amK A s x y r->xs.length=ys.length->Bc A s (x::xs) (y::ys) r
theorem Bc.len(h:Bc A s xs ys r):xs.length=ys.length:=by
 induction h with
 |nil=>rfl
 |eq _ _ ih=>rw[cL,cL,ih]
 |ne _ _ e=>rw[cL,cL,e]
end
theorem RN(h:er P H a=aa o):H a=aa o:=by
 unfold er at h;split at h
 .cases h
 .exact h
section
variable{X:Cx}{e es:Expr}{p2 pos:Pos}
end
section
variable{prog:bA}{w:bu}{A:bV}{E:Value->aA->Prop}{s:aA}
theorem XN{xs:Array Value}{k:Nat}{sl:Array (Option Value)}{Q:Option Value->aA->Prop}(hx:s.heap.get? a=aa {cls:=.type "list",dict:=aj,data:=.seq xs k,slots:=sl})(hA:A.handled=aj)
  (h:∀h' tk,(∀b o,s.heap.get? b=aa o->h'.get? b=aa o)->Q aj {s with heap:=h',toks:=tk}):aH (model prog w) A (getAttr? (.ref a) "keys") Q E s:=by
 obtain⟨hp,g,d,tk,os⟩:=s
 have hT:∀tk',(⟨hp,g,d,tk',os⟩:aA).TypeIs (.ref a) "list":=λ_=>⟨_,hx,rfl⟩
 have f1:=sub_AttributeError;have f3:=F.slot_list_getattribute.lookup;have f4:=F.slot_list_getattribute.bind (.ref a);have f5:=am_list_getattr_none;have hm:typeLookup (.type "list") "keys"=pure aj:=am_miss_of_fast (by decide +kernel);unfold getAttr? getAttrBy? getAttrBy
 repeat (any_goals (first|assumption|exact hT _|((with_reducible show aH _ _ (call (Value.builtin "list.__getattribute__") _ _) _ _ _);refine xM F.slot_list_getattribute (hT _) am_entry_list_getattribute (F.args_list_getattribute_2 _ _) (meets_getattribute_miss_list a xs k sl "keys" _ hm (by decide) (by decide)) ⟨hx,hA,λh' tk' e hx'=>?_⟩)|wp_step))
 obtain⟨t',u',he⟩:=hx'.there
 have hE:∀tk2,(⟨h',g,d,tk2,os⟩:aA).TypeIs (.ref e) "AttributeError":=λ_=>⟨_,he,rfl⟩
 show aH _ _ (adK _ _ _ _ _ _ _) _ _ _;unfold adK
 repeat (any_goals (first|assumption|exact hE _|wp_step))
 exact h _ _ hx'.keeps
theorem HY:Ij table "dict.update.loop"=aa gY.«dict.update.loop»:=aeg (by kernel_rfl)
theorem vB:plainId "dict.update.loop"=aq:=by decide +kernel
def Q9(knd:vo prog w Key)(h:aU)(p:Key×Value)(v:Value):Prop:=∃t kv o c,v=.ref t/\knd.is p.1 kv=aq/\h.get? t=aa o/\o.cls=.type "tuple"/\o.data=.seq #[kv,p.2] c
theorem pair_items{Q:List Value->aA->Prop}{t:ao}{o:Obj}{xs:Array Value}{c:Nat}(ho:s.heap.get? t=aa o)(hc:o.cls=.type "tuple")(hd:o.data=.seq xs c)(h:Q xs.toList s):aH (model prog w) A (ada (.ref t)) Q E s:=by
 unfold ada;refine az (xJ (T:="tuple") ⟨o,ho,hc⟩ ?_);rw[aY (by decide)];exact az (pX ho hd (aM h))
theorem ajc{R:nP->aA->Prop}{I D:ao}{fp wr:List ao}{n:Nat}{Pv:Nat->Value->Prop}{St:Nat->aU->Prop}{s0:aU}{prs:List (Key×Value)}{res:Value}(W:ux prog w A.in1 I fp wr n Pv St)(fact:∀j v,Pv j v->∃p,prs[j]?=aa p/\Q9 (fD prog w) s0 p v)(hw:∀b o,s0.get? b=aa o->b∉wr/\b≠D)(out:D∉fp)(pl:prs.length=n):
  ∀(m j:Nat)(s:aA)(vs:List (Key×Value)),n-j=m->j<=n->St j s.heap->(∀b o,s0.get? b=aa o->s.heap.get? b=aa o)->s.heap.DictOf (fD prog w) D vs->vs.length+m<=bL->
  (∀h' tk,h'.DictOf (fD prog w) D ((prs.drop j).foldl (λvs p=>stored vs p.1 p.2) vs)->(∀b o,s0.get? b=aa o->h'.get? b=aa o)->R (.ok (.ret res)) {s with heap:=h',toks:=tk})->
  j9 (model prog w) A (.builtin "dict.update.loop" ⟨[.ref D,.ref I,fW j,res],[]⟩) R s:=by
 have pI:D∉wr:=λz=>out (W.sub _ z)
 intro m;induction m with
 |zero=>
  intro j s vs hm hj st kp dd hl hR;have last:j=n:=by lia
  refine nH HY ?_;rw[oA vB _];show aH _ A.in1 (gZ (.ref I) >>= _) _ _ s;refine az (W.done s _ _ (last▸st) λh' tk kk=>?_);show aH _ _ (acY D [] >>= _) _ _ _;refine az (aM (aM (hR h' tk ?_ λb o e=>kk b o (hw b o e).1 (kp b o e))));rw[List.drop_of_length_le (by lia)]
  obtain⟨o,es,ep,ho,r⟩:=dd
  exact⟨o,es,ep,kk D o pI ho,r⟩
 |succ m ih=>
  intro j s vs hm hj st kp dd hl hR;refine nH HY ?_;rw[oA vB _];show aH _ A.in1 (gZ (.ref I) >>= _) _ _ s;refine az (W.item j s _ _ (by lia) st λv h' tk pv st' kk=>?_)
  obtain⟨p,hp,t,kv,o,c,rfl,hk,ho,hc,hd⟩:=fact j v pv
  have pQ:∀b o,s0.get? b=aa o->h'.get? b=aa o:=λb o e=>kk b o (hw b o e).1 (kp b o e)
  have rG:h'.DictOf (fD prog w) D vs:=by
   obtain⟨o,es,ep,ho,r⟩:=dd
   exact⟨o,es,ep,kk D o pI ho,r⟩
  refine az (jB (az (Cp (pair_items (pQ t o ho) hc hd ?_))));refine jB (ady (hsz:=by lia) hk rG λh2 dd2 sb=>?_);refine aM ⟨oM vB _,ih (j+1) _ _ (by lia) (by lia) (W.frame _ _ _ st' λb hbf o e=>(sb.2 b λz=>out (z▸hbf)).trans e) (λb o e=>(sb.2 b (hw b o e).2).trans (pQ b o e)) dd2 ?_ λh3 tk3 dd3 kk3=>?_⟩
  .have:=stored_length_le vs p.1 p.2;lia
  .refine hR h3 tk3 ?_ kk3;have:prs.drop j=p::prs.drop (j+1):=by
    obtain⟨lt,e⟩:=f9.mp hp
    rw[Ul lt,e]
   rw[this,GK];exact dd3
theorem af0{l:ao}{items:Array Value}{k:Nat}{sl:Array (Option Value)}{prs:List (Key×Value)}{Q:Value->aA->Prop}(hx:s.heap.get? l=aa {cls:=.type "list",dict:=aj,data:=.seq items k,slots:=sl})(hA:A.handled=aj)(pl:prs.length=items.size)(hz:prs.length<=bL)
  (fact:∀(j:Nat) v,items[j]?=aa v->∃p,prs[j]?=aa p/\Q9 (fD prog w) s.heap p v)
  (h:∀h' tk,h'.DictOf (fD prog w) s.heap.objs.size (prs.foldl (λvs p=>stored vs p.1 p.2) [])->(∀b o,s.heap.get? b=aa o->h'.get? b=aa o)->Q (.ref s.heap.objs.size) {s with heap:=h',toks:=tk}):aH (model prog w) A (call (.type "dict") [.ref l]) Q E s:=by
 refine callType_codes (Q₁:=λobj s₁=>obj=.ref s.heap.objs.size/\s₁={s with heap:=s.heap.push {cls:=.type "dict",data:=.dict #[]}}) aem (adx _) ad1 (aen _ ⟨rfl,rfl⟩) ?_;rintro obj s₁ ⟨rfl,rfl⟩;have hnew:(s.heap.push {cls:=.type "dict",data:=.dict #[]}).DictOf (fD prog w) s.heap.objs.size []:=aeu s.heap;have hx':(s.heap.push {cls:=.type "dict",data:=.dict #[]}).get? l=aa {cls:=.type "list",dict:=aj,data:=.seq items k,slots:=sl}:=bH _ hx
 refine⟨hnew.typeIs,adL _ _,?_⟩
 unfold gY.«dict.__init__»;refine az ?_;unfold acZ;refine az (Uy hnew.typeIs ?_);show aH _ _ (pure (s.heap.objs.size,[cM l])) _ _ _;refine aM ?_;show aH _ _ (Lw "dict.__init__" s.heap.objs.size (.ref l) [] .none) _ _ _;unfold Lw;refine az (xJ (T:="list") ⟨_,hx',rfl⟩ ?_);rw[aY (by decide)];refine az (XN hx' (by simp[hA]) λh1 T8 k1=>?_);have hx1:=k1 l _ hx';have hl1:h1.IsList l items:=⟨_,hx1,rfl,_,rfl⟩
 have kD:s.heap.objs.size<h1.objs.size:=by
  obtain⟨o,es,ep,ho,_⟩:=hnew
  exact bO (k1 _ o ho)
 have wR:l<s.heap.objs.size:=bO hx;have ol:∀b o,s.heap.get? b=aa o->b<s.heap.objs.size:=λb o e=>bO e
 show aH _ _ (rule _ >>= _) _ _ _;refine az (rW (az (BV (s:={s with heap:=h1,toks:=T8}) hl1 ?_)));have W:=HD (prog:=prog) (w:=w) (A:=A.in1.in1) (by simp[hA]) h1.objs.size l (cW (xK wR kD)) items;refine aM ⟨oM vB _,?_⟩;refine ajc (s0:=s.heap) (prs:=prs) (n:=items.size) W fact (λb o e=>⟨by simp only[bI,gU,or_false];exact cW (xK (ol b o e) kD),cW (ol b o e)⟩) (by simp only[bI,gU,or_false,not_or];exact⟨cW kD,qL wR⟩) pl _ 0 _ [] rfl (iI _) ⟨⟨_,dI _ rfl,rfl,rfl⟩,hl1.push _⟩ (λb o e=>bH _ (k1 b o (bH _ e))) ?_ (by show 0+(items.size-0)<=_;lia) λh' tk dd kk=>?_
 .obtain⟨o,es,ep,ho,r⟩:=hnew
  exact⟨o,es,ep,bH _ (k1 _ o ho),r⟩
 .exact⟨rfl,h h' tk dd kk⟩
end
theorem W8:∀(prs acc:List (Key×Value)),((acc++prs).map (·.1)).Nodup->prs.foldl (λvs p=>stored vs p.1 p.2) acc=acc++prs
 |[],acc,_=>(pU acc).symm
 |p::prs,acc,h=>by
  have e:stored acc p.1 p.2=acc++[p]:=by
   unfold stored;rw[bw];simp only[Vt,decide_eq_true_eq,not_exists,not_and];intro x hx hp;rw[j4,cB] at h
   exact(jZ.mp h).2.2 x.1 (dW.mpr ⟨x,hx,rfl⟩) p.1 cV hp
  rw[GK,e,W8 prs (acc++[p]) (by rw[oG];exact h),oG];rfl
abbrev Bp:=ao×Key×V
section
variable{X:Cx}
theorem af1(hc:X.calm=aq):fO X (.type "dict") (λxs H Q=>∃(p:ao)(rows:List Bp),xs=[.ref p]/\bG X.K H p (rows.map λr=>V.ref r.1)/\(∀r∈rows,H r.1=aa (.tup [kV r.2.1,r.2.2]))/\(rows.map (·.2.1)).Nodup/\∀D e,H D=aj->Q (.ref D) (upd H D (.dK (rows.map (·.2)) e))):=by
 intro pins s σ H xs us Q I r h
 obtain⟨p,rows,rfl,hp,ha,nd,q⟩:=h
 obtain⟨u,rfl,ru⟩:=vals1 r
 cases ru
 obtain⟨its,r',pl,hz⟩:=I.list hp
 rw[bh] at hz;have key:∀(rows:List Bp)(its:List Value),(∀r∈rows,H r.1=aa (.tup [kV r.2.1,r.2.2]))->Vals (rows.map λr=>V.ref r.1) its->∃prs:List (Key×Value),prs.length=its.length/\KV (rows.map (·.2)) prs/\prs.map (·.1)=rows.map (·.2.1)/\∀(j:Nat) v,its[j]?=aa v->∃p,prs[j]?=aa p/\Q9 (fD X.prog X.w) s.heap p v:=λrows=>by
  induction rows with
  |nil=>
   intro its _ r;cases r
   exact⟨[],rfl,.nil,rfl,λj v e=>by cases e⟩
  |cons a rows ih=>
   intro its ha r;cases r with
   |cons h t=>
    rename_i v its;cases h
    obtain⟨prs,l,kv,ks,f⟩:=ih its (λr hr=>ha r (dg _ hr)) t
    obtain⟨i2,r2,p2,_⟩:=I.tuple (bW.of (K:=X.K) (ha a cV))
    obtain⟨w1,w2,e1,x1,x2⟩:=r2.two
    subst e1
    obtain⟨o,ho,hcl,c,hd⟩:=p2
    refine⟨(a.2.1,w2)::prs,by rw[cL,cL,l],.cons ⟨rfl,x2⟩ kv,by rw[cB,cB,ks],λj v e=>?_⟩
    cases j with
    |zero=>cases e;exact⟨_,rfl,a.1,w1,o,c,rfl,vR x1,ho,hcl,hd⟩
    |succ j=>exact f j v (by simpa using e)
 obtain⟨prs,l,kv,ks,f⟩:=key rows its ha r'
 have zl:prs.length=rows.length:=by
  have:=congrArg qM ks;simpa using this
 obtain⟨o,n,ho,h1,h2,h3⟩:=pl
 obtain⟨cls,dct,data,sl⟩:=o
 simp only at h1 h2 h3;subst h1 h2 h3;refine af0 (prs:=prs) ho (I.ok.hd hc) (by rw[l,fj]) (by lia) (λj v e=>f j v (by simpa using e)) λh' tk dd kk=>?_
 rw[W8 prs [] (by rw[jn,ks];exact nd),jn] at dd
 obtain⟨ep,dd⟩:=dd.dictAt
 exact⟨.ref s.heap.objs.size,_,I.laid (t':=tk) (o:=.dK (rows.map (·.2)) ep) kk (bK _) (Jx (by rw[bh];exact hz) (beq_eq_false_iff_ne.mpr (jr (cW I.big))) kv dd),rfl,q _ ep (I.hok.fresh (bK _))⟩
end
def pairsOf:List au->Option (List (au×au))
 |[]=>aa []
 |.tuple [k,v]::r=>(pairsOf r).map λt=>(k,v)::t
 |_=>aj
def JL:List au->Option Vl
 |[.list ds]=>(pairsOf ds).bind λkvs=>(cg dD kvs).bind λks=>if ks.Nodup then aa (.ow (.dict kvs)) else aj
 |_=>aj
theorem Y6:∀{ds:List au}{kvs:List (au×au)}{ks:List Key}{vs:List V},pairsOf ds=aa kvs->cg dD kvs=aa ks->bY E ds vs->∃rows:List Bp,vs=rows.map (λr=>V.ref r.1)/\(∀r∈rows,E r.1=aa (.tup [kV r.2.1,r.2.2]))/\rows.map (·.2.1)=ks/\gG E kvs (rows.map (·.2.2))
 |[],kvs,ks,vs,h1,h2,r=>by
  cases h1;cases h2;cases(show vs=[] from r)
  exact⟨[],rfl,λ_ h=>(nomatch h),rfl,rfl⟩
 |d::ds,kvs,ks,vs,h1,h2,r=>by
  unfold pairsOf at h1;split at h1
  .cases ‹_=[]›
  .rename_i k v t e;cases e
   obtain⟨kvs',h3,rfl⟩:=wX.mp h1
   unfold cg at h2;split at h2
   .rename_i k' t' h4 h5;cases h2
    obtain⟨w,vs',rfl,⟨a,us,rfl,ha,x,us',rfl,rx,y,_,rfl,ry,rfl⟩,rs⟩:=r
    obtain⟨rows,rfl,hr,rfl,rd⟩:=Y6 h3 h5 rs
    have ex:x=kV k':=by
     cases k<;>first|(cases h4;exact rx)|cases h4
    subst ex
    refine⟨(a,k',y)::rows,rfl,λr hr'=>?_,rfl,⟨y,_,rfl,ry,rd⟩⟩
    rcases bI.mp hr' with rfl|hr'
    .exact ha
    .exact hr r hr'
   .cases h2
  .cases h1
theorem ajd{K:aF}:jm K (λxs H Q=>∃(p:ao)(rows:List Bp),xs=[.ref p]/\bG K H p (rows.map λr=>V.ref r.1)/\(∀r∈rows,H r.1=aa (.tup [kV r.2.1,r.2.2]))/\(rows.map (·.2.1)).Nodup/\∀D e,H D=aj->Q (.ref D) (upd H D (.dK (rows.map (·.2)) e))) JL:=by
 intro Z Θ env C σ H xs ds res S b e Q q;unfold JL at e;split at e
 .obtain⟨kvs,h1,e⟩:=uZ.mp e
  obtain⟨ks,h2,e⟩:=uZ.mp e
  split at e
  .rename_i nd;cases e
   obtain⟨v,rfl,bb⟩:=nj b
   obtain⟨a,vs,rfl,ha,r⟩:=bb.lst
   obtain⟨rows,rfl,hr,rfl,rd⟩:=Y6 h1 h2 r
   refine⟨a,rows,rfl,bG.of ha,λr hr'=>RN (hr r hr'),nd,λD ep hD=>q _ _ (aV.upd hD) (Ql S (λ_ h=>nomatch h) (.inl ⟨_,h2,ep,?_⟩) rd hD)⟩
   show(if D=D then aa _ else _)=_
   rw[aY rfl,aeQ]
  .cases e
 .cases e
section
variable{K:aF}{E H:Hp}{Θ as:List ao}{xs:List Vl}{vs:List V}{p q:List au}{d:au}
end
section
variable{X:Cx}{pos:Pos}
end
theorem alR(d:au):Ey (.im d)=aB:=rfl
theorem alS(d:au):Ey (.ow d)=aB:=rfl
theorem alT(n:Nat):Ey (.ce n)=aB:=rfl
section
variable{X:Cx}
end
end L2
namespace HT
open PySem PySem.Spec PyProof.Rows
open Sem (wp)
open Builtin
theorem af2(l:ao)(dd:Option ao)(items:Array Value)(n:Nat)(ss:Array (Option Value))(u:Tok)(hc:items.isEmpty=aB):
  Meets (gY.«tuple.__mul__» ⟨[.ref l,.int 0 u],[]⟩) (λ_ R s=>s.heap.get? l=aa {cls:=.type "tuple",dict:=dd,data:=.seq items n,slots:=ss}/\R (.ok (.ret (cM s.heap.objs.size))) {s with heap:=s.heap.push {cls:=ug "tuple",data:=Yh #[] 0}}):=
 .of_wp λprog w A R s h=>by obtain⟨hp,g,d,tk,os⟩:=s;obtain⟨hl,h⟩:=h;wp_walk;exact⟨_,rfl,h⟩
theorem af3(l:ao)(dd:Option ao)(items:Array Value)(n:Nat)(ss:Array (Option Value))(u:Tok):
  Meets (gY.«tuple.__mul__» ⟨[.ref l,.int 1 u],[]⟩) (λ_ R s=>s.heap.get? l=aa {cls:=.type "tuple",dict:=dd,data:=.seq items n,slots:=ss}/\R (.ok (.ret (cM l))) s):=
 .of_wp λprog w A R s h=>by obtain⟨hp,g,d,tk,os⟩:=s;obtain⟨hl,h⟩:=h;wp_walk;exact⟨_,rfl,h⟩
end HT
namespace L2
open PySem PySem.Spec PyProof.Rows PySem.W
section
variable{X:Cx}
def Kd(K:aF):R2:=λx y H Q=>∃a xs k,x=.ref a/\y=.int k/\bW K H a xs/\xs≠[]/\((k=0/\∀p,H p=aj->Q (.ref p) (upd H p (.tup [])))\/(k=1/\Q x H))
theorem aje:cY X (lW .Mult) (Kd X.K):=by
 intro pins s σ H x y v u Q I rx ry h
 obtain⟨l,xs,k,rfl,rfl,hH,h0,h⟩:=h
 cases rx
 obtain⟨t,rfl⟩:=ry
 obtain⟨its,r,ht,_⟩:=I.tuple hH
 obtain⟨⟨cls,dd,data,sl⟩,ho,hc,n,hd⟩:=id ht
 simp only at hc hd;subst hc hd;have he:its.toArray.isEmpty=aB:=by
  cases its with
  |nil=>cases r;exact absurd rfl h0
  |cons _ _=>rfl
 rcases h with⟨rfl,q⟩|⟨rfl,q⟩
 .exact Uj (T:="tuple") (U:="int") (by decide) ⟨_,ho,rfl⟩ (λs'=>zP s' 0 t) HT.Mm VD Cj HT.M6 F.slot_int_index.lookup
   (xM Cj (zP s 0 t) Vq (Ve _ _) (HT.Lx 0 t l dd its.toArray n sl)
    ⟨ho,rfl,⟨_,ho,rfl⟩,xM Vr ⟨_,ho,rfl⟩ Vf (U5 _ _) (HT.af2 l dd its.toArray n sl t he) ⟨ho,.ref s.heap.objs.size,_,I.laid (t':=s.toks) (o:=.tup []) (λb ob q=>bH _ q) (bK _) ⟨iI _,[],.nil,IsTup.new _ _⟩,rfl,q _ (I.hok.fresh (bK _))⟩⟩)
 .exact Uj (T:="tuple") (U:="int") (by decide) ⟨_,ho,rfl⟩ (λs'=>zP s' 1 t) HT.Mm VD Cj HT.M6 F.slot_int_index.lookup
   (xM Cj (zP s 1 t) Vq (Ve _ _) (HT.Lx 1 t l dd its.toArray n sl)
    ⟨ho,rfl,⟨_,ho,rfl⟩,xM Vr ⟨_,ho,rfl⟩ Vf (U5 _ _) (HT.af3 l dd its.toArray n sl t) ⟨ho,.ref l,H,I,rfl,q⟩⟩)
def Ra:au->au->Option Vl
 |.tuple (d::ds),.int k=>if k=0 then aa (.im (.tuple [])) else if k=1 then aa (.im (.tuple (d::ds))) else aj
 |_,_=>aj
theorem ajf{K:aF}:gf K (Kd K) Ra:=by
 intro Z Θ env C σ H x y dx dy res S bx dw e Q q;unfold Ra at e;split at e
 case h_2=>cases e
 rename_i d ds k;cases dw.int;have bx:RZ (er (aX Z Θ env σ) H) (.tuple (d::ds)) x:=bx
 obtain⟨a,vs,rfl,ha,r⟩:=id bx
 refine⟨a,vs,k,rfl,rfl,bW.of (fJ ha),(λz=>by subst z;obtain⟨_,_,z,_⟩:=r;cases z),?_⟩
 by_cases h0:k=0
 .rw[aY h0] at e;cases e;exact .inl ⟨h0,λp hp=>q _ _ (aV.upd hp) (Ae S rfl hp)⟩
 .rw[bw h0] at e;by_cases h1:k=1
  .rw[aY h1] at e;cases e;exact .inr ⟨h1,q _ _ (aV.refl _ _) ⟨S,bx⟩⟩
  .rw[bw h1] at e;cases e
end
section
variable{K:aF}{Z Z0 Θ Δ:List ao}{env:En}{C C0:Ce}{σ:St}{H H0 H':Hp}
end
section
variable{X:Cx}{x:Str}{k:Nat}{ps:List Str}{p pos:Pos}{e:Expr}{es:List Expr}{f:FN}{f0:FE}{g:FA}
end
section
variable{X:Cx}
def abQ(d:au):Str:=match d with
 |.str x=>x
 |d=>d.shown
end
def Lb(x:Str):Prop:=∀c∈x.cps.toList,c<16^8
theorem ajg(c:Char):c.toNat<16^8:=c.val.toNat_lt
theorem Rb(n c:Nat):∀x∈(cC n 48++(Nat.toDigits 16 c).map Char.toNat:List Nat),x<16^8:=λx hx=>by
 rcases cF.mp hx with hx|hx
 .rw[Ur hx];decide
 .obtain⟨k,_,rfl⟩:=dW.mp hx
  exact ajg k
theorem DW{a b:Nat}(ha:a<16^8)(hb:b<16^8):∀x∈[a,b],x<16^8:=λx hx=>by
 rcases bI.mp hx with rfl|hx
 .exact ha
 .rw[fQ.mp hx];exact hb
theorem Rc{a b:Nat}{l:List Nat}(ha:a<16^8)(hb:b<16^8)(hl:∀x∈l,x<16^8):∀x∈[a,b]++l,x<16^8:=λx hx=>(cF.mp hx).elim (DW ha hb x) (hl x)
theorem ajh{q c:Nat}(hc:c<16^8):∀x∈UW q c,x<16^8:=by
 unfold UW;simp only;split
 .exact DW (by decide) hc
 split
 .exact DW (by decide) (by decide)
 split
 .exact DW (by decide) (by decide)
 split
 .exact DW (by decide) (by decide)
 split
 .intro x hx;rw[fQ.mp hx];exact hc
 split
 .exact Rc (by decide) (by decide) (Rb _ _)
 split
 .exact Rc (by decide) (by decide) (Rb _ _)
 .exact Rc (by decide) (by decide) (Rb _ _)
theorem aaj{q:Nat}:∀{l:List Nat}{acc:Array Nat},(∀c∈l,c<16^8)->(∀x∈acc.toList,x<16^8)->∀x∈(l.foldl (λout c=>out++(UW q c).toArray) acc).toList,x<16^8
 |[],_,_,h=>h
 |c::l,acc,g,h=>aaj (l:=l) (λd hd=>g d (dg _ hd)) λx hx=>by
  rw[Array.toList_append] at hx
  exact(cF.mp hx).elim (h x) (ajh (g c cV) x)
theorem aji{x:Str}(h:Lb x):Lb (reprText x):=λc hc=>by
 have q:reprQuote x<16^8:=by unfold reprQuote;split<;>decide
 unfold reprText at hc;rw[Vi,<-Array.foldl_toList] at hc;rcases cF.mp hc with hc|hc
 .exact aaj h (λy hy=>by rw[fQ.mp hy];exact q) c hc
 .rw[fQ.mp hc];exact q
structure Th(e B:Nat)(M:Int)(d:au):Prop where
 nd:kO d=aq
 sh:mK e B d
 tl:(abQ d).length<=B
 cp:Lb (abQ d)
 mg:∀i,d=.int i->-M<=i/\i<=M
theorem Th.mono(h:Th e B M d)(he:e<=e')(hB:B<=B')(hM:M<=M'):Th e' B' M' d:=⟨h.nd,h.sh.mono he hB,ir h.tl hB,h.cp,λi k=>by have:=h.mg i k;lia⟩
theorem Th.cps(h:Th e B M d):Lb d.shown:=by
 cases d<;>first|exact h.cp|skip
 rw[aej];exact aji h.cp
end L2
namespace HT
open PySem PySem.Spec PyProof.Rows
open Sem (wp)
open Builtin
theorem ahR(A:bV)(s:aA)(a:Int)(t:Tok)(c:Int)(u:Tok)(prog:bA)(w:bu)(E:Value->aA->Prop)(Q:Value->aA->Prop)(h:Q (.bool (decide (a>c))) s):aH (model prog w) A (zM .Gt (.int a t) (.int c u)) Q E s:=gt_int h
theorem agO(l b:ao)(i j:Int)(t u:Tok)(r1 r2:List Value)(n n2:Nat)(dd dd2:Option ao)(sl sl2:Array (Option Value))(hne:i≠j):
  Meets (gY.«tuple.__gt__» ⟨[.ref l,.ref b],[]⟩)
   (λ_ R s=>s.heap.get? l=aa {cls:=.type "tuple",dict:=dd,data:=.seq (.int i t::r1).toArray n,slots:=sl}/\s.heap.get? b=aa {cls:=.type "tuple",dict:=dd2,data:=.seq (.int j u::r2).toArray n2,slots:=sl2}/\R (.ok (.ret (.bool (decide (i>j))))) s):=
 .of_wp λprog w A R s h=>by
  obtain⟨hp,g,d,tk,os⟩:=s;obtain⟨hl,hb,h⟩:=h
  have f2:=acW;wp_walk using Mv hl,Mv hb,aed _ (λrest b s'=>b.1=aj/\s'=⟨hp,g,d,tk,os⟩/\rest=(zR i t::r1).zip (zR j u::r2)) _
  case turn=>
   rintro⟨y,x⟩ rest b s' ⟨hb',rfl,hz⟩
   rw[U4] at hz;injection hz with hyx hrest
   injection hyx with hy hx
   subst hy hx
   obtain⟨e,he,hiff⟩:=ag9 A.in1 ⟨hp,g,d,tk,os⟩ i t j u
   refine az (he prog w _ _ ?_);cases e with
   |true=>exact absurd (hiff.mp rfl) hne
   |false=>
    have Tu:=ahR A.in1 ⟨hp,g,d,tk,os⟩ i t j u prog w;wp_walk using Tu
    exact⟨_,rfl,by simpa using h⟩
  case fin=>
   rintro⟨b1,b2⟩ s' ⟨hb',rfl,hz⟩
   cases hz
  case h=>exact⟨rfl,rfl,rfl⟩
end HT
namespace L2
open PySem PySem.Spec PyProof.Rows PySem.W
theorem Rf(bt:Nat->Nat->Bool):∀k,jD bt k<=k
 |0=>bK _
 |k+1=>by
  rw[jD];split
  .exact bK _
  .exact Nat.le_succ_of_le (Rf bt k)
section
variable{prog:bA}{w:bu}{A:bV}{E:Value->aA->Prop}{s:aA}{R:nP->aA->Prop}{I S:ao}{fp wr:List ao}{n:Nat}{Pv:Nat->Value->Prop}{St:Nat->aU->Prop}{bt:Nat->Nat->Bool}{HK:aU->Prop}
theorem ahS(W:ux prog w A.in1 I fp wr n Pv St)(cmp:∀(i j:Nat)(vi vj:Value)(s:aA)(Q:Value->aA->Prop)(E:Value->aA->Prop),j<i->HK s.heap->Pv i vi->Pv j vj->Q (.bool (bt i j)) s->aH (model prog w) A.in1 (zM .Gt vi vj) Q E s)
  (hk:∀h h',HK h->(∀b o,b∉wr->b≠S->h.get? b=aa o->h'.get? b=aa o)->HK h')(out:S∉fp):∀(m j:Nat)(s:aA)(vb:Value)(c:Nat),n-(j+1)=m->j+1<=n->St (j+1) s.heap->HK s.heap->Pv (jD bt j) vb->s.heap.get? S=aa (aln vb c)->
  (∀v h' tk,Pv (jD bt (n-1)) v->(∀b o,b∉wr->b≠S->s.heap.get? b=aa o->h'.get? b=aa o)->R (.ok (.ret v)) {s with heap:=h',toks:=tk})->j9 (model prog w) A (.builtin "max.loop" ⟨[.ref I,.none,.ref S],[]⟩) R s:=by
 have pI:S∉wr:=λz=>out (W.sub _ z)
 have nm:(toString "max"++toString ".loop":String)="max.loop":=by decide
 intro m;induction m with
 |zero=>
  intro j s vb c hm hj st kp pb hS hR;have last:j+1=n:=by lia
  refine nH Uw ?_;rw[oA zf _];show aH _ A.in1 (HX (.ref S) >>= _) _ _ s;refine az (pX hS rfl ?_);show aH _ A.in1 (tryCatch (gZ (.ref I)) _ >>= _) _ _ s;refine az (Cp (W.done s _ _ (last▸st) λh' tk kk=>?_));have g:=kk S _ pI hS;show aH _ A.in1 (Oj S (λ_=>#[]) >>= _) _ _ _;refine az (GP g rfl (az (zO (aM ?_))));exact hR vb _ tk (by rw[<-last];exact pb) λb o hb hbS e=>(rM _ _ (jr hbS)).trans (kk b o hb e)
 |succ m ih=>
  intro j s vb c hm hj st kp pb hS hR;have lt:j+1<n:=by lia
  refine nH Uw ?_;rw[oA zf _];show aH _ A.in1 (HX (.ref S) >>= _) _ _ s;refine az (pX hS rfl ?_);show aH _ A.in1 (tryCatch (gZ (.ref I)) _ >>= _) _ _ s;refine az (Cp (W.item (j+1) s _ _ lt st λv h' tk pv st' kk=>?_));have g:=kk S _ pI hS;have pQ:HK h':=hk _ _ kp λb o hb _ e=>kk b o hb e
  show aH _ A.in1 (tryCatch (oV [v,v] (zM .Gt v vb >>= _)) _ >>= _) _ _ _;refine az (Cp (jB (az (cmp (j+1) (jD bt j) v vb _ _ _ (Nat.lt_succ_of_le (Rf bt j)) pQ pv pb ?_))));refine az (jB (BR (az (zO (aM ?_)))));cases hb:bt (j+1) (jD bt j) with
  |true=>
   simp only[if_true];refine az (GP g rfl (az (zO ?_)));rw[nm];refine aM ⟨oM zf _,ih (j+1) _ v _ (by lia) lt (W.frame _ _ _ st' λb hbf o e=>(rM _ _ λz:S=b=>out (z▸hbf)).trans e) (hk _ _ pQ λb o _ hbS e=>(rM _ _ (jr hbS)).trans e) (by simp only[jD,hb,if_true];exact pv) (u0 _ g rfl) λv' h2 tk2 Ge wI=>?_⟩;exact hR v' h2 tk2 Ge λb o hb' hbS e=>wI b o hb' hbS ((rM _ _ (jr hbS)).trans (kk b o hb' e))
  |false=>
   simp only[oF,if_false];refine az (zO ?_);rw[nm];refine aM ⟨oM zf _,ih (j+1) _ vb c (by lia) lt st' pQ (by simp only[jD,hb,oF,if_false];exact pb) g λv' h2 tk2 Ge wI=>?_⟩;exact hR v' h2 tk2 Ge λb o hb' hbS e=>wI b o hb' hbS (kk b o hb' e)
theorem ahT(W:ux prog w A.in1 I fp wr n Pv St)(cmp:∀(i j:Nat)(vi vj:Value)(s:aA)(Q:Value->aA->Prop)(E:Value->aA->Prop),j<i->HK s.heap->Pv i vi->Pv j vj->Q (.bool (bt i j)) s->aH (model prog w) A.in1 (zM .Gt vi vj) Q E s)
  (hk:∀h h',HK h->(∀b o,b∉wr->b≠S->h.get? b=aa o->h'.get? b=aa o)->HK h')(out:S∉fp)(pos:0<n)(st:St 0 s.heap)(kp:HK s.heap)(hS:s.heap.get? S=aa {cls:=.type "list",dict:=aj,data:=.seq #[] c,slots:=#[]})
  (hR:∀v h' tk,Pv (jD bt (n-1)) v->(∀b o,b∉wr->b≠S->s.heap.get? b=aa o->h'.get? b=aa o)->R (.ok (.ret v)) {s with heap:=h',toks:=tk}):j9 (model prog w) A (.builtin "max.loop" ⟨[.ref I,.none,.ref S],[]⟩) R s:=by
 have pI:S∉wr:=λz=>out (W.sub _ z)
 have nm:(toString "max"++toString ".loop":String)="max.loop":=by decide
 refine nH Uw ?_;rw[oA zf _];show aH _ A.in1 (HX (.ref S) >>= _) _ _ s;refine az (pX hS rfl ?_);show aH _ A.in1 (tryCatch (gZ (.ref I)) _ >>= _) _ _ s;refine az (Cp (W.item 0 s _ _ pos st λv h' tk pv st' kk=>?_));have g:=kk S _ pI hS;have pQ:HK h':=hk _ _ kp λb o hb _ e=>kk b o hb e
 show aH _ A.in1 (Oj S (λ_=>#[v,v]) >>= _) _ _ _;refine az (GP g rfl ?_);rw[nm];refine aM ⟨oM zf _,ahS W cmp hk out _ 0 _ v _ rfl pos (W.frame _ _ _ st' λb hbf o e=>(rM _ _ λz:S=b=>out (z▸hbf)).trans e) (hk _ _ pQ λb o _ hbS e=>(rM _ _ (jr hbS)).trans e) pv (u0 _ g rfl) λv' h2 tk2 Ge wI=>?_⟩;exact hR v' h2 tk2 Ge λb o hb' hbS e=>wI b o hb' hbS ((rM _ _ (jr hbS)).trans (kk b o hb' e))
theorem ahU(hh:A.handled=aj)(hl:s.heap.IsList l items)(pos:0<items.size)
  (cmp:∀(i j:Nat)(vi vj:Value)(s':aA)(Q:Value->aA->Prop)(E:Value->aA->Prop),j<i->(∀b o,s.heap.get? b=aa o->s'.heap.get? b=aa o)->items[i]?=aa vi->items[j]?=aa vj->Q (.bool (bt i j)) s'->aH (model prog w) A.in1 (zM .Gt vi vj) Q E s')
  (h:∀(v:Value)(h':aU)(tk:Nat),items[jD bt (items.size-1)]?=aa v->(∀b o,s.heap.get? b=aa o->h'.get? b=aa o)->Q v {s with heap:=h',toks:=tk}):aH (model prog w) A (call (.builtin "max") [.ref l]) Q E s:=by
 have nm:(toString "max"++toString ".loop":String)="max.loop":=by decide
 have wR:l<s.heap.objs.size:=by obtain⟨o,ho,_⟩:=hl;exact bO ho
 refine ae6 PySem.F.kind_max PySem.F.plain_max PySem.F.entry_max (PySem.F.args_max1 _) ?_;show aH _ A.in1 (acQ "max" ["key","default"] 0 ⟨[],[]⟩ >>= _) _ _ s;refine az (Hj (show acQ "max" ["key","default"] 0 ⟨[],[]⟩=pure [aj,aj] from rfl) ?_);refine az (aM ?_);refine az (BV hl (az (jz ?_)));rw[nm];have wJ:(s.heap.push {cls:=.type "list_iterator",data:=.fields #[.ref l,.int 0 0]}).objs.size=s.heap.objs.size+1:=oJ ..;have W:=HD (prog:=prog) (w:=w) (A:=A.in1) (by simp[hh]) s.heap.objs.size l (cW wR) items;refine aM ⟨oM zf _,?_⟩;show j9 (model prog w) A (.builtin "max.loop" ⟨[.ref s.heap.objs.size,.none,.ref (s.heap.push {cls:=.type "list_iterator",data:=.fields #[.ref l,.int 0 0]}).objs.size],[]⟩) _ {s with heap:=(s.heap.push {cls:=.type "list_iterator",data:=.fields #[.ref l,.int 0 0]}).push {cls:=.type "list",data:=.seq #[]}};have ol:∀b o,s.heap.get? b=aa o->b∉[s.heap.objs.size]:=λb o e=>by
  simp only[bI,gU,or_false];exact cW (bO e)
 have ol2:∀b o,s.heap.get? b=aa o->b≠(s.heap.push {cls:=.type "list_iterator",data:=.fields #[.ref l,.int 0 0]}).objs.size:=λb o e=>by
  rw[wJ];exact cW (xg (bO e))
 refine ahT (HK:=λh=>∀b o,s.heap.get? b=aa o->h.get? b=aa o) W cmp (λh h' k kk b o e=>kk b o (ol b o e) (ol2 b o e) (k b o e)) ?_ pos ⟨⟨_,bH _ (dI _ rfl),rfl,rfl⟩,(hl.push _).push _⟩ (λb o e=>bH _ (bH _ e)) (dI _ rfl) λv h' tk hv kk=>?_
 .rw[wJ];simp only[bI,gU,or_false,not_or]
  exact⟨qL (Gz _),qL (xg wR)⟩
 .exact h v h' tk hv λb o e=>kk b o (ol b o e) (ol2 b o e) (bH _ (bH _ e))
end
section
variable{X:Cx}
theorem ajj{prog:bA}{w:bu}{A:bV}{E:Value->aA->Prop}{s:aA}{Q:Value->aA->Prop}{l b:ao}{i j:Int}{t u:Tok}{r1 r2:List Value}(hl:IsTup s.heap l (.int i t::r1).toArray)(hb:IsTup s.heap b (.int j u::r2).toArray)(hne:i≠j)(hu:A.units<dB)(h:Q (.bool (decide (i>j))) s):aH (model prog w) A (gb .Gt (.ref l) (.ref b)) Q E s:=by
 obtain⟨⟨cls,dd,data,sl⟩,ho,hc,n,hd⟩:=id hl
 obtain⟨⟨cls2,dd2,data2,sl2⟩,ho2,hc2,n2,hd2⟩:=id hb
 simp only at hc hd hc2 hd2;subst hc hd hc2 hd2;exact ac6 (op:=.Gt) ⟨_,ho,rfl⟩ ⟨_,ho2,rfl⟩ PySem.F.slot_tuple_gt PySem.F.entry_tuple_gt (PySem.F.args_tuple_gt_2 _ _) (HT.agO l b i j t u r1 r2 n n2 dd dd2 sl sl2 hne)
  ⟨ho,ho2,show qN (decide (i>j))≠UJ/\Q (.bool (decide (i>j))) s from⟨(λx=>nomatch x),h⟩⟩ hu
abbrev Pr:=ao×Int×List V
def pL(rows:List Pr)(i j:Nat):Bool:=match rows[i]?,rows[j]? with
 |some a,some b=>decide (a.2.1>b.2.1)
 |_,_=>aB
theorem aeE(hc:X.calm=aq)(hu:X.A.units+1<dB):fO X (.builtin "max") (λxs H Q=>∃(p:ao)(rows:List Pr),xs=[.ref p]/\bG X.K H p (rows.map λr=>V.ref r.1)/\0<rows.length/\(∀r∈rows,H r.1=aa (.tup (.int r.2.1::r.2.2)))/\(rows.map λr=>r.2.1).Nodup/\
  ∀r,rows[jD (pL rows) (rows.length-1)]?=aa r->Q (.ref r.1) H):=by
 intro pins s σ H xs us Q I r h
 obtain⟨p,rows,rfl,hp,pos,ha,nd,q⟩:=h
 obtain⟨u,rfl,ru⟩:=vals1 r
 cases ru
 obtain⟨its,r',pl,hz⟩:=I.list hp
 have ei:its=rows.map λr=>cM r.1:=by
  clear pos ha q pl hz hp nd;induction rows generalizing its with
  |nil=>cases r';rfl
  |cons a rows ih=>
   cases r' with
   |cons h t=>
    cases h;rw[ih _ t];rfl
 subst ei;have tu:∀r∈rows,∃t rs,IsTup s.heap r.1 (.int r.2.1 t::rs).toArray:=λr hr=>by
  obtain⟨_,its,v,t⟩:=(show dN X.prog X.w H s.heap r.1 (.tup (.int r.2.1::r.2.2)) from I.hok r.1 _ (ha r hr))
  cases v with
  |cons h v=>
   obtain⟨tk,rfl⟩:=h
   exact⟨tk,_,t⟩
 refine ahU (bt:=pL rows) (I.ok.hd hc) pl.isList (by simpa using pos) (λi j vi vj s' Q E lt k hi hj q=>?_) λv h' tk hv k=>?_
 .have hi':(rows.map λr=>cM r.1)[i]?=aa vi:=by simpa using hi
  have hj':(rows.map λr=>cM r.1)[j]?=aa vj:=by simpa using hj
  rw[ie] at hi' hj';cases ri:rows[i]? with
  |none=>rw[ri] at hi';cases hi'
  |some a=>
   cases rj:rows[j]? with
   |none=>rw[rj] at hj';cases hj'
   |some b=>
    rw[ri] at hi';rw[rj] at hj';cases hi';cases hj'
    obtain⟨t1,rs1,o1,g1,c1⟩:=tu a (jY ri)
    obtain⟨t2,rs2,o2,g2,c2⟩:=tu b (jY rj)
    have ne:a.2.1≠b.2.1:=by
     obtain⟨l1,e1⟩:=f9.mp ri
     obtain⟨l2,e2⟩:=f9.mp rj
     have:=uY.mp nd j i (by rw[bh];exact l2) (by rw[bh];exact l1) lt;simp only[GD,e1,e2] at this;exact λz=>this z.symm
    refine ajj (t:=t1) (u:=t2) ⟨o1,k _ _ g1,c1⟩ ⟨o2,k _ _ g2,c2⟩ ne hu ?_;have e:pL rows i j=decide (a.2.1>b.2.1):=by
     unfold pL;rw[ri,rj]
    rw[<-e];exact q
 .have hv':(rows.map λr=>cM r.1)[jD (pL rows) (rows.length-1)]?=aa v:=by simpa using hv
  rw[ie] at hv';cases rv:rows[jD (pL rows) (rows.length-1)]? with
  |none=>rw[rv] at hv';cases hv'
  |some a=>
   rw[rv] at hv';cases hv'
   exact⟨.ref a.1,H,I.kept (t':=tk) k,rfl,q a rv⟩
end
def pairD:au->Option (Int×List au)
 |.tuple (.int k::r)=>aa (k,r)
 |_=>aj
def Av:List au->Option (List (Int×List au))
 |[]=>aa []
 |d::r=>(pairD d).bind λx=>(Av r).map λl=>x::l
def uB{α:Type}:List (Int×α)->Option (Int×α)
 |[]=>aj
 |x::r=>match uB r with
  |none=>aa x
  |some y=>if x.1<y.1 then aa y else aa x
def JM:List au->Option Vl
 |[.list ds]=>(Av ds).bind λl=>if(l.map (·.1)).Nodup then(uB l).map λx=>.im (.tuple (.int x.1::x.2)) else aj
 |_=>aj
theorem Y7{α:Type}:∀{l:List (Int×α)}{x:Int×α},uB l=aa x->x∈l/\∀y∈l,y.1<=x.1
 |[],x,h=>by cases h
 |a::r,x,h=>by
  rw[uB] at h;cases e:uB r with
  |none=>
   rw[e] at h;cases h;cases r with
   |nil=>exact⟨cV,λy hy=>by rw[fQ.mp hy];exact vq _⟩
   |cons b r=>
    rw[uB] at e;split at e
    .cases e
    .split at e<;>cases e
  |some y=>
   rw[e] at h
   obtain⟨m,g⟩:=Y7 e
   have h:(if a.1<y.1 then aa y else aa a)=aa x:=h;by_cases c:a.1<y.1
   .rw[aY c] at h;cases h
    refine⟨dg _ m,λz hz=>?_⟩
    rcases bI.mp hz with rfl|hz
    .exact Int.le_of_lt c
    .exact g z hz
   .rw[bw c] at h;cases h
    refine⟨cV,λz hz=>?_⟩
    rcases bI.mp hz with rfl|hz
    .exact vq _
    .have:=g z hz;lia
theorem aaT{bt:Nat->Nat->Bool}{val:Nat->Int}{n:Nat}(h:∀i j,i<n->j<n->bt i j=decide (val i>val j)):∀k,k<n->∀i,i<=k->val i<=val (jD bt k)
 |0,_,i,hi=>by
  have:i=0:=by lia
  subst this;exact vq _
 |k+1,hk,i,hi=>by
  have ih:=aaT h k (by lia);have al:=Rf bt k;have b:=h (k+1) (jD bt k) hk (by lia);rw[jD];cases c:bt (k+1) (jD bt k) with
  |true=>
   rw[c] at b;have b:=of_decide_eq_true b.symm;rw[aY rfl];by_cases e:i=k+1
   .rw[e];exact vq _
   .have:=ih i (by lia);lia
  |false=>
   rw[c] at b;have b:=of_decide_eq_false b.symm;rw[bw gr];by_cases e:i=k+1
   .rw[e];lia
   .exact ih i (by lia)
theorem XQ{E:Hp}:∀{ds:List au}{l:List (Int×List au)}{vs:List V},Av ds=aa l->bY E ds vs->∃rows:List Pr,vs=rows.map (λr=>V.ref r.1)/\rows.map (λr=>r.2.1)=l.map (·.1)/\(∀r∈rows,E r.1=aa (.tup (.int r.2.1::r.2.2)))/\∀(i:Nat)(r:Pr)(x:Int×List au),rows[i]?=aa r->l[i]?=aa x->RZ E (.tuple (.int x.1::x.2)) (.ref r.1)
 |[],l,vs,h,r=>by
  cases h
  cases(show vs=[] from r)
  exact⟨[],rfl,rfl,(λ_ m=>nomatch m),λi r x e=>by simp at e⟩
 |d::ds,l,vs,h,r=>by
  obtain⟨x,hx,h⟩:=uZ.mp h
  obtain⟨l',hl,rfl⟩:=wX.mp h
  obtain⟨v,t,rfl,rv,rt⟩:=r
  obtain⟨rows,e1,e2,e3,e4⟩:=XQ hl rt
  have hd:d=.tuple (.int x.1::x.2):=by
   cases d<;>first|cases hx|skip
   rename_i ys;cases ys with
   |nil=>cases hx
   |cons y ys=>cases y<;>first|(cases hx;rfl)|cases hx
  subst hd
  obtain⟨c,ws,rfl,hc,rw'⟩:=id rv
  obtain⟨w,ws',rfl,hw,_⟩:=rw'
  cases(show w=.int x.1 from hw)
  refine⟨(c,x.1,ws')::rows,by rw[e1];rfl,by rw[cB,e2];rfl,λr hr=>?_,λi r y hi hy=>?_⟩
  .rcases bI.mp hr with rfl|hr
   .exact hc
   .exact e3 r hr
  .cases i with
   |zero=>cases hi;cases hy;exact rv
   |succ i=>exact e4 i r y (by simpa using hi) (by simpa using hy)
theorem ajk{K:aF}:jm K (λxs H Q=>∃(p:ao)(rows:List Pr),xs=[.ref p]/\bG K H p (rows.map λr=>V.ref r.1)/\0<rows.length/\(∀r∈rows,H r.1=aa (.tup (.int r.2.1::r.2.2)))/\(rows.map λr=>r.2.1).Nodup/\
  ∀r,rows[jD (pL rows) (rows.length-1)]?=aa r->Q (.ref r.1) H) JM:=by
 intro Z Θ env C σ H xs ds res S b e Q q;refine hide λGG gg=>?_
 unfold JM at e;split at e
 case h_2=>cases e
 rename_i ds
 obtain⟨l,hl,e⟩:=uZ.mp e
 by_cases nd:(l.map (·.1)).Nodup
 case neg=>rw[bw nd] at e;cases e
 rw[aY nd] at e
 obtain⟨x,hx,rfl⟩:=wX.mp e
 obtain⟨mx,gx⟩:=Y7 hx
 obtain⟨v,rfl,bb⟩:=nj b
 obtain⟨a,vs,rfl,ha,r⟩:=bb.lst
 obtain⟨rows,rfl,e2,e3,e4⟩:=XQ hl r
 have len:rows.length=l.length:=by have:=congrArg qM e2;simpa using this
 have pos:0<rows.length:=by rw[len];exact Lz mx
 refine gg ⟨a,rows,rfl,bG.of ha,pos,λr m=>fJ (e3 r m),by rw[e2];exact nd,λr hr=>?_⟩;have val:∀i (hi:i<rows.length),(rows[i]).2.1=(l[i]'(by lia)).1:=λi hi=>by
  have:=congrArg (λz=>z[i]?) e2;simp only[ie,gJ hi,gJ (show i<l.length by lia),jA] at this;exact fU this
 have ge:=aaT (bt:=pL rows) (val:=λi=>((rows[i]?).map λr=>r.2.1).getD 0) (n:=rows.length) (λi j hi hj=>by
  unfold pL;rw[gJ hi,gJ hj];rfl) (rows.length-1) (by lia)
 obtain⟨lt,er⟩:=f9.mp hr
 obtain⟨k,hk,ek⟩:=t8 mx
 have g1:=ge k (by lia);simp only[gJ (show k<rows.length by lia),hr,jA,Cd] at g1;rw[val k (by lia),ek] at g1;have g2:=gx _ (Cg (show jD (pL rows) (rows.length-1)<l.length by lia));have v2:=val _ lt;rw[er] at v2;have eqv:(l[jD (pL rows) (rows.length-1)]'(by lia)).1=x.1:=by lia
 have ei:jD (pL rows) (rows.length-1)=k:=by
  rw[<-ek] at eqv;rcases Vk (jD (pL rows) (rows.length-1)) k with c|c|c
  .have:=uY.mp nd _ k (by rw[bh];lia) (by rw[bh];exact hk) c;simp only[GD] at this;exact absurd eqv this
  .exact c
  .have:=uY.mp nd k _ (by rw[bh];exact hk) (by rw[bh];lia) c;simp only[GD] at this;exact absurd eqv.symm this
 refine q _ H (aV.refl _ _) ⟨S,e4 _ r x hr ?_⟩;rw[ei,gJ hk,ek]
abbrev uK:=List Key×ao×Value
theorem aak{prog:bA}{w:bu}{h h':aU}{ks:List Key}{a:ao}(x:(nM (fD prog w)).is h ks a)(k:∀b o,h.get? b=aa o->h'.get? b=aa o):(nM (fD prog w)).is h' ks a:=by
 obtain⟨o,its,n,h1,r⟩:=x
 exact⟨o,its,n,k _ _ h1,r⟩
theorem akS{prs:List uK}{j:Nat}{p:uK}(nd:(prs.map (·.1)).Nodup)(hp:prs[j]?=aa p):storedH (prs.take j) p.1 p.2.1 p.2.2=prs.take (j+1):=by
 rw[storedH_new,Vn,hp]
 .rfl
 .refine atKey_none_of_get λi q e=>?_
  rw[LR] at e;split at e
  .have:=idxH_unique nd e (show prs[j]?=aa (p.1,p.2) from hp);lia
  .cases e
section
variable{prog:bA}{w:bu}{A:bV}{E:Value->aA->Prop}{s:aA}
def QD(prog:bA)(w:bu)(h:aU)(p:uK)(v:Value):Prop:=∃t o c,v=.ref t/\(nM (fD prog w)).is h p.1 p.2.1/\h.get? t=aa o/\o.cls=.type "tuple"/\o.data=.seq #[.ref p.2.1,p.2.2] c
def uL(prog:bA)(w:bu)(h:aU)(D:ao)(xs:List uK):Prop:=∃o es ep,h.get? D=aa o/\o.ExactDict/\o.data=.dict es ep/\es.toList=xs.map (entryOfKey (nM (fD prog w)))
theorem uL.at{h h':aU}{D:ao}{xs:List uK}(d:uL prog w h D xs)(k:∀o,h.get? D=aa o->h'.get? D=aa o):uL prog w h' D xs:=
 let ⟨o,es,ep,h1,r⟩:=d
 ⟨o,es,ep,k o h1,r⟩
theorem uL.full{h:aU}{D:ao}{xs:List uK}(d:uL prog w h D xs)(k:∀x∈xs,(nM (fD prog w)).is h x.1 x.2.1)(nd:(xs.map (·.1)).Nodup):h.DictOfH (nM (fD prog w)) D xs:=
 let ⟨o,es,ep,h1,h2,h3,h4⟩:=d
 ⟨o,es,ep,h1,h2,h3,h4,k,nd⟩
theorem ajl{R:nP->aA->Prop}{I D:ao}{fp wr:List ao}{n:Nat}{Pv:Nat->Value->Prop}{St:Nat->aU->Prop}{s0:aU}{prs:List uK}{res:Value}(hu:A.units+2<dB)(W:ux prog w A.in1 I fp wr n Pv St)(fact:∀j v,Pv j v->∃p,prs[j]?=aa p/\QD prog w s0 p v)(hw:∀b o,s0.get? b=aa o->b∉wr/\b≠D)(out:D∉fp)(pl:prs.length=n)(nd:(prs.map (·.1)).Nodup)(ks:∀x∈prs,(nM (fD prog w)).is s0 x.1 x.2.1)(hz:prs.length<=bL):
  ∀(m j:Nat)(s:aA),n-j=m->j<=n->St j s.heap->(∀b o,s0.get? b=aa o->s.heap.get? b=aa o)->uL prog w s.heap D (prs.take j)->
  (∀h' tk,uL prog w h' D prs->(∀b o,s0.get? b=aa o->h'.get? b=aa o)->R (.ok (.ret res)) {s with heap:=h',toks:=tk})->
  j9 (model prog w) A (.builtin "dict.update.loop" ⟨[.ref D,.ref I,fW j,res],[]⟩) R s:=by
 have pI:D∉wr:=λz=>out (W.sub _ z)
 intro m;induction m with
 |zero=>
  intro j s hm hj st kp dd hR;have last:j=n:=by lia
  refine nH HY ?_;rw[oA vB _];show aH _ A.in1 (gZ (.ref I) >>= _) _ _ s;refine az (W.done s _ _ (last▸st) λh' tk kk=>?_);show aH _ _ (acY D [] >>= _) _ _ _;refine az (aM (aM (hR h' tk ?_ λb o e=>kk b o (hw b o e).1 (kp b o e))));rw[ac8 (by lia)] at dd;exact dd.at λo e=>kk D o pI e
 |succ m ih=>
  intro j s hm hj st kp dd hR;refine nH HY ?_;rw[oA vB _];show aH _ A.in1 (gZ (.ref I) >>= _) _ _ s;refine az (W.item j s _ _ (by lia) st λv h' tk pv st' kk=>?_)
  obtain⟨p,hp,t,o,c,rfl,hk,ho,hc,hd⟩:=fact j v pv
  have pQ:∀b o,s0.get? b=aa o->h'.get? b=aa o:=λb o e=>kk b o (hw b o e).1 (kp b o e)
  have rG:=dd.at λo e=>kk D o pI e
  have df:h'.DictOfH (nM (fD prog w)) D (prs.take j):=rG.full (λx hx=>aak (ks x (UT hx)) pQ) (nd.sublist ((Mg _ _).map _));refine az (jB (az (Cp (pair_items (pQ t o ho) hc hd ?_))));refine jB (wpAny_dictSet_heap (hsz:=by rw[vf];lia) (show A.units+1<dB by lia) (aak hk pQ) df λh2 dd2 sb=>?_);rw[akS nd hp] at dd2;refine aM ⟨oM vB _,ih (j+1) _ (by lia) (by lia) (W.frame _ _ _ st' λb hbf o e=>(sb.2 b λz=>out (z▸hbf)).trans e) (λb o e=>(sb.2 b (hw b o e).2).trans (pQ b o e)) ?_ hR⟩
  obtain⟨o,es,ep,h1,h2,h3,h4,_⟩:=dd2
  exact⟨o,es,ep,h1,h2,h3,h4⟩
theorem afn{l:ao}{items:Array Value}{k:Nat}{sl:Array (Option Value)}{prs:List uK}{Q:Value->aA->Prop}(hu:A.units+4<dB)(hx:s.heap.get? l=aa {cls:=.type "list",dict:=aj,data:=.seq items k,slots:=sl})(hA:A.handled=aj)(pl:prs.length=items.size)(hz:prs.length<=bL)(nd:(prs.map (·.1)).Nodup)
  (fact:∀(j:Nat) v,items[j]?=aa v->∃p,prs[j]?=aa p/\QD prog w s.heap p v)
  (h:∀h' tk,uL prog w h' s.heap.objs.size prs->(∀b o,s.heap.get? b=aa o->h'.get? b=aa o)->Q (.ref s.heap.objs.size) {s with heap:=h',toks:=tk}):aH (model prog w) A (call (.type "dict") [.ref l]) Q E s:=by
 refine callType_codes (Q₁:=λobj s₁=>obj=.ref s.heap.objs.size/\s₁={s with heap:=s.heap.push {cls:=.type "dict",data:=.dict #[]}}) aem (adx _) ad1 (aen _ ⟨rfl,rfl⟩) ?_;rintro obj s₁ ⟨rfl,rfl⟩;have hnew:(s.heap.push {cls:=.type "dict",data:=.dict #[]}).DictOf (fD prog w) s.heap.objs.size []:=aeu s.heap;have hnT:uL prog w (s.heap.push {cls:=.type "dict",data:=.dict #[]}) s.heap.objs.size []:=⟨_,#[],0,dI _ rfl,⟨rfl,rfl,rfl⟩,rfl,rfl⟩
 have hx':(s.heap.push {cls:=.type "dict",data:=.dict #[]}).get? l=aa {cls:=.type "list",dict:=aj,data:=.seq items k,slots:=sl}:=bH _ hx
 refine⟨hnew.typeIs,adL _ _,?_⟩
 unfold gY.«dict.__init__»;refine az ?_;unfold acZ;refine az (Uy hnew.typeIs ?_);show aH _ _ (pure (s.heap.objs.size,[cM l])) _ _ _;refine aM ?_;show aH _ _ (Lw "dict.__init__" s.heap.objs.size (.ref l) [] .none) _ _ _;unfold Lw;refine az (xJ (T:="list") ⟨_,hx',rfl⟩ ?_);rw[aY (by decide)];refine az (XN hx' (by simp[hA]) λh1 T8 k1=>?_);have hx1:=k1 l _ hx';have hl1:h1.IsList l items:=⟨_,hx1,rfl,_,rfl⟩
 have kD:s.heap.objs.size<h1.objs.size:=by
  obtain⟨o,es,ep,ho,_⟩:=hnew
  exact bO (k1 _ o ho)
 have wR:l<s.heap.objs.size:=bO hx;have ol:∀b o,s.heap.get? b=aa o->b<s.heap.objs.size:=λb o e=>bO e
 show aH _ _ (rule _ >>= _) _ _ _;refine az (rW (az (BV (s:={s with heap:=h1,toks:=T8}) hl1 ?_)));have W:=HD (prog:=prog) (w:=w) (A:=A.in1.in1) (by simp[hA]) h1.objs.size l (cW (xK wR kD)) items;refine aM ⟨oM vB _,?_⟩;have kk0:∀x∈prs,(nM (fD prog w)).is s.heap x.1 x.2.1:=λx hx=>by
  obtain⟨j,hj,e⟩:=List.mem_iff_getElem.mp hx
  obtain⟨p,hp,t,o,c,_,hk,_⟩:=fact j (items[j]'(by lia)) (jM (by lia))
  rw[gJ hj,e] at hp;cases hp;exact hk
 refine ajl (s0:=s.heap) (prs:=prs) (n:=items.size) (show A.units+1+2<dB by lia) W fact (λb o e=>⟨by simp only[bI,gU,or_false];exact cW (xK (ol b o e) kD),cW (ol b o e)⟩) (by simp only[bI,gU,or_false,not_or];exact⟨cW kD,qL wR⟩) pl nd kk0 hz _ 0 _ rfl (iI _) ⟨⟨_,dI _ rfl,rfl,rfl⟩,hl1.push _⟩ (λb o e=>bH _ (k1 b o (bH _ e))) ?_ λh' tk dd kk=>?_
 .exact hnT.at λo e=>bH _ (k1 _ o e)
 .exact⟨rfl,h h' tk dd kk⟩
end
abbrev RP:=ao×ao×List Key×V
abbrev Ke(K:aF):List V->Hp->VK->Prop:=λxs H Q=>∃(p:ao)(rows:List RP),xs=[.ref p]/\bG K H p (rows.map λr=>V.ref r.1)/\(∀r∈rows,H r.1=aa (.tup [.ref r.2.1,r.2.2.2])/\H r.2.1=aa (.tup (r.2.2.1.map kV)))/\(rows.map (·.2.2.1)).Nodup/\∀D e,H D=aj->Q (.ref D) (upd H D (.dT (rows.map (·.2.2)) e))
section
variable{X:Cx}
theorem af4(hc:X.calm=aq)(hu:X.A.units+4<dB):fO X (.type "dict") (Ke X.K):=by
 intro pins s σ H xs us Q I r h
 obtain⟨p,rows,rfl,hp,ha,nd,q⟩:=h
 obtain⟨u,rfl,ru⟩:=vals1 r
 cases ru
 obtain⟨its,r',pl,hz⟩:=I.list hp
 rw[bh] at hz;have key:∀(rows:List RP)(its:List Value),(∀r∈rows,H r.1=aa (.tup [.ref r.2.1,r.2.2.2])/\H r.2.1=aa (.tup (r.2.2.1.map kV)))->Vals (rows.map λr=>V.ref r.1) its->∃prs:List uK,prs.length=its.length/\KT H (rows.map (·.2.2)) prs/\prs.map (·.1)=rows.map (·.2.2.1)/\∀(j:Nat) v,its[j]?=aa v->∃p,prs[j]?=aa p/\QD X.prog X.w s.heap p v:=λrows=>by
  induction rows with
  |nil=>
   intro its _ r;cases r
   exact⟨[],rfl,.nil,rfl,λj v e=>by cases e⟩
  |cons a rows ih=>
   intro its ha r;cases r with
   |cons h t=>
    rename_i v its;cases h
    obtain⟨prs,l,kv,ks,f⟩:=ih its (λr hr=>ha r (dg _ hr)) t
    obtain⟨ha1,ha2⟩:=ha a cV
    obtain⟨i2,r2,p2,_⟩:=I.tuple (bW.of (K:=X.K) ha1)
    obtain⟨w1,w2,e1,x1,x2⟩:=r2.two
    subst e1;cases x1
    obtain⟨o,ho,hcl,c,hd⟩:=p2
    refine⟨(a.2.2.1,a.2.1,w2)::prs,by rw[cL,cL,l],.cons ⟨rfl,ha2,x2⟩ kv,by rw[cB,cB,ks],λj v e=>?_⟩
    cases j with
    |zero=>cases e;exact⟨_,rfl,a.1,o,c,rfl,yc I.hok ha2,ho,hcl,hd⟩
    |succ j=>exact f j v (by simpa using e)
 obtain⟨prs,l,kv,ks,f⟩:=key rows its ha r'
 have zl:prs.length=rows.length:=by
  have:=congrArg qM ks;simpa using this
 obtain⟨o,n,ho,h1,h2,h3⟩:=pl
 obtain⟨cls,dct,data,sl⟩:=o
 simp only at h1 h2 h3;subst h1 h2 h3;refine afn (prs:=prs) hu ho (I.ok.hd hc) (by rw[l,fj]) (by lia) (by rw[ks];exact nd) (λj v e=>f j v (by simpa using e)) λh' tk dd kk=>?_
 obtain⟨o',es,ep,g1,g2,g3,g4⟩:=dd
 refine⟨.ref s.heap.objs.size,_,I.laid (t':=tk) (o:=.dT (rows.map (·.2.2)) ep) kk (bK _) ⟨by rw[bh];exact hz,beq_eq_false_iff_ne.mpr (jr (cW I.big)),prs,KT.keeps kv λb ys eb=>?_,o',es,g1,g2,g3,g4,by rw[ks];exact nd⟩,rfl,q _ ep (I.hok.fresh (bK _))⟩
 rw[cI (oO eb (I.hok.fresh (bK _)))];exact eb
end
def JN:List au->Option Vl
 |[.list ds]=>(pairsOf ds).bind λkvs=>(cg gB kvs).bind λks=>if kvs≠[]/\ks.Nodup then aa (.ow (.dict kvs)) else aj
 |_=>aj
theorem XR:∀{ds:List au}{kvs:List (au×au)}{ks:List (List Key)}{vs:List V},pairsOf ds=aa kvs->cg gB kvs=aa ks->bY E ds vs->∃rows:List RP,vs=rows.map (λr=>V.ref r.1)/\(∀r∈rows,E r.1=aa (.tup [.ref r.2.1,r.2.2.2])/\E r.2.1=aa (.tup (r.2.2.1.map kV)))/\rows.map (·.2.2.1)=ks/\gG E kvs (rows.map (·.2.2.2))
 |[],kvs,ks,vs,h1,h2,r=>by
  cases h1;cases h2;cases(show vs=[] from r)
  exact⟨[],rfl,λ_ h=>(nomatch h),rfl,rfl⟩
 |d::ds,kvs,ks,vs,h1,h2,r=>by
  unfold pairsOf at h1;split at h1
  .cases ‹_=[]›
  .rename_i k v t e;cases e
   obtain⟨kvs',h3,rfl⟩:=wX.mp h1
   unfold cg at h2;split at h2
   .rename_i k' t' h4 h5;cases h2
    obtain⟨w,vs',rfl,⟨a,us,rfl,ha,x,us',rfl,rx,y,_,rfl,ry,rfl⟩,rs⟩:=r
    obtain⟨rows,rfl,hr,rfl,rd⟩:=XR h3 h5 rs
    obtain⟨xs,rfl,h6⟩:∃xs,k=.tuple xs/\keysOf xs=aa k':=by
     cases k<;>first|exact⟨_,rfl,h4⟩|cases h4
    obtain⟨b,us2,rfl,hb,r2⟩:=rx
    cases xP h6 r2
    refine⟨(a,b,k',y)::rows,rfl,λr hr'=>?_,rfl,⟨y,_,rfl,ry,rd⟩⟩
    rcases bI.mp hr' with rfl|hr'
    .exact⟨ha,hb⟩
    .exact hr r hr'
   .cases h2
  .cases h1
theorem ajm{K:aF}:jm K (Ke K) JN:=by
 intro Z Θ env C σ H xs ds res S b e Q q;unfold JN at e;split at e
 .obtain⟨kvs,h1,e⟩:=uZ.mp e
  obtain⟨ks,h2,e⟩:=uZ.mp e
  split at e
  .rename_i nd;cases e
   obtain⟨v,rfl,bb⟩:=nj b
   obtain⟨a,vs,rfl,ha,r⟩:=bb.lst
   obtain⟨rows,rfl,hr,rfl,rd⟩:=XR h1 h2 r
   refine⟨a,rows,rfl,bG.of ha,λr hr'=>⟨RN (hr r hr').1,RN (hr r hr').2⟩,nd.2,λD ep hD=>q _ _ (aV.upd hD) (Ql S (λ_ h=>nomatch h) (.inr ⟨_,⟨nd.1,h2⟩,ep,?_⟩) rd hD)⟩
   show(if D=D then aa _ else _)=_
   rw[aY rfl,aeQ]
  .cases e
 .cases e
def JP(ds:List au):Option Vl:=match JL ds with
 |some z=>aa z
 |none=>JN ds
section
variable{X:Cx}
theorem af5(hc:X.calm=aq)(hu:X.A.units+4<dB):fO X (.type "dict") (λxs H Q=>(∃(p:ao)(rows:List Bp),xs=[.ref p]/\bG X.K H p (rows.map λr=>V.ref r.1)/\(∀r∈rows,H r.1=aa (.tup [kV r.2.1,r.2.2]))/\(rows.map (·.2.1)).Nodup/\∀D e,H D=aj->Q (.ref D) (upd H D (.dK (rows.map (·.2)) e)))\/Ke X.K xs H Q):=(af1 hc).or (af4 hc hu)
theorem ajn{K:aF}:jm K (λxs H Q=>(∃(p:ao)(rows:List Bp),xs=[.ref p]/\bG K H p (rows.map λr=>V.ref r.1)/\(∀r∈rows,H r.1=aa (.tup [kV r.2.1,r.2.2]))/\(rows.map (·.2.1)).Nodup/\∀D e,H D=aj->Q (.ref D) (upd H D (.dK (rows.map (·.2)) e)))\/Ke K xs H Q) JP:=Q4 ajd ajm
theorem gC.akT(r:gC k A):A.units+4<dB:=by have:=r.un;lia
end
section
variable{prog:bA}{w:bu}{A:bV}{E:Value->aA->Prop}{s:aA}
end
section
variable{X:Cx}{pos:Pos}
end
abbrev amL:=ao×List Key×ao
section
variable{prog:bA}{w:bu}{A:bV}{E:Value->aA->Prop}{s:aA}
end
def Rg(h:aU)(r:amL):Prop:=∃its,Vals (r.2.1.map kV) its/\IsTup h r.1 (its++[cM r.2.2]).toArray
theorem Rg.keep(t:Rg h r)(k:∀b o,h.get? b=aa o->h'.get? b=aa o):Rg h' r:=by
 obtain⟨its,v,o,e,c⟩:=t
 exact⟨its,v,o,k _ _ e,c⟩
section
variable{X:Cx}
end
def T9(a:ao)(kvs:List (Key×V))(ep:Nat):It:=
 ⟨λi H=>H a=aa (.dK kvs ep)/\i<kvs.length,λi H x H'=>H'=H/\∃kv,kvs[i]?=aa kv/\x=kV kv.1,λi H=>H a=aa (.dK kvs ep)/\kvs.length<=i⟩
theorem agP{P:bA}{w:bu}:∀{l:List xN}{vs:List (Key×Value)}{kvs:List (Key×V)},Pairs (fD P w) l vs->KV kvs vs->∀(i:Nat)(e:xN),l[i]?=aa e->∃kv,kvs[i]?=aa kv/\RelV (kV kv.1) e.key:=by
 intro l vs kvs p;induction p generalizing kvs with
 |nil=>intro _ i e h;simp at h
 |cons h1 h2 h3 ih=>
  intro r i e h;cases r with
  |@cons a b as bs hr t=>
   cases i with
   |zero=>
    simp at h;subst h
    refine⟨a,rfl,?_⟩
    rw[hr.1];rcases rT h1 with⟨i,t,e3,e4⟩|⟨y,t,e3,e4⟩
    .rw[e3,e4];exact⟨t,rfl⟩
    .rw[e3,e4];exact⟨t,rfl⟩
   |succ i=>
    obtain⟨kv,g1,g2⟩:=ih t i e (by simpa using h)
    exact⟨kv,by simpa using g1,g2⟩
theorem agQ{P:bA}{w:bu}{K:aF}{tg:Expr}{J:It}{a it:ao}{n ep:Nat}
  (hgo:∀(X:Cx)(pins:List (ao×Obj))(σ:St)(H:Hp)(s:aA),X.prog=P->X.w=w->Inv X pins σ H s->∀i,J.go i H->∃es,nY s.heap a es ep/\es.size=n/\∃(e:xN)(x:V),es[i]?=aa e/\RelV x e.key/\J.uP i H x H)
  (hst:∀(X:Cx)(pins:List (ao×Obj))(σ:St)(H:Hp)(s:aA),X.prog=P->X.w=w->Inv X pins σ H s->∀i,J.stop i H->∃es,nY s.heap a es ep/\es.size=n/\n<=i):
  Turn P w K tg J [it] it (λi h=>h.IsKeyIter it a i n ep) where
 mem:=by simp
 obj:=λi h st b hb=>by
  have e:b=it:=by simpa using hb
  subst e
  obtain⟨o,e,c,d⟩:=st
  exact⟨o,e,λv z=>by rw[d] at z;cases z⟩
 keep:=λi h h' st k=>st.at λo e=>k it (by simp) o e
 item:=by
  intro X hP hw hK hc i pins s σ H E I hf st hg
  obtain⟨es,raw,hn,e,x,he,rx,y⟩:=hgo X pins σ H s hP hw I i hg
  subst hP hw hK hn
  obtain⟨f0,f1,f2,f3,f4,f5⟩:=hf it (by simp)
  obtain⟨hlt,e1⟩:=acU.mp he
  refine Yn st raw hlt λh' st' sb=>?_
  have I1:Inv X pins σ H {s with heap:=h'}:=I.turned (t':=s.toks) (λb o hb e=>(sb.2 b hb).trans e) f0 f1 f3 f4 f5
  obtain⟨o,e0,c,d⟩:=id st'
  exact⟨_,rfl,JX (s:={s with heap:=h'}) e0 c d (by decide) ⟨x,H,I1,by rw[e1];exact rx,y,st',λb hb=>(hf b hb).1⟩⟩
 done:=by
  intro X hP hw hK hc i pins s σ H E I hf st hg
  obtain⟨es,raw,hn,he⟩:=hst X pins σ H s hP hw I i hg
  subst hP hw hK hn
  obtain⟨f0,f1,f2,f3,f4,f5⟩:=hf it (by simp)
  exact Zr (I.ok.hd hc) st raw he λh' eb=>⟨rfl,I.turned (t':=s.toks) (λb o hb e=>eb b o hb e) f0 f1 f3 f4 f5⟩
 self:=λ_ _ _ _ _ st h=>ado st h
theorem JQ{X:Cx}{pins:List (ao×Obj)}{σ:St}{H:Hp}{s:aA}{a:ao}{kvs:List (Key×V)}{ep:Nat}(I:Inv X pins σ H s)(h:H a=aa (.dK kvs ep)):
  (a==lV)=aB/\∃es,nY s.heap a es ep/\es.size=kvs.length/\∀(i:Nat)(e:xN),es[i]?=aa e->∃kv,kvs[i]?=aa kv/\RelV (kV kv.1) e.key:=by
 obtain⟨z,lo,vs,rel,o,es,h1,h2,h3,h4,h5,h6⟩:=(show dN X.prog X.w H s.heap a (.dK kvs ep) from I.hok a _ h)
 have l1:=h5.length;have l2:=Paired.length rel
 refine⟨lo,es,⟨o,h1,h2,h3⟩,?_,λi e he=>agP h5 rel i e (by rw[LC];exact he)⟩
 rw[<-j8,l1,l2]
theorem ajo{P:bA}{w:bu}{K:aF}{tg:Expr}(a it:ao)(kvs:List (Key×V))(ep:Nat):Turn P w K tg (T9 a kvs ep) [it] it (λi h=>h.IsKeyIter it a i kvs.length ep):=
 agQ (λX pins σ H s _ _ I i hg=>by
  obtain⟨lo,es,raw,hn,hk⟩:=JQ I hg.1
  have hi:i<es.size:=by rw[hn];exact hg.2
  obtain⟨kv,e1,e2⟩:=hk i es[i] (jM hi)
  exact⟨es,raw,hn,es[i],kV kv.1,jM hi,e2,rfl,kv,e1,rfl⟩) λX pins σ H s _ _ I i hg=>by
  obtain⟨lo,es,raw,hn,hk⟩:=JQ I hg.1
  exact⟨es,raw,hn,hg.2⟩
def amM(tl:TE):TI:=λσ H R=>tl σ H λx H1=>∃a kvs ep,x=.ref a/\H1 a=aa (.dK kvs ep)/\R (T9 a kvs ep) H1
section
variable{X:Cx}{tg e:Expr}
theorem ajp{l:Expr}{tl:TE}(hl:PE X l tl):PI X tg l (amM tl):=by
 intro pins s σ H R I h;refine bQ (hl pins s σ H _ I h) λv s1 aK=>?_
 obtain⟨x,H1,I1,r1,a,kvs,ep,e,ha,q⟩:=aK
 subst e;cases r1
 obtain⟨lo,es,raw,hn,hk⟩:=JQ I1 ha
 refine Ym lo raw ?_
 refine⟨s1.heap.objs.size,[s1.heap.objs.size],_,_,H1,rfl,I1.kept (t':=s1.toks) λb o e=>bH _ e,ajo a _ kvs ep,⟨_,dI _ rfl,rfl,by rw[<-hn];rfl⟩,λb hb=>?_,q⟩
 have e:b=s1.heap.objs.size:=by simpa using hb
 subst e;exact I1.uE (bK _) (I1.hok.fresh (bK _))
end
def Ld:au->Option (List au)
 |.dict kvs=>if(cg dD kvs).isSome then aa (kvs.map (·.1)) else aj
 |_=>aj
theorem akU(h:Ld d=aa its):∃kvs ks,d=.dict kvs/\cg dD kvs=aa ks/\its=kvs.map (·.1):=by
 unfold Ld at h;split at h
 .split at h
  .rename_i hs;cases h
   obtain⟨ks,hk⟩:=wW.mp hs
   exact⟨_,ks,rfl,hk,rfl⟩
  .cases h
 .cases h
theorem rH.keyd(da:rH H a kvs vs)(hk:cg dD kvs=aa ks):∃ep,H a=aa (.dK (ks.zip vs) ep):=by
 rcases da with⟨ks',h1,h2⟩|⟨ks',⟨ne,h1⟩,h2⟩
 .rw[hk] at h1;cases h1;exact h2
 .exact absurd (xR hk h1) ne
section
variable{K:aF}{P T:List ao}{H:Hp}{a:ao}{kvs:List (au×au)}{vs:List V}{ks:List Key}{ep:Nat}
theorem alU(ha:er T H a=aa (.dK (ks.zip vs) ep))(hk:cg dD kvs=aa ks)(hl:vs.length=kvs.length):uG P T H (T9 a (ks.zip vs) ep) (kvs.map (·.1)):=λi H2 P2 s1 s2 n=>by
 have h2:H2 a=aa (.dK (ks.zip vs) ep):=fJ (s2 _ _ ha);have l1:=rZ hk;have l2:(ks.zip vs).length=kvs.length:=by rw[zx,l1,hl,M9]
 refine⟨λd hd=>?_,λhi=>⟨h2,by rw[l2,hi,bh];exact bK _⟩⟩
 have hi:i<kvs.length:=by
  obtain⟨h,_⟩:=f9.mp hd
  simpa using h
 refine⟨⟨h2,by rw[l2];exact hi⟩,λx H3 y=>?_⟩
 obtain⟨rfl,kv,e1,rfl⟩:=y
 obtain⟨v,e2,r⟩:=sV (YM (E:=er P2 H3) hk (by rw[l1,hl])) hd
 rw[ie,e1] at e2;cases e2
 exact⟨bC.refl _,r⟩
end
def Le(f:FE):FI:=λenv C=>(f env C).bind λp=>(tU (still p.1)).bind λd=>(Ld d).map λits=>(its,p.2)
section
variable{X:Cx}{tg e:Expr}
theorem alV(h:PE X e (tE X.K f)):PI X tg e (tI X.K aB (Le f)):=(ajp h).weak λσ H R aK=>by
 obtain⟨Z,Θ,env,C,its,env',C',S,hf,q⟩:=aK
 obtain⟨p,h1,hf⟩:=jg hf
 obtain⟨d,hd,hf⟩:=jg hf
 obtain⟨its',h2,hf⟩:=wX.mp hf
 obtain⟨r,e1,C1⟩:=p
 cases hf;have hd:=DG hd
 obtain⟨kvs,ks,rfl,hk,rfl⟩:=akU h2
 refine⟨Z,Θ,env,C,_,env',C',S,h1,λv H1 k f R=>?_⟩
 obtain⟨S1,a,vs,rfl,da,r⟩:=R.qY hd
 obtain⟨ep,ha⟩:=da.keyd hk
 exact⟨a,_,ep,rfl,fJ ha,q _ H1 k f S1 (alU ha hk (Ac r))⟩
end
def Rh:au->au->Option Vl
 |.tuple (d::ds),.int k=>if 2<=k/\(d::ds).length*k.toNat<=eZ then aa (.im (.tuple (cC k.toNat (d::ds)).flatten)) else aj
 |_,_=>aj
theorem ajq{K:aF}:gf K (J0 K) Rh:=by
 intro Z Θ env C σ H x y dx dy res S bx dw e Q q;unfold Rh at e;split at e
 case h_2=>cases e
 rename_i d ds k;split at e
 case isFalse=>cases e
 rename_i hk;cases e;cases dw.int;have bx:RZ (er (aX Z Θ env σ) H) (.tuple (d::ds)) x:=bx
 obtain⟨a,vs,rfl,ha,r⟩:=id bx
 refine⟨a,vs,k,rfl,rfl,bW.of (fJ ha),(λz=>by subst z;obtain⟨_,_,z,_⟩:=r;cases z),hk.1,?_,λp hp=>q _ _ (aV.upd hp) (Ae S (aai r _) hp)⟩
 rw[iw r];exact qg hk.2
def Ri(x y:au):Option Vl:=match Ra x y with
 |some z=>aa z
 |none=>Rh x y
theorem ajr{X:Cx}:cY X (lW .Mult) (λx y H Q=>Kd X.K x y H Q\/J0 X.K x y H Q):=aje.or aiB
theorem ajs{K:aF}:gf K (λx y H Q=>Kd K x y H Q\/J0 K x y H Q) Ri:=gf.or ajf ajq
section
variable{prog:bA}{w:bu}{A:bV}{E:Value->aA->Prop}{s:aA}{d:ao}{es:Array xN}{ep:Nat}
theorem ahV(hd:(d==lV)=aB):MeetsIn prog w (gY.«dict.__len__» ⟨[.ref d],[]⟩) (λ_ R s=>∃es ep,nY s.heap d es ep/\R (.ok (.ret (.int es.size s.toks))) {s with toks:=s.toks+1}):=
 .of_wp λA R s hh=>by
  obtain⟨es,ep,⟨o,ho,hc,hdat⟩,h⟩:=hh;show aH _ _ (dictSize d >>= _) _ _ s
  unfold dictSize;refine az (az (Mi ho hdat (aM ?_)));show aH _ _ (aod d >>= _) _ _ s;refine az (wpAny_pendingCount_other hd (wpAny_ret_mkInt ?_));rw[ae5];exact h
theorem aal(hd:(d==lV)=aB)(hm:nY s.heap d es ep)(hfit:(es.size:Int)<2^63)(h:Q (.int es.size (s.toks+1)) {s with toks:=s.toks+1+1}):aH (model prog w) A (call (.builtin "len") [.ref d]) Q E s:=by
 refine Ui kind_len plain_len entry_len (args_len1 _) ?_;unfold gY.«len»;refine az (m:=oneArg "len" _) (aM ?_);refine az (m:=callSpecial? (.ref d) (bM "__len__")) (pR (name:=bM "__len__") hm.ty aev (Wg aev hm.ty F.entry_dict_len (F.args_dict_len_1 _) (ahV hd) ⟨es,ep,hm,?_⟩));show aH _ _ _ _ _ {s with toks:=s.toks+1};refine az (jB (aM (az (zO ?_))));show aH _ _ (if((es.size:Nat):Int)<0 then _ else _) _ _ _;rw[bw (by lia)];show aH _ _ (if((es.size:Nat):Int)>=2^63 then _ else _) _ _ _;rw[bw (by lia)];exact az (wpAny_mkInt (aM ⟨_,rfl,h⟩))
end
def abn:List V->Hp->VK->Prop:=λxs H Q=>∃a kvs vs,xs=[V.ref a]/\rH H a kvs vs/\vs.length=kvs.length/\Q (.int kvs.length) H
theorem akV{X:Cx}{pins:List (ao×Obj)}{σ:St}{H:Hp}{s:aA}{a:ao}{kvs:List (List Key×V)}{ep:Nat}(I:Inv X pins σ H s)(h:H a=aa (.dT kvs ep)):
  (a==lV)=aB/\∃es,nY s.heap a es ep/\es.size=kvs.length/\kvs.length<=bL:=by
 obtain⟨z,lo,xs,rel,o,es,h1,h2,h3,h4,h5⟩:=(show dN X.prog X.w H s.heap a (.dT kvs ep) from I.hok a _ h)
 refine⟨lo,es,⟨o,h1,h2,h3⟩,?_,z⟩
 rw[<-j8,h4,bh,<-Paired.length rel]
theorem agR{X:Cx}:fO X (.builtin "len") abn:=by
 intro pins s σ H xs us Q I r h
 obtain⟨a,kvs,vs,rfl,da,hl,q⟩:=h
 obtain⟨u,rfl,ru⟩:=vals1 r
 cases ru;have hs:=jo;rcases da with⟨ks,h1,ep,ha⟩|⟨ks,⟨ne,h1⟩,ep,ha⟩
 .obtain⟨lo,es,raw,hn,_⟩:=JQ I ha
  have z:(ks.zip vs).length<=bL:=(show dN X.prog X.w H s.heap a (.dK (ks.zip vs) ep) from I.hok a _ ha).1;have e:es.size=kvs.length:=by rw[hn,zx,rZ h1,hl,M9]
  rw[<-hn,e] at z;exact aal lo raw (by lia) ⟨.int kvs.length,H,I.tok _,⟨_,by rw[e]⟩,q⟩
 .obtain⟨lo,es,raw,hn,z⟩:=akV I ha
  have e:es.size=kvs.length:=by rw[hn,zx,rZ h1,hl,M9]
  rw[<-hn,e] at z;exact aal lo raw (by lia) ⟨.int kvs.length,H,I.tok _,⟨_,by rw[e]⟩,q⟩
def JR:List au->Option Vl
 |[.dict kvs]=>aa (.im (.int kvs.length))
 |_=>aj
theorem ajt{K:aF}:jm K abn JR:=by
 intro Z Θ env C σ H xs ds res S b e Q q;unfold JR at e;split at e
 case h_2=>cases e
 cases e
 obtain⟨v,rfl,bb⟩:=nj b
 obtain⟨a,vs,rfl,da,r⟩:=bb.dct
 exact⟨a,_,vs,rfl,da,Ac r,q _ H (aV.refl _ _) (iu S rfl rfl)⟩
end L2
namespace Ua
open PySem L2
abbrev zaa:List Str:=["house","part","outer","over"]
abbrev zab:List Str:=["house","part"]
abbrev zac:List Str:=["house","part","amount","fitting","bound","seats"]
abbrev zad:List Str:=["house","part","amount"]
abbrev zae:List Str:=["house","part","name","found"]
abbrev zaf:List Str:=["_law_script","_law_k"]
abbrev zag:List Str:=["_law_box_here","_law_many_here"]
abbrev zah:List Str:=["_law_box_here","_law_many_here","_law_letters","_law_found","_law_k","_law_size","_law_name"]
abbrev zai:List Str:=["_law_box_here"]
abbrev zaj:List Str:=["_law_box_here","_law_most"]
abbrev zak:List Str:=["_law_box_here","_law_names_here","_law_rows","_law_k"]
abbrev zal:List Str:=["_law_box_here","_law_names_here"]
abbrev zam:List Str:=["_law_box_here","_law_names_here","_law_parts_here","_law_own","_law_ranks","_law_leaves","_law_rules","_law_number","_law_days","_law_who","_law_where","_law_at","_law_taker","_law_k","_law_key","_law_seats","_law_j","_law_part","_law_rows"]
abbrev zan:List Str:=["_law_found","_law_due_here"]
abbrev zao:List Str:=["_law_box_here","_law_house_here","_law_rules","_law_own","_law_turn","_law_key"]
abbrev zap:List Str:=["_law_box_here","_law_house_here"]
abbrev zaq:List Str:=["_law_house_here","_law_over","_law_total","_law_one","_law_some","_law_best","_law_row"]
abbrev zar:List Str:=["_law_house_here","_law_over","_law_total"]
abbrev zas:List Str:=["_law_script"]
abbrev zat:List Str:=["_law_one"]
abbrev zau:List Str:=["_law_row"]
abbrev zav:List Str:=["_law_rules"]
def top(i:Nat):dZ:=PySem.Challenge.pw_rankseals_k07_seats_by_sums.main.body.getD i (.Pass ⟨0,0,0,0⟩)
abbrev Hf:dZ:=top 1
theorem G6:jP zaa zab (dz Hf):=⟨rfl,rfl,rfl,by decide +kernel,rfl,by decide +kernel,by decide +kernel⟩
abbrev CN:dZ:=top 3
theorem Hl:jP zac zad (dz CN):=⟨rfl,rfl,rfl,by decide +kernel,rfl,by decide +kernel,by decide +kernel⟩
abbrev Ho:dZ:=top 4
theorem Nb:jP zae zab (dz Ho):=⟨rfl,rfl,rfl,by decide +kernel,rfl,by decide +kernel,by decide +kernel⟩
abbrev Rj:dZ:=top 6
theorem QF:jP (["_law_script","_law_k","_law_cell"]:List Str) zaf (dz Rj):=⟨rfl,rfl,rfl,by decide +kernel,rfl,by decide +kernel,by decide +kernel⟩
abbrev QG:dZ:=top 7
theorem PK:jP (["_law_box_here","_law_many_here","_law_found","_law_once"]:List Str) zag (dz QG):=⟨rfl,rfl,rfl,by decide +kernel,rfl,by decide +kernel,by decide +kernel⟩
abbrev zW:dZ:=top 8
theorem xQ:jP zah zag (dz zW):=⟨rfl,rfl,rfl,by decide +kernel,rfl,by decide +kernel,by decide +kernel⟩
abbrev Rk:dZ:=top 9
theorem aam:jP (["_law_box_here","_law_way"]:List Str) zai (dz Rk):=⟨rfl,rfl,rfl,by decide +kernel,rfl,by decide +kernel,by decide +kernel⟩
abbrev Rm:dZ:=top 10
theorem aju:jP zai zai (dz Rm):=⟨rfl,rfl,rfl,by decide +kernel,rfl,by decide +kernel,by decide +kernel⟩
abbrev NZ:dZ:=top 11
theorem Cz:jP (["_law_box_here","_law_many_here","_law_found","_law_next_one","_law_k"]:List Str) zag (dz NZ):=⟨rfl,rfl,rfl,by decide +kernel,rfl,by decide +kernel,by decide +kernel⟩
abbrev QH:dZ:=top 12
theorem ahW:jP zaj zaj (dz QH):=⟨rfl,rfl,rfl,by decide +kernel,rfl,by decide +kernel,by decide +kernel⟩
abbrev Iv:dZ:=top 13
theorem Ox:jP zak zal (dz Iv):=⟨rfl,rfl,rfl,by decide +kernel,rfl,by decide +kernel,by decide +kernel⟩
abbrev Dd:dZ:=top 14
theorem lq:jP zam zal (dz Dd):=⟨rfl,rfl,rfl,by decide +kernel,rfl,by decide +kernel,by decide +kernel⟩
abbrev Dm:dZ:=top 15
theorem ahX:jP zan zan (dz Dm):=⟨rfl,rfl,rfl,by decide +kernel,rfl,by decide +kernel,by decide +kernel⟩
abbrev zG:dZ:=top 16
theorem Cq:jP zao zap (dz zG):=⟨rfl,rfl,rfl,by decide +kernel,rfl,by decide +kernel,by decide +kernel⟩
abbrev DX:dZ:=top 17
theorem Ag:jP zaq zar (dz DX):=⟨rfl,rfl,rfl,by decide +kernel,rfl,by decide +kernel,by decide +kernel⟩
abbrev RQ:dZ:=top 18
theorem mY:jP (["_law_script","_law_k","_law_box_here","_law_names_here","_law_parts_here","_law_house_here","_law_kept","_law_over","_law_sums","_law_part","_law_within","_law_row","_law_total","_law_due_here"]:List Str) zas (dz RQ):=⟨rfl,rfl,rfl,by decide +kernel,rfl,by decide +kernel,by decide +kernel⟩
structure Txt(K:aF)(mg:Str->Option Value):Prop where
 Kf:mg "abs"=aj
 RT:mg "all"=aj
 DY:mg "bool"=aj
 Rn:mg "dict"=aj
 Kg:mg "int"=aj
 oN:mg "isinstance"=aj
 pF:mg "len"=aj
 Ea:mg "list"=aj
 Eo:mg "max"=aj
 Ep:mg "min"=aj
 sH:mg "range"=aj
 JS:mg "repr"=aj
 RV:mg "set"=aj
 vG:mg "sorted"=aj
 Kh:mg "str"=aj
 oX:mg "tuple"=aj
 RW:mg "zip"=aj
@[reducible] def VH:FT:=(gk (aP Bj (aO 1) (aO 2)))
@[reducible] def VJ:FS:=(bU (mG 3 (aZ 1)) (dU 1 (aP bF (aO 2) (aO 1))))
@[reducible] def My:FE:=(aZ 0)
@[reducible] def Mz:FE:=(aZ 1)
@[reducible] def Nf:FS:=(bU (dU 2 (Gb (wQ (aC (aP bF (aO 0) (aC (aL (.int 0)))))) (.many 2) fL My Mz [])) (bU (dU 3 (eG aW)) (bU (TX VH VJ) (uz 3))))
def Hg:FN:=fN 2 4 Nf
@[reducible] def V1:FT:=(gk (aP lG (aO 0) (aO 3)))
@[reducible] def V2:FE:=(jd (aG (aZ 1) (aG (aZ 2) aW)))
@[reducible] def V3:FS:=(bU (dU 3 (jK (wQ (aC (aP bF (aO 0) (aC (aL (.int 3)))))) (.many 3) V1 V2 [2])) (je (tQ (aO 3)) (uz 3) ju))
@[reducible] def Hq:FS:=(bU (eY (iV (bR Hg (aG (aZ 0) (aG (aZ 1) aW)))) (cQ 2) V3) (iG (eG aW)))
def Hr:FN:=fN 2 4 Hq
@[reducible] def MT:FE:=(jd (aG (aZ 0) (aG (yN (gk (aP lG (aO 1) (aC (aL (.str (bM "")))))) (aZ 2) (aZ 1)) aW)))
@[reducible] def Wa:FT:=(gk (aP Eu (aO 0) (aO 2)))
@[reducible] def Wb:FE:=(jd (aG (aZ 0) (aG (aZ 1) aW)))
@[reducible] def HH:FS:=(bU (dU 3 (jK (wQ (aC (bR Hr (aG (aZ 0) (aG (aZ 1) aW))))) (.many 2) Wa Wb [2])) (bU (je (yC (tQ (aO 3))) (iG (jd aW)) ju) (bU (Ez (dM JM (cX (aO 3) dR)) (wN 2 (oZ (cQ 4) (oZ (cQ 5) wg)))) (iG (dM mW (cX (aC (jK (wQ (aO 5)) (.many 2) fL MT [1])) dR))))))
def zQ:FN:=fN 3 6 HH
@[reducible] def Ro:FS:=(bU (dU 2 (aL (.int 0))) (bU (je (gk (aP Et (aO 1) (aC (wu 0)))) (dU 2 (Fb 0 (aO 1))) ju) (iG (eG (aG (aP pA (aC (dM Ej (cX (aO 2) dR))) (aC (dM J4 (cX (aC (aP Kq (aC (dM Ej (cX (aO 2) dR))) (aC (aP nR (aC (aL (.int 10))) (aC (aL (.int 18))))))) dR)))) (aG (aP dj (aC (aP dj (aC (aP qu (aO 2) (aC (aL (.int 2147483629))))) (aC (aP pA (aC (aL (.int 7919))) (aO 1))))) (aC (aL (.int 11)))) (aG (aL (.int 0)) aW)))))))
def JT:FN:=fN 2 3 Ro
@[reducible] def Js:FS:=(bU (je (gk (aP Ew (aC (rE 0 (aC (aL (.int 0))))) (aC (aL (.int 0))))) (bU (dU 2 (aP qu (aC (rE 0 (aC (aL (.int 0))))) (aO 1))) (bU (rD 0 (aC (aL (.int 0))) (aP Al (aC (rE 0 (aC (aL (.int 0))))) (aO 1))) (uz 2))) ju) (bU (rD 0 (aC (aL (.int 2))) (aP dj (aC (rE 0 (aC (aL (.int 2))))) (aC (aL (.int 1))))) (bU (dU 3 (aP qu (aC (aP nR (aC (aP dj (aC (rE 0 (aC (aL (.int 1))))) (aC (aP pA (aC (aL (.int 39373))) (aC (rE 0 (aC (aL (.int 2))))))))) (aC (aL (.int 5))))) (aC (aL (.int 2147483647))))) (iG (aP qu (aC (aP Al (aC (aP qu (aC (aP dj (aC (aP pA (aO 3) (aC (aP dj (aC (aP qu (aO 3) (aC (aL (.int 40009))))) (aC (aL (.int 7))))))) (aC (aP pA (aC (rE 0 (aC (aL (.int 2))))) (aC (aL (.int 7919))))))) (aC (aL (.int 2147483629))))) (aC (aL (.int 64))))) (aO 1))))))
def cG:FN:=fN 2 4 Js
@[reducible] def Wy:FE:=(aP dj (aC (rK (aO 1) tW (rJ (aC (aL (.int 7)))))) (aO 0))
@[reducible] def Wz:FT:=(gk (aP Dk (aO 0) (aO 1)))
@[reducible] def WD:FE:=(aZ 0)
@[reducible] def Nk:FE:=(aP bF (aO 1) (aC (bR cG (aG (aZ 2) (aG (aL (.int 26)) aW)))))
@[reducible] def Hs:FS:=(bU (dU 5 (aP bF (aC (eG (aG (aL (.int 1)) (aG (aL (.int 8)) (aG (aL (.int 2)) aW))))) (aC (bR cG (aG (aZ 0) (aG (aL (.int 3)) aW)))))) (bU (dU 6 (J7 (aC (aL (.str (bM "")))) (aC (jK (kW (aO 5)) .one fL Nk [2,0])))) (bU (je (vZ (gk (aP lG (aC (bR cG (aG (aZ 0) (aG (aL (.int 3)) aW)))) (aC (aL (.int 0))))) (gk (aP kj (aO 3) (aC (eG aW))))) (dU 6 (aP dj (aC (rK (aC (aP bF (aO 3) (aC (bR cG (aG (aZ 0) (aG (dM pB (cX (aO 3) dR)) aW)))))) tW (rJ (aC (aL (.int 7)))))) (aC (aP bF (aO 2) (aC (bR cG (aG (aZ 0) (aG (aL (.int 26)) aW)))))))) ju) (mG 3 (aP bF (aC (jK (iB (aC (aP dj (aC (eG (aG (aZ 6) aW))) (aC (jK (iB (aO 2)) .one fL Wy [6]))))) .one Wz WD [3])) (aC (aL (.int 0))))))))
@[reducible] def PL:FS:=(bU (dU 2 (aL (.str (bM "abcdefghijklmnopqrstuvwxyz")))) (bU (dU 3 (eG aW)) (bU (eY (kW (aO 1)) (cQ 4) Hs) (uz 3))))
def Iw:FN:=fN 2 7 PL
@[reducible] def Rp:FS:=(bU (dU 1 (aP bF (aC (eG (aG (aL (.int 0)) (aG (aL (.int 0)) (aG (aL (.int 0)) (aG (aL (.int 1)) (aG (aL (.int 1)) (aG (aL (.int 2)) aW)))))))) (aC (bR cG (aG (aZ 0) (aG (aL (.int 6)) aW)))))) (iG (aP bF (aC (eG (aG (bR cG (aG (aZ 0) (aG (aL (.int 12)) aW))) (aG (bR cG (aG (aZ 0) (aG (aL (.int 40)) aW))) (aG (aP yz (aC (aL (.int 99999))) (aC (bR cG (aG (aZ 0) (aG (aL (.int 99999)) aW))))) aW))))) (aO 1))))
def yo:FN:=fN 1 2 Rp
@[reducible] def Rq:FS:=(iG (aP bF (aC (eG (aG (bR cG (aG (aZ 0) (aG (aL (.int 9)) aW))) (aG (aP pA (aC (aL (.int 10))) (aC (bR cG (aG (aZ 0) (aG (aL (.int 20)) aW))))) (aG (aP yz (aC (aP nR (aC (aL (.int 10))) (aC (aL (.int 9))))) (aC (bR cG (aG (aZ 0) (aG (aL (.int 3)) aW))))) aW))))) (aC (aP bF (aC (eG (aG (aL (.int 0)) (aG (aL (.int 1)) (aG (aL (.int 1)) (aG (aL (.int 1)) (aG (aL (.int 2)) aW))))))) (aC (bR cG (aG (aZ 0) (aG (aL (.int 5)) aW))))))))
def yp:FN:=fN 1 1 Rq
@[reducible] def M3:FS:=(bU (dU 3 (aP dj (aO 3) (aC (aP bF (aC (eG (aG (aL (.int 0)) (aG (aL (.int 0)) (aG (aP dj (aC (aL (.int 1))) (aC (bR cG (aG (aZ 0) (aG (aL (.int 9)) aW))))) aW))))) (aC (bR cG (aG (aZ 0) (aG (aL (.int 3)) aW)))))))) (bU (mG 2 (aZ 3)) (dU 3 (aP dj (aO 3) (aC (aL (.int 1)))))))
@[reducible] def N5:FS:=(bU (nA [2,3] (jw (eG aW) (jw (aL (.int 0)) aW))) (bU (eY (kW (aO 1)) (cQ 4) M3) (uz 2)))
def CP:FN:=fN 2 5 N5
@[reducible] def Jt:FS:=(iG (yN (gk (aP lG (aC (bR cG (aG (aZ 0) (aG (aL (.int 3)) aW)))) (aC (aL (.int 0))))) (aZ 1) (bR cG (aG (aZ 0) (aG (aP dj (aO 1) (aC (aL (.int 1)))) aW)))))
def ur:FN:=fN 2 2 Jt
@[reducible] def WK:FE:=(aP bF (aO 0) (aC (aL (.int 0))))
@[reducible] def Nm:FS:=(mG 2 (jd (aG (aP bF (aO 1) (aO 3)) (aG (aP bF (aC (aP dj (aC (eG (aG (aL (.str (bM ""))) aW))) (aC (jK (iB (aO 2)) .one fL WK [])))) (aC (bR cG (aG (aZ 0) (aG (aP dj (aO 3) (aC (aL (.int 1)))) aW))))) aW))))
@[reducible] def PN:FS:=(bU (dU 2 (eG aW)) (bU (eY (kW (aC (dM Aq (cX (aC (aL (.int 1))) (cX (aC (bR ur (aG (aZ 0) (aG (aL (.int 8)) aW)))) dR))))) (cQ 3) Nm) (uz 2)))
def Iz:FN:=fN 2 4 PN
@[reducible] def Ht:FE:=(aP dj (aO 0) (aC (jd (aG (aP bF (aO 1) (aO 0)) aW))))
@[reducible] def Np:FS:=(bU (dU 17 (aP bF (aC (aP dj (aC (eG (aG (aL (.str (bM ""))) (aG (aL (.str (bM ""))) aW)))) (aO 3))) (aC (bR cG (aG (aZ 0) (aG (aP dj (aC (aL (.int 2))) (aC (dM pB (cX (aO 3) dR)))) aW)))))) (mG 15 (jd (aG (aP dj (aC (aL (.int 1))) (aC (bR cG (aG (aZ 0) (aG (aP bF (aC (eG (aG (aL (.int 9)) (aG (aL (.int 3)) aW)))) (aC (bR cG (aG (aZ 0) (aG (aL (.int 2)) aW))))) aW))))) (aG (aZ 17) aW)))))
@[reducible] def Hu:FS:=(bU (nA [14,15] (jw (jd (aG (aP bF (aO 3) (aC (bR cG (aG (aZ 0) (aG (dM pB (cX (aO 3) dR)) aW))))) (aG (bR yp (aG (aZ 0) aW)) aW))) (jw (eG aW) aW))) (bU (eY (kW (aC (bR ur (aG (aZ 0) (aG (aL (.int 6)) aW))))) (cQ 16) Np) (rD 6 (aO 14) (dM mW (cX (aO 15) dR)))))
@[reducible] def Hv:FS:=(bU (nA [8,11] (jw (dM lY (cX (aC (eG (aG (bR yo (aG (aZ 0) aW)) (aG (bR yo (aG (aZ 0) aW)) aW)))) dR)) (jw (bR cG (aG (aZ 0) (aG (aL (.int 9)) aW))) aW))) (bU (nA [12,10] (jw (aP bF (aO 1) (aC (aP qu (aC (aP dj (aC (aP dj (aO 11) (aC (aL (.int 1))))) (aC (bR cG (aG (aZ 0) (aG (aL (.int 8)) aW)))))) (aC (aL (.int 9)))))) (jw (aP bF (aO 3) (aC (bR cG (aG (aZ 0) (aG (dM pB (cX (aO 3) dR)) aW))))) aW))) (mG 5 (jd (aG (aZ 7) (aG (aP bF (aO 1) (aO 11)) (aG (aZ 12) (aG (aZ 10) (aG (aP bF (aO 8) (aC (aL (.int 0)))) (aG (aP bF (aO 8) (aC (aL (.int 1)))) (aG (bR yp (aG (aZ 0) aW)) aW)))))))))))
@[reducible] def Hw:FS:=(bU (dU 8 (dM lY (cX (aC (eG (aG (bR yo (aG (aZ 0) aW)) (aG (bR yo (aG (aZ 0) aW)) aW)))) dR))) (bU (nA [9,10] (jw (aP bF (aO 1) (aC (bR cG (aG (aZ 0) (aG (aL (.int 9)) aW))))) (jw (aP bF (aO 3) (aC (bR cG (aG (aZ 0) (aG (dM pB (cX (aO 3) dR)) aW))))) aW))) (mG 4 (jd (aG (aZ 7) (aG (aZ 9) (aG (aP dj (aC (aL (.int 1))) (aC (bR cG (aG (aZ 0) (aG (aP bF (aC (eG (aG (aL (.int 9)) (aG (aL (.int 3)) aW)))) (aC (bR cG (aG (aZ 0) (aG (aL (.int 2)) aW))))) aW))))) (aG (aZ 10) (aG (aP bF (aO 8) (aC (aL (.int 0)))) (aG (aP bF (aO 8) (aC (aL (.int 1)))) aW))))))))))
@[reducible] def WL:FE:=(aP bF (aO 0) (aC (aL (.int 0))))
@[reducible] def PX:FS:=(bU (dU 2 (bR Iz (aG (aZ 0) (aG (aZ 1) aW)))) (bU (nA [3,4,5,6] (jw (jK (iB (aO 2)) .one fL WL []) (jw (eG aW) (jw (eG aW) (jw DP aW))))) (bU (eY (iV (bR CP (aG (aZ 0) (aG (bR ur (aG (aZ 0) (aG (aL (.int 20)) aW))) aW)))) (cQ 7) Hw) (bU (eY (iV (bR CP (aG (aZ 0) (aG (bR ur (aG (aZ 0) (aG (aL (.int 16)) aW))) aW)))) (cQ 7) Hv) (bU (eY (kW (aC (bR ur (aG (aZ 0) (aG (aL (.int 10)) aW))))) (cQ 13) Hu) (bU (dU 18 (jK (iB (aC (dM lY (cX (aO 6) dR)))) .one fL Ht [6])) (iG (jd (aG (aZ 2) (aG (jd (aG (dM mW (cX (aC (dM lY (cX (aO 2) dR))) dR)) (aG (dM mW (cX (aO 4) dR)) (aG (dM mW (cX (aO 5) dR)) (aG (dM mW (cX (aO 18) dR)) aW))))) aW))))))))))
def IK:FN:=fN 2 19 PX
@[reducible] def W9(QJ:FN):FE:=(bR QJ (aG (aZ 0) (aG (aZ 1) aW)))
@[reducible] def Ah(QJ:FN):FS:=(bU (je (gk (aP nU (aO 1) (aC (aL .none)))) (iG (aP nU (aO 0) (aC (aL .none)))) ju) (bU (je (tQ (aC (mJ "bool" (aO 1)))) (iG (qX (mJ "bool" (aO 0)) (aP lG (aO 0) (aO 1)))) ju) (bU (je (tQ (aC (yD "list" "tuple" (aO 1)))) (bU (je (yM (gk (aP kj (aC (mJ "list" (aO 0))) (aC (mJ "list" (aO 1))))) (gk (aP kj (aC (mJ "tuple" (aO 0))) (aC (mJ "tuple" (aO 1)))))) (iG (aL (.bool aB))) ju) (iG (qX (aP lG (aC (dM pB (cX (aO 0) dR))) (aC (dM pB (cX (aO 1) dR)))) (dM Ek (cX (aC (jK (Kz (cX (aO 0) (cX (aO 1) dR))) (.many 2) fL (W9 QJ) [])) dR))))) ju) (bU (je (tQ (aC (mJ "str" (aO 1)))) (iG (qX (mJ "str" (aO 0)) (aP lG (aO 0) (aO 1)))) ju) (iG (qX (mJ "int" (aO 0)) (qX (Ef (mJ "bool" (aO 0))) (aP lG (aO 0) (aO 1)))))))))
def uv:Nat->FN
 |0=>RL
 |n+1=>fN 2 2 (Ah (uv n))
@[reducible] def GF:FE:=(aP dj (aO 0) (aC (jd (aG (aP bF (aO 1) (aO 0)) aW))))
@[reducible] def GJ:FS:=(bU (dU 5 (jd (aG (aP bF (aO 3) (aC (bR cG (aG (aZ 0) (aG (dM vP (cX (aC (aL (.int 2))) (cX (aC (dM pB (cX (aO 3) dR))) dR))) aW))))) (aG (aP pA (aC (aL (.int 5))) (aC (bR cG (aG (aZ 0) (aG (aL (.int 9)) aW))))) aW)))) (rD 2 (aO 5) (aP Ri (aC (jd (aG (jd (aG (aP dj (aC (aL (.int 1))) (aC (bR cG (aG (aZ 0) (aG (aL (.int 9)) aW))))) (aG (aP bF (aC (eG (aG (aL (.str (bM ""))) (aG (aP bF (aO 3) (aC (aL (.int 0)))) aW)))) (aC (bR cG (aG (aZ 0) (aG (aL (.int 2)) aW))))) aW))) aW))) (aC (bR cG (aG (aZ 0) (aG (aL (.int 3)) aW)))))))
@[reducible] def Vv:FE:=(aP bF (aO 0) (aC (aL (.int 0))))
@[reducible] def Mp:FE:=(jd (aG (rK (aO 0) tW (rJ (aC (aL (.int 2))))) (aG (aP bF (aO 0) (aC (aL (.int 2)))) aW)))
@[reducible] def M4:FS:=(bU (nA [2,3] (jw (dM JP (cX (aC (jK (iB (aC (aP bF (aO 1) (aC (aL (.int 3)))))) .one fL Mp [])) dR)) (jw (jK (iB (aC (aP bF (aO 1) (aC (aL (.int 0)))))) .one fL Vv []) aW))) (bU (eY (kW (aC (aP yz (aC (aL (.int 10))) (aC (dM JR (cX (aO 2) dR)))))) (cQ 4) GJ) (iG (aP dj (aC (rK (aO 1) tW (rJ (aC (aL (.int 3)))))) (aC (jd (aG (dM mW (cX (aC (jK (iB (aC (dM lY (cX (aO 2) dR)))) .one fL GF [2])) dR)) aW)))))))
def Cw:FN:=fN 2 6 M4
@[reducible] def Oz:FE:=(jd (aG (aZ 0) (aG (yN (gk (aP kj (aO 1) (aC (aL (.str (bM "")))))) (aZ 1) (aP bF (aO 2) (aC (aL (.int 0))))) aW)))
@[reducible] def uh:FS:=(je (vZ (gk (aP Eu (aC (aP bF (aO 6) (aC (aL (.int 1))))) (aO 2))) (yM (gk (aP nU (aO 5) (aC (aL .none)))) (gk (aP Ew (aC (aP bF (aO 6) (aC (aL (.int 1))))) (aC (aP bF (aO 5) (aC (aL (.int 1))))))))) (dU 5 (aZ 6)) ju)
@[reducible] def XS:FT:=(gk (aP lG (aC (aP bF (aO 0) (aC (aL (.int 0))))) (aO 1)))
@[reducible] def XX:FE:=(aZ 0)
@[reducible] def X3:FS:=(bU (dU 4 (jK (iB (aC (aP bF (aO 0) (aC (aL (.int 3)))))) .one XS XX [3])) (je (gk (aP kj (aO 4) (aC (eG aW)))) (bU (dU 5 (aL .none)) (bU (eY (iV (aZ 4)) (cQ 6) uh) (bU (je (gk (aP nU (aO 5) (aC (aL .none)))) (iG (jd aW)) ju) (iG (dM mW (cX (aC (jK (wQ (aC (aP bF (aO 5) (aC (aL (.int 2)))))) (.many 2) fL Oz [1])) dR)))))) ju))
@[reducible] def Eb:FS:=(bU (eY (iV (aZ 1)) (cQ 3) X3) (iG (jd aW)))
def yq:FN:=fN 3 7 Eb
@[reducible] def De:FS:=(bU (dU 13 (bR yq (aG (aZ 5) (aG (aP bF (aO 7) (aO 9)) (aG (aZ 12) aW))))) (je (yC (tQ (aC (bR (uv 4) (aG (eG (aG (bR zQ (aG (aZ 5) (aG (aZ 9) (aG (aZ 12) aW)))) (aG (bR zQ (aG (aZ 5) (aG (aZ 9) (aG (aZ 12) aW)))) aW))) (aG (eG (aG (aZ 13) (aG (aZ 13) aW))) aW)))))) (iG (aL (.bool aB))) ju))
@[reducible] def zX:FS:=(bU (eY (Le (aZ 7)) (cQ 9) De) (je (yC (tQ (aC (bR (uv 4) (aG (bR zQ (aG (aZ 5) (aG (aL (.str (bM "qqqqqqqq"))) (aG (aZ 12) aW)))) (aG (bR yq (aG (aZ 5) (aG (wC (aO 7) (aC (aL (.str (bM "qqqqqqqq")))) (eG aW)) (aG (aZ 12) aW)))) aW)))))) (iG (aL (.bool aB))) ju))
@[reducible] def IV:FS:=(dU 8 (aP dj (aO 8) (aC (eG (aG (aP bF (aO 11) (aC (aL (.int 1)))) (aG (dM Aq (cX (aC (aL (.int 0))) (cX (aC (aP yz (aC (aP bF (aO 11) (aC (aL (.int 1))))) (aC (aL (.int 1))))) dR))) (aG (dM vP (cX (aC (aP nR (aC (aL (.int 10))) (aC (aL (.int 9))))) (cX (aC (aP dj (aC (aP bF (aO 11) (aC (aL (.int 1))))) (aC (aL (.int 1))))) dR))) aW)))))))
@[reducible] def IW:FS:=(rD 7 (aO 9) (aP dj (aC (eG (aG (aZ 9) aW))) (aC (wC (aO 7) (aO 10) (eG aW)))))
@[reducible] def I9:FS:=(bU (EY 2 (bR JT (aG (aZ 0) (aG (aZ 1) aW)))) (bU (dU 3 (bR Iw (aG (aZ 2) (aG (aL (.int 9)) aW)))) (bU (Ez (bR IK (aG (aZ 2) (aG (aZ 3) aW))) (wN 2 (oZ (cQ 4) (oZ (cQ 5) wg)))) (bU (je (gk (aP lG (aC (bR cG (aG (aZ 2) (aG (aL (.int 2)) aW)))) (aC (aL (.int 0))))) (dU 5 (bR Cw (aG (aZ 2) (aG (aZ 5) aW)))) ju) (bU (nA [6,7,8] (jw (dM Ar (cX (aO 5) dR)) (jw DP (jw (eG (aG (aL (.int 0)) (aG (aP nR (aC (aL (.int 10))) (aC (aL (.int 9)))) (aG (bR yp (aG (aZ 2) aW)) aW)))) aW)))) (bU (eY (K6 (aZ 4)) (wN 2 (oZ (cQ 9) (oZ (cQ 10) wg))) IW) (bU (eY (iV (aP bF (aO 5) (aC (aL (.int 3))))) (cQ 11) IV) (bU (eY (iV (J6 (aO 8))) (cQ 12) zX) (je (gk (aP kj (aC (dM Ar (cX (aO 5) dR))) (aO 6))) (iG (aL (.bool aB))) ju)))))))))
@[reducible] def R0:FS:=(bU (eY (kW (aC (aP dj (aC (aL (.int 1))) (aC (dM vP (cX (aC (aL (.int 6))) (cX (aC (wu 0)) dR))))))) (cQ 1) I9) (iG (aL (.bool aq))))
def Bd:FN:=fN 1 14 R0
theorem aeR{P:bA}{w:bu}{K:aF}{mg:Str->Option Value}{base:aU}{f:ao}{fd:fB}(F:iH K "parts_over" "parts_over" Hf f fd)(T:Txt K mg):eX P w K mg base gF 1 f fd zab (spT K Hg):=
 mq (body:=Nf) F G6 λcdv A outer s H E hr=>(bZ (ahK (i:=2) (T:=(.many 2)) (NT:=(["name","within"]:List Str)) (NF:=([]:List Str)) (js:=[]) (mF.ok (N0:=zaa) (jT:=dz Hf) (by decide +kernel) rfl rfl) (⟨_,_,_,rfl,(.cons ⟨_,rfl⟩ (.cons ⟨_,rfl⟩ .nil)),rfl⟩) rfl hr.cz (El (aD (cO (cN hr.cz) cP (aQ (pv 0)) (aD (aN aR)) (λ_ _=>rfl)))) (λb=>⟨ql,(bz (pv 0)),(bz (pv 1))⟩) (by rfl) G6.nd rfl rfl) (bZ (iK (i:=3) G6.nd rfl (di rfl) (fX bf)) (bZ (ahH lU (jt (aky hr.cz) alr (aQ (pv 1)) (aQ (pv 2)) (by with_unfolding_all rfl)) (bZ (yh (pv 3) (bz (pv 1))) (cR (iK (i:=1) G6.nd rfl (di rfl) (cO (cN hr.cz) cP (aQ (pv 2)) (aQ (pv 1)) (λ_ _=>rfl)))))) (cR (Af (pv 3))))))
theorem ae8{P:bA}{w:bu}{K:aF}{mg:Str->Option Value}{base:aU}{f:ao}{fd:fB}(F:iH K "rules_for" "rules_for" Ho f fd)(T:Txt K mg)(Ng:fY P w K mg base "parts_over" 1 zab (spT K Hg)):eX P w K mg base gF 2 f fd zab (spT K Hr):=
 mq (body:=Hq) F Nb λcdv A outer s H E hr=>(bZ (mj lU rfl (yO (b7 Ng (hr.mono (by decide)) rfl (aJ (bz (pv 0)) (aJ (bz (pv 1)) bf)))) (gW (i:=2) Nb.nd rfl (sU rfl)) jC (bZ (Im (i:=3) (T:=(.many 3)) (NT:=(["where","bound","seats"]:List Str)) (NF:=(["name"]:List Str)) (js:=[2]) (mF.ok (N0:=zae) (jT:=dz Ho) (by decide +kernel) rfl rfl) (⟨_,_,_,rfl,(.cons ⟨_,rfl⟩ (.cons ⟨_,rfl⟩ (.cons ⟨_,rfl⟩ .nil))),rfl⟩) rfl (El (aD (cO (cN hr.cz) cP (aQ (pv 0)) (aD (aN aR)) (λ_ _=>rfl)))) (λb=>⟨(Jl (jt (sX hr.units) tG (aQ (pv 0)) (aQ (pv 3)) (iC _))),(jE (aJ (bz (pv 1)) (aJ (bz (pv 2)) bf)))⟩) (by rfl) Nb.nd rfl rfl) (cR (lC (yg (aQ (pv 3))) (cR (Af (pv 3))) lz)))) (cR (ji (fX bf))))
theorem afo{P:bA}{w:bu}{K:aF}{mg:Str->Option Value}{base:aU}{f:ao}{fd:fB}(F:iH K "seats_of" "seats_of" CN f fd)(T:Txt K mg)(Nq:fY P w K mg base "rules_for" 2 zab (spT K Hr)):eX P w K mg base gF 3 f fd zad (spT K zQ):=
 mq (body:=HH) F Hl λcdv A outer s H E hr=>(bZ (Im (i:=3) (T:=(.many 2)) (NT:=(["bound","seats"]:List Str)) (NF:=(["amount"]:List Str)) (js:=[2]) (mF.ok (N0:=zac) (jT:=dz CN) (by decide +kernel) rfl rfl) (⟨_,_,_,rfl,(.cons ⟨_,rfl⟩ (.cons ⟨_,rfl⟩ .nil)),rfl⟩) rfl (El (aD (b7 Nq (hr.mono (by decide)) rfl (aJ (bz (pv 0)) (aJ (bz (pv 1)) bf))))) (λb=>⟨(Jl (jt aaC abb (aQ (pv 0)) (aQ (pv 2)) (iC _))),(jE (aJ (bz (pv 0)) (aJ (bz (pv 1)) bf)))⟩) (by rfl) Hl.nd rfl rfl) (bZ (lC (QW (yg (aQ (pv 3)))) (cR (ji (jE bf))) lz) (bZ (aaG (iJ (aeE rfl hr.cz) ajk rfl T.Eo (by decide +kernel) (dH (aQ (pv 3)) eO)) (Ds rfl (qb (gW (i:=4) Hl.nd rfl (di rfl)) (qb (gW (i:=5) Hl.nd rfl (di rfl)) Df))) (QX (zV jC (zV jC Qp)))) (cR (ji (sr vp vD rfl T.oX (by decide +kernel) (dH (aD (qZ (T:=(.many 2)) (NT:=(["rank","where"]:List Str)) (NF:=(["part"]:List Str)) (js:=[1]) (mF.ok (N0:=zac) (jT:=dz CN) (by decide +kernel) rfl rfl) (⟨_,_,_,rfl,(.cons ⟨_,rfl⟩ (.cons ⟨_,rfl⟩ .nil)),rfl⟩) rfl (El (aQ (pv 5))) (λb=>⟨ql,(jE (aJ (bz (pv 0)) (aJ (RK (jt (sX hr.units) tG (aQ (pv 1)) (aD (aN sI)) (iC _)) (bz (pv 2)) (bz (pv 1))) bf)))⟩))) eO)))))))
theorem ajv{P:bA}{w:bu}{K:aF}{mg:Str->Option Value}{base:aU}{f:ao}{fd:fB}(F:iH K "_law_box" "_law_box" Rj f fd)(T:Txt K mg):eX P w K mg base gF 1 f fd zaf (spT K JT):=
 mq (body:=Ro) F QF λcdv A outer s H E hr=>(bZ (iK (i:=2) QF.nd rfl (di rfl) (aN aR)) (bZ (lC (jt (afH hr.aj5) alo (aQ (pv 1)) (aD (Z1 (pv 0) rfl T.pF (by decide +kernel))) (iC _)) (cR (iK (i:=2) QF.nd rfl (di rfl) (akE (pv 0) (aQ (pv 1)) (λ_ _=>rfl)))) lz) (cR (ji (fX (aJ (cD xY yf (aD (iJ Yc aaK rfl T.Kf (by decide +kernel) (dH (aQ (pv 2)) eO))) (aD (sr agf akF rfl T.Kg (by decide +kernel) (dH (aD (Ak alc alp (aD (iJ Yc aaK rfl T.Kf (by decide +kernel) (dH (aQ (pv 2)) eO))) (aD (cD Du DK (aD (aN aR)) (aD (aN aR)))) (iC _))) eO)))) (aJ (cD gw gA (aD (cD gw gA (aD (cD xZ ye (aQ (pv 2)) (aD (aN aR)))) (aD (cD xY yf (aD (aN aR)) (aQ (pv 1)))))) (aD (aN aR))) (aJ (aN aR) bf))))))))
theorem ahY{P:bA}{w:bu}{K:aF}{mg:Str->Option Value}{base:aU}{f:ao}{fd:fB}(F:iH K "_law_take" "_law_take" QG f fd)(T:Txt K mg):eX P w K mg base gF 1 f fd zag (spT K cG):=
 mq (body:=Js) F PK λcdv A outer s H E hr=>(bZ (lC (jt aaY abd (aD (yj (pv 0) (aD (aN aR)) (λ_ _=>rfl))) (aD (aN aR)) (iC _)) (bZ (iK (i:=2) PK.nd rfl (di rfl) (cD xZ ye (aD (yj (pv 0) (aD (aN aR)) (λ_ _=>rfl))) (aQ (pv 1)))) (bZ (DR hr.cz (pv 0) (aD (aN aR)) (cD Zg ZJ (aD (yj (pv 0) (aD (aN aR)) (λ_ _=>rfl))) (aQ (pv 1)))) (cR (Af (pv 2))))) lz) (bZ (DR hr.cz (pv 0) (aD (aN aR)) (cD gw gA (aD (yj (pv 0) (aD (aN aR)) (λ_ _=>rfl))) (aD (aN aR)))) (bZ (iK (i:=3) PK.nd rfl (di rfl) (cD xZ ye (aD (cD Du DK (aD (cD gw gA (aD (yj (pv 0) (aD (aN aR)) (λ_ _=>rfl))) (aD (cD xY yf (aD (aN aR)) (aD (yj (pv 0) (aD (aN aR)) (λ_ _=>rfl))))))) (aD (aN aR)))) (aD (aN aR)))) (cR (ji (cD xZ ye (aD (cD Zg ZJ (aD (cD xZ ye (aD (cD gw gA (aD (cD xY yf (aQ (pv 3)) (aD (cD gw gA (aD (cD xZ ye (aQ (pv 3)) (aD (aN aR)))) (aD (aN aR)))))) (aD (cD xY yf (aD (yj (pv 0) (aD (aN aR)) (λ_ _=>rfl))) (aD (aN aR)))))) (aD (aN aR)))) (aD (aN aR)))) (aQ (pv 1))))))))
theorem agS{P:bA}{w:bu}{K:aF}{mg:Str->Option Value}{base:aU}{f:ao}{fd:fB}(F:iH K "_law_names" "_law_names" zW f fd)(T:Txt K mg)(cH:fY P w K mg base "_law_take" 1 zag (spT K cG)):eX P w K mg base gF 2 f fd zag (spT K Iw):=
 mq (body:=PL) F xQ λcdv A outer s H E hr=>(bZ (iK (i:=2) xQ.nd rfl (sU rfl) (aN sI)) (bZ (iK (i:=3) xQ.nd rfl (sU rfl) (fX bf)) (bZ (mj lU rfl (vC rfl T.sH (aQ (pv 1))) (gW (i:=4) xQ.nd rfl (di rfl)) jC (bZ (iK (i:=5) xQ.nd rfl (di rfl) (cO (cN hr.cz) cP (aD (fX (aJ (aN aR) (aJ (aN aR) (aJ (aN aR) bf))))) (aD (b7 cH (hr.mono (by decide)) rfl (aJ (bz (pv 0)) (aJ (aN aR) bf)))) (λ_ _=>rfl))) (bZ (iK (i:=6) xQ.nd rfl (sU rfl) (aiT (aD (aN sI)) (aD (qZ (T:=.one) (NT:=(["_law_j"]:List Str)) (NF:=(["_law_letters","_law_box_here"]:List Str)) (js:=[2,0]) (mF.ok (N0:=zah) (jT:=dz zW) (by decide +kernel) rfl rfl) (⟨_,⟨_,rfl⟩,rfl⟩) rfl (vC rfl T.sH (aQ (pv 5))) (λb=>⟨ql,(cO (cN hr.cz) cP (aQ (pv 1)) (aD (b7 cH (hr.mono (by decide)) rfl (aJ (bz (pv 2)) (aJ (aN aR) bf)))) (λ_ _=>rfl))⟩))))) (bZ (lC (PW.pt (aaE (jt (sX hr.units) tG (aD (b7 cH (hr.mono (by decide)) rfl (aJ (bz (pv 0)) (aJ (aN aR) bf)))) (aD (aN aR)) (iC _)) (ZP (jt (Am hr.units) Az (aQ (pv 3)) (aD (fX bf)) (iC _))))) (cR (iK (i:=6) xQ.nd rfl (sU rfl) (cD gw gA (aD (Ka (aD (cO (cN hr.cz) cP (aQ (pv 3)) (aD (b7 cH (hr.mono (by decide)) rfl (aJ (bz (pv 0)) (aJ (iJ vA vO rfl T.pF (by decide +kernel) (dH (aQ (pv 3)) eO)) bf)))) (λ_ _=>rfl))) J8 (J9 (aD (aN aR))))) (aD (cO (cN hr.cz) cP (aQ (pv 2)) (aD (b7 cH (hr.mono (by decide)) rfl (aJ (bz (pv 0)) (aJ (aN aR) bf)))) (λ_ _=>rfl)))))) lz) (cR (yh (pv 3) (cO (cN hr.cz) cP (aD (qZ (T:=.one) (NT:=zat) (NF:=(["_law_found"]:List Str)) (js:=[3]) (mF.ok (N0:=zah) (jT:=dz zW) (by decide +kernel) rfl rfl) (⟨_,⟨_,rfl⟩,rfl⟩) rfl (uH (aD (cD gw gA (aD (fX (aJ (bz (pv 6)) bf))) (aD (qZ (T:=.one) (NT:=zat) (NF:=(["_law_name"]:List Str)) (js:=[6]) (mF.ok (N0:=zah) (jT:=dz zW) (by decide +kernel) rfl rfl) (⟨_,⟨_,rfl⟩,rfl⟩) rfl (uH (aQ (pv 2))) (λb=>⟨ql,(cD gw gA (aD (Ka (aQ (pv 1)) J8 (J9 (aD (aN aR))))) (aQ (pv 0)))⟩)))))) (λb=>⟨(Jl (jt (agE hr.cz) ahx (aQ (pv 0)) (aQ (pv 1)) (by with_unfolding_all rfl))),(bz (pv 0))⟩))) (aD (aN aR)) (λ_ _=>rfl)))))))) (cR (Af (pv 3))))))
theorem ajw{P:bA}{w:bu}{K:aF}{mg:Str->Option Value}{base:aU}{f:ao}{fd:fB}(F:iH K "_law_day" "_law_day" Rk f fd)(T:Txt K mg)(cH:fY P w K mg base "_law_take" 1 zag (spT K cG)):eX P w K mg base gF 2 f fd zai (spT K yo):=
 mq (body:=Rp) F aam λcdv A outer s H E hr=>(bZ (iK (i:=1) aam.nd rfl (di rfl) (cO (cN hr.cz) cP (aD (fX (aJ (aN aR) (aJ (aN aR) (aJ (aN aR) (aJ (aN aR) (aJ (aN aR) (aJ (aN aR) bf)))))))) (aD (b7 cH (hr.mono (by decide)) rfl (aJ (bz (pv 0)) (aJ (aN aR) bf)))) (λ_ _=>rfl))) (cR (ji (cO (cN hr.cz) cP (aD (fX (aJ (b7 cH (hr.mono (by decide)) rfl (aJ (bz (pv 0)) (aJ (aN aR) bf))) (aJ (b7 cH (hr.mono (by decide)) rfl (aJ (bz (pv 0)) (aJ (aN aR) bf))) (aJ (cD Jv JB (aD (aN aR)) (aD (b7 cH (hr.mono (by decide)) rfl (aJ (bz (pv 0)) (aJ (aN aR) bf))))) bf))))) (aQ (pv 1)) (λ_ _=>rfl)))))
theorem ajx{P:bA}{w:bu}{K:aF}{mg:Str->Option Value}{base:aU}{f:ao}{fd:fB}(F:iH K "_law_sum" "_law_sum" Rm f fd)(T:Txt K mg)(cH:fY P w K mg base "_law_take" 1 zag (spT K cG)):eX P w K mg base gF 2 f fd zai (spT K yp):=
 mq (body:=Rq) F aju λcdv A outer s H E hr=>(cR (ji (cO (cN hr.cz) cP (aD (fX (aJ (b7 cH (hr.mono (by decide)) rfl (aJ (bz (pv 0)) (aJ (aN aR) bf))) (aJ (cD xY yf (aD (aN aR)) (aD (b7 cH (hr.mono (by decide)) rfl (aJ (bz (pv 0)) (aJ (aN aR) bf))))) (aJ (cD Jv JB (aD (cD Du DK (aD (aN aR)) (aD (aN aR)))) (aD (b7 cH (hr.mono (by decide)) rfl (aJ (bz (pv 0)) (aJ (aN aR) bf))))) bf))))) (aD (cO (cN hr.cz) cP (aD (fX (aJ (aN aR) (aJ (aN aR) (aJ (aN aR) (aJ (aN aR) (aJ (aN aR) bf))))))) (aD (b7 cH (hr.mono (by decide)) rfl (aJ (bz (pv 0)) (aJ (aN aR) bf)))) (λ_ _=>rfl))) (λ_ _=>rfl))))
theorem afp{P:bA}{w:bu}{K:aF}{mg:Str->Option Value}{base:aU}{f:ao}{fd:fB}(F:iH K "_law_numbers" "_law_numbers" NZ f fd)(T:Txt K mg)(cH:fY P w K mg base "_law_take" 1 zag (spT K cG)):eX P w K mg base gF 2 f fd zag (spT K CP):=
 mq (body:=N5) F Cz λcdv A outer s H E hr=>(bZ (DQ (i:=2) (j:=3) rfl Cz.nd rfl rfl (by decide) rfl rfl (j5 (fX bf) (j5 (aN aR) vN)) rfl) (bZ (mj lU rfl (vC rfl T.sH (aQ (pv 1))) (gW (i:=4) Cz.nd rfl (di rfl)) jC (bZ (iK (i:=3) Cz.nd rfl (di rfl) (cD gw gA (aQ (pv 3)) (aD (cO (cN hr.cz) cP (aD (fX (aJ (aN aR) (aJ (aN aR) (aJ (cD gw gA (aD (aN aR)) (aD (b7 cH (hr.mono (by decide)) rfl (aJ (bz (pv 0)) (aJ (aN aR) bf))))) bf))))) (aD (b7 cH (hr.mono (by decide)) rfl (aJ (bz (pv 0)) (aJ (aN aR) bf)))) (λ_ _=>rfl))))) (bZ (yh (pv 2) (bz (pv 3))) (cR (iK (i:=3) Cz.nd rfl (di rfl) (cD gw gA (aQ (pv 3)) (aD (aN aR)))))))) (cR (Af (pv 2)))))
theorem ahZ{P:bA}{w:bu}{K:aF}{mg:Str->Option Value}{base:aU}{f:ao}{fd:fB}(F:iH K "_law_many" "_law_many" QH f fd)(T:Txt K mg)(cH:fY P w K mg base "_law_take" 1 zag (spT K cG)):eX P w K mg base gF 2 f fd zaj (spT K ur):=
 mq (body:=Jt) F ahW λcdv A outer s H E hr=>(cR (ji (RK (jt (sX hr.units) tG (aD (b7 cH (hr.mono (by decide)) rfl (aJ (bz (pv 0)) (aJ (aN aR) bf)))) (aD (aN aR)) (iC _)) (bz (pv 1)) (b7 cH (hr.mono (by decide)) rfl (aJ (bz (pv 0)) (aJ (cD gw gA (aQ (pv 1)) (aD (aN aR))) bf))))))
theorem agT{P:bA}{w:bu}{K:aF}{mg:Str->Option Value}{base:aU}{f:ao}{fd:fB}(F:iH K "_law_parts" "_law_parts" Iv f fd)(T:Txt K mg)(cH:fY P w K mg base "_law_take" 1 zag (spT K cG))(uw:fY P w K mg base "_law_many" 2 zaj (spT K ur)):eX P w K mg base gF 3 f fd zal (spT K Iz):=
 mq (body:=PN) F Ox λcdv A outer s H E hr=>(bZ (iK (i:=2) Ox.nd rfl (di rfl) (fX bf)) (bZ (mj lU rfl (vC rfl T.sH (aD (iJ (Xc rfl) Z2 rfl T.Eo (by decide +kernel) (dH (aD (aN aR)) (dH (aD (b7 uw (hr.mono (by decide)) rfl (aJ (bz (pv 0)) (aJ (aN aR) bf)))) eO))))) (gW (i:=3) Ox.nd rfl (di rfl)) jC (cR (yh (pv 2) (jE (aJ (cO (cN hr.cz) cP (aQ (pv 1)) (aQ (pv 3)) (λ_ _=>rfl)) (aJ (cO (cN hr.cz) cP (aD (cD gw gA (aD (fX (aJ (aN sI) bf))) (aD (qZ (T:=.one) (NT:=zau) (NF:=([]:List Str)) (js:=[]) (mF.ok (N0:=zak) (jT:=dz Iv) (by decide +kernel) rfl rfl) (⟨_,⟨_,rfl⟩,rfl⟩) rfl (uH (aQ (pv 2))) (λb=>⟨ql,(cO (cN hr.cz) cP (aQ (pv 0)) (aD (aN aR)) (λ_ _=>rfl))⟩))))) (aD (b7 cH (hr.mono (by decide)) rfl (aJ (bz (pv 0)) (aJ (cD gw gA (aQ (pv 3)) (aD (aN aR))) bf)))) (λ_ _=>rfl)) bf)))))) (cR (Af (pv 2)))))
theorem agU{P:bA}{w:bu}{K:aF}{mg:Str->Option Value}{base:aU}{f:ao}{fd:fB}(F:iH K "_law_house" "_law_house" Dd f fd)(T:Txt K mg)(cH:fY P w K mg base "_law_take" 1 zag (spT K cG))(Aw:fY P w K mg base "_law_day" 2 zai (spT K yo))(yr:fY P w K mg base "_law_sum" 2 zai (spT K yp))(HJ:fY P w K mg base "_law_numbers" 2 zag (spT K CP))(uw:fY P w K mg base "_law_many" 2 zaj (spT K ur))(P0:fY P w K mg base "_law_parts" 3 zal (spT K Iz)):eX P w K mg base gF 4 f fd zal (spT K IK):=
 mq (body:=PX) F lq λcdv A outer s H E hr=>(bZ (iK (i:=2) lq.nd rfl (di rfl) (b7 P0 (hr.mono (by decide)) rfl (aJ (bz (pv 0)) (aJ (bz (pv 1)) bf)))) (bZ (ZS (is:=[3,4,5,6]) (j5 (qZ (T:=.one) (NT:=zau) (NF:=([]:List Str)) (js:=[]) (mF.ok (N0:=zam) (jT:=dz Dd) (by decide +kernel) rfl rfl) (⟨_,⟨_,rfl⟩,rfl⟩) rfl (uH (aQ (pv 2))) (λb=>⟨ql,(cO (cN hr.cz) cP (aQ (pv 0)) (aD (aN aR)) (λ_ _=>rfl))⟩)) (j5 (fX bf) (j5 (fX bf) (j5 Yz vN)))) (Ds rfl (qb (gW (i:=3) lq.nd rfl (di rfl)) (qb (gW (i:=4) lq.nd rfl (di rfl)) (qb (gW (i:=5) lq.nd rfl (di rfl)) (qb (gW (i:=6) lq.nd rfl (sU rfl)) Df)))))) (bZ (mj lU rfl (yO (b7 HJ (hr.mono (by decide)) rfl (aJ (bz (pv 0)) (aJ (b7 uw (hr.mono (by decide)) rfl (aJ (bz (pv 0)) (aJ (aN aR) bf))) bf)))) (gW (i:=7) lq.nd rfl (di rfl)) jC (bZ (iK (i:=8) lq.nd rfl (di rfl) (iJ (CK rfl) Dc rfl T.vG (by decide +kernel) (dH (aD (fX (aJ (b7 Aw (hr.mono (by decide)) rfl (aJ (bz (pv 0)) bf)) (aJ (b7 Aw (hr.mono (by decide)) rfl (aJ (bz (pv 0)) bf)) bf)))) eO))) (bZ (DQ (i:=9) (j:=10) rfl lq.nd rfl rfl (by decide) rfl rfl (j5 (cO (cN hr.cz) cP (aQ (pv 1)) (aD (b7 cH (hr.mono (by decide)) rfl (aJ (bz (pv 0)) (aJ (aN aR) bf)))) (λ_ _=>rfl)) (j5 (cO (cN hr.cz) cP (aQ (pv 3)) (aD (b7 cH (hr.mono (by decide)) rfl (aJ (bz (pv 0)) (aJ (iJ vA vO rfl T.pF (by decide +kernel) (dH (aQ (pv 3)) eO)) bf)))) (λ_ _=>rfl)) vN)) rfl) (cR (yh (pv 4) (jE (aJ (bz (pv 7)) (aJ (bz (pv 9)) (aJ (cD gw gA (aD (aN aR)) (aD (b7 cH (hr.mono (by decide)) rfl (aJ (bz (pv 0)) (aJ (cO (cN hr.cz) cP (aD (fX (aJ (aN aR) (aJ (aN aR) bf)))) (aD (b7 cH (hr.mono (by decide)) rfl (aJ (bz (pv 0)) (aJ (aN aR) bf)))) (λ_ _=>rfl)) bf))))) (aJ (bz (pv 10)) (aJ (cO (cN hr.cz) cP (aQ (pv 8)) (aD (aN aR)) (λ_ _=>rfl)) (aJ (cO (cN hr.cz) cP (aQ (pv 8)) (aD (aN aR)) (λ_ _=>rfl)) bf)))))))))))) (bZ (mj lU rfl (yO (b7 HJ (hr.mono (by decide)) rfl (aJ (bz (pv 0)) (aJ (b7 uw (hr.mono (by decide)) rfl (aJ (bz (pv 0)) (aJ (aN aR) bf))) bf)))) (gW (i:=7) lq.nd rfl (di rfl)) jC (bZ (DQ (i:=8) (j:=11) rfl lq.nd rfl rfl (by decide) rfl rfl (j5 (iJ (CK rfl) Dc rfl T.vG (by decide +kernel) (dH (aD (fX (aJ (b7 Aw (hr.mono (by decide)) rfl (aJ (bz (pv 0)) bf)) (aJ (b7 Aw (hr.mono (by decide)) rfl (aJ (bz (pv 0)) bf)) bf)))) eO)) (j5 (b7 cH (hr.mono (by decide)) rfl (aJ (bz (pv 0)) (aJ (aN aR) bf))) vN)) rfl) (bZ (DQ (i:=12) (j:=10) rfl lq.nd rfl rfl (by decide) rfl rfl (j5 (cO (cN hr.cz) cP (aQ (pv 1)) (aD (cD xZ ye (aD (cD gw gA (aD (cD gw gA (aQ (pv 11)) (aD (aN aR)))) (aD (b7 cH (hr.mono (by decide)) rfl (aJ (bz (pv 0)) (aJ (aN aR) bf)))))) (aD (aN aR)))) (λ_ _=>rfl)) (j5 (cO (cN hr.cz) cP (aQ (pv 3)) (aD (b7 cH (hr.mono (by decide)) rfl (aJ (bz (pv 0)) (aJ (iJ vA vO rfl T.pF (by decide +kernel) (dH (aQ (pv 3)) eO)) bf)))) (λ_ _=>rfl)) vN)) rfl) (cR (yh (pv 5) (jE (aJ (bz (pv 7)) (aJ (cO (cN hr.cz) cP (aQ (pv 1)) (aQ (pv 11)) (λ_ _=>rfl)) (aJ (bz (pv 12)) (aJ (bz (pv 10)) (aJ (cO (cN hr.cz) cP (aQ (pv 8)) (aD (aN aR)) (λ_ _=>rfl)) (aJ (cO (cN hr.cz) cP (aQ (pv 8)) (aD (aN aR)) (λ_ _=>rfl)) (aJ (b7 yr (hr.mono (by decide)) rfl (aJ (bz (pv 0)) bf)) bf))))))))))))) (bZ (mj lU rfl (vC rfl T.sH (aD (b7 uw (hr.mono (by decide)) rfl (aJ (bz (pv 0)) (aJ (aN aR) bf))))) (gW (i:=13) lq.nd rfl (di rfl)) jC (bZ (DQ (i:=14) (j:=15) rfl lq.nd rfl rfl (by decide) rfl rfl (j5 (jE (aJ (cO (cN hr.cz) cP (aQ (pv 3)) (aD (b7 cH (hr.mono (by decide)) rfl (aJ (bz (pv 0)) (aJ (iJ vA vO rfl T.pF (by decide +kernel) (dH (aQ (pv 3)) eO)) bf)))) (λ_ _=>rfl)) (aJ (b7 yr (hr.mono (by decide)) rfl (aJ (bz (pv 0)) bf)) bf))) (j5 (fX bf) vN)) rfl) (bZ (mj lU rfl (vC rfl T.sH (aD (b7 uw (hr.mono (by decide)) rfl (aJ (bz (pv 0)) (aJ (aN aR) bf))))) (gW (i:=16) lq.nd rfl (di rfl)) jC (bZ (iK (i:=17) lq.nd rfl (di rfl) (cO (cN hr.cz) cP (aD (cD gw gA (aD (fX (aJ (aN sI) (aJ (aN sI) bf)))) (aQ (pv 3)))) (aD (b7 cH (hr.mono (by decide)) rfl (aJ (bz (pv 0)) (aJ (cD gw gA (aD (aN aR)) (aD (iJ vA vO rfl T.pF (by decide +kernel) (dH (aQ (pv 3)) eO)))) bf)))) (λ_ _=>rfl))) (cR (yh (pv 15) (jE (aJ (cD gw gA (aD (aN aR)) (aD (b7 cH (hr.mono (by decide)) rfl (aJ (bz (pv 0)) (aJ (cO (cN hr.cz) cP (aD (fX (aJ (aN aR) (aJ (aN aR) bf)))) (aD (b7 cH (hr.mono (by decide)) rfl (aJ (bz (pv 0)) (aJ (aN aR) bf)))) (λ_ _=>rfl)) bf))))) (aJ (bz (pv 17)) bf))))))) (cR (DR hr.cz (pv 6) (aQ (pv 14)) (sr vp vD rfl T.oX (by decide +kernel) (dH (aQ (pv 15)) eO))))))) (bZ (Im (i:=18) (T:=.one) (NT:=(["_law_key"]:List Str)) (NF:=zav) (js:=[6]) (mF.ok (N0:=zam) (jT:=dz Dd) (by decide +kernel) rfl rfl) (⟨_,⟨_,rfl⟩,rfl⟩) rfl (uH (aD (iJ (CK rfl) Dc rfl T.vG (by decide +kernel) (dH (aQ (pv 6)) eO)))) (λb=>⟨ql,(cD gw gA (aQ (pv 0)) (aD (jE (aJ (cO (cN hr.cz) cP (aQ (pv 1)) (aQ (pv 0)) (λ_ _=>rfl)) bf))))⟩) (by rfl) lq.nd rfl rfl) (cR (ji (jE (aJ (bz (pv 2)) (aJ (jE (aJ (sr vp vD rfl T.oX (by decide +kernel) (dH (aD (iJ (CK rfl) Dc rfl T.vG (by decide +kernel) (dH (aQ (pv 2)) eO))) eO)) (aJ (sr vp vD rfl T.oX (by decide +kernel) (dH (aQ (pv 4)) eO)) (aJ (sr vp vD rfl T.oX (by decide +kernel) (dH (aQ (pv 5)) eO)) (aJ (sr vp vD rfl T.oX (by decide +kernel) (dH (aQ (pv 18)) eO)) bf))))) bf)))))))))))
theorem ah0{P:bA}{w:bu}{K:aF}{mg:Str->Option Value}{base:aU}{f:ao}{fd:fB}(n:Nat)(F:iH K "_law_same" "_law_same" Dm f fd)(T:Txt K mg)(Ai:fY P w K mg base "_law_same" n zan (spT K (uv n))):eX P w K mg base gF (n+1) f fd zan (spT K (uv (n+1))):=
 mq (body:=Ah (uv n)) F ahX λcdv A outer s H E hr=>(bZ (lC (jt Jw JC (aQ (pv 1)) (aD (aN Dr)) (iC _)) (cR (ji (Ak Jw JC (aQ (pv 0)) (aD (aN Dr)) (iC _)))) lz) (bZ (lC (yg (aD (sZ (by decide) (aQ (pv 1)) (qj (v:=.ty "bool") rfl T.DY (by decide +kernel) rfl) rfl T.oN (by decide +kernel)))) (cR (ji (DN (sZ (by decide) (aQ (pv 0)) (qj (v:=.ty "bool") rfl T.DY (by decide +kernel) rfl) rfl T.oN (by decide +kernel)) (JD (Ak (sX hr.units) tG (aQ (pv 0)) (aQ (pv 1)) (iC _)))))) lz) (bZ (lC (yg (aD (aiP (by decide) (by decide) (aQ (pv 1)) (qj (v:=.ty "list") rfl T.Ea (by decide +kernel) rfl) (qj (v:=.ty "tuple") rfl T.oX (by decide +kernel) rfl) rfl T.oN (by decide +kernel)))) (bZ (lC (PW.pt (abf (jt (Am hr.units) Az (aD (sZ (by decide) (aQ (pv 0)) (qj (v:=.ty "list") rfl T.Ea (by decide +kernel) rfl) rfl T.oN (by decide +kernel))) (aD (sZ (by decide) (aQ (pv 1)) (qj (v:=.ty "list") rfl T.Ea (by decide +kernel) rfl) rfl T.oN (by decide +kernel))) (iC _)) (aaD (jt (Am hr.units) Az (aD (sZ (by decide) (aQ (pv 0)) (qj (v:=.ty "tuple") rfl T.oX (by decide +kernel) rfl) rfl T.oN (by decide +kernel))) (aD (sZ (by decide) (aQ (pv 1)) (qj (v:=.ty "tuple") rfl T.oX (by decide +kernel) rfl) rfl T.oN (by decide +kernel))) (iC _))))) (cR (ji (aN Ed))) lz) (cR (ji (DN (Ak (sX hr.units) tG (aD (iJ vA vO rfl T.pF (by decide +kernel) (dH (aQ (pv 0)) eO))) (aD (iJ vA vO rfl T.pF (by decide +kernel) (dH (aQ (pv 1)) eO))) (iC _)) (JD (iJ (ahh rfl) akG rfl T.RT (by decide +kernel) (dH (aD (qZ (T:=(.many 2)) (NT:=(["_law_one","_law_other"]:List Str)) (NF:=([]:List Str)) (js:=[]) (mF.ok (N0:=zan) (jT:=dz Dm) (by decide +kernel) rfl rfl) (⟨_,_,_,rfl,(.cons ⟨_,rfl⟩ (.cons ⟨_,rfl⟩ .nil)),rfl⟩) rfl (ai9 rfl T.RW (dH (aQ (pv 0)) (dH (aQ (pv 1)) eO))) (λb=>⟨ql,(b7 Ai hr rfl (aJ (bz (pv 0)) (aJ (bz (pv 1)) bf)))⟩))) eO))))))) lz) (bZ (lC (yg (aD (sZ (by decide) (aQ (pv 1)) (qj (v:=.ty "str") rfl T.Kh (by decide +kernel) rfl) rfl T.oN (by decide +kernel)))) (cR (ji (DN (sZ (by decide) (aQ (pv 0)) (qj (v:=.ty "str") rfl T.Kh (by decide +kernel) rfl) rfl T.oN (by decide +kernel)) (JD (Ak (sX hr.units) tG (aQ (pv 0)) (aQ (pv 1)) (iC _)))))) lz) (cR (ji (DN (sZ (by decide) (aQ (pv 0)) (qj (v:=.ty "int") rfl T.Kg (by decide +kernel) rfl) rfl T.oN (by decide +kernel)) (DN (akA (sZ (by decide) (aQ (pv 0)) (qj (v:=.ty "bool") rfl T.DY (by decide +kernel) rfl) rfl T.oN (by decide +kernel))) (JD (Ak (sX hr.units) tG (aQ (pv 0)) (aQ (pv 1)) (iC _)))))))))))
theorem X4{P:bA}{w:bu}{K:aF}{mg:Str->Option Value}{base:aU}{f:ao}{fd:fB}(hm:mg "_law_same"=aa (.ref f))(hk:vh K (.ref f)=aq)(hb:Binds K fd zan [])(F:iH K "_law_same" "_law_same" Dm f fd)(T:Txt K mg):
  ∀n,fY P w K mg base "_law_same" n zan (spT K (uv n))
 |0=>⟨f,fd,hm,hk,hb,aiV⟩
 |n+1=>⟨f,fd,hm,hk,hb,ah0 n F T (X4 hm hk hb F T n)⟩
theorem aeF{P:bA}{w:bu}{K:aF}{mg:Str->Option Value}{base:aU}{f:ao}{fd:fB}(F:iH K "_law_more_rules" "_law_more_rules" zG f fd)(T:Txt K mg)(cH:fY P w K mg base "_law_take" 1 zag (spT K cG)):eX P w K mg base gF 3 f fd zap (spT K Cw):=
 mq (body:=M4) F Cq λcdv A outer s H E hr=>(bZ (ZS (is:=[2,3]) (j5 (sr (af5 rfl hr.akT) ajn rfl T.Rn (by decide +kernel) (dH (aD (qZ (T:=.one) (NT:=zau) (NF:=([]:List Str)) (js:=[]) (mF.ok (N0:=zao) (jT:=dz zG) (by decide +kernel) rfl rfl) (⟨_,⟨_,rfl⟩,rfl⟩) rfl (uH (aD (cO (cN hr.cz) cP (aQ (pv 1)) (aD (aN aR)) (λ_ _=>rfl)))) (λb=>⟨ql,(jE (aJ (Ka (aQ (pv 0)) J8 (J9 (aD (aN aR)))) (aJ (cO (cN hr.cz) cP (aQ (pv 0)) (aD (aN aR)) (λ_ _=>rfl)) bf)))⟩))) eO)) (j5 (qZ (T:=.one) (NT:=zau) (NF:=([]:List Str)) (js:=[]) (mF.ok (N0:=zao) (jT:=dz zG) (by decide +kernel) rfl rfl) (⟨_,⟨_,rfl⟩,rfl⟩) rfl (uH (aD (cO (cN hr.cz) cP (aQ (pv 1)) (aD (aN aR)) (λ_ _=>rfl)))) (λb=>⟨ql,(cO (cN hr.cz) cP (aQ (pv 0)) (aD (aN aR)) (λ_ _=>rfl))⟩)) vN)) (Ds rfl (qb (gW (i:=2) Cq.nd rfl (sU rfl)) (qb (gW (i:=3) Cq.nd rfl (di rfl)) Df)))) (bZ (mj lU rfl (vC rfl T.sH (aD (cD Jv JB (aD (aN aR)) (aD (iJ agR ajt rfl T.pF (by decide +kernel) (dH (aQ (pv 2)) eO)))))) (gW (i:=4) Cq.nd rfl (di rfl)) jC (bZ (iK (i:=5) Cq.nd rfl (di rfl) (jE (aJ (cO (cN hr.cz) cP (aQ (pv 3)) (aD (b7 cH (hr.mono (by decide)) rfl (aJ (bz (pv 0)) (aJ (iJ (Oc rfl) Qt rfl T.Ep (by decide +kernel) (dH (aD (aN aR)) (dH (aD (iJ vA vO rfl T.pF (by decide +kernel) (dH (aQ (pv 3)) eO))) eO))) bf)))) (λ_ _=>rfl)) (aJ (cD xY yf (aD (aN aR)) (aD (b7 cH (hr.mono (by decide)) rfl (aJ (bz (pv 0)) (aJ (aN aR) bf))))) bf)))) (cR (DR hr.cz (pv 2) (aQ (pv 5)) (cD ajr ajs (aD (jE (aJ (jE (aJ (cD gw gA (aD (aN aR)) (aD (b7 cH (hr.mono (by decide)) rfl (aJ (bz (pv 0)) (aJ (aN aR) bf))))) (aJ (cO (cN hr.cz) cP (aD (fX (aJ (aN sI) (aJ (cO (cN hr.cz) cP (aQ (pv 3)) (aD (aN aR)) (λ_ _=>rfl)) bf)))) (aD (b7 cH (hr.mono (by decide)) rfl (aJ (bz (pv 0)) (aJ (aN aR) bf)))) (λ_ _=>rfl)) bf))) bf))) (aD (b7 cH (hr.mono (by decide)) rfl (aJ (bz (pv 0)) (aJ (aN aR) bf))))))))) (cR (ji (cD gw gA (aD (Ka (aQ (pv 1)) J8 (J9 (aD (aN aR))))) (aD (jE (aJ (sr vp vD rfl T.oX (by decide +kernel) (dH (aD (qZ (T:=.one) (NT:=(["_law_key"]:List Str)) (NF:=zav) (js:=[2]) (mF.ok (N0:=zao) (jT:=dz zG) (by decide +kernel) rfl rfl) (⟨_,⟨_,rfl⟩,rfl⟩) rfl (uH (aD (iJ (CK rfl) Dc rfl T.vG (by decide +kernel) (dH (aQ (pv 2)) eO)))) (λb=>⟨ql,(cD gw gA (aQ (pv 0)) (aD (jE (aJ (cO (cN hr.cz) cP (aQ (pv 1)) (aQ (pv 0)) (λ_ _=>rfl)) bf))))⟩))) eO)) bf))))))))
theorem ajy{P:bA}{w:bu}{K:aF}{mg:Str->Option Value}{base:aU}{f:ao}{fd:fB}(F:iH K "_law_due" "_law_due" DX f fd)(T:Txt K mg):eX P w K mg base gF 1 f fd zar (spT K yq):=
 mq (body:=Eb) F Ag λcdv A outer s H E hr=>(bZ (mj lU rfl (yO (bz (pv 1))) (gW (i:=3) Ag.nd rfl (sU rfl)) jC (bZ (Im (i:=4) (T:=.one) (NT:=zau) (NF:=zat) (js:=[3]) (mF.ok (N0:=zaq) (jT:=dz DX) (by decide +kernel) rfl rfl) (⟨_,⟨_,rfl⟩,rfl⟩) rfl (uH (aD (cO (cN hr.cz) cP (aQ (pv 0)) (aD (aN aR)) (λ_ _=>rfl)))) (λb=>⟨(Jl (jt (sX hr.units) tG (aD (cO (cN hr.cz) cP (aQ (pv 0)) (aD (aN aR)) (λ_ _=>rfl))) (aQ (pv 1)) (iC _))),(bz (pv 0))⟩) (by rfl) Ag.nd rfl rfl) (cR (lC (jt (Am hr.units) Az (aQ (pv 4)) (aD (fX bf)) (iC _)) (bZ (iK (i:=5) Ag.nd rfl (di rfl) (aN Dr)) (bZ (mj lU rfl (yO (bz (pv 4))) (gW (i:=6) Ag.nd rfl (di rfl)) jC (cR (lC (PW.pt (aaE (jt aaC abb (aD (cO (cN hr.cz) cP (aQ (pv 6)) (aD (aN aR)) (λ_ _=>rfl))) (aQ (pv 2)) (iC _)) (ZP (PW.pt (abf (jt Jw JC (aQ (pv 5)) (aD (aN Dr)) (iC _)) (aaD (jt aaY abd (aD (cO (cN hr.cz) cP (aQ (pv 6)) (aD (aN aR)) (λ_ _=>rfl))) (aD (cO (cN hr.cz) cP (aQ (pv 5)) (aD (aN aR)) (λ_ _=>rfl))) (iC _)))))))) (cR (iK (i:=5) Ag.nd rfl (di rfl) (bz (pv 6)))) lz))) (bZ (lC (jt Jw JC (aQ (pv 5)) (aD (aN Dr)) (iC _)) (cR (ji (jE bf))) lz) (cR (ji (sr vp vD rfl T.oX (by decide +kernel) (dH (aD (qZ (T:=(.many 2)) (NT:=(["_law_rank","_law_where"]:List Str)) (NF:=(["_law_over"]:List Str)) (js:=[1]) (mF.ok (N0:=zaq) (jT:=dz DX) (by decide +kernel) rfl rfl) (⟨_,_,_,rfl,(.cons ⟨_,rfl⟩ (.cons ⟨_,rfl⟩ .nil)),rfl⟩) rfl (El (aD (cO (cN hr.cz) cP (aQ (pv 5)) (aD (aN aR)) (λ_ _=>rfl)))) (λb=>⟨ql,(jE (aJ (bz (pv 0)) (aJ (RK (jt (Am hr.units) Az (aQ (pv 1)) (aD (aN sI)) (iC _)) (bz (pv 1)) (cO (cN hr.cz) cP (aQ (pv 2)) (aD (aN aR)) (λ_ _=>rfl))) bf)))⟩))) eO))))))) lz)))) (cR (ji (jE bf))))
theorem akW{P:bA}{w:bu}{K:aF}{mg:Str->Option Value}{base:aU}{f:ao}{fd:fB}(F:iH K "law" "law" RQ f fd)(T:Txt K mg)(CQ:fY P w K mg base "seats_of" 3 zad (spT K zQ))(Rr:fY P w K mg base "_law_box" 1 zaf (spT K JT))(cH:fY P w K mg base "_law_take" 1 zag (spT K cG))(Qa:fY P w K mg base "_law_names" 2 zag (spT K Iw))(yr:fY P w K mg base "_law_sum" 2 zai (spT K yp))(Qc:fY P w K mg base "_law_house" 4 zal (spT K IK))(Ai:fY P w K mg base "_law_same" 4 zan (spT K (uv 4)))(M5:fY P w K mg base "_law_more_rules" 3 zap (spT K Cw))(JV:fY P w K mg base "_law_due" 1 zar (spT K yq)):eX P w K mg base gF 6 f fd zas (spT K Bd):=
 mq (body:=R0) F mY λcdv A outer s H E hr=>(bZ (mj lU rfl (vC rfl T.sH (aD (cD gw gA (aD (aN aR)) (aD (iJ (Oc rfl) Qt rfl T.Ep (by decide +kernel) (dH (aD (aN aR)) (dH (aD (Z1 (pv 0) rfl T.pF (by decide +kernel))) eO))))))) (gW (i:=1) mY.nd rfl (di rfl)) jC (bZ (akC (i:=2) mY.nd rfl (di rfl) (b7 Rr (hr.mono (by decide)) rfl (aJ (bz (pv 0)) (aJ (bz (pv 1)) bf)))) (bZ (iK (i:=3) mY.nd rfl (di rfl) (b7 Qa (hr.mono (by decide)) rfl (aJ (bz (pv 2)) (aJ (aN aR) bf)))) (bZ (aaG (b7 Qc (hr.mono (by decide)) rfl (aJ (bz (pv 2)) (aJ (bz (pv 3)) bf))) (Ds rfl (qb (gW (i:=4) mY.nd rfl (di rfl)) (qb (gW (i:=5) mY.nd rfl (di rfl)) Df))) (QX (zV jC (zV jC Qp)))) (bZ (lC (jt (sX hr.units) tG (aD (b7 cH (hr.mono (by decide)) rfl (aJ (bz (pv 2)) (aJ (aN aR) bf)))) (aD (aN aR)) (iC _)) (cR (iK (i:=5) mY.nd rfl (di rfl) (b7 M5 (hr.mono (by decide)) rfl (aJ (bz (pv 2)) (aJ (bz (pv 5)) bf))))) lz) (bZ (ajb (i:=6) (j:=7) (k:=8) rfl mY.nd rfl rfl rfl (by decide) (by decide) (by decide) rfl rfl rfl (j5 (iJ (Xk hr.gd hr.units) Z3 rfl T.JS (by decide +kernel) (dH (aQ (pv 5)) eO)) (j5 Yz (j5 (fX (aJ (aN aR) (aJ (cD Du DK (aD (aN aR)) (aD (aN aR))) (aJ (b7 yr (hr.mono (by decide)) rfl (aJ (bz (pv 2)) bf)) bf)))) vN))) rfl) (bZ (mj lU rfl (alv (bz (pv 4))) (Ds rfl (qb (gW (i:=9) mY.nd rfl (di rfl)) (qb (gW (i:=10) mY.nd rfl (di rfl)) Df))) (QX (zV jC (zV jC Qp))) (cR (DR hr.cz (pv 7) (aQ (pv 9)) (cD gw gA (aD (fX (aJ (bz (pv 9)) bf))) (aD (aaO hr.cz (aQ (pv 7)) (aQ (pv 10)) (fX bf) ⟨rfl,rfl,rfl,rfl⟩)))))) (bZ (mj lU rfl (yO (cO (cN hr.cz) cP (aQ (pv 5)) (aD (aN aR)) (λ_ _=>rfl))) (gW (i:=11) mY.nd rfl (di rfl)) jC (cR (iK (i:=8) mY.nd rfl (di rfl) (cD gw gA (aQ (pv 8)) (aD (fX (aJ (cO (cN hr.cz) cP (aQ (pv 11)) (aD (aN aR)) (λ_ _=>rfl)) (aJ (iJ (Xc rfl) Z2 rfl T.Eo (by decide +kernel) (dH (aD (aN aR)) (dH (aD (cD Jv JB (aD (cO (cN hr.cz) cP (aQ (pv 11)) (aD (aN aR)) (λ_ _=>rfl))) (aD (aN aR)))) eO))) (aJ (iJ (Oc rfl) Qt rfl T.Ep (by decide +kernel) (dH (aD (cD Du DK (aD (aN aR)) (aD (aN aR)))) (dH (aD (cD gw gA (aD (cO (cN hr.cz) cP (aQ (pv 11)) (aD (aN aR)) (λ_ _=>rfl))) (aD (aN aR)))) eO))) bf))))))))) (bZ (mj lU rfl (yO (aiQ rfl (aQ (pv 8)) rfl T.vG rfl T.RV)) (gW (i:=12) mY.nd rfl (di rfl)) jC (bZ (mj lU rfl (alV (bz (pv 7))) (gW (i:=9) mY.nd rfl (di rfl)) jC (bZ (iK (i:=13) mY.nd rfl (di rfl) (b7 JV (hr.mono (by decide)) rfl (aJ (bz (pv 5)) (aJ (cO (cN hr.cz) cP (aQ (pv 7)) (aQ (pv 9)) (λ_ _=>rfl)) (aJ (bz (pv 12)) bf))))) (cR (lC (QW (yg (aD (b7 Ai (hr.mono (by decide)) rfl (aJ (fX (aJ (b7 CQ (hr.mono (by decide)) rfl (aJ (bz (pv 5)) (aJ (bz (pv 9)) (aJ (bz (pv 12)) bf)))) (aJ (b7 CQ (hr.mono (by decide)) rfl (aJ (bz (pv 5)) (aJ (bz (pv 9)) (aJ (bz (pv 12)) bf)))) bf))) (aJ (fX (aJ (bz (pv 13)) (aJ (bz (pv 13)) bf))) bf)))))) (cR (ji (aN Ed))) lz)))) (cR (lC (QW (yg (aD (b7 Ai (hr.mono (by decide)) rfl (aJ (b7 CQ (hr.mono (by decide)) rfl (aJ (bz (pv 5)) (aJ (aN sI) (aJ (bz (pv 12)) bf)))) (aJ (b7 JV (hr.mono (by decide)) rfl (aJ (bz (pv 5)) (aJ (aaO hr.cz (aQ (pv 7)) (aD (aN sI)) (fX bf) ⟨rfl,rfl,rfl,rfl⟩) (aJ (bz (pv 12)) bf)))) bf)))))) (cR (ji (aN Ed))) lz)))) (cR (lC (jt (Am hr.units) Az (aD (iJ (Xk hr.gd hr.units) Z3 rfl T.JS (by decide +kernel) (dH (aQ (pv 5)) eO))) (aQ (pv 6)) (iC _)) (cR (ji (aN Ed))) lz))))))))))) (cR (ji (aN Ed))))
local macro_rules|`(tactic|simp_arith[$ts,*])=>`(tactic|simp only[alR,alS,alT,alw,alx,amC,aly,amD,alz,amE,alA,aZ,gk,tQ,Ex,aL,dat,still,bR,dM,aG,aW,cX,dR,jw,dU,bU,iG,uz,ju,amn,eG,jd,Ba,iB,iV,wQ,K6,TY,SN,jK,frB,nA,setM,Ez,wN,oZ,wg,cQ,eZ,add_int,sub_int,le_int,lt_int,ge_int,gt_int,eq_int,Dl,QC,ai1,amH,amI,amv,amw,amx,amy,amz,amA,amB,PJ,amF,akM,alB,alC,amG,Option.bind_some,Option.map_some,List.getElem?_cons_zero,List.getElem?_cons_succ,List.set_cons_zero,List.set_cons_succ,List.map_cons,List.map_nil,List.length_cons,List.length_nil,Bool.not_true,Bool.not_false,if_true,if_false,ite_self,Bool.false_eq_true,Option.join,id_eq,Nat.reduceAdd,Nat.reduceLeDiff,Nat.reduceLT,and_true,true_and,and_self,String.reduceBEq,Bool.or_false,Bool.or_true,Bool.false_or,Bool.true_or,Bool.and_true,Bool.and_false,Bool.true_and,Bool.false_and,decide_true,decide_false,reduceCtorEq,eq_bool,ne_bool,ne_int,alD,alE,beq_self_eq_true,List.length_map,alF,alG,alH,alI,alJ,alK,alL,alM,alN,alO,Ot,XD,tU,Bo,intD,aml,cond_true,cond_false,$ts,*])
theorem fM{C:Ce}{b L k:Nat}{m:Int}(h:Bf L C b (k+1))(h0:0<m)(h1:m<1073741824):
  ∃t C',cG [.ce b,.im (.int m)] C=aa (.im (.int t),C')/\0<=t/\t<m/\Bf L C' b k:=by
 obtain⟨hL,x,y,z,hc,hx,hy,hy2,hz,hz2⟩:=h
 refine hide λGG gg=>?_
 have i0:nD 3 0=aa 0:=rfl;have i2:nD 3 2=aa 2:=rfl;by_cases hp:0<x
 .refine gg ⟨x%m,C.set b [x / m,y,z],lA [aa (.ce b),aa (.im (.int m)),aj,aj] rfl rfl ?_ rfl (by simp),GR _ (by lia),Gs _ h0,⟨by simpa using hL,x / m,y,z,JK hc,Int.ediv_nonneg hx (by lia),hy,hy2,hz,by lia⟩⟩;simp_arith[Js,rE,hc,hp,mod_eq h0,fdiv_eq h0 h1,rD,uA,JK hc,i0,i2]
 .have o0:0<=(y+39373*(z+1))^5%2147483647:=GR _ (by lia);have o1:(y+39373*(z+1))^5%2147483647<2147483647:=Gs _ (by lia);have pw:nR (.int (y+39373*(z+1))) (.int 5)=aa (.im (.int ((y+39373*(z+1))^5))):=pow_eq (by lia) (by lia) (by lia)
  obtain⟨q,qe⟩:∃q,(y+39373*(z+1))^5=q:=⟨_,rfl⟩
  rw[qe] at o0 o1 pw
  obtain⟨once,ho⟩:∃o,q%2147483647=o:=⟨_,rfl⟩
  rw[ho] at o0 o1;have c1:∀i,qu (.int i) (.int 2147483629)=aa (.im (.int (i%2147483629))):=λi=>mod_eq (by lia)
  refine gg ⟨(once*(once%40009+7)+(z+1)*7919)%2147483629 / 64%m,C.set b [x,y,z+1],lA [aa (.ce b),aa (.im (.int m)),aj,aj] rfl rfl ?_ rfl (by simp),GR _ (by lia),Gs _ h0,⟨by simpa using hL,x,y,z+1,JK hc,hx,hy,hy2,by lia,by lia⟩⟩;simp_arith[Js,rE,hc,hp,rD,uA,JK hc,mul_eq (i:=39373) (j:=z+1) (.inl (by lia)),pw,mod_eq (i:=q) (j:=2147483647) (by lia),ho,mod_eq (i:=once) (j:=40009) (by lia),mul_eq (i:=once) (j:=once%40009+7) (.inl (by lia)),mul_eq (i:=z+1) (j:=7919) (.inr (by lia)),c1,i0,i2,fdiv_eq (j:=64) (by lia) (by lia),mod_eq h0]
theorem JW{C:Ce}{b L j:Nat}(h:Bf L C b (j+4)):
  ∃k C',yo [.ce b] C=aa (.im (.int k),C')/\0<=k/\k<=99999/\Bf L C' b j:=by
 refine hide λGG gg=>?_
 obtain⟨k1,C1,e1,a1,b1,h1⟩:=fM (m:=6) h (by decide) (by decide)
 obtain⟨k2,C2,e2,a2,b2,h2⟩:=fM (m:=12) h1 (by decide) (by decide)
 obtain⟨k3,C3,e3,a3,b3,h3⟩:=fM (m:=40) h2 (by decide) (by decide)
 obtain⟨k4,C4,e4,a4,b4,h4⟩:=fM (m:=99999) h3 (by decide) (by decide)
 obtain⟨k,e,k0,k9⟩:∃k:Int,(dF [mV 0,.int 0,.int 0,.int 1,.int 1,.int 2] k1=aa (.int 0)/\k=k2\/dF [mV 0,.int 0,.int 0,.int 1,.int 1,.int 2] k1=aa (.int 1)/\k=k3\/dF [mV 0,.int 0,.int 0,.int 1,.int 1,.int 2] k1=aa (.int 2)/\k=99999-k4)/\0<=k/\k<=99999:=by
  have hk:k1=0\/k1=1\/k1=2\/k1=3\/k1=4\/k1=5:=by lia
  rcases hk with rfl|rfl|rfl|rfl|rfl|rfl
  iterate 3 exact⟨k2,.inl ⟨rfl,rfl⟩,by lia,by lia⟩
  iterate 2 exact⟨k3,.inr (.inl ⟨rfl,rfl⟩),by lia,by lia⟩
  exact⟨99999-k4,.inr (.inr ⟨rfl,rfl⟩),by lia,by lia⟩
 refine gg ⟨k,C4,lA [aa (.ce b),aj] rfl rfl ?_ rfl (h.eq h4),k0,k9,h4⟩;rcases e with⟨e,rfl⟩|⟨e,rfl⟩|⟨e,rfl⟩<;>simp_arith[Rp,e1,e2,e3,e4,e]
theorem Rt{C:Ce}{b L j:Nat}(h:Bf L C b (j+4)):
  ∃k C',yp [.ce b] C=aa (.im (.int k),C')/\0<=k/\k<=1000000000/\Bf L C' b j:=by
 refine hide λGG gg=>?_
 obtain⟨k2,C2,e2,a2,b2,h2⟩:=fM (m:=9) h (by decide) (by decide)
 obtain⟨k3,C3,e3,a3,b3,h3⟩:=fM (m:=20) h2 (by decide) (by decide)
 obtain⟨k4,C4,e4,a4,b4,h4⟩:=fM (m:=3) h3 (by decide) (by decide)
 obtain⟨k1,C1,e1,a1,b1,h1⟩:=fM (m:=5) h4 (by decide) (by decide)
 obtain⟨k,e,k0,k9⟩:∃k:Int,(dF [mV 0,.int 1,.int 1,.int 1,.int 2] k1=aa (.int 0)/\k=k2\/dF [mV 0,.int 1,.int 1,.int 1,.int 2] k1=aa (.int 1)/\k=10*k3\/dF [mV 0,.int 1,.int 1,.int 1,.int 2] k1=aa (.int 2)/\k=1000000000-k4)/\0<=k/\k<=1000000000:=by
  have hk:k1=0\/k1=1\/k1=2\/k1=3\/k1=4:=by lia
  rcases hk with rfl|rfl|rfl|rfl|rfl
  .exact⟨k2,.inl ⟨rfl,rfl⟩,by lia,by lia⟩
  iterate 3 exact⟨10*k3,.inr (.inl ⟨rfl,rfl⟩),by lia,by lia⟩
  exact⟨1000000000-k4,.inr (.inr ⟨rfl,rfl⟩),by lia,by lia⟩
 have m1:pA (.int 10) (.int k3)=aa (.im (.int (10*k3))):=mul_eq (.inl (by lia));have pw:nR (.int 10) (.int 9)=aa (.im (.int 1000000000)):=by rfl
 refine gg ⟨k,C1,lA [aa (.ce b)] rfl rfl ?_ rfl (h.eq h1),k0,k9,h1⟩;rcases e with⟨e,rfl⟩|⟨e,rfl⟩|⟨e,rfl⟩<;>simp_arith[Rq,e1,e2,e3,e4,e,m1,pw]
theorem Dp{C:Ce}{b L j:Nat}{m:Int}(h:Bf L C b (j+2))(h0:0<=m)(h1:m<=1000):
  ∃k C',ur [.ce b,.im (.int m)] C=aa (.im (.int k),C')/\0<=k/\k<=m/\Bf L C' b j:=by
 refine hide λGG gg=>?_
 obtain⟨k1,C1,e1,a1,b1,h1'⟩:=fM (m:=3) h (by decide) (by decide)
 by_cases hk:k1=0
 .subst hk;exact gg ⟨m,C1,lA [aa (.ce b),aa (.im (.int m))] rfl rfl (by simp_arith[Jt,e1]) rfl (h.eq h1'),h0,vq m,h1'.dec⟩
 .obtain⟨k2,C2,e2,a2,b2,h2⟩:=fM (m:=m+1) h1' (by lia) (by lia)
  have hk':(k1==0)=aB:=beq_eq_false_iff_ne.mpr hk;exact gg ⟨k2,C2,lA [aa (.ce b),aa (.im (.int m))] rfl rfl (by simp_arith[Jt,e1,e2,hk']) rfl (h.eq h2),a2,by lia,h2⟩
theorem Xa{C:Ce}{b L j:Nat}{m:Int}(h:Bf L C b (j+200))(h0:0<=m)(h1:m<=100):
  ∃(ns:List Int)(C':Ce),CP [.ce b,.im (.int m)] C=aa (.ow (.list (ns.map .int)),C')/\ns.length=m.toNat/\(∀x∈ns,0<=x/\x<=2000)/\ns.Pairwise (·<·)/\Bf L C' b j:=by
 refine hide λGG gg=>?_
 obtain⟨env',C',e,ns,nx,v4,he,hl,hr,hp,hx0,hx1,hB⟩:=oU (g:=cQ 4) (body:=M3) (its:=lH 0 m.toNat) (env:=[aa (.ce b),aa (.im (.int m)),aa (.ow (.list [])),aa (.im (.int 0)),aj]) (C:=C)
  (λi env C1=>∃(ns:List Int)(nx:Int)(v4:Option Vl),env=[aa (.ce b),aa (.im (.int m)),aa (.ow (.list (ns.map .int))),aa (.im (.int nx)),v4]/\ns.length=i/\(∀x∈ns,0<=x/\x<nx)/\ns.Pairwise (·<·)/\0<=nx/\nx<=11*i/\Bf L C1 b (j+2*(100-i)))
  ⟨[],0,aj,rfl,rfl,(λ_ m=>nomatch m),BX,by decide,by decide,h⟩ (λi d env C1 hd hI=>by
   obtain⟨ns,nx,v4,rfl,hl,hr,hp,hx0,hx1,hB⟩:=hI
   obtain⟨rfl,hi⟩:=vK hd
   refine hide λGG gg=>?_
   rw[yF (j) 2 (by lia:i<100)] at hB
   obtain⟨k1,C2,e1,a1,b1,gH⟩:=fM (m:=9) hB (by decide) (by decide)
   obtain⟨k2,C3,e2,a2,b2,hB2⟩:=fM (m:=3) gH (by decide) (by decide)
   obtain⟨y,y0,y1,hy⟩:∃y:Int,0<=y/\y<=9/\dF [mV 0,.int 0,.int (1+k1)] k2=aa (.int y):=by
    have hk:k2=0\/k2=1\/k2=2:=by lia
    rcases hk with rfl|rfl|rfl
    .exact⟨0,by lia,by lia,rfl⟩
    .exact⟨0,by lia,by lia,rfl⟩
    .exact⟨1+k1,by lia,by lia,rfl⟩
   have lm:(ns.length<1000000)=True:=eq_true (by lia);refine gg ⟨_,.nx,[aa (.ce b),aa (.im (.int m)),aa (.ow (.list ((ns++[nx+y]).map .int))),aa (.im (.int (nx+y+1))),aa (.im (.int (0+i)))],C3,rfl,?_,.inl rfl,ns++[nx+y],nx+y+1,_,rfl,by simp[hl],λx hx=>?_,?_,by lia,by lia,hB2⟩
   .simp_arith[M3,e1,e2,hy,mG,tH,lm,j4]
   .rcases cF.mp hx with hx|hx
    .have:=hr x hx;lia
    .rw[fQ.mp hx];lia
   .rw[UL]
    refine⟨hp,by simp,λx hx z hz=>?_⟩
    rw[fQ.mp hz];have:=hr x hx;lia)
 rw[xU] at hl hx1 hB;subst he;refine gg ⟨ns,C',lA [aa (.ce b),aa (.im (.int m)),aj,aj,aj] rfl rfl ?_ rfl (h.eq hB),hl,λx hx=>?_,hp,hB.mono (rN _ _)⟩
 .simp_arith[N5,eY,kW,wD (m:=m) (by lia) (by lia),e]
 .have:=hr x hx;lia
theorem ajz{C:Ce}{b L j:Nat}{size:Int}(h:Bf L C b (j+8))(h0:0<=size)(h1:size<=8):
  ∃(cs:List Nat)(C':Ce),iD .one fL Nk [aa (.im (.str abc)),aa (.ce b)] (lH 0 size.toNat) C=aa ((cs.map λc=>.str ⟨#[c]⟩),C')/\cs.length=size.toNat/\(∀c∈cs,97<=c/\c<=122)/\Bf L C' b j:=by
 obtain⟨ys,C',e,hB,hl,hr⟩:=Xx (T:=.one) (fe:=Nk) (fs:=[aa (.im (.str abc)),aa (.ce b)]) (λi C1=>Bf L C1 b (j+(8-i))) (λ_ y=>∃c:Nat,y=.str ⟨#[c]⟩/\97<=c/\c<=122) (its:=lH 0 size.toNat) (C:=C) (k:=0) h (λi d C1 hd hB=>by
  obtain⟨rfl,hi⟩:=vK hd
  rw[M7] at hB⊢;rw[aaS (j) (by lia:i<8)] at hB
  obtain⟨k1,C2,e1,a1,b1,gH⟩:=fM (m:=26) hB (by decide) (by decide)
  refine⟨_,.im (.str ⟨#[97+k1.toNat]⟩),[aa (.im (.int (0+i))),aa (.im (.str abc)),aa (.ce b)],C2,.str ⟨#[97+k1.toNat]⟩,rfl,?_,rfl,⟨_,rfl,by lia,by lia⟩,gH⟩
  simp_arith[dG,kY,jn,e1,bF,letters k1 a1 b1])
 rw[xU] at hB hl
 obtain⟨cs,rfl,hcs⟩:∃cs:List Nat,ys=cs.map (λc=>.str ⟨#[c]⟩)/\∀c∈cs,97<=c/\c<=122:=by
  clear e hl hB;induction ys with
  |nil=>exact⟨[],rfl,λ_ m=>(nomatch m)⟩
  |cons y ys ih=>
   obtain⟨c,rfl,c1,c2⟩:=hr 0 y rfl
   obtain⟨cs,rfl,h2⟩:=ih λi z hz=>hr (i+1) z (by simpa using hz)
   exact⟨c::cs,rfl,λx hx=>by
    rcases bI.mp hx with rfl|hx
    .exact⟨c1,c2⟩
    .exact h2 x hx⟩
 exact⟨cs,C',e,by simpa using hl,hcs,hB.mono (rN _ _)⟩
theorem ajA{C:Ce}{z:Str}(hz:z.length<=8):iD .one fL Wy [aa (.im (.str z))] (chars abc) C=aa (((dX 26).map (kI z)).map .str,C):=by
 rw[NK (λ_=>aq) (λd=>match d with|.str c=>.str (Txt.slice z aj (aa 7)++c)|_=>.none) λd hd=>?_]
 .rw[XC,zj.mpr λ_ _=>rfl,gM,gM];rfl
 .rw[XC] at hd
  obtain⟨i,hi,rfl⟩:=dW.mp hd
  refine⟨_,rfl,rfl,λ_=>⟨.im (.str (Txt.slice z aj (aa 7)++⟨#[97+i]⟩)),[aa (.im (.str ⟨#[97+i]⟩)),aa (.im (.str z))],?_,rfl⟩⟩
  have h1:(z.length<=1000000)=True:=eq_true (by lia);have h2:((Txt.slice z aj (aa 7)).length+Str.length ⟨#[97+i]⟩<=1000000)=True:=eq_true (by
   have:=Px z;show _+1<=_;lia)
  simp_arith[dG,kY,jn,rK,tW,rJ,Bv,dj,h1,h2]
theorem ajB{C:Ce}{cs zs:List Str}:iD .one Wz WD [aa (.im (.list (zs.map .str)))] (cs.map .str) C=aa ((cs.filter λo=>decide (o∉zs)).map .str,C):=by
 refine rY jq (λo=>decide (o∉zs)) jq λo _=>⟨[.str o],rfl,?_,λ_=>⟨.im (.str o),_,rfl,rfl⟩⟩
 have hi:Dk (.str o) (.list (zs.map .str))=aa (.im (.bool (decide (o∉zs)))):=by
  have:inB (.str o) (.list (zs.map .str))=aa (inD (.str o) (zs.map .str)):=aY (by rw[Ov];rfl);unfold Dk;rw[this,YW,jA,decide_not]
 simp_arith[dG,kY,jn,hi]
theorem ajC{cs:List Nat}(h:cs.length<=100):JH (.str (bM "")) (.list (cs.map λc=>.str ⟨#[c]⟩))=aa (.im (.str (Txt.join (bM "") (cs.map λc=>⟨#[c]⟩)))):=by
 simp only[JH,Wo];refine aY ?_;rw[gM,Z5,agK,Nat.mul_zero];unfold eZ;lia
theorem ajD{C:Ce}{b L j:Nat}{v1 v4 v5 v6:Option Vl}{zs:List Str}(h:Bf L C b (j+12))(hzs:∀z∈zs,nameB z=aq)(hl:zs.length<26):
  ∃z C' w5 w6,Hs [aa (.ce b),v1,aa (.im (.str abc)),aa (.ow (.list (zs.map .str))),v4,v5,v6] C=aa (.nx,[aa (.ce b),v1,aa (.im (.str abc)),aa (.ow (.list ((zs++[z]).map .str))),v4,w5,w6],C')/\nameB z=aq/\z∉zs/\Bf L C' b j:=by
 refine hide λGG gg=>?_
 obtain⟨k1,C1,e1,a1,b1,gH⟩:=fM (m:=3) h (by decide) (by decide)
 obtain⟨size,s0,s1,es⟩:∃size:Int,1<=size/\size<=8/\dF [mV 1,.int 8,.int 2] k1=aa (.int size):=by
  have hk:k1=0\/k1=1\/k1=2:=by lia
  rcases hk with rfl|rfl|rfl
  .exact⟨1,by lia,by lia,rfl⟩
  .exact⟨8,by lia,by lia,rfl⟩
  .exact⟨2,by lia,by lia,rfl⟩
 obtain⟨cs,C2,e2,cl,hc,hB2⟩:=ajz (j:=j+3) gH (by lia:0<=size) s1
 have hj:=ajC (cs:=cs) (by lia);have hz0:=agI (l:=cs) (by lia) (by lia) hc
 obtain⟨z0,amN⟩:∃z,z=Txt.join (bM "") (cs.map λc=>⟨#[c]⟩):=⟨_,rfl⟩
 rw[<-amN] at hj hz0
 obtain⟨k3,C3,e3,a3,b3,hB3⟩:=fM (m:=3) hB2 (by decide) (by decide)
 obtain⟨z1,C4,t4,hz1,qI⟩:∃z1 C4,je (vZ (gk (aP lG (aC (bR cG (aG (aZ 0) (aG (aL (.int 3)) aW)))) (aC (aL (.int 0))))) (gk (aP kj (aO 3) (aC (eG aW))))) (dU 6 (aP dj (aC (rK (aC (aP bF (aO 3) (aC (bR cG (aG (aZ 0) (aG (dM pB (cX (aO 3) dR)) aW)))))) tW (rJ (aC (aL (.int 7)))))) (aC (aP bF (aO 2) (aC (bR cG (aG (aZ 0) (aG (aL (.int 26)) aW)))))))) ju [aa (.ce b),v1,aa (.im (.str abc)),aa (.ow (.list (zs.map .str))),v4,aa (.im (.int size)),aa (.im (.str z0))] C2
   =aa (.nx,[aa (.ce b),v1,aa (.im (.str abc)),aa (.ow (.list (zs.map .str))),v4,aa (.im (.int size)),aa (.im (.str z1))],C4)/\nameB z1=aq/\Bf L C4 b j:=by
  have ne:=ne_nil zs hzs;by_cases hk:k3=0
  .subst hk;cases zs with
   |nil=>
    rw[pY] at ne
    exact⟨z0,C3,by simp_arith[e3,ne,Mq],hz0,hB3.mono (rN _ 2)⟩
   |cons y ys=>
    rw[cL] at hl
    obtain⟨k5,C5,e5,a5,b5,wU⟩:=fM (m:=(ys.length:Int)+1) hB3 (by lia) (by lia)
    obtain⟨k6,C6,e6,a6,b6,uX⟩:=fM (m:=26) wU (by decide) (by decide)
    obtain⟨x,mx,_,ix⟩:=aiZ (zs:=y::ys) a5 (by rw[cL];lia)
    have nx:=hzs x mx;have n8:=(Py nx).2.1;have c7:=Px x;have h1:(x.length<=1000000)=True:=eq_true (by lia);have h2:dj (.str (Txt.slice x aj (aa 7))) (.str ⟨#[97+k6.toNat]⟩)=aa (.im (.str (kI x k6.toNat))):=aY (by show _+1<=1000000;lia)
    refine⟨kI x k6.toNat,C6,?_,Xy nx (by lia),uX⟩
    rw[cB] at ne ix⊢;have ix2:=ix;unfold bF at ix2;have e5':cG [.ce b,.im (.int ((ys.length+1:Nat):Int))] C3=aa (.im (.int k5),C5):=e5;simp_arith[e3,ne,Gy,e5',ix2,bF,letters k6 a6 b6,e6,rK,tW,rJ,Bv,h1,h2]
  .have hk':(k3==0)=aB:=beq_eq_false_iff_ne.mpr hk
   exact⟨z0,C3,by simp_arith[e3,hk'],hz0,hB3.mono (rN _ 2)⟩
 obtain⟨k,hk,hnew⟩:=ahO z1 hl
 have n8:=(Py hz1).2.1;generalize hcs:z1::(dX 26).map (kI z1)=ca;have hlc:ca.length=27:=by rw[<-hcs];simp
 have mem:kI z1 k∈ca.filter λo=>decide (o∉zs):=rO.mpr ⟨by rw[<-hcs];exact dg _ (dW.mpr ⟨k,ud.mpr hk,rfl⟩),fP hnew⟩
 cases hf:ca.filter λo=>decide (o∉zs) with
 |nil=>rw[hf] at mem;cases mem
 |cons z' r=>
  have mz:z'∈ca.filter λo=>decide (o∉zs):=by rw[hf];exact cV
  obtain⟨m1,m2⟩:=rO.mp mz
  refine gg ⟨z',C4,aa (.im (.int size)),aa (.im (.str z1)),?_,?_,of_decide_eq_true m2,qI⟩
  .have f1:=ajA (C:=C4) n8;have f2:=ajB (C:=C4) (cs:=ca) (zs:=zs);rw[hf] at f2;have f3:dj (.list [.str z1]) (.list (((dX 26).map (kI z1)).map .str))=aa (.ow (.list (ca.map .str))):=by
    rw[<-hcs];exact add_l (xs:=[.str z1]) (by simp)
   have lf:(z'::r).length<=27:=by rw[<-hf,<-hlc];exact Gk _ _
   rw[cL] at lf;have g1:((dX 26).length<=1000000)=True:=eq_true (by simp);have g2:(r.length+1<=1000000)=True:=eq_true (by lia);have g3:(zs.length<1000000)=True:=eq_true (by lia);have g4:=Ot (z'::r);have g5:(size.toNat<=1000000)=True:=eq_true (by lia);rw[cB] at f2 g4;simp_arith[Hs,e1,es,J7,kW,wD (m:=size) (by lia) (by lia),cl,W6,e2,g5,hj,↓t4,f1,f2,f3,g1,g2,g3,g4,mG,tH,j4]
  .rw[<-hcs] at m1;rcases bI.mp m1 with rfl|m1
   .exact hz1
   .obtain⟨i,hi,rfl⟩:=dW.mp m1
    exact Xy hz1 (ud.mp hi)
theorem ah1{C:Ce}{b L j:Nat}{m:Int}(h:Bf L C b (j+240))(h0:0<=m)(h1:m<=20):
  ∃(zs:List Str)(C':Ce),Iw [.ce b,.im (.int m)] C=aa (.ow (.list (zs.map .str)),C')/\Names zs/\zs.length=m.toNat/\Bf L C' b j:=by
 refine hide λGG gg=>?_
 obtain⟨env',C',e,zs,v4,v5,v6,he,hl,hN,hB⟩:=oU (g:=cQ 4) (body:=Hs) (its:=lH 0 m.toNat) (env:=[aa (.ce b),aa (.im (.int m)),aa (.im (.str abc)),aa (.ow (.list [])),aj,aj,aj]) (C:=C)
  (λi env C1=>∃(zs:List Str)(v4 v5 v6:Option Vl),env=[aa (.ce b),aa (.im (.int m)),aa (.im (.str abc)),aa (.ow (.list (zs.map .str))),v4,v5,v6]/\zs.length=i/\Names zs/\Bf L C1 b (j+12*(20-i)))
  ⟨[],aj,aj,aj,rfl,rfl,⟨mQ,λ_ m=>(nomatch m)⟩,h⟩ (λi d env C1 hd hI=>by
   obtain⟨zs,v4,v5,v6,rfl,hl,hN,hB⟩:=hI
   obtain⟨rfl,hi⟩:=vK hd
   refine hide λGG gg=>?_
   rw[yF (j) 12 (by lia:i<20)] at hB
   obtain⟨z,C2,w5,w6,e,nz,nm,hB2⟩:=ajD (v1:=aa (.im (.int m))) (v4:=aa (.im (.int (0+i)))) (v5:=v5) (v6:=v6) hB hN.2 (by lia)
   refine gg ⟨_,.nx,_,C2,rfl,e,.inl rfl,zs++[z],_,w5,w6,rfl,by simp[hl],⟨?_,λy hy=>?_⟩,hB2⟩
   .rw[jZ]
    refine⟨hN.1,by simp,λx hx y hy e=>?_⟩
    rw[fQ.mp hy] at e;exact nm (e▸hx)
   .rcases cF.mp hy with hy|hy
    .exact hN.2 y hy
    .rw[fQ.mp hy];exact nz)
 rw[xU] at hl hB;subst he;refine gg ⟨zs,C',lA [aa (.ce b),aa (.im (.int m)),aj,aj,aj,aj,aj] rfl rfl ?_ rfl (h.eq hB),hN,hl,hB.mono (rN _ _)⟩;simp_arith[PL,eY,kW,wD (m:=m) (by lia) (by lia),e]
theorem ah2{C:Ce}{b L j:Nat}{zs:List Str}(h:Bf L C b (j+10))(hz:8<=zs.length):
  ∃(ps:List (Str×Str))(C':Ce),Iz [.ce b,.im (.list (zs.map .str))] C=aa (.ow (.list (ps.map eV)),C')/\jh zs ps/\1<=ps.length/\ps.length<=8/\Bf L C' b j:=by
 refine hide λGG gg=>?_
 obtain⟨m,C1,e1,a1,b1,gH⟩:=Dp (m:=8) (j:=j+8) h (by decide) (by decide)
 obtain⟨M,hM,M1,M8⟩:∃M:Int,(if m>1 then m else 1)=M/\1<=M/\M<=8:=⟨_,rfl,by split<;>lia,by split<;>lia⟩
 obtain⟨env',C',e,ps,v3,he,hl,hP,hB⟩:=oU (g:=cQ 3) (body:=Nm) (its:=lH 0 M.toNat) (env:=[aa (.ce b),aa (.im (.list (zs.map .str))),aa (.ow (.list [])),aj]) (C:=C1)
  (λi env C2=>∃(ps:List (Str×Str))(v3:Option Vl),env=[aa (.ce b),aa (.im (.list (zs.map .str))),aa (.ow (.list (ps.map eV))),v3]/\ps.length=i/\jh zs ps/\Bf L C2 b (j+(8-i)))
  ⟨[],aj,rfl,rfl,(λi x e=>by simp at e),gH⟩ (λi d env C2 hd hI=>by
   obtain⟨ps,v3,rfl,hl,hP,hB⟩:=hI
   obtain⟨rfl,hi⟩:=vK hd
   refine hide λGG gg=>?_
   rw[aaS (j) (by lia:i<8)] at hB
   obtain⟨k,C3,e2,a2,b2,hB2⟩:=fM (m:=0+(i:Int)+1) hB (by lia) (by lia)
   obtain⟨z,_,hz1,iz⟩:=qi (zs:=zs) (k:=0+(i:Int)) (by lia) (by lia)
   have hz2:zs[ps.length]?=aa z:=by rw[hl];rw[show((0:Int)+(i:Int)).toNat=i by lia] at hz1;exact hz1
   obtain⟨y,my,hy1,iy⟩:=qi (zs:=bM ""::ps.map (·.1)) (k:=k) a2 (by rw[cL,bh,hl];lia)
   have hy2:y=bM ""\/∃j,j<ps.length/\zs[j]?=aa y:=by
    rcases bI.mp my with rfl|my
    .exact .inl rfl
    .obtain⟨x,hx,rfl⟩:=dW.mp my
     obtain⟨j,hj,rfl⟩:=t8 hx
     exact .inr ⟨j,hj,(hP j ps[j] (gJ hj)).1⟩
   have t1:=Ou (fe:=WK) (C:=C2) (ps:=ps) rfl;have t2:dj (.list [.str (bM "")]) (.list ((ps.map (·.1)).map .str))=aa (.ow (.list ((bM ""::ps.map (·.1)).map .str))):=add_l (xs:=[.str (bM "")]) (by rw[bh,bh];show 1+ps.length<=_;lia);have g1:(ps.length<=1000000)=True:=eq_true (by lia);have g2:(ps.length<1000000)=True:=eq_true (by lia);refine gg ⟨_,.nx,[aa (.ce b),aa (.im (.list (zs.map .str))),aa (.ow (.list ((ps++[(z,y)]).map eV))),aa (.im (.int (0+i)))],C3,rfl,?_,.inl rfl,ps++[(z,y)],_,rfl,by simp[hl],hP.snoc hz2 hy2,hB2⟩;rw[cB] at iy t2;simp_arith[Nm,iz,t1,t2,g1,g2,e2,iy,mG,tH,j4];rfl)
 rw[xU] at hl hB;subst he;refine gg ⟨ps,C',lA [aa (.ce b),aa (.im (.list (zs.map .str))),aj,aj] rfl rfl ?_ rfl (h.eq hB),hP,by lia,by lia,hB.mono (rN _ _)⟩;simp_arith[PN,eY,kW,e1,Aq,hM,wD (m:=M) (by lia) (by lia),e]
theorem aan{b L j:Nat}{C:Ce}(h:Bf L C b (j+2)):
  ∃k m t C1 C',cG [.ce b,.im (.int 2)] C=aa (.im (.int k),C1)/\dF [mV 9,.int 3] k=aa (.int m)/\cG [.ce b,.im (.int m)] C1=aa (.im (.int t),C')/\1<=1+t/\1+t<=9/\Bf L C' b j:=by
 obtain⟨k,C1,e1,a1,b1,gH⟩:=fM (m:=2) h (by decide) (by decide)
 obtain⟨m,m0,m9,em⟩:∃m:Int,3<=m/\m<=9/\dF [mV 9,.int 3] k=aa (.int m):=by
  have hk:k=0\/k=1:=by lia
  rcases hk with rfl|rfl
  .exact⟨9,by lia,by lia,rfl⟩
  .exact⟨3,by lia,by lia,rfl⟩
 obtain⟨t,C2,e2,a2,b2,hB2⟩:=fM (m:=m) gH (by lia) (by lia)
 exact⟨k,m,t,C1,C2,e1,em,e2,by lia,by lia,hB2⟩
theorem af6{C:Ce}{b L j:Nat}{num:Int}{zs own:List Str}{ps rk lv ru env}(hE:HE b zs ps own rk lv ru env)(h:Bf L C b (j+20))(h9:zs.length=9)(ho:0<own.length)(ho8:own.length<=8)(hnum:0<=num/\num<=2000)(hl:rk.length<1000):
  ∃r e1 env' C',cQ 7 (.int num) env=aa e1/\Hw e1 C=aa (.nx,env',C')/\HE b zs ps own (rk++[r]) lv ru env'/\Q6 zs own r/\r.1=num/\Bf L C' b j:=by
 cases hE with
 |mk v7 v8 v9 v10 v11 dh cJ tY tZ qF qG n6=>
 refine hide λGG gg=>?_
 obtain⟨d1,C1,e1,a1,b1,gH⟩:=JW (j:=j+16) h
 obtain⟨d2,C2,e2,a2,b2,hB2⟩:=JW (j:=j+12) gH
 obtain⟨lo,hi,es,h1,h2,h3⟩:=abk d1 d2
 have x1:0<=lo:=by lia
 have x2:hi<=99999:=by lia
 obtain⟨k1,C3,e3,a3,b3,hB3⟩:=fM (m:=9) hB2 (by decide) (by decide)
 obtain⟨who,m1,_,i1⟩:=qi (zs:=zs) a3 (by lia)
 obtain⟨k2,C4,e4,a4,b4,qI⟩:=fM (m:=own.length) hB3 (by lia) (by lia)
 obtain⟨wh,m2,_,i2⟩:=qi (zs:=own) a4 (by lia)
 obtain⟨k,m,t,C5,C6,e5,em,e6,t1,t9,uX⟩:=aan (j:=j+8) qI
 have g:(rk.length<1000000)=True:=eq_true (by lia);refine gg ⟨(num,who,1+t,wh,lo,hi),_,nG b zs ps own (rk++[(num,who,1+t,wh,lo,hi)]) lv ru (aa (.im (.int num))) (aa (.ow (.list [.int lo,.int hi]))) (aa (.im (.str who))) (aa (.im (.str wh))) v11 dh cJ tY tZ qF qG n6,C6,rfl,?_,.mk ..,⟨hnum,m1,⟨t1,t9⟩,m2,⟨x1,h1,x2⟩⟩,rfl,uX.mono (rN _ _)⟩;simp_arith[Hw,nG,e1,e2,es,e3,i1,e4,i2,e5,em,e6,g,mG,tH,j4];rfl
theorem afq{C:Ce}{b L j:Nat}{num:Int}{zs own:List Str}{ps rk lv ru env}(hE:HE b zs ps own rk lv ru env)(h:Bf L C b (j+20))(h9:zs.length=9)(hz:zs.Nodup)(ho:0<own.length)(ho8:own.length<=8)(hnum:0<=num/\num<=2000)(hl:lv.length<1000):
  ∃r e1 env' C',cQ 7 (.int num) env=aa e1/\Hv e1 C=aa (.nx,env',C')/\HE b zs ps own rk (lv++[r]) ru env'/\Qy zs own r/\r.1=num/\Bf L C' b j:=by
 cases hE with
 |mk v7 v8 v9 v10 v11 dh cJ tY tZ qF qG n6=>
 refine hide λGG gg=>?_
 obtain⟨d1,C1,e1,a1,b1,gH⟩:=JW (j:=j+16) h
 obtain⟨d2,C2,e2,a2,b2,hB2⟩:=JW (j:=j+12) gH
 obtain⟨lo,hi,es,h1,h2,h3⟩:=abk d1 d2
 have x1:0<=lo:=by lia
 have x2:hi<=99999:=by lia
 obtain⟨at_,C3,e3,c1,c2,hB3⟩:=fM (m:=9) hB2 (by decide) (by decide)
 obtain⟨t,C4,e4,c3,c4,qI⟩:=fM (m:=8) hB3 (by decide) (by decide)
 have q0:0<=(at_+1+t)%9:=GR _ (by lia);have q1:(at_+1+t)%9<9:=Gs _ (by lia);have q2:(at_+1+t)%9≠at_:=by lia
 obtain⟨tk,mt,ht,it⟩:=qi (zs:=zs) q0 (by lia)
 obtain⟨gv,mg,hg,ig⟩:=qi (zs:=zs) c1 (by lia)
 have hne:gv≠tk:=λz=>by
  subst z
  obtain⟨x1,y1⟩:=f9.mp ht
  obtain⟨x2,y2⟩:=f9.mp hg
  rcases Vk ((at_+1+t)%9).toNat at_.toNat with hlt|heq|hgt
  .exact uY.mp hz _ _ x1 x2 hlt (y1.trans y2.symm)
  .lia
  .exact uY.mp hz _ _ x2 x1 hgt (y2.trans y1.symm)
 obtain⟨k2,C5,e5,a5,b5,wU⟩:=fM (m:=own.length) qI (by lia) (by lia)
 obtain⟨wh,m2,_,i2⟩:=qi (zs:=own) a5 (by lia)
 obtain⟨mo,C6,e6,o1,o2,uX⟩:=Rt (j:=j+5) wU
 have g:(lv.length<1000000)=True:=eq_true (by lia);refine gg ⟨(num,gv,tk,wh,lo,hi,mo),_,nG b zs ps own rk (lv++[(num,gv,tk,wh,lo,hi,mo)]) ru (aa (.im (.int num))) (aa (.ow (.list [.int lo,.int hi]))) v9 (aa (.im (.str wh))) (aa (.im (.int at_))) (aa (.im (.str tk))) cJ tY tZ qF qG n6,C6,rfl,?_,.mk ..,⟨hnum,mg,mt,hne,m2,⟨x1,h1,x2⟩,⟨o1,o2⟩⟩,rfl,uX.mono (rN _ _)⟩;simp_arith[Hv,nG,e1,e2,es,e3,e4,mod_eq (i:=at_+1+t) (j:=9) (by lia),it,e5,i2,ig,e6,g,mG,tH,j4];rfl
theorem af7{C:Ce}{b L j:Nat}{zs own:List Str}{rs:List bN}{ps rk lv env}{num:au}(hE:HE b zs ps own rk lv (cu rs) env)(h:Bf L C b (j+40))(ho:0<own.length)(ho8:own.length<=8)(hl:rs.length<1000)(hr:∀r∈rs,nQ own r)(nd:(rs.map j7).Nodup):
  ∃(rs':List bN)(e1 env':En)(C':Ce),cQ 13 num env=aa e1/\Hu e1 C=aa (.nx,env',C')/\HE b zs ps own rk lv (cu rs') env'/\(∀r∈rs',nQ own r)/\(rs'.map j7).Nodup/\rs'.length<=rs.length+1/\Bf L C' b j:=by
 cases hE with
 |mk v7 v8 v9 v10 v11 dh cJ tY tZ qF qG n6=>
 refine hide λGG gg=>?_
 obtain⟨k2,C1,e1,a1,b1,gH⟩:=fM (m:=own.length) h (by lia) (by lia)
 obtain⟨wh,m1,_,i1⟩:=qi (zs:=own) a1 (by lia)
 obtain⟨sm,C2,e2,o1,o2,hB2⟩:=Rt (j:=j+35) gH
 obtain⟨m,C3,e3,m0,m6,hB3⟩:=Dp (m:=6) (j:=j+33) hB2 (by decide) (by decide)
 obtain⟨env',C4,e,ss,w16,w17,he,hl',hS,hB⟩:=oU (g:=cQ 16) (body:=Np) (its:=lH 0 m.toNat) (env:=nG b zs ps own rk lv (cu rs) v7 v8 v9 v10 v11 dh (aa (.im num)) (aa (.im (eE wh sm))) (aa (.ow (.list []))) qF qG n6) (C:=C3)
  (λi env C1=>∃(ss:List pD)(w16 w17:Option Vl),env=nG b zs ps own rk lv (cu rs) v7 v8 v9 v10 v11 dh (aa (.im num)) (aa (.im (eE wh sm))) (aa (.ow (.list (ss.map fG)))) w16 w17 n6/\ss.length=i/\(∀s∈ss,Q7 own s)/\Bf L C1 b (j+15+3*(6-i)))
  ⟨[],qF,qG,rfl,rfl,(λ_ m=>nomatch m),hB3⟩ (λi d env C1 hd hI=>by
   obtain⟨ss,w16,w17,rfl,hl,hS,hB⟩:=hI
   obtain⟨rfl,hi⟩:=vK hd
   refine hide λGG gg=>?_
   rw[yF (j+15) 3 (by lia:i<6)] at hB
   obtain⟨k,C2,e1,a1,b1,gH⟩:=fM (m:=2+own.length) hB (by lia) (by lia)
   obtain⟨pt,mp,_,ip⟩:=qi (zs:=bM ""::bM ""::own) (k:=k) a1 (by rw[cL,cL];lia)
   have t2:dj (.list [.str (bM ""),.str (bM "")]) (.list (own.map .str))=aa (.ow (.list ([jq (bM ""),.str (bM "")]++own.map .str))):=add_l (by rw[bh];show 2+own.length<=_;lia);rw[cB,cB] at ip
   obtain⟨q,qm,t,C5,C6,e5,em,e6,t1,t9,uX⟩:=aan gH
   have g:(ss.length<1000000)=True:=eq_true (by lia);refine gg ⟨_,.nx,nG b zs ps own rk lv (cu rs) v7 v8 v9 v10 v11 dh (aa (.im num)) (aa (.im (eE wh sm))) (aa (.ow (.list ((ss++[(1+t,pt)]).map fG)))) (aa (.im (.int (0+i)))) (aa (.im (.str pt))) n6,C6,rfl,?_,.inl rfl,ss++[(1+t,pt)],_,_,rfl,by simp[hl],λs hs=>?_,uX⟩
   .simp_arith[Np,nG,t2,e1,kY,jn,ip,e5,em,e6,g,mG,tH,j4];rfl
   .rcases cF.mp hs with hs|hs
    .exact hS s hs
    .rw[fQ.mp hs]
     refine⟨t1,t9,?_⟩
     rcases bI.mp mp with e|mp
     .exact .inl e
     .rcases bI.mp mp with e|mp
      .exact .inl e
      .exact .inr mp)
 rw[xU] at hl' hB;subst he;have s6:ss.length<=6:=by lia
 obtain⟨p1,p2,p3⟩:=aab hr (p:=wh) (s:=sm) (ss:=ss) ⟨m1,⟨o1,o2⟩,s6,hS⟩ nd
 have pk:=aaR rs wh sm ss;unfold eE at e pk;unfold dJ at pk;have g:((cu rs).length<1000000)=True:=eq_true (by unfold cu;rw[bh];lia);refine gg ⟨wF rs wh sm ss,_,nG b zs ps own rk lv (cu (wF rs wh sm ss)) v7 v8 v9 v10 v11 dh (aa (.im num)) (aa (.im (eE wh sm))) (aa (.ow (.list (ss.map fG)))) w16 w17 n6,C4,rfl,?_,.mk ..,p1,p2,p3,hB.mono (by lia)⟩;simp only[nG] at e;simp_arith[Hu,nG,e1,i1,e2,eY,kW,e3,wD (m:=m) (by lia) (by lia),e,mW,rD,uA,pk,g,eE]
theorem ajE{en:En}{C:Ce}{rs:List bN}(h6:en[6]?=aa (aa (.ow (.dict (cu rs)))))(hl:rs.length<=10)(hn:(rs.map j7).Nodup):
  ∃rs':List bN,rs'.Perm rs/\jK (iB (aC (dM lY (cX (aO 6) dR)))) .one fL Ht [6] en C=aa (.ow (.list (rs'.map bT)),en,C):=by
 obtain⟨rs',p,e⟩:=aad rs hl
 refine⟨rs',p,?_⟩
 have g:(rs'.length<=1000000)=True:=eq_true (by rw[p.length_eq];lia);have key:iD .one fL Ht [aa (.im (.dict (cu rs)))] (rs'.map λr=>eE r.1 r.2.1) C=aa (rs'.map bT,C):=by
  have:=rY (T:=.one) (ft:=fL) (fe:=Ht) (fs:=[aa (.im (.dict (cu rs)))]) (C:=C) (λr:bN=>eE r.1 r.2.1) (λ_=>aq) bT (l:=rs') λr hr=>⟨[eE r.1 r.2.1],rfl,rfl,λ_=>⟨.im (bT r),[aa (.im (eE r.1 r.2.1)),aa (.im (.dict (cu rs)))],by
   have i:=abl (p.mem_iff.mp hr) hn;unfold eE at i⊢;have a:dj (.tuple [.str r.1,.int r.2.1]) (.tuple [dJ r.2.2])=aa (.im (bT r)):=RM (by show 2+1<=_;lia);simp_arith[dG,kY,jn,i,a],rfl⟩⟩
  rw[zj.mpr λ_ _=>rfl] at this;exact this
 simp_arith[h6,e,key,g,HW]
theorem ah3{C:Ce}{b L j:Nat}{zs:List Str}(h:Bf L C b (j+1536))(h9:zs.length=9)(hz:zs.Nodup):
  ∃(ps:List (Str×Str))(ht:iY)(C':Ce),IK [.ce b,.im (.list (zs.map .str))] C=aa (.im (.tuple [.list (ps.map eV),cU ht]),C')/\jh zs ps/\1<=ps.length/\qP zs ps ht/\Bf L C' b j:=by
 refine hide λGG gg=>?_
 obtain⟨ps,C1,e1,hP,p1,p8,gH⟩:=ah2 (zs:=zs) (j:=j+1526) h (by lia)
 have f1:=Ou (fe:=WL) (C:=C1) (ps:=ps) rfl;have g1:(ps.length<=1000000)=True:=eq_true (by lia)
 obtain⟨own,Fe⟩:∃own,own=ps.map (·.1):=⟨_,rfl⟩
 have ol:own.length=ps.length:=by rw[Fe,bh]
 rw[<-Fe] at f1
 obtain⟨m2,C2,e2,a2,b2,hB2⟩:=Dp (m:=20) (j:=j+1524) gH (by decide) (by decide)
 obtain⟨Ub,C3,e3,a3,r3,u3,hB3⟩:=Xa (m:=m2) (j:=j+1324) hB2 a2 (by lia)
 obtain⟨amO,C4,e4,rk,hE4,Lf,hR4,qI⟩:=oU (g:=cQ 7) (body:=Hw) (its:=Ub.map .int) (env:=nG b zs ps own [] [] [] aj aj aj aj aj aj aj aj aj aj aj aj) (C:=C3)
  (λi env C'=>∃rk:List pC,HE b zs ps own rk [] [] env/\rk.map (·.1)=Ub.take i/\(∀r∈rk,Q6 zs own r)/\Bf L C' b (j+924+20*(20-i)))
  ⟨[],.mk ..,rfl,(λ_ m=>nomatch m),hB3⟩ (λi d env C1 hd hI=>by
   obtain⟨rk,hE,hm,hR,hB⟩:=hI
   have aoE:i<20:=by have:=(f9.mp hd).1;rw[bh] at this;lia
   rw[yF (j+924) 20 (by lia:i<20)] at hB
   obtain⟨x,rfl,hx,mx,hi⟩:=aac hd
   refine hide λGG gg=>?_
   have hrk:rk.length=i:=by
    have:=congrArg qM hm;rw[bh,vf] at this;lia
   obtain⟨r,e1,env',C2,g1,g2,Gf,r1,r2,gH⟩:=af6 (num:=x) hE hB h9 (by lia) (by lia) (r3 x mx) (by lia)
   refine gg ⟨e1,.nx,env',C2,g1,g2,.inl rfl,rk++[r],Gf,?_,λy hy=>?_,gH⟩
   .rw[j4,hm,take_snoc hx];show _++[r.1]=_;rw[r2]
   .rcases cF.mp hy with hy|hy
    .exact hR y hy
    .rw[fQ.mp hy];exact r1)
 rw[bh] at Lf qI;rw[Vw] at Lf;have hrk:rk.length=Ub.length:=by rw[<-Lf,bh]
 obtain⟨m5,C5,e5,a5,b5,wU⟩:=Dp (m:=16) (j:=j+922) (qI.mono (rN _ _)) (by decide) (by decide)
 obtain⟨Uc,C6,e6,a6,r6,u6,uX⟩:=Xa (m:=m5) (j:=j+722) wU a5 (by lia)
 obtain⟨amP,C7,e7,lv,hE7,Lg,hR7,hB7⟩:=oU (g:=cQ 7) (body:=Hv) (its:=Uc.map .int) (env:=amO) (C:=C6)
  (λi env C'=>∃lv:List ym,HE b zs ps own rk lv [] env/\lv.map (·.1)=Uc.take i/\(∀r∈lv,Qy zs own r)/\Bf L C' b (j+402+20*(16-i)))
  ⟨[],hE4,rfl,(λ_ m=>nomatch m),uX⟩ (λi d env C1 hd hI=>by
   obtain⟨rk,hE,hm,hR,hB⟩:=hI
   have aoF:i<16:=by have:=(f9.mp hd).1;rw[bh] at this;lia
   rw[yF (j+402) 20 (by lia:i<16)] at hB
   obtain⟨x,rfl,hx,mx,hi⟩:=aac hd
   refine hide λGG gg=>?_
   have hrk:rk.length=i:=by
    have:=congrArg qM hm;rw[bh,vf] at this;lia
   obtain⟨r,e1,env',C2,g1,g2,Gf,r1,r2,gH⟩:=afq (num:=x) hE hB h9 hz (by lia) (by lia) (r6 x mx) (by lia)
   refine gg ⟨e1,.nx,env',C2,g1,g2,.inl rfl,rk++[r],Gf,?_,λy hy=>?_,gH⟩
   .rw[j4,hm,take_snoc hx];show _++[r.1]=_;rw[r2]
   .rcases cF.mp hy with hy|hy
    .exact hR y hy
    .rw[fQ.mp hy];exact r1)
 rw[bh] at Lg hB7;rw[Vw] at Lg;have hlv:lv.length=Uc.length:=by rw[<-Lg,bh]
 obtain⟨m8,C8,e8,a8,b8,hB8⟩:=Dp (m:=10) (j:=j+400) (hB7.mono (rN _ _)) (by decide) (by decide)
 obtain⟨aoG,C9,e9,rs,hE9,hm9,hR9,hN9,hB9⟩:=oU (g:=cQ 13) (body:=Hu) (its:=lH 0 m8.toNat) (env:=amP) (C:=C8)
  (λi env C'=>∃rs:List bN,HE b zs ps own rk lv (cu rs) env/\rs.length<=i/\(∀r∈rs,nQ own r)/\(rs.map j7).Nodup/\Bf L C' b (j+40*(10-i)))
  ⟨[],hE7,bK 0,(λ_ m=>nomatch m),mQ,hB8⟩ (λi d env C1 hd hI=>by
   obtain⟨rs,hE,hm,hR,hN,hB⟩:=hI
   obtain⟨rfl,hi⟩:=vK hd
   rw[yF (j) 40 (by lia:i<10)] at hB
   obtain⟨rs',e1,env',C2,g1,g2,Gf,r1,r2,r3,gH⟩:=af7 (num:=.int (0+i)) hE hB (by lia) (by lia) (by lia) hR hN
   exact⟨e1,.nx,env',C2,g1,g2,.inl rfl,rs',Gf,by lia,r1,r2,gH⟩)
 rw[xU] at hm9 hB9;cases hE4;cases hE7;cases hE9 with
 |mk v7 v8 v9 v10 v11 dh cJ tY tZ qF qG n6=>
 obtain⟨rs',q1,e10⟩:=ajE (C:=C9) (en:=nG b zs ps own rk lv (cu rs) v7 v8 v9 v10 v11 dh cJ tY tZ qF qG n6) rfl (by lia) hN9
 obtain⟨ps',q2,e11⟩:=afX ps p8
 refine gg ⟨ps,⟨ps',rk,lv,rs'⟩,C9,lA [aa (.ce b),aa (.im (.list (zs.map .str))),aj,aj,aj,aj,aj,aj,aj,aj,aj,aj,aj,aj,aj,aj,aj,aj,aj] rfl rfl ?_ rfl (h.eq hB9),hP,p1,⟨q2,p8,?_,?_,?_,by rw[<-Fe];exact hR4,?_,by rw[<-Fe];exact hR7,?_,?_,?_⟩,hB9.mono (rN _ _)⟩
 .simp only[nG,pY] at e4 e7 e9 e10;simp_arith[PX,e1,f1,g1,ol,DP,e2,e3,eY,e4,e5,e6,e7,kW,e8,wD (m:=m8) (by lia) (by lia),e9,↓e10,e11,mW];rfl
 .show rk.length<=20;lia
 .show lv.length<=16;lia
 .show rs'.length<=10;rw[q1.length_eq];lia
 .show(rk.map (·.1)).Pairwise _
  rw[Lf];exact u3
 .show(lv.map (·.1)).Pairwise _
  rw[Lg];exact u6.imp λh=>Int.ne_of_lt h
 .rw[<-Fe];exact λr hr=>hR9 r (q1.mem_iff.mp hr)
 .exact(q1.map j7).nodup_iff.mpr hN9
theorem Y8{C:Ce}:∀(l q:List (Str×Str)),((q++l).map (·.1)).Nodup->(q++l).length<=8->wz (.many 2) fL My Mz [] (l.map eV) (cZ (jc q)) C=aa (cZ (jc (q++l)),C)
 |[],q,_,_=>by rw[pU];rfl
 |x::l,q,nd,h8=>by
  have ih:=Y8 (C:=C) l (q++[x]) (by rw[oG];exact nd) (by rw[oG];exact h8);have hx:x.1∉(jc q).map (·.1):=by
   unfold jc;rw[gM];show x.1∉q.map (·.1);rw[j4,jZ] at nd;exact λhm=>nd.2.2 _ hm _ cV rfl
  have hl:(cZ (jc q)).length<eZ:=by
   unfold cZ jc;rw[lO] at h8;rw[bh,bh];show _<1000000;lia
  rw[cB];unfold wz;rw[show uV (.many 2) (eV x)=aa [.str x.1,.str x.2] from rfl]
  show(if(cZ (jc q)).length<eZ then wz (.many 2) fL My Mz [] (l.map eV) (mH dD (.inr x.1) (.str x.1) (.str x.2) (cZ (jc q))) C else aj)=_
  rw[aY hl,YZ hx];have e:jc q++[(x.1,.str x.2)]=jc (q++[x]):=by unfold jc;rw[j4];rfl
  rw[e,ih,oG];rfl
theorem ajF{C:Ce}{hs:Option Vl}{q ps:List (Str×Str)}(hl:∀z,gj q z=gj ps z):∀{z:Str}{os:List Str},Over (gj ps) z os->∀(n:Nat)(acc:List Str),os.length<n->acc.length+os.length<1000->
  ∃z',sY VH VJ n [hs,aa (.im (.str z)),aa (.ow (.dict (cZ (jc q)))),aa (.ow (.list (acc.map .str)))] C=aa (.nx,[hs,aa (.im (.str z')),aa (.ow (.dict (cZ (jc q)))),aa (.ow (.list ((acc++os).map .str)))],C):=by
 have hin:∀z,Bj (.str z) (.dict (cZ (jc q)))=aa (.im (.bool (gj ps z).isSome)):=λz=>by
  show((nW (cZ (jc q)) (.str z)).map (·.isSome)).map (λb=>Vl.im (.bool b))=_
  rw[Y5,hl];cases gj ps z<;>rfl
 intro z os ho;induction ho with
 |@stop z h=>
  intro n acc hn ha;cases n with
  |zero=>exact absurd hn (VG _)
  |succ n=>
   refine⟨z,?_⟩
   unfold sY;simp_arith[hin,h,Option.isSome_none,pU]
 |@step z y r h _ ih=>
  intro n acc hn ha;cases n with
  |zero=>exact absurd hn (VG _)
  |succ n=>
   rw[cL] at hn ha
   obtain⟨z',e⟩:=ih n (acc++[z]) (by lia) (by rw[lO];show acc.length+1+_<_;lia)
   refine⟨z',?_⟩
   have g:(acc.length<1000000)=True:=eq_true (by lia);have i:bF (.dict (cZ (jc q))) (.str z)=aa (.im (.str y)):=by
    unfold bF qD;simp only[Y5,hl,h,jA]
   simp only[j4,cB,pY,oG,kY,jn] at e⊢;unfold sY;simp_arith[hin,h,adJ,g,mG,tH,i,e]
theorem aeS{C:Ce}{zs:List Str}{ps:List (Str×Str)}{ht:iY}(hN:Names zs)(hP:jh zs ps)(hG:qP zs ps ht)(z:Str):
  Hg [.im (cU ht),.im (.str z)] C=aa (.ow (.list ((up ps z).map .str)),C):=by
 have nd:=zN hN hP;have nd':(ht.ps.map (·.1)).Nodup:=(hG.parts.map (·.1)).nodup_iff.mpr nd;have hL:ht.ps.length<=8:=by rw[hG.parts.length_eq];exact hG.p8
 have t:=Y8 (C:=C) ht.ps [] nd' hL;rw[show cZ (jc [])=[] from rfl,jn] at t;have hul:=aaQ ps z;have h8:=hG.p8
 obtain⟨z',e⟩:=ajF (C:=C) (hs:=aa (.im (cU ht))) (afW hG.parts nd) (Qz hN hP z) abg [] (by show _<100000;lia) (by show 0+_<1000;lia)
 rw[pY,jn] at e;refine lA [aa (.im (cU ht)),aa (.im (.str z)),aj,aj] rfl rfl ?_ rfl rfl;simp_arith[Nf,Gb,t,Y4,TX,e]
theorem akX{C:Ce}{ns:List Int}{k:Int}(k0:0<=k)(k9:k<=9):∃x y:Int,JT [.sc ns,.im (.int k)] C=aa (.ow (.list [.int x,.int y,.int 0]),C)/\0<=x/\0<=y/\y<=3000000000:=by
 obtain⟨c,hc⟩:∃c:Int,(bU (dU 2 (aL (.int 0))) (je (gk (aP Et (aO 1) (aC (wu 0)))) (dU 2 (Fb 0 (aO 1))) ju)) [aa (.sc ns),aa (.im (.int k)),aj] C=aa (.nx,[aa (.sc ns),aa (.im (.int k)),aa (.im (.int c))],C):=by
  by_cases h:k<ns.length
  .obtain⟨c,hc,_⟩:=Q5 (xs:=ns) k0 h
   exact⟨c,by simp_arith[wu,Fb,h,hc]⟩
  .exact⟨0,by simp_arith[wu,h]⟩
 simp only[bU,dU,aL,List.set_cons_zero,List.set_cons_succ] at hc;have a0:0<=(if c<0 then -c else c):=by split<;>lia
 obtain⟨a,hA⟩:∃a,(if c<0 then -c else c)=a:=⟨_,rfl⟩
 rw[hA] at a0
 obtain⟨j,hj,j01⟩:∃j:Int,(if decide (1000000000000000000<=a)=aq then(1:Int) else 0)=j/\(j=1\/j=0):=⟨_,rfl,by split;exact .inl rfl;exact .inr rfl⟩
 have pw:nR (.int 10) (.int 18)=aa (.im (.int 1000000000000000000)):=rfl;have m0:0<=c%2147483629:=GR _ (by lia);have m1:c%2147483629<2147483629:=Gs _ (by lia)
 refine⟨a*j,c%2147483629+7919*k+11,lA [aa (.sc ns),aa (.im (.int k)),aj] rfl rfl ?_ rfl rfl,Int.mul_nonneg a0 (by lia),by lia,by lia⟩
 simp_arith[Ro,↓hc,Ej,hA,pw,J4,hj,mul_eq (i:=a) (j:=j) (.inr (by lia)),mod_eq (i:=c) (j:=2147483629) (by lia),mul_eq (i:=7919) (j:=k) (.inl (by lia))]
theorem Ec{α:Type}{D:α->au}(h:∀a,jl (D a)=aq):∀l:List α,gP (l.map D)=aq
 |[]=>rfl
 |a::l=>by
  show(jl (D a)&&gP (l.map D))=aq
  rw[h a,Ec h l];rfl
def iZ(ru:List bN):List Str->List bN
 |[]=>[]
 |z::os=>if ru.filter (λr=>decide (r.1=z))=[] then iZ ru os else ru.filter λr=>decide (r.1=z)
def qy:List bN->Option bN
 |[]=>aj
 |r::l=>match qy l with
  |none=>aa r
  |some y=>if r.2.1<y.2.1 then aa y else aa r
def o8(ru:List bN)(os:List Str)(z:Str)(bB:Int):List pD:=match qy ((iZ ru os).filter λr=>decide (r.2.1<=bB)) with
 |none=>[]
 |some r=>r.2.2.map λs=>(s.1,if s.2=bM "" then z else s.2)
def jy(r:bN):au:=.tuple [.int r.2.1,dJ r.2.2]
theorem CV(ru:List bN):∀os,∃z,iZ ru os=[]\/iZ ru os=ru.filter λr=>decide (r.1=z)
 |[]=>⟨bM "",.inl rfl⟩
 |z::os=>by
  rw[iZ];split
  .exact CV ru os
  .exact⟨z,.inr rfl⟩
theorem agV(ru:List bN)(os:List Str):(iZ ru os).length<=ru.length:=by
 obtain⟨z,h|h⟩:=CV ru os
 .rw[h];exact iI _
 .rw[h];exact Gk _ _
theorem ae9{ru:List bN}(h:(ru.map λr=>(r.1,r.2.1)).Nodup)(os:List Str):((iZ ru os).map (·.2.1)).Nodup:=by
 obtain⟨z,e|e⟩:=CV ru os
 .rw[e];exact mQ
 .rw[e];have h2:((ru.filter λr=>decide (r.1=z)).map λr=>(r.1,r.2.1)).Nodup:=h.sublist (List.filter_sublist.map _);have e2:(ru.filter λr=>decide (r.1=z)).map (λr=>(r.1,r.2.1))=((ru.filter λr=>decide (r.1=z)).map (·.2.1)).map λb=>(z,b):=by
   rw[gM];refine BL λr hr=>?_
   have:=of_decide_eq_true (rO.mp hr).2
   show(r.1,r.2.1)=(z,r.2.1)
   rw[this]
  rw[e2] at h2;exact aov (λb=>(z,b)) (λa b hne e=>hne (by rw[e])) h2
theorem ah4{C:Ce}(ru:List bN)(z:Str):iD (.many 3) V1 V2 [aa (.im (.str z))] (ru.map bT) C=aa ((ru.filter λr=>decide (r.1=z)).map jy,C):=
 rY bT (λr=>decide (r.1=z)) jy λr _=>⟨[.str r.1,.int r.2.1,dJ r.2.2],rfl,by simp_arith[dG,kY,jn,Dl],λ_=>⟨.im (jy r),[aa (.im (.str r.1)),aa (.im (.int r.2.1)),aa (.im (dJ r.2.2)),aa (.im (.str z))],by simp_arith[dG,kY,jn,jy],rfl⟩⟩
theorem aaU(r:bN):jl (jy r)=aq:=by
 show(aq&&(gP (r.2.2.map fG)&&aq))=aq
 rw[zT];rfl
theorem Xb{C:Ce}{ht:iY}(h10:ht.rules.length<=10)(v1:Option Vl):∀(os:List Str)(v2 v3:Option Vl),∃fl env',iM (cQ 2) V3 (os.map .str) [aa (.im (cU ht)),v1,v2,v3] C=aa (fl,env',C)/\
  ((iZ ht.rules os=[]/\fl=.nx)\/(iZ ht.rules os≠[]/\fl=.rt (.ow (.list ((iZ ht.rules os).map jy)))))
 |[],v2,v3=>⟨_,_,rfl,.inl ⟨rfl,rfl⟩⟩
 |z::os,v2,v3=>by
  have t:=ah4 (C:=C) ht.rules z;have fl:(ht.rules.filter λr=>decide (r.1=z)).length<=10:=ir (Gk _ _) h10;have n:=Ec (D:=jy) aaU (ht.rules.filter λr=>decide (r.1=z));rw[iZ,cB];generalize ht.rules.filter (λr=>decide (r.1=z))=f at t fl n;cases f with
  |nil=>
   rw[aY rfl]
   obtain⟨fl,env',e,hh⟩:=Xb (C:=C) h10 v1 os (aa (.im (.str z))) (aa (.ow (.list [])))
   refine⟨fl,env',?_,hh⟩
   rw[pY] at t;unfold iM;simp_arith[t,gP,Mq,e]
  |cons a r=>
   rw[bw (by simp)];have g:(r.length+1<=1000000)=True:=eq_true (by rw[cL] at fl;lia)
   refine⟨_,[aa (.im (cU ht)),v1,aa (.im (.str z)),aa (.ow (.list ((a::r).map jy)))],?_,.inr ⟨by simp,rfl⟩⟩
   rw[cB] at t n⊢;unfold iM;simp_arith[t,n,Gy,g]
theorem afr{C:Ce}{zs:List Str}{ps:List (Str×Str)}{ht:iY}(hN:Names zs)(hP:jh zs ps)(hG:qP zs ps ht)(z:Str):
  Hr [.im (cU ht),.im (.str z)] C=aa (.ow (.list ((iZ ht.rules (up ps z)).map jy)),C):=by
 have p:=aeS (C:=C) hN hP hG z
 obtain⟨fl,env',e,hh⟩:=Xb (C:=C) hG.zb (aa (.im (.str z))) (up ps z) aj aj
 refine lA [aa (.im (cU ht)),aa (.im (.str z)),aj,aj] rfl rfl ?_ rfl rfl;rcases hh with⟨h1,rfl⟩|⟨h1,rfl⟩
 .rw[h1,pY];simp_arith[Hq,eY,p,e]
 .simp_arith[Hq,eY,p,e]
theorem Y9:∀l:List bN,Av (l.map jy)=aa (l.map λr=>(r.2.1,[dJ r.2.2]))
 |[]=>rfl
 |r::l=>by
  show((L2.pairD (jy r)).bind λx=>(Av (l.map jy)).map λt=>x::t)=_
  rw[Y9 l];rfl
theorem aaV:∀l:List bN,uB (l.map λr=>(r.2.1,[dJ r.2.2]))=(qy l).map λr=>(r.2.1,[dJ r.2.2])
 |[]=>rfl
 |r::l=>by
  rw[cB,uB,aaV l,qy];cases qy l with
  |none=>rfl
  |some y=>
   simp only[jA];split<;>rfl
theorem Ja:∀(r:bN)(l:List bN),∃y,qy (r::l)=aa y/\y∈r::l
 |r,[]=>⟨r,rfl,cV⟩
 |r,a::l=>by
  obtain⟨y,e,hy⟩:=Ja a l
  rw[qy,e];simp only;split
  .exact⟨y,rfl,dg _ hy⟩
  .exact⟨r,rfl,cV⟩
theorem Za{C:Ce}{zs:List Str}{ps:List (Str×Str)}{ht:iY}(hN:Names zs)(hP:jh zs ps)(hG:qP zs ps ht)(z:Str)(bB:Int):
  zQ [.im (cU ht),.im (.str z),.im (.int bB)] C=aa (.im (dJ (o8 ht.rules (up ps z) z bB)),C):=by
 have p:=afr (C:=C) hN hP hG z;have t:iD (.many 2) Wa Wb [aa (.im (.int bB))] ((iZ ht.rules (up ps z)).map jy) C=aa (((iZ ht.rules (up ps z)).filter λr=>decide (r.2.1<=bB)).map jy,C):=
  rY jy (λr=>decide (r.2.1<=bB)) jy λr _=>⟨[.int r.2.1,dJ r.2.2],rfl,by simp_arith[dG,kY,jn],λ_=>⟨.im (jy r),[aa (.im (.int r.2.1)),aa (.im (dJ r.2.2)),aa (.im (.int bB))],by simp_arith[dG,kY,jn,jy],rfl⟩⟩
 have nd:(((iZ ht.rules (up ps z)).filter λr=>decide (r.2.1<=bB)).map (·.2.1)).Nodup:=(ae9 hG.unlike (up ps z)).sublist (List.filter_sublist.map _);have hl:((iZ ht.rules (up ps z)).filter λr=>decide (r.2.1<=bB)).length<=10:=ir (Gk _ _) (ir (agV _ _) hG.zb);have n:=Ec (D:=jy) aaU ((iZ ht.rules (up ps z)).filter λr=>decide (r.2.1<=bB));have hm:∀r∈(iZ ht.rules (up ps z)).filter (λr=>decide (r.2.1<=bB)),r.2.2.length<=6:=λr hr=>by
  have hr:=(rO.mp hr).1
  obtain⟨y,e|e⟩:=CV ht.rules (up ps z)
  .rw[e] at hr;exact nomatch hr
  .rw[e] at hr;exact(hG.rules r (rO.mp hr).1).many
 unfold o8
 generalize(iZ ht.rules (up ps z)).filter (λr=>decide (r.2.1<=bB))=f at t nd hl n hm
 refine lA [aa (.im (cU ht)),aa (.im (.str z)),aa (.im (.int bB)),aj,aj,aj] rfl rfl ?_ rfl rfl;cases f with
 |nil=>
  rw[pY] at t;simp_arith[HH,p,t,gP,Mq];rfl
 |cons a r=>
  obtain⟨y,e,hy⟩:=Ja a r
  have y6:=hm y hy;have mx:JM [.list (jy a::r.map jy)]=aa (.im (.tuple [.int y.2.1,dJ y.2.2])):=by
   show((Av ((a::r).map jy)).bind λl=>if(l.map (·.1)).Nodup then(uB l).map (λx=>Vl.im (.tuple (.int x.1::x.2))) else aj)=_
   rw[Y9]
   show(if(((a::r).map λr=>(r.2.1,[dJ r.2.2])).map (·.1)).Nodup then _ else aj)=_
   rw[aY (by rw[gM];exact nd),aaV,e];rfl
  have g:(r.length+1<=1000000)=True:=eq_true (by rw[cL] at hl;lia);have t2:iD (.many 2) fL MT [aa (.im (.str z))] (y.2.2.map fG) C=aa ((y.2.2.map λs=>(s.1,if s.2=bM "" then z else s.2)).map fG,C):=by
   have:=rY (T:=.many 2) (ft:=fL) (fe:=MT) (fs:=[aa (.im (.str z))]) (C:=C) fG (λ_=>aq) (λs=>fG (s.1,if s.2=bM "" then z else s.2)) (l:=y.2.2) λs _=>by
    refine⟨[.int s.1,.str s.2],rfl,rfl,λ_=>⟨.im (fG (s.1,if s.2=bM "" then z else s.2)),[aa (.im (.int s.1)),aa (.im (.str s.2)),aa (.im (.str z))],?_,rfl⟩⟩
    by_cases e:s.2=bM ""
    .have d1:=fP e;rw[aY e];simp_arith[dG,kY,jn,Dl,d1,fG]
    .have d1:=jk e;rw[bw e];simp_arith[dG,kY,jn,Dl,d1,fG]
   rw[zj.mpr λ_ _=>rfl] at this;rw[gM];exact this
  have g2:(y.2.2.length<=1000000)=True:=eq_true (by lia);have n2:=Ec (D:=fG) (λ_=>rfl) (y.2.2.map λs=>(s.1,if s.2=bM "" then z else s.2));rw[e];rw[cB] at t n;have tp:mW [.list ((y.2.2.map λs=>(s.1,if s.2=bM "" then z else s.2)).map fG)]=aa (.im (.tuple ((y.2.2.map λs=>(s.1,if s.2=bM "" then z else s.2)).map fG))):=rfl;have rs:∀e f:En,rst (.im (.tuple [.int y.2.1,dJ y.2.2])) e f=e:=λe f=>by
   show(if(aq&&(gP (y.2.2.map fG)&&aq))=aq then e else _)=e
   rw[zT];rfl
  simp_arith[HH,p,t,n,Gy,g,↓mx,rs,dJ,t2,g2,n2,tp]
def uM:Nat->au->Bool
 |0,_=>aB
 |_+1,.int _=>aq
 |_+1,.str _=>aq
 |n+1,.list ds=>decide (ds.length<=1000)&&ds.all (uM n)
 |n+1,.tuple ds=>decide (ds.length<=1000)&&ds.all (uM n)
 |_+1,_=>aB
theorem X5{C:Ce}{f:FN}:∀(ds:List au),(∀d∈ds,f [.im d,.im d] C=aa (.im (.bool aq),C))->iD (.many 2) fL (W9 f) [] (kE ds ds) C=aa (cC ds.length (.bool aq),C)
 |[],_=>rfl
 |x::xs,h=>by
  have ih:=X5 xs λd m=>h d (dg _ m)
  have h1:=h x cV;rw[kE];unfold iD;rw[cL,t7];simp_arith[uV,fL,dG,pU,h1,ih]
theorem Qd{C:Ce}:∀(n:Nat)(d:au),uM n d=aq->uv n [.im d,.im d] C=aa (.im (.bool aq),C)
 |0,_,h=>by cases h
 |n+1,d,h=>by
  cases d<;>first|cases h|skip
  .rename_i i;have e:decide (i=i)=aq:=fP rfl;refine Kc (k:=2) (n:=2) (en:=[aa (.im (.int i)),aa (.im (.int i))]) (e1:=[aa (.im (.int i)),aa (.im (.int i))]) rfl rfl ?_ rfl rfl;simp_arith[Ah,mJ,yD,uJ,nU,isNone,qX,Ef,e]
  .rename_i z;have e:decide (z=z)=aq:=fP rfl;refine Kc (k:=2) (n:=2) (en:=[aa (.im (.str z)),aa (.im (.str z))]) (e1:=[aa (.im (.str z)),aa (.im (.str z))]) rfl rfl ?_ rfl rfl;simp_arith[Ah,mJ,yD,uJ,nU,isNone,qX,Ef,e]
  all_goals
   rename_i ds;unfold uM at h;rw[iT] at h;have h1:(ds.length<=1000000)=True:=eq_true (by have:=of_decide_eq_true h.1;lia);have t:=X5 (C:=C) ds λd m=>Qd n d (jO.mp h.2 d m)
   have b:=afY ds.length;have e:decide ((ds.length:Int)=ds.length)=aq:=fP rfl
  .refine Kc (k:=2) (n:=2) (en:=[aa (.im (.list ds)),aa (.im (.list ds))]) (e1:=[aa (.im (.list ds)),aa (.im (.list ds))]) rfl rfl ?_ rfl rfl;simp_arith[Ah,mJ,yD,uJ,nU,isNone,qX,Kz,ai6,t,b.1,b.2,Gi,h1,e]
  .refine Kc (k:=2) (n:=2) (en:=[aa (.im (.tuple ds)),aa (.im (.tuple ds))]) (e1:=[aa (.im (.tuple ds)),aa (.im (.tuple ds))]) rfl rfl ?_ rfl rfl;simp_arith[Ah,mJ,yD,uJ,nU,isNone,qX,Kz,ai7 (rfl:ds.length=ds.length),t,b.1,b.2,Gi,h1,e]
def qJ(r:bN):au:=.tuple [eE r.1 r.2.1,dJ r.2.2]
theorem Nr:∀rs:List bN,pairsOf (rs.map qJ)=aa (cu rs)
 |[]=>rfl
 |r::rs=>by
  show(pairsOf (rs.map qJ)).map _=_
  rw[Nr rs];rfl
theorem ajG{rs:List bN}(h:(rs.map j7).Nodup):(rs.map λr=>[(xV r.1:Key),.inl r.2.1]).Nodup:=
 Vm.mpr ((Vm.mp h).imp λ{a b} h e=>h (by
  have e1:a.1=b.1:=by injection e with e1 _;injection e1
  have e2:a.2.1=b.2.1:=by injection e with _ e2;injection e2 with e2 _;injection e2
  show(a.1,a.2.1)=(b.1,b.2.1)
  rw[e1,e2]))
theorem agW{rs:List bN}(h:(rs.map j7).Nodup):JP [.list (rs.map qJ)]=aa (.ow (.dict (cu rs))):=by
 unfold JP;cases rs with
 |nil=>rfl
 |cons r rs=>
  have e1:JL [.list ((r::rs).map qJ)]=aj:=by
   show((pairsOf ((r::rs).map qJ)).bind λkvs=>(cg dD kvs).bind λks=>if ks.Nodup then aa (Vl.ow (.dict kvs)) else aj)=aj
   rw[Nr];rfl
  have e2:JN [.list ((r::rs).map qJ)]=aa (.ow (.dict (cu (r::rs)))):=by
   show((pairsOf ((r::rs).map qJ)).bind λkvs=>(cg gB kvs).bind λks=>if kvs≠[]/\ks.Nodup then aa (Vl.ow (.dict kvs)) else aj)=_
   rw[Nr]
   show((cg gB (cu (r::rs))).bind λks=>if cu (r::rs)≠[]/\ks.Nodup then aa (Vl.ow (.dict (cu (r::rs)))) else aj)=_
   rw[Jq];exact aY ⟨λz=>(by cases z),ajG h⟩
  rw[e1];exact e2
theorem amQ(r:bN):Bv aj (aa 2) (bT r)=aa (.im (eE r.1 r.2.1)):=rfl
theorem agX{C:Ce}(rs:List bN):iD .one fL Mp [] (rs.map bT) C=aa (rs.map qJ,C):=by
 have:=rY (T:=.one) (ft:=fL) (fe:=Mp) (fs:=[]) (C:=C) bT (λ_=>aq) qJ (l:=rs) λr _=>⟨[bT r],rfl,rfl,λ_=>⟨.im (qJ r),[aa (.im (bT r))],by
  simp_arith[dG,kY,jn,rK,rJ,tW,amQ];rfl,rfl⟩⟩
 rw[zj.mpr λ_ _=>rfl] at this;exact this
theorem ajH{s:pD}{n:Int}(h0:0<=n)(h3:n<3):Ri (.tuple [fG s]) (.int n)=aa (.im (dJ (cC n.toNat s))):=by
 obtain rfl|rfl|rfl:n=0\/n=1\/n=2:=by lia
 .rfl
 .rfl
 .rfl
theorem ajI(r:bN):jl (qJ r)=aq:=by
 show(aq&&(gP (r.2.2.map fG)&&aq))=aq
 rw[zT];rfl
abbrev BJ(b:Nat)(ht:iY)(rs:List bN)(own:List Str)(v4 v5:Option Vl):En:=[aa (.ce b),aa (.im (cU ht)),aa (.ow (.dict (cu rs))),aa (.ow (.list (own.map .str))),v4,v5]
theorem agY{C:Ce}{b L j:Nat}{ht:iY}{own own':List Str}{rs:List bN}{v4 v5:Option Vl}(h:Bf L C b (j+5))(sub:∀z∈own',z∈own)(h1:0<own'.length)(h8:own'.length<=8)(hl:rs.length<1000)(hr:∀r∈rs,nQ own r)(nd:(rs.map j7).Nodup):
  ∃(rs':List bN)(Ud:Option Vl)(C':Ce),GJ (BJ b ht rs own' v4 v5) C=aa (.nx,BJ b ht rs' own' v4 Ud,C')/\(∀r∈rs',nQ own r)/\(rs'.map j7).Nodup/\rs'.length<=rs.length+1/\Bf L C' b j:=by
 refine hide λGG gg=>?_
 obtain⟨mm,hmm,m1,m2⟩:∃mm:Int,(if(own'.length:Int)<2 then(own'.length:Int) else 2)=mm/\0<mm/\mm<=own'.length:=by
  refine⟨_,rfl,?_,?_⟩<;>split<;>lia
 obtain⟨k1,C1,e1,a1,b1,gH⟩:=fM (m:=mm) h m1 (by lia)
 obtain⟨wh,w1,_,i1⟩:=qi (zs:=own') (k:=k1) a1 (by lia)
 obtain⟨k2,C2,e2,a2,b2,hB2⟩:=fM (m:=9) gH (by decide) (by decide)
 have mu:pA (.int 5) (.int k2)=aa (.im (.int (5*k2))):=mul_eq (.inl (by lia))
 obtain⟨k3,C3,e3,a3,b3,hB3⟩:=fM (m:=9) hB2 (by decide) (by decide)
 obtain⟨z0,w0,_,i0⟩:=qi (zs:=own') (k:=0) (by lia) (by lia)
 obtain⟨k4,C4,e4,a4,b4,qI⟩:=fM (m:=2) hB3 (by decide) (by decide)
 obtain⟨pt,wp,_,ip⟩:=qi (zs:=[bM "",z0]) (k:=k4) a4 (by show k4<2;lia)
 obtain⟨k5,C5,e5,a5,b5,wU⟩:=fM (m:=3) qI (by decide) (by decide)
 have mN:=ajH (s:=(1+k3,pt)) a5 b5;have hS:Q7 own (1+k3,pt):=⟨by show 1<=1+k3;lia,by show 1+k3<=9;lia,by
  rcases bI.mp wp with e|wp
  .exact .inl e
  .exact .inr (sub _ (by rw[fQ.mp wp];exact w0))⟩
 obtain⟨p1,p2,p3⟩:=aab hr (p:=wh) (s:=5*k2) (ss:=cC k5.toNat (1+k3,pt)) ⟨sub _ w1,⟨by show 0<=5*k2;lia,by show 5*k2<=1000000000;lia⟩,by show(cC _ _).length<=6;rw[Gi];lia,λs hs=>by rw[Ur hs];exact hS⟩ nd
 have pk:=aaR rs wh (5*k2) (cC k5.toNat (1+k3,pt));have g:((cu rs).length<1000000)=True:=eq_true (by unfold cu;rw[bh];lia);refine gg ⟨_,aa (.im (eE wh (5*k2))),C5,?_,p1,p2,p3,wU⟩;unfold eE at pk;unfold fG at mN;rw[cB,cB,pY] at ip;simp_arith[GJ,BJ,vP,hmm,e1,i1,e2,mu,e3,i0,e4,ip,e5,mN,rD,uA,pk,g,eE]
theorem ah5{C:Ce}{rs:List bN}(hl:rs.length<=10)(hn:(rs.map j7).Nodup):
  ∃rs':List bN,rs'.Perm rs/\lY [.dict (cu rs)]=aa (.ow (.list (rs'.map λr=>eE r.1 r.2.1)))/\iD .one fL GF [aa (.im (.dict (cu rs)))] (rs'.map λr=>eE r.1 r.2.1) C=aa (rs'.map bT,C):=by
 obtain⟨rs',p,e⟩:=aad rs hl
 refine⟨rs',p,e,?_⟩
 have key:iD .one fL GF [aa (.im (.dict (cu rs)))] (rs'.map λr=>eE r.1 r.2.1) C=aa (rs'.map bT,C):=by
  have:=rY (T:=.one) (ft:=fL) (fe:=GF) (fs:=[aa (.im (.dict (cu rs)))]) (C:=C) (λr:bN=>eE r.1 r.2.1) (λ_=>aq) bT (l:=rs') λr hr=>⟨[eE r.1 r.2.1],rfl,rfl,λ_=>⟨.im (bT r),[aa (.im (eE r.1 r.2.1)),aa (.im (.dict (cu rs)))],by
   have i:=abl (p.mem_iff.mp hr) hn;unfold eE at i⊢;have a:dj (.tuple [.str r.1,.int r.2.1]) (.tuple [dJ r.2.2])=aa (.im (bT r)):=RM (by show 2+1<=_;lia);simp_arith[dG,kY,jn,i,a],rfl⟩⟩
  rw[zj.mpr λ_ _=>rfl] at this;exact this
 exact key
theorem amR(ht:iY):Bv aj (aa 3) (cU ht)=aa (.im (.tuple [.tuple (ht.ps.map eV),.tuple (ht.nu.map mC),.tuple (ht.leaves.map tB)])):=rfl
theorem ajJ{C:Ce}{b L j:Nat}{zs:List Str}{ps:List (Str×Str)}{ht:iY}(h:Bf L C b (j+50))(p1:1<=ps.length)(hG:qP zs ps ht):
  ∃(ht':iY)(C':Ce),Cw [.ce b,.im (cU ht)] C=aa (.im (cU ht'),C')/\qP zs ps ht'/\Bf L C' b j:=by
 refine hide λGG gg=>?_
 obtain⟨own,hown⟩:∃own,own=ht.ps.map (·.1):=⟨_,rfl⟩
 have pl:=hG.parts.length_eq;have p8:=hG.p8;have zb:=hG.zb;have ol:own.length=ps.length:=by rw[hown,bh,pl]
 have sub:∀z∈own,z∈ps.map (·.1):=λz hz=>(hG.parts.map _).mem_iff.mp (by rw[<-hown];exact hz)
 have f1:=Ou (fe:=Vv) (C:=C) (ps:=ht.ps) rfl;rw[<-hown] at f1;have c1:=agX (C:=C) ht.rules;have d1:=agW hG.unlike;have n1:=Ec (D:=qJ) ajI ht.rules;have g1:(own.length<=1000000)=True:=eq_true (by lia);have g2:(ht.rules.length<=1000000)=True:=eq_true (by lia)
 obtain⟨env',C1,e,rs,w4,w5,he,hl',hR,hN,hB⟩:=oU (g:=cQ 4) (body:=GJ) (its:=lH 0 (10-(ht.rules.length:Int)).toNat) (env:=BJ b ht ht.rules own aj aj) (C:=C)
  (λi env C1=>∃(rs:List bN)(w4 w5:Option Vl),env=BJ b ht rs own w4 w5/\rs.length<=ht.rules.length+i/\(∀r∈rs,nQ (ps.map (·.1)) r)/\(rs.map j7).Nodup/\Bf L C1 b (j+5*(10-i)))
  ⟨ht.rules,aj,aj,rfl,bK _,hG.rules,hG.unlike,h⟩ (λi d env C1 hd hI=>by
   obtain⟨rs,w4,w5,rfl,hl,hR,hN,hB⟩:=hI
   obtain⟨rfl,hi⟩:=vK hd
   rw[yF j 5 (by lia:i<10)] at hB
   obtain⟨rs',Ud,C',e,q1,q2,q3,hB'⟩:=agY (ht:=ht) (own:=ps.map (·.1)) (own':=own) (rs:=rs) (v4:=aa (.im (.int (0+i)))) (v5:=w5) hB sub (by lia) (by lia) (by lia) hR hN
   exact⟨_,.nx,_,C',rfl,e,.inl rfl,rs',_,Ud,rfl,by lia,q1,q2,hB'⟩)
 rw[xU] at hl' hB;subst he;have r10:rs.length<=10:=by lia
 obtain⟨rs',q1,eR,eK⟩:=ah5 (C:=C1) (rs:=rs) r10 hN
 have g3:(rs'.length<=1000000)=True:=eq_true (by rw[q1.length_eq];lia);have ad:dj (.tuple [.tuple (ht.ps.map eV),.tuple (ht.nu.map mC),.tuple (ht.leaves.map tB)]) (.tuple [.tuple (rs'.map bT)])=aa (.im (cU ⟨ht.ps,ht.nu,ht.leaves,rs'⟩)):=RM (by show 3+1<=_;lia);refine gg ⟨⟨ht.ps,ht.nu,ht.leaves,rs'⟩,C1,lA [aa (.ce b),aa (.im (cU ht)),aj,aj,aj,aj] rfl rfl ?_ rfl (h.eq hB),⟨hG.parts,hG.p8,hG.r20,hG.l16,by show rs'.length<=10;rw[q1.length_eq];exact r10,hG.nu,hG.rup,hG.leaves,hG.lnd,λr hr=>hR r (q1.mem_iff.mp hr),(q1.map j7).nodup_iff.mpr hN⟩,hB.mono (by lia)⟩;have lk:(cu ht.rules).length=ht.rules.length:=by unfold cu;rw[bh]
 simp only[BJ] at e;simp_arith[M4,f1,c1,d1,n1,g1,g2,JR,lk,eY,kW,wD (m:=10-(ht.rules.length:Int)) (by lia) (by lia),e,rK,rJ,tW,amR,eR,eK,g3,HW,mW,ad]
structure Ly(n:Nat)(d:au):Prop where
 lay:d.canLay0=aq
 dep:d.depth<=n
 nod:kO d=aq
theorem aaW(n:Nat)(i:Int):Ly n (.int i):=⟨rfl,iI _,rfl⟩
theorem Ru{n:Nat}{z:Str}(h:G9 z=aq):Ly n (.str z):=⟨h,iI _,rfl⟩
theorem Rv{n:Nat}:∀{ds:List au},(∀d∈ds,Ly n d)->Gx ds=aq/\xq ds<=n/\iQ ds=aq
 |[],_=>⟨rfl,iI _,rfl⟩
 |d::ds,h=>by
  obtain⟨h1,h2,h3⟩:=Rv λx hx=>h x (dg _ hx)
  have k:=h d cV
  refine⟨?_,?_,?_⟩
  .show(d.canLay0&&Gx ds)=aq
   rw[k.lay,h1];rfl
  .show max d.depth (xq ds)<=n;exact Nat.max_le.mpr ⟨k.dep,h2⟩
  .show(kO d&&iQ ds)=aq
   rw[k.nod,h3];rfl
theorem Rw{n:Nat}{ds:List au}(h:∀d∈ds,Ly n d):Ly (n+1) (.tuple ds):=by
 obtain⟨h1,h2,h3⟩:=Rv h
 exact⟨h1,Vu h2,h3⟩
theorem akY{n:Nat}{ds:List au}(h:∀d∈ds,Ly n d):Ly (n+1) (.list ds):=by
 obtain⟨h1,h2,h3⟩:=Rv h
 exact⟨h1,Vu h2,h3⟩
theorem Ly.shaped{n:Nat}{d:au}(h:Ly n d)(h64:n<=64):jN d=aq:=by
 unfold jN;rw[h.lay,fP (ir h.dep h64)];rfl
theorem ah6{n:Nat}{ds:List au}(h:∀d∈ds,Ly n d)(h63:n<=63):kj (.list ds) (.list [])=aa (.im (.bool (!ds.isEmpty))):=by
 have L:=akY h;have s1:=L.shaped (by lia);have e:uT (.list ds) (.list [])=aa ds.isEmpty:=by
  show(if kO (.list ds)&&kO (.list [])&&(jN (.list ds)&&jN (.list [])) then aa (CJ (.list ds) (.list [])) else aj)=_
  rw[L.nod,s1];cases ds<;>rfl
 simp only[kj,e,jA]
theorem ajK{own:List Str}{r:bN}(hz:∀z∈own,nameB z=aq)(h:nQ own r):Ly 3 (bT r):=by
 refine Rw λd hd=>?_
 simp only[bI,gU,or_false] at hd;rcases hd with rfl|rfl|rfl
 .exact Ru (HF (hz _ h.part))
 .exact aaW _ _
 .refine Rw λd hd=>?_
  obtain⟨s,hs,rfl⟩:=dW.mp hd
  refine Rw λd hd=>?_
  simp only[bI,gU,or_false] at hd;rcases hd with rfl|rfl
  .exact aaW _ _
  .rcases(h.seats s hs).2.2 with e|e
   .rw[e];exact Ru (by decide +kernel)
   .exact Ru (HF (hz _ e))
def joinR:Option bN->Option bN->Option bN
 |none,x=>x
 |some a,none=>aa a
 |some a,some y=>if a.2.1<y.2.1 then aa y else aa a
def Er(bB:Int)(a:Option bN)(r:bN):Option bN:=if r.2.1<=bB then joinR a (aa r) else a
def Kl(bB:Int):Option bN->List bN->Option bN
 |a,[]=>a
 |a,r::l=>Kl bB (Er bB a r) l
theorem join_none(a:Option bN):joinR a aj=a:=by cases a<;>rfl
theorem join_assoc(a b c:Option bN):joinR (joinR a b) c=joinR a (joinR b c):=by
 cases a with
 |none=>rfl
 |some a=>
  cases b with
  |none=>rfl
  |some b=>
   cases c with
   |none=>rw[join_none,join_none]
   |some c=>
    by_cases h1:a.2.1<b.2.1
    .by_cases h2:b.2.1<c.2.1
     .simp only[joinR,h1,h2,if_true];rw[aY (by lia)]
     .simp only[joinR,h1,h2,if_true,if_false]
    .by_cases h2:b.2.1<c.2.1
     .simp only[joinR,h1,h2,if_true,if_false]
     .simp only[joinR,h1,h2,if_false];rw[bw (by lia)]
theorem top_join(r:bN)(l:List bN):qy (r::l)=joinR (aa r) (qy l):=by
 rw[qy];cases qy l<;>rfl
theorem Zb(bB:Int):∀(l:List bN)(a:Option bN),Kl bB a l=joinR a (qy (l.filter λr=>decide (r.2.1<=bB)))
 |[],a=>(join_none a).symm
 |r::l,a=>by
  rw[Kl,Zb bB l,Er];by_cases h:r.2.1<=bB
  .rw[aY h,xj,fP h,aY rfl,top_join,join_assoc]
  .rw[bw h,xj,jk h,bw gr]
def oD:Option bN->au
 |none=>.none
 |some r=>bT r
theorem agZ{C:Ce}{v0 v1 v3 v4:Option Vl}(bB:Int)(a:Option bN)(r:bN):uh [v0,v1,aa (.im (.int bB)),v3,v4,aa (.im (oD a)),aa (.im (bT r))] C=aa (.nx,[v0,v1,aa (.im (.int bB)),v3,v4,aa (.im (oD (Er bB a r))),aa (.im (bT r))],C):=by
 have i1:∀x:bN,bF (bT x) (.int 1)=aa (.im (.int x.2.1)):=λ_=>rfl
 have n1:∀x:bN,nU (bT x) .none=aa (.im (.bool aB)):=λ_=>rfl
 have n0:nU .none .none=aa (.im (.bool aq)):=rfl;unfold Er;by_cases h:r.2.1<=bB
 .have d1:=fP h;rw[aY h];cases a with
  |none=>simp_arith[uh,oD,i1,n0,d1,joinR]
  |some y=>
   by_cases h2:y.2.1<r.2.1
   .have d2:=fP h2;simp_arith[uh,oD,i1,n1,d1,d2,joinR,h2]
   .have d2:=jk h2;simp_arith[uh,oD,i1,n1,d1,d2,joinR,h2]
 .have d1:=jk h;rw[bw h];simp_arith[uh,i1,d1]
theorem X6{C:Ce}{v0 v1 v3 v4:Option Vl}(bB:Int):∀(l:List bN)(a:Option bN)(v6:Option Vl),∃wV,iM (cQ 6) uh (l.map bT) [v0,v1,aa (.im (.int bB)),v3,v4,aa (.im (oD a)),v6] C=aa (.nx,[v0,v1,aa (.im (.int bB)),v3,v4,aa (.im (oD (Kl bB a l))),wV],C)
 |[],a,v6=>⟨v6,rfl⟩
 |r::l,a,v6=>by
  obtain⟨wV,e⟩:=X6 bB l (Er bB a r) (aa (.im (bT r)))
  refine⟨wV,?_⟩
  have s:=agZ (C:=C) (v0:=v0) (v1:=v1) (v3:=v3) (v4:=v4) bB a r;rw[cB];unfold iM;rw[show cQ 6 (bT r) [v0,v1,aa (.im (.int bB)),v3,v4,aa (.im (oD a)),v6]=aa [v0,v1,aa (.im (.int bB)),v3,v4,aa (.im (oD a)),aa (.im (bT r))] from rfl];simp only[s];exact e
theorem amS{d:au}{r:List au}:bF (.list (d::r)) (.int 0)=aa (.im d):=by
 have:dF (d::r) (0:Int)=aa d:=sy (j:=0) rfl;simp only[bF,qD,this,jA]
theorem ajL{C:Ce}(ru:List bN)(y:Str):iD .one XS XX [aa (.im (.str y))] (ru.map bT) C=aa ((ru.filter λr=>decide (r.1=y)).map bT,C):=
 rY bT (λr=>decide (r.1=y)) bT λr _=>⟨[bT r],rfl,by
  have i0:bF (bT r) (.int 0)=aa (.im (.str r.1)):=rfl;simp_arith[dG,kY,jn,i0,Dl],λ_=>⟨.im (bT r),[aa (.im (bT r)),aa (.im (.str y))],by simp_arith[dG,kY,jn],rfl⟩⟩
theorem ag0{C:Ce}(z:Str)(os:List au)(ss:List pD):iD (.many 2) fL Oz [aa (.im (.list (.str z::os)))] (ss.map fG) C=aa ((ss.map λs=>(s.1,if s.2=bM "" then z else s.2)).map fG,C):=by
 have:=rY (T:=.many 2) (ft:=fL) (fe:=Oz) (fs:=[aa (.im (.list (.str z::os)))]) (C:=C) fG (λ_=>aq) (λs=>fG (s.1,if s.2=bM "" then z else s.2)) (l:=ss) λs _=>by
  refine⟨[.int s.1,.str s.2],rfl,rfl,λ_=>⟨.im (fG (s.1,if s.2=bM "" then z else s.2)),[aa (.im (.int s.1)),aa (.im (.str s.2)),aa (.im (.list (.str z::os)))],?_,rfl⟩⟩
  by_cases e:s.2=bM ""
  .have d1:=fP e;rw[aY e];simp_arith[dG,kY,jn,d1,fG,amS,QC]
  .have d1:=jk e;rw[bw e];simp_arith[dG,kY,jn,d1,fG,QC]
 rw[zj.mpr λ_ _=>rfl] at this;rw[gM];exact this
theorem Zc{C:Ce}{ht:iY}{own:List Str}(hz:∀z∈own,nameB z=aq)(hR:∀r∈ht.rules,nQ own r)(h10:ht.rules.length<=10)(z:Str)(os0:List au)(bB:Int):∀(os:List Str)(v3 v4 v5 v6:Option Vl),
  ∃fl env',iM (cQ 3) X3 (os.map .str) [aa (.im (cU ht)),aa (.im (.list (.str z::os0))),aa (.im (.int bB)),v3,v4,v5,v6] C=aa (fl,env',C)/\
  ((iZ ht.rules os=[]/\fl=.nx)\/(iZ ht.rules os≠[]/\fl=.rt (.im (dJ (o8 ht.rules os z bB)))))
 |[],v3,v4,v5,v6=>⟨_,_,rfl,.inl ⟨rfl,rfl⟩⟩
 |y::os,v3,v4,v5,v6=>by
  have t:=ajL (C:=C) ht.rules y;have fl:(ht.rules.filter λr=>decide (r.1=y)).length<=10:=ir (Gk _ _) h10;have fo:∀r∈ht.rules.filter (λr=>decide (r.1=y)),nQ own r:=λr hr=>hR r (rO.mp hr).1
  unfold o8;rw[iZ,cB];generalize ht.rules.filter (λr=>decide (r.1=y))=f at t fl fo;have n:=HW f;have ne:=ah6 (ds:=f.map bT) (n:=3) (λd hd=>by obtain⟨r,hr,rfl⟩:=dW.mp hd;exact ajK hz (fo r hr)) (by decide);cases f with
  |nil=>
   rw[aY rfl]
   obtain⟨fl,env',e,hh⟩:=Zc (C:=C) hz hR h10 z os0 bB os (aa (.im (.str y))) (aa (.ow (.list []))) v5 v6
   unfold o8 at hh
   refine⟨fl,env',?_,hh⟩
   rw[pY] at t ne;unfold iM;simp_arith[t,ne,Mq,gP,e]
  |cons a r=>
   rw[bw (by simp)];have g:(r.length+1<=1000000)=True:=eq_true (by rw[cL] at fl;lia);have n0:nU .none .none=aa (.im (.bool aq)):=rfl;have n1:∀x:bN,nU (bT x) .none=aa (.im (.bool aB)):=λ_=>rfl
   obtain⟨wV,eb⟩:=X6 (C:=C) (v0:=aa (.im (cU ht))) (v1:=aa (.im (.list (.str z::os0)))) (v3:=aa (.im (.str y))) (v4:=aa (.im (.list ((a::r).map bT)))) bB (a::r) aj v6
   rw[Zb] at eb;have hm:∀x∈(a::r).filter (λr=>decide (r.2.1<=bB)),x.2.2.length<=6:=λx hx=>(fo x (rO.mp hx).1).many
   generalize(a::r).filter (λr=>decide (r.2.1<=bB))=f' at eb hm
   rw[cB] at t n ne eb;cases f' with
   |nil=>
    have eb:iM (cQ 6) uh (bT a::r.map bT) [aa (.im (cU ht)),aa (.im (.list (.str z::os0))),aa (.im (.int bB)),aa (.im (.str y)),aa (.im (.list (bT a::r.map bT))),aa (.im .none),v6] C=aa (.nx,[aa (.im (cU ht)),aa (.im (.list (.str z::os0))),aa (.im (.int bB)),aa (.im (.str y)),aa (.im (.list (bT a::r.map bT))),aa (.im .none),wV],C):=eb
    refine⟨_,[aa (.im (cU ht)),aa (.im (.list (.str z::os0))),aa (.im (.int bB)),aa (.im (.str y)),aa (.im (.list (bT a::r.map bT))),aa (.im .none),wV],?_,.inr ⟨by simp,rfl⟩⟩
    unfold iM;simp_arith[t,n,ne,Gy,g,eY,eb,n0];rfl
   |cons b l=>
    obtain⟨x,ex,hx⟩:=Ja b l
    have x6:=hm x hx;rw[ex] at eb;have eb:iM (cQ 6) uh (bT a::r.map bT) [aa (.im (cU ht)),aa (.im (.list (.str z::os0))),aa (.im (.int bB)),aa (.im (.str y)),aa (.im (.list (bT a::r.map bT))),aa (.im .none),v6] C=aa (.nx,[aa (.im (cU ht)),aa (.im (.list (.str z::os0))),aa (.im (.int bB)),aa (.im (.str y)),aa (.im (.list (bT a::r.map bT))),aa (.im (bT x)),wV],C):=eb;have i2:bF (bT x) (.int 2)=aa (.im (.tuple (x.2.2.map fG))):=rfl;have sc:=ag0 (C:=C) z os0 x.2.2;have g6:(x.2.2.length<=1000000)=True:=eq_true (by lia);have nl:=zT (x.2.2.map λs=>(s.1,if s.2=bM "" then z else s.2));rw[ex]
    refine⟨_,[aa (.im (cU ht)),aa (.im (.list (.str z::os0))),aa (.im (.int bB)),aa (.im (.str y)),aa (.im (.list (bT a::r.map bT))),aa (.im (bT x)),wV],?_,.inr ⟨by simp,rfl⟩⟩
    unfold iM;simp_arith[t,n,ne,Gy,g,eY,eb,n1,i2,sc,g6,nl,mW];rfl
theorem akZ{C:Ce}{ht:iY}{own:List Str}(hz:∀z∈own,nameB z=aq)(hR:∀r∈ht.rules,nQ own r)(h10:ht.rules.length<=10)(z:Str)(os:List Str)(bB:Int):
  yq [.im (cU ht),.im (.list ((z::os).map .str)),.im (.int bB)] C=aa (.im (dJ (o8 ht.rules (z::os) z bB)),C):=by
 obtain⟨fl,env',e,hh⟩:=Zc (C:=C) hz hR h10 z (os.map .str) bB (z::os) aj aj aj aj
 refine lA [aa (.im (cU ht)),aa (.im (.list ((z::os).map .str))),aa (.im (.int bB)),aj,aj,aj,aj] rfl rfl ?_ rfl rfl;rw[cB] at e⊢;rcases hh with⟨h1,rfl⟩|⟨h1,rfl⟩
 .have:o8 ht.rules (z::os) z bB=[]:=by unfold o8;rw[h1];rfl
  rw[this];simp_arith[Eb,eY,e];rfl
 .simp_arith[Eb,eY,e]
theorem ajM{C:Ce}{ht:iY}(bB:Int):yq [.im (cU ht),.im (.list []),.im (.int bB)] C=aa (.im (dJ []),C):=by
 refine lA [aa (.im (cU ht)),aa (.im (.list [])),aa (.im (.int bB)),aj,aj,aj,aj] rfl rfl ?_ rfl rfl;simp_arith[Eb,eY,iM];rfl
theorem ajN(ps:List (Str×Str))(z:Str):up ps z=[]\/∃os,up ps z=z::os:=by
 unfold up tX;cases gj ps z with
 |none=>exact .inl rfl
 |some y=>exact .inr ⟨_,rfl⟩
theorem X7{ru:List bN}(h:∀r∈ru,r.2.2.length<=6)(os:List Str)(z:Str)(bB:Int):(o8 ru os z bB).length<=6:=by
 unfold o8;have hs:∀r∈(iZ ru os).filter (λr=>decide (r.2.1<=bB)),r.2.2.length<=6:=λr hr=>by
  have hr:=(rO.mp hr).1
  obtain⟨y,e|e⟩:=CV ru os
  .rw[e] at hr;exact nomatch hr
  .rw[e] at hr;exact h r (rO.mp hr).1
 generalize(iZ ru os).filter (λr=>decide (r.2.1<=bB))=f at hs
 cases f with
 |nil=>exact iI _
 |cons a l=>
  obtain⟨y,e,hy⟩:=Ja a l
  rw[e]
  show(y.2.2.map _).length<=6
  rw[bh];exact hs y hy
theorem X8{n:Nat}{ss:List pD}(h:ss.length<=6):uM (n+3) (dJ ss)=aq:=by
 show(decide ((ss.map fG).length<=1000)&&(ss.map fG).all (uM (n+2)))=aq
 rw[fP (by rw[bh];lia),aeT,jO];intro d hd
 obtain⟨s,_,rfl⟩:=dW.mp hd
 rfl
theorem ajO{d:au}(h:uM 3 d=aq):uM 4 (.list [d,d])=aq:=by
 show(decide ([d,d].length<=1000)&&[d,d].all (uM 3))=aq
 rw[fP (by show 2<=1000;decide),aeT,jO];intro x hx;simp only[bI,gU,or_false] at hx;rcases hx with rfl|rfl<;>exact h
section
variable{ns:List Int}{k:Int}{b:Nat}{zs:List Str}{ps:List (Str×Str)}{ht:iY}{kept:Str}{v3 v8 v9 v10 v11 dh cJ:Option Vl}(hN:Names zs)(hP:jh zs ps)(hG:qP zs ps ht)
abbrev gq(ns:List Int)(k:Int)(b:Nat)(v3:Option Vl)(ps:List (Str×Str))(ht:iY)(kept:Str)(o7:Vl)(v8 v9 v10 v11 dh cJ:Option Vl):En:=
 [aa (.sc ns),aa (.im (.int k)),aa (.ce b),v3,aa (.im (.list (ps.map eV))),aa (.im (cU ht)),aa (.im (.str kept)),aa o7,v8,v9,v10,v11,dh,cJ]
abbrev jX(ps:List (Str×Str)):au:=.dict (cZ (jW ps ps))
include hN hP hG
theorem aaX{C:Ce}(z:Str)(bB:Int):yq [.im (cU ht),.im (.list ((up ps z).map .str)),.im (.int bB)] C=aa (.im (dJ (o8 ht.rules (up ps z) z bB)),C):=by
 rcases ajN ps z with e|⟨os,e⟩
 .rw[e];exact ajM bB
 .rw[e];exact akZ (λx hx=>NP hN hP hx) hG.rules hG.zb z os bB
theorem ajP{C:Ce}{bB:Int}{x:Str×Str}(hx:x∈ps):∃w13,De (gq ns k b v3 ps ht kept (.im (jX ps)) v8 (aa (.im (.str x.1))) v10 v11 (aa (.im (.int bB))) cJ) C=aa (.nx,gq ns k b v3 ps ht kept (.im (jX ps)) v8 (aa (.im (.str x.1))) v10 v11 (aa (.im (.int bB))) w13,C):=by
 obtain⟨i,hi,rfl⟩:=t8 hx
 obtain⟨_,_,_,_,hu⟩:=aah hN hP (gJ hi)
 obtain⟨o,ho1,ho2⟩:=aag hN hP ps[i].1
 have ix:bF (jX ps) (.str ps[i].1)=aa (.im (.list ((up ps ps[i].1).map .str))):=by
  cases o with
  |none=>
   rw[hu] at ho2;cases ho2
  |some d=>
   have ho2:d=.list ((up ps ps[i].1).map .str):=ho2;subst ho2;simp only[bF,jX,qD,ho1,jA]
 have du:=aaX (C:=C) hN hP hG ps[i].1 bB;have se:=Za (C:=C) hN hP hG ps[i].1 bB;have sl:=X7 (ru:=ht.rules) (λr hr=>(hG.rules r hr).many) (up ps ps[i].1) ps[i].1 bB;generalize o8 ht.rules (up ps ps[i].1) ps[i].1 bB=ss at du se sl;have sm:=Qd (C:=C) 4 (.list [dJ ss,dJ ss]) (ajO (X8 (n:=0) sl))
 refine⟨aa (.im (dJ ss)),?_⟩
 simp_arith[De,gq,jX,ix,du,se,sm]
theorem af8{C:Ce}{bB:Int}:∃w9 w13,iM (cQ 9) De ((ps.map (·.1)).map .str) (gq ns k b v3 ps ht kept (.im (jX ps)) v8 v9 v10 v11 (aa (.im (.int bB))) cJ) C=aa (.nx,gq ns k b v3 ps ht kept (.im (jX ps)) v8 w9 v10 v11 (aa (.im (.int bB))) w13,C):=by
 obtain⟨env',C',e,w9,w13,he,hC⟩:=oU (g:=cQ 9) (body:=De) (its:=(ps.map (·.1)).map .str) (env:=gq ns k b v3 ps ht kept (.im (jX ps)) v8 v9 v10 v11 (aa (.im (.int bB))) cJ) (C:=C)
  (λi env C2=>∃w9 w13,env=gq ns k b v3 ps ht kept (.im (jX ps)) v8 w9 v10 v11 (aa (.im (.int bB))) w13/\C2=C) ⟨v9,cJ,rfl,rfl⟩ (λi d env C2 hd hI=>by
   obtain⟨w9,w13,rfl,rfl⟩:=hI
   obtain⟨z,hz,rfl⟩:=dW.mp (jY hd)
   obtain⟨x,hx,rfl⟩:=dW.mp hz
   obtain⟨u13,e⟩:=ajP (ns:=ns) (k:=k) (b:=b) (v3:=v3) (kept:=kept) (v8:=v8) (v10:=v10) (v11:=v11) (cJ:=w13) (C:=C2) (bB:=bB) hN hP hG hx
   exact⟨_,.nx,_,C2,rfl,e,.inl rfl,_,_,rfl,rfl⟩)
 subst he hC
 exact⟨w9,w13,e⟩
end
theorem ak0(ps:List (Str×Str)):Ld (jX ps)=aa ((ps.map (·.1)).map .str):=by
 show(if(cg dD (cZ (jW ps ps))).isSome then aa ((cZ (jW ps ps)).map (·.1)) else aj)=_
 rw[Ir];show aa ((cZ (jW ps ps)).map (·.1))=_;unfold cZ jW;rw[gM,gM,gM];rfl
section
variable{ns:List Int}{k:Int}{b:Nat}{zs:List Str}{ps:List (Str×Str)}{ht:iY}{kept:Str}{o7:Vl}{v3 v8 v9 v10 v11 dh cJ:Option Vl}(hN:Names zs)(hP:jh zs ps)(hG:qP zs ps ht)
include hN hP hG
theorem ajQ{C:Ce}{bB:Int}(ho:o7=.ow (jX ps)\/o7=.im (jX ps)):∃w9 w13,zX (gq ns k b v3 ps ht kept o7 v8 v9 v10 v11 (aa (.im (.int bB))) cJ) C=aa (.nx,gq ns k b v3 ps ht kept (.im (jX ps)) v8 w9 v10 v11 (aa (.im (.int bB))) w13,C):=by
 obtain⟨w9,w13,e⟩:=af8 (ns:=ns) (k:=k) (b:=b) (v3:=v3) (kept:=kept) (v8:=v8) (v9:=v9) (v10:=v10) (v11:=v11) (cJ:=cJ) (C:=C) (bB:=bB) hN hP hG
 obtain⟨o,ho1,ho2⟩:=aag hN hP (bM "qqqqqqqq")
 let en:En:=gq ns k b v3 ps ht kept (.im (jX ps)) v8 w9 v10 v11 (aa (.im (.int bB))) w13
 have t1:wC (aO 7) (aC (aL (.str (bM "qqqqqqqq")))) (eG aW) en C=aa (.im (o.getD (.list [])),en,C):=get_eq (e1:=en) (e2:=en) (e3:=en) (kvs:=cZ (jW ps ps)) (dk:=.str (bM "qqqqqqqq")) (r:=.ow (.list [])) rfl rfl rfl ho1 rfl rfl;rw[ho2] at t1;simp only[en] at t1;have du:=aaX (C:=C) hN hP hG (bM "qqqqqqqq") bB;have se:=Za (C:=C) hN hP hG (bM "qqqqqqqq") bB;have sl:=X7 (ru:=ht.rules) (λr hr=>(hG.rules r hr).many) (up ps (bM "qqqqqqqq")) (bM "qqqqqqqq") bB;generalize o8 ht.rules (up ps (bM "qqqqqqqq")) (bM "qqqqqqqq") bB=ss at du se sl;have sm:=Qd (C:=C) 4 (dJ ss) (X8 (n:=1) sl);have ik:=ak0 ps
 refine⟨w9,w13,?_⟩
 simp only[gq] at e t1⊢;rcases ho with rfl|rfl
 .simp_arith[zX,eY,Le,ik,e,t1,se,du,sm]
 .simp_arith[zX,eY,Le,ik,e,t1,se,du,sm]
theorem afs{C:Ce}(ds:List Int):∃o w9 w12 w13,iM (cQ 12) zX (ds.map .int) (gq ns k b v3 ps ht kept (.ow (jX ps)) v8 v9 v10 v11 dh cJ) C=aa (.nx,gq ns k b v3 ps ht kept o v8 w9 v10 v11 w12 w13,C):=by
 obtain⟨env',C',e,o,w9,w12,w13,ho,he,hC⟩:=oU (g:=cQ 12) (body:=zX) (its:=ds.map .int) (env:=gq ns k b v3 ps ht kept (.ow (jX ps)) v8 v9 v10 v11 dh cJ) (C:=C)
  (λi env C2=>∃o w9 w12 w13,(o=.ow (jX ps)\/o=.im (jX ps))/\env=gq ns k b v3 ps ht kept o v8 w9 v10 v11 w12 w13/\C2=C) ⟨_,v9,dh,cJ,.inl rfl,rfl,rfl⟩ (λi d env C2 hd hI=>by
   obtain⟨o,w9,w12,w13,ho,rfl,rfl⟩:=hI
   obtain⟨bB,_,rfl⟩:=dW.mp (jY hd)
   obtain⟨u9,u13,e⟩:=ajQ (ns:=ns) (k:=k) (b:=b) (v3:=v3) (kept:=kept) (v8:=v8) (v9:=w9) (v10:=v10) (v11:=v11) (cJ:=w13) (C:=C2) (bB:=bB) hN hP hG ho
   exact⟨_,.nx,_,C2,rfl,e,.inl rfl,_,u9,_,u13,.inr rfl,rfl,rfl⟩)
 subst he hC
 exact⟨o,w9,w12,w13,e⟩
end
section
variable{ns:List Int}{k:Int}{b:Nat}{zs:List Str}{ps:List (Str×Str)}{ht:iY}{kept:Str}{o7:Vl}{v3 v8 v9 v10 v11 dh cJ:Option Vl}
theorem ag1{C:Ce}(hN:Names zs)(hP:jh zs ps)(h8:ps.length<=8):∃w9 w10,iM (wN 2 (oZ (cQ 9) (oZ (cQ 10) wg))) IW (ps.map eV) (gq ns k b v3 ps ht kept (.ow (.dict [])) v8 v9 v10 v11 dh cJ) C=aa (.nx,gq ns k b v3 ps ht kept (.ow (jX ps)) v8 w9 w10 v11 dh cJ,C):=by
 obtain⟨env',C',e,v2,v3,he,hC⟩:=oU (g:=wN 2 (oZ (cQ 9) (oZ (cQ 10) wg))) (body:=IW) (its:=ps.map eV) (env:=gq ns k b v3 ps ht kept (.ow (.dict [])) v8 v9 v10 v11 dh cJ) (C:=C)
  (λi env C1=>∃(w9 w10:Option Vl),env=gq ns k b v3 ps ht kept (.ow (.dict (cZ (jW ps (ps.take i))))) v8 w9 w10 v11 dh cJ/\C1=C)
  ⟨v9,v10,rfl,rfl⟩ (λi d env C1 hd hI=>by
   obtain⟨w9,w10,rfl,rfl⟩:=hI
   obtain⟨x,hx,rfl⟩:=akN hd
   obtain⟨o,ho1,ho2,hp,hu⟩:=aah hN hP hx
   have ha:dj (.list [.str x.1]) (.list ((up ps x.2).map .str))=aa (.ow (.list ((up ps x.1).map .str))):=by
    rw[hu];exact add_l (xs:=[.str x.1]) (by have:=aaQ ps x.2;rw[bh];show 1+_<=_;lia)
   have g:((cZ (jW ps (ps.take i))).length<1000000)=True:=eq_true (by unfold cZ jW;rw[bh,bh,vf];lia)
   let en:En:=gq ns k b v3 ps ht kept (.ow (.dict (cZ (jW ps (ps.take i))))) v8 (aa (.im (.str x.1))) (aa (.im (.str x.2))) v11 dh cJ
   have t1:wC (aO 7) (aO 10) (eG aW) en C1=aa (.im (o.getD (.list [])),en,C1):=get_eq (e1:=en) (e2:=en) (e3:=en) (kvs:=cZ (jW ps (ps.take i))) (dk:=.str x.2) (r:=.ow (.list [])) rfl rfl rfl ho1 rfl rfl;rw[ho2] at t1;simp only[en,gq] at t1
   refine⟨en,.nx,gq ns k b v3 ps ht kept (.ow (.dict (cZ (jW ps (ps.take (i+1)))))) v8 (aa (.im (.str x.1))) (aa (.im (.str x.2))) v11 dh cJ,C1,rfl,?_,.inl rfl,_,_,rfl,rfl⟩
   simp_arith[IW,en,gq,t1,ha,rD,uA,hp,g])
 rw[bh,Vw] at he;subst he hC
 exact⟨_,_,e⟩
theorem ag2{C:Ce}(l0:List Int)(h0:l0.length=3)(h10:ht.rules.length<=10):∃(l:List Int)(w11:Option Vl),l.length<=33/\iM (cQ 11) IV (ht.rules.map bT) (gq ns k b v3 ps ht kept o7 (aa (.ow (.list (l0.map .int)))) v9 v10 v11 dh cJ) C=aa (.nx,gq ns k b v3 ps ht kept o7 (aa (.ow (.list (l.map .int)))) v9 v10 w11 dh cJ,C):=by
 obtain⟨env',C',e,l,w11,hl,he,hC⟩:=oU (g:=cQ 11) (body:=IV) (its:=ht.rules.map bT) (env:=gq ns k b v3 ps ht kept o7 (aa (.ow (.list (l0.map .int)))) v9 v10 v11 dh cJ) (C:=C)
  (λi env C1=>∃(l:List Int)(w11:Option Vl),l.length=3+3*i/\env=gq ns k b v3 ps ht kept o7 (aa (.ow (.list (l.map .int)))) v9 v10 w11 dh cJ/\C1=C)
  ⟨l0,v11,h0,rfl,rfl⟩ (λi d env C1 hd hI=>by
   obtain⟨l,w11,hl,rfl,rfl⟩:=hI
   have hi:=(f9.mp hd).1;rw[bh] at hi
   obtain⟨r,_,rfl⟩:=dW.mp (jY hd)
   have i1:bF (bT r) (.int 1)=aa (.im (.int r.2.1)):=rfl;have pw:nR (.int 10) (.int 9)=aa (.im (.int 1000000000)):=by rfl
   obtain⟨x,hx⟩:∃d,(if r.2.1-1>0 then r.2.1-1 else 0)=d:=⟨_,rfl⟩
   obtain⟨y,hy⟩:∃d,(if r.2.1+1<1000000000 then r.2.1+1 else 1000000000)=d:=⟨_,rfl⟩
   have ad:dj (.list (l.map .int)) (.list [.int r.2.1,.int x,.int y])=aa (.ow (.list ((l++[r.2.1,x,y]).map .int))):=by
    rw[j4];exact add_l (by rw[bh];show l.length+3<=_;lia)
   refine⟨_,.nx,gq ns k b v3 ps ht kept o7 (aa (.ow (.list ((l++[r.2.1,x,y]).map .int)))) v9 v10 (aa (.im (bT r))) dh cJ,C1,rfl,?_,.inl rfl,l++[r.2.1,x,y],_,?_,rfl,rfl⟩
   .simp_arith[IV,gq,i1,pw,Aq,vP,hx,hy,ad]
   .rw[lO];show l.length+3=_;lia)
 rw[bh] at hl;subst he hC
 exact⟨l,w11,by lia,e⟩
end
theorem ah7{C:Ce}{ns:List Int}{k:Int}{v2 v3 v4 v5 v6 v7 v8 v9 v10 v11 dh cJ:Option Vl}(k0:0<=k)(k9:k<=9):
  ∃(C':Ce)(w2 w3 w4 w5 w6 w7 w8 w9 w10 w11 w12 w13:Option Vl),I9 [aa (.sc ns),aa (.im (.int k)),v2,v3,v4,v5,v6,v7,v8,v9,v10,v11,dh,cJ] C=aa (.nx,[aa (.sc ns),aa (.im (.int k)),w2,w3,w4,w5,w6,w7,w8,w9,w10,w11,w12,w13],C'):=by
 obtain⟨x,y,hb,x0,y0,y3⟩:=akX (C:=C) (ns:=ns) k0 k9
 have hB0:=akO C x0 y0 y3
 obtain⟨zs,C1,e2,hN,h9,gH⟩:=ah1 (m:=9) (j:=799760) hB0 (by decide) (by decide)
 have h9':zs.length=9:=by rw[h9];rfl
 obtain⟨ps,ht0,C2,e3,hP,p1,hG0,hB2⟩:=ah3 (j:=798224) gH h9' hN.1
 obtain⟨t,C3,e4,a4,b4,hB3⟩:=fM (m:=2) hB2 (by decide) (by decide)
 let en (d:au):En:=[aa (.sc ns),aa (.im (.int k)),aa (.ce C.length),aa (.im (.list (zs.map .str))),aa (.im (.list (ps.map eV))),aa (.im d),v6,v7,v8,v9,v10,v11,dh,cJ]
 obtain⟨ht,C4,e5,hG,qI⟩:∃ht C4,je (gk (aP lG (aC (bR cG (aG (aZ 2) (aG (aL (.int 2)) aW)))) (aC (aL (.int 0))))) (dU 5 (bR Cw (aG (aZ 2) (aG (aZ 5) aW)))) ju (en (cU ht0)) C2=aa (.nx,en (cU ht),C4)/\qP zs ps ht/\Bf (C.length+1) C4 C.length 798173:=by
  by_cases h:t=0
  .obtain⟨ht',C4,e,hG',hB⟩:=ajJ (j:=798173) hB3 p1 hG0
   have d1:(t==0)=aq:=beq_iff_eq.mpr h
   refine⟨ht',C4,?_,hG',hB⟩
   simp_arith[en,e4,d1,e]
  .have d1:(t==0)=aB:=beq_eq_false_iff_ne.mpr h
   refine⟨ht0,C3,?_,hG0,hB3.mono (by lia)⟩
   simp_arith[en,e4,d1]
 have hr:=ai2 hN.2 hP hG
 obtain⟨sm,C5,e6,s0,s9,wU⟩:=Rt (j:=798169) qI
 have pw:nR (.int 10) (.int 9)=aa (.im (.int 1000000000)):=by rfl
 obtain⟨w9,w10,e7⟩:=ag1 (ns:=ns) (k:=k) (b:=C.length) (v3:=aa (.im (.list (zs.map .str)))) (ht:=ht) (kept:=(cU ht).shown) (v8:=aa (.ow (.list ([0,1000000000,sm].map .int)))) (v9:=v9) (v10:=v10) (v11:=v11) (dh:=dh) (cJ:=cJ) (C:=C5) hN hP hG.p8
 obtain⟨l,w11,hl,e8⟩:=ag2 (ns:=ns) (k:=k) (b:=C.length) (v3:=aa (.im (.list (zs.map .str)))) (ps:=ps) (kept:=(cU ht).shown) (o7:=.ow (jX ps)) (v9:=w9) (v10:=w10) (v11:=v11) (dh:=dh) (cJ:=cJ) (C:=C5) [0,1000000000,sm] rfl hG.zb
 have ss:Jm (l.map .int)=aa ((nq ltI (dedup l)).map .int):=by
  unfold Jm;rw[aY (by rw[bh];lia),W5]
 obtain⟨o,u9,w12,w13,e9⟩:=afs (ns:=ns) (k:=k) (b:=C.length) (v3:=aa (.im (.list (zs.map .str)))) (kept:=(cU ht).shown) (v8:=aa (.ow (.list (l.map .int)))) (v9:=w9) (v10:=w10) (v11:=w11) (dh:=dh) (cJ:=cJ) (C:=C5) hN hP hG (nq ltI (dedup l))
 have ne:kj (.str (cU ht).shown) (.str (cU ht).shown)=aa (.im (.bool aB)):=by simp[kj,uT]
 have i3:bF (cU ht) (.int 3)=aa (.im (.tuple (ht.rules.map bT))):=q9 (i:=3) rfl;simp only[en] at e5;simp only[gq,cB,pY] at e7 e8 e9
 refine⟨C5,aa (.ce C.length),aa (.im (.list (zs.map .str))),aa (.im (.list (ps.map eV))),aa (.im (cU ht)),aa (.im (.str (cU ht).shown)),aa o,aa (.ow (.list (l.map .int))),u9,w10,w11,w12,w13,?_⟩
 simp_arith[I9,EY,hb,intsOf,e2,e3,↓e5,hr,pw,e6,DP,eY,e7,i3,e8,J6,ss,e9,ne]
theorem ah8(ns:List Int)(h:ns.length<=63):∃C',Bd [.sc ns] []=aa (.im (.bool aq),C'):=by
 obtain⟨m,hm,m1,m2⟩:∃m:Int,(1+if(ns.length:Int)<6 then(ns.length:Int) else 6)=m/\0<=m/\m<=7:=⟨_,rfl,by split<;>lia,by split<;>lia⟩
 obtain⟨env',C',e,v1,v2,v3,v4,v5,v6,v7,v8,v9,v10,v11,dh,cJ,he⟩:=oU (g:=cQ 1) (body:=I9) (its:=lH 0 m.toNat) (env:=[aa (.sc ns),aj,aj,aj,aj,aj,aj,aj,aj,aj,aj,aj,aj,aj]) (C:=[])
  (λi env C1=>∃v1 v2 v3 v4 v5 v6 v7 v8 v9 v10 v11 dh cJ:Option Vl,env=[aa (.sc ns),v1,v2,v3,v4,v5,v6,v7,v8,v9,v10,v11,dh,cJ])
  ⟨aj,aj,aj,aj,aj,aj,aj,aj,aj,aj,aj,aj,aj,rfl⟩ (λi d env C1 hd hI=>by
   obtain⟨v1,v2,v3,v4,v5,v6,v7,v8,v9,v10,v11,dh,cJ,rfl⟩:=hI
   obtain⟨rfl,hi⟩:=vK hd
   obtain⟨C2,w2,w3,w4,w5,w6,w7,w8,w9,w10,w11,w12,w13,e⟩:=ah7 (C:=C1) (ns:=ns) (k:=0+(i:Int)) (v2:=v2) (v3:=v3) (v4:=v4) (v5:=v5) (v6:=v6) (v7:=v7) (v8:=v8) (v9:=v9) (v10:=v10) (v11:=v11) (dh:=dh) (cJ:=cJ) (by lia) (by lia)
   exact⟨_,.nx,_,C2,rfl,e,.inl rfl,_,w2,w3,w4,w5,w6,w7,w8,w9,w10,w11,w12,w13,rfl⟩)
 subst he
 refine⟨C'.take 0,?_⟩
 unfold Bd fN;rw[aY (show[Vl.sc ns].length=1 from rfl),show([Vl.sc ns].map aa++cC (14-[Vl.sc ns].length) aj)=[aa (.sc ns),aj,aj,aj,aj,aj,aj,aj,aj,aj,aj,aj,aj,aj] from rfl];simp_arith[R0,eY,kW,wu,vP,hm,wD (m:=m) (by lia) (by lia),e,Ei]
theorem all_mk{l:Vx}{w:bu}{K:aF}{h:aU}{mg:Str->Option Value}{fa:ao}(X:K.In h)(G:h.Ns fV mg)(hfa:mg "law"=aa (.ref fa))
  (d0:jj K "parts_over" Hf)
  (d1:jj K "seats_of" CN)
  (d2:jj K "rules_for" Ho)
  (d3:jj K "_law_box" Rj)
  (d4:jj K "_law_take" QG)
  (d5:jj K "_law_names" zW)
  (d6:jj K "_law_day" Rk)
  (d7:jj K "_law_sum" Rm)
  (d8:jj K "_law_numbers" NZ)
  (d9:jj K "_law_many" QH)
  (d10:jj K "_law_parts" Iv)
  (d11:jj K "_law_house" Dd)
  (d12:jj K "_law_same" Dm)
  (d13:jj K "_law_more_rules" zG)
  (d14:jj K "_law_due" DX)
  (d15:jj K "law" RQ)
  (Kf:kZ K fV "abs"=aa aj)
  (RT:kZ K fV "all"=aa aj)
  (DY:kZ K fV "bool"=aa aj)
  (Rn:kZ K fV "dict"=aa aj)
  (Kg:kZ K fV "int"=aa aj)
  (oN:kZ K fV "isinstance"=aa aj)
  (pF:kZ K fV "len"=aa aj)
  (Ea:kZ K fV "list"=aa aj)
  (Eo:kZ K fV "max"=aa aj)
  (Ep:kZ K fV "min"=aa aj)
  (sH:kZ K fV "range"=aa aj)
  (JS:kZ K fV "repr"=aa aj)
  (RV:kZ K fV "set"=aa aj)
  (vG:kZ K fV "sorted"=aa aj)
  (Kh:kZ K fV "str"=aa aj)
  (oX:kZ K fV "tuple"=aa aj)
  (RW:kZ K fV "zip"=aa aj)
  :∃fd:fB,(∀(s:aA)(v:Value),xW s fd ⟨[v],[]⟩ [("_law_script",v)])/\∀base:aU,K.In base->base.Ns fV mg->eX l.prog w K mg base gF 6 fa fd ["_law_script"] (spT K Bd):=by
 have T:Txt K mg:=⟨lQ X G Kf,lQ X G RT,lQ X G DY,lQ X G Rn,lQ X G Kg,lQ X G oN,lQ X G pF,lQ X G Ea,lQ X G Eo,lQ X G Ep,lQ X G sH,lQ X G JS,lQ X G RV,lQ X G vG,lQ X G Kh,lQ X G oX,lQ X G RW⟩
 refine d15.law X G hfa (λbase f fd F=>?_) (λ_ _ _ _ _ _=>(gh λ_=>(mL rfl)));have Ng:=d0.has X G (λf fd F=>aeR (P:=l.prog) (w:=w) (base:=base) F T) (λ_ _ _ _ _ _=>(gh λ_=>(gh λ_=>(mL rfl))));have Nq:=d2.has X G (λf fd F=>ae8 (P:=l.prog) (w:=w) (base:=base) F T Ng) (λ_ _ _ _ _ _=>(gh λ_=>(gh λ_=>(mL rfl))));have CQ:=d1.has X G (λf fd F=>afo (P:=l.prog) (w:=w) (base:=base) F T Nq) (λ_ _ _ _ _ _=>(gh λ_=>(gh λ_=>(gh λ_=>(mL rfl)))));have Rr:=d3.has X G (λf fd F=>ajv (P:=l.prog) (w:=w) (base:=base) F T) (λ_ _ _ _ _ _=>(gh λ_=>(gh λ_=>(mL rfl))));have cH:=d4.has X G (λf fd F=>ahY (P:=l.prog) (w:=w) (base:=base) F T) (λ_ _ _ _ _ _=>(gh λ_=>(gh λ_=>(mL rfl))));have Qa:=d5.has X G (λf fd F=>agS (P:=l.prog) (w:=w) (base:=base) F T cH) (λ_ _ _ _ _ _=>(gh λ_=>(gh λ_=>(mL rfl))));have Aw:=d6.has X G (λf fd F=>ajw (P:=l.prog) (w:=w) (base:=base) F T cH) (λ_ _ _ _ _ _=>(gh λ_=>(mL rfl)));have yr:=d7.has X G (λf fd F=>ajx (P:=l.prog) (w:=w) (base:=base) F T cH) (λ_ _ _ _ _ _=>(gh λ_=>(mL rfl)));have HJ:=d8.has X G (λf fd F=>afp (P:=l.prog) (w:=w) (base:=base) F T cH) (λ_ _ _ _ _ _=>(gh λ_=>(gh λ_=>(mL rfl))));have uw:=d9.has X G (λf fd F=>ahZ (P:=l.prog) (w:=w) (base:=base) F T cH) (λ_ _ _ _ _ _=>(gh λ_=>(gh λ_=>(mL rfl))));have P0:=d10.has X G (λf fd F=>agT (P:=l.prog) (w:=w) (base:=base) F T cH uw) (λ_ _ _ _ _ _=>(gh λ_=>(gh λ_=>(mL rfl))));have Qc:=d11.has X G (λf fd F=>agU (P:=l.prog) (w:=w) (base:=base) F T cH Aw yr HJ uw P0) (λ_ _ _ _ _ _=>(gh λ_=>(gh λ_=>(mL rfl))));have Ai:=d12.amJ X G (λf fd hm hk hb F=>X4 (P:=l.prog) (w:=w) (base:=base) hm hk hb F T 4) (λ_ _ _ _ _ _=>(gh λ_=>(gh λ_=>(mL rfl))));have M5:=d13.has X G (λf fd F=>aeF (P:=l.prog) (w:=w) (base:=base) F T cH) (λ_ _ _ _ _ _=>(gh λ_=>(gh λ_=>(mL rfl))));have JV:=d14.has X G (λf fd F=>ajy (P:=l.prog) (w:=w) (base:=base) F T) (λ_ _ _ _ _ _=>(gh λ_=>(gh λ_=>(gh λ_=>(mL rfl)))));exact akW F T CQ Rr cH Qa yr Qc Ai M5 JV
theorem walk{l:Vx}{q:bA}{loose:List Str}{XP:(Str->Option Value)->aU->Prop}{YP:bu->aU->Prop}{d:DefRec}{K:Params->aF}(hn:l.most=aa 63)(hdf:d.params.defaults=[])
  (hY:∀(w:bu)(h:aU),YP w h->(K w.params).In h)
  (F:∀(w:bu)(mg:Str->Option Value)(fa:ao)(h:aU),(K w.params).In h->h.Ns fV mg->mg d.name=aa (.ref fa)->
   ∃fd:fB,(∀(s:aA)(u:Value),xW s fd ⟨[u],[]⟩ [("_law_script",u)])/\∀base:aU,(K w.params).In base->base.Ns fV mg->eX l.prog w (K w.params) mg base gF 6 fa fd ["_law_script"] (spT (K w.params) Bd)):
  aeI q loose XP YP l.row.toRowW d [] (λf vs=>WW f vs):=
 L2.aiq (n:=63) (k:=6) (x:="_law_script") (CX:=λ_=>gF) (sp:=λw=>spT (K w.params) Bd) hn (by decide) hdf ⟨rfl,by decide,by decide,rfl⟩ hY F (λ_ _ a ns hl _ hS=>let ⟨_,h⟩:=ah8 ns hl;akD hS h) λ_ _ _ _ _ z=>z
end Ua
namespace PySem.W.Fast
def tw10115309272942396762:=0
def tw11030081989115486805:=0
def tw11728041552065316514:=0
def tw12982113427488920030:=0
def tw13402272158125144971:=0
def tw14172419470655564101:=0
def tw14337914245769331566:=0
def tw14485325564756837160:=0
def tw14678159543031047629:=0
def tw14818136550191568984:=0
def tw15208667032471825241:=0
def tw16048455551680884739:=0
def tw16149617735249367324:=0
def tw16274071282760839109:=0
def tw16532312797816820510:=0
def tw16608339805228930633:=0
def tw16658202694015426969:=0
def tw17186418607404480439:=0
def tw17348832574114163974:=0
def tw17798084365427688600:=0
def tw1970382125839132157:=0
def tw2046397283144865463:=0
def tw2174016905556680433:=0
def tw4637649154679412912:=0
def tw5344154054046077293:=0
def tw5578163603803383329:=0
def tw630257683130497550:=0
def tw6844241395867734916:=0
def tw7258813918949739053:=0
def tw7699774889114098993:=0
def tw7969123138167346898:=0
def tw8011566995594492929:=0
def tw8900896548218299253:=0
def tw8943505216278502623:=0
def tw904974334712878253:=0
def tw9393667259069940544:=0
end PySem.W.Fast
open PySem PySem.W PyProof.Rows
set_option maxRecDepth 100000 in
set_option maxHeartbeats 0 in
theorem PySem.Challenge.cw_rankseals_k07_seats_by_sums_holds : PySem.Challenge.rw_rankseals_k07_seats_by_sums.Holds := by
 w_on;o_law;k_head;(case hw=>w_witness2)
 k_fill
 refine Ua.walk (l:=PySem.Challenge.rw_rankseals_k07_seats_by_sums) rfl rfl (λw h Y=>PySem.W.kIn_of Y) ?F
 case F=>
  intro w mg fa h KX G hmg
  refine' Ua.all_mk KX G hmg ?_ ?_ ?_ ?_ ?_ ?_ ?_ ?_ ?_ ?_ ?_ ?_ ?_ ?_ ?_ ?_ ?_ ?_ ?_ ?_ ?_ ?_ ?_ ?_ ?_ ?_ ?_ ?_ ?_ ?_ ?_ ?_ ?_
  all_goals try first|exact .mk (by k_is) (by k_is) (by k_is) (by k_is)|k_is
