import PyProof.Rows.All
import Wide.All
import OpenK.AllK
import Wide.FinOn
import Lean
import PyProof.EqAt
import PyProof.EqKinds
import PyProof.TupleCall
import PySem.Challenge.RW_rankseals_k18_rows_taken_and_spoilt
set_option Elab.async false
set_option linter.all false
set_option maxRecDepth 100000
set_option maxHeartbeats 4000000
set_option autoImplicit true
open PySem.Value renaming isInt->ahJ,isStrOf->Y0,int->Km,str->Ko,isStrOf_shape->afR,none->nJ,bool->uV,float->ZK,ref->eV,type->Gh
open PySem renaming World->bK,Program->bQ,KeyKind->xX,Addr->aq,Heap->bw,sizeLine->cH,sysModules->tX,tupleKind->Kq,Within->ahh,mainGlobals->iZ,bootBuiltins->uU,Around->cV,Shared->aJ,Scope->kJ,Drawn->Al,wpAny->aX,backTo->iu,starEach->bO,Stmt->dz,wpAny_mono->qz,wpAny_Name->Z1,wpAny_loadName_local->afO,wpAny_loadName_cell->afS,wpAny_truthy_bool->vX,wpAny_execs_nil->Pu,wpAny_execs_cons->ags,swapsWith->uY,assignInOrder->FJ,assignEach->uW,wpAny_assign_Name->Jl,holding->sr,standAt->vd,wpAny_bind->aK,wpAny_holding->mX,wpAny_standAt->wj,swapsWithSole->zP,swappedStores->zQ,wpAny_pure->bh,wpAny_newObj_type->nF,bindName->wB,wpAny_rule->yf,wpAny_bindName->Jv,PassesOwn->Rv,wpAny_passesOwn->BV,pyNext->m7,letOwnedTupleGo->zK,pyIter->Dz,wpAny_load->J7,rawInt->jC,wpAny_pyIter_list->O6,foldedSetIterable->vY,binaryOp->qZ,compareOp->gq,behindInMarks->FP,lastMarks->Rw,sizeLine_eq->jq,cLine->jc,Result->sE,FuncData->dO,BindsTo->z8,codeAny->mJ,codeAny_mono->JL,wpAny_Call_Name_kw->Jj,Keyword->oY,NameKind->Dh,bindL->Am,bindC->An,mem_of_lookup->xP,concat_meets->Zj,noFill_tuple_add->Yj,seq_tuple_add->Y4,IsPart->vm,wpAny_field->ZM,getItem->wK,wpAny_sequenceKey->agh,wpAny_callSpecial?_slot->zy,wpAny_call_entry->pF,wpAny_typeOf->Cv,evalPart_none->Y5,seqIndex?->Ry,seqIndex_of->ZQ,seqIndex_neg->Zk,subscripted->ZR,typeIs_str->Z4,sliceBounds->Cy,slicePick->Rz,wpAny_getItem_list_slice->afs,attributeBase->wu,backToKw->z6,keywordEach->zV,call_meets->Rg,valueAt->Dk,atKey->yH,tupleKind_room_in1->O3,callerA->Dl,call->Z7,compEnvC->Su,compTurn->Gn,newFunctionEnv->YH,wpAny_newFunctionEnv->XJ,lookup_relabel_local->XM,wpAny_comprehension_free->Ot,compPost->Sw,exec_Assign_Name_used->afF,comprehension->Y8,Walks->yI,PyData->aC,wpAny_dictSet_pairs->afT,wpAny_pyIter_zip->agz,Builtin->mZ,wpAny_newList->JC,checkCount->Ri,wpAny_pyIter_slot->Yb,wpAny_notOrdered_dict->afG,wpAny_dictEntries->Yc,wpAny_dictEpoch->Yv,wpAny_attempt->FZ,wpAny_typeNameOfWhole_keyiter->Oh,wpAny_fieldsOf->zN,wpAny_typeNameOf_keyiter->Ou,wpAny_isOneOf_keyiter->XH,wpAny_setField->zO,firstArgMember->PX,wpAny_of_eq->ZW,wpAny_isInstance->Ym,codeAny_builtin->xV,plainId_quiet->wz,richCompare->Gg,SetTable->wC,relayAll->Jw,scanBound->rW,wpAny_setState_of->Ft,wpAny_storeSet_of->agm,fits_of_scanBound->Yh,builtinLookup_eq_fast->afJ,isSubtype_type->YL,entryFor->K5,entryFor_of_tree->agD,argsOk->G6,setNext->Gz,wpAny_setEntries_of->Jh,setsByText->aae,wpAny_askSetting->Pg,wpAny_ite_split->Py,pickOrder->zY,wpAny_seqItems->Fw,wpAny_setEpoch_of->agn,updateSeq->RN,wpAny_updateSeq->Jt,strKind->JD,argBest->n6,wpAny_tryCatch->Jx,wpAny_letGo->QS,wpAny_pyIter_enum->agq,sliceRange->aam,getattributeRaised->af6
open Sum renaming inl->mH,inr->lA
open Sum.inl renaming inj->ZJ
open Sum.inr renaming inj->ahK
open PySem.SeqAt.EqAt renaming int_str->afX,str_int->afY
open Option.some renaming inj->gH,injEq->O9
open PySem.W renaming instObj->Yt,methodObj->X6,Frag->aQ,lookIn->YG,plainGet->agt,findIn->BZ,takerIn->agJ,specialIn->agd,isFn->ahj,keepIn->xW,kitOne->Ca,kia_one->uP,kitx_none->age,kitx_bool->agf,kitx_int->agu,kitx_str->agv,kitx_float->af0,kitx_list->O7,kitx_tuple->af1,kitx_dict->O8,kitx_own->agw,cellsFrom_some->afA,fnOf->zU,codeIn->PL,OpenLaw->Yu,WalkO->ag4,kitAny->PN,kia_tup->uQ,nsIn->oW,mg_of->Za,mg_none_of->pD
open PySem.Heap renaming lt_size->cN,SameBut->zR,get?_push_of_some->cR,get?_push_size->iK,get?_update_self->zA,get?_update_other->uN,size_push->zM
open Nat renaming lt_of_lt_of_le->qt,lt_irrefl->xY,ne_of_lt->eU,le_trans->lR,le_of_lt->yc,ne_of_gt->zT,le_refl->cz,le_succ->wA,succ_le_succ->Yl,lt_trans->Cw,zero_le->nH,sub_self->Zo,lt_succ_of_lt->zF,not_lt->Rh,add_zero->Zq,lt_succ_self->Yo,lt_trichotomy->ago,zero_add->JM,not_lt_zero->zL,le_of_ble_eq_true->tQ,succ_pos->JN,le_add_right->Pr,min_eq_left->PK,lt_or_eq_of_le->af8,le_of_lt_succ->agr
open Array renaming append_assoc->afZ,length_toList->nD,toList->ahi,getElem?_toList->Fj,getD->ah9,getElem?_eq_getElem->nQ,getElem?_eq_none->XC,getD_eq_getD_getElem?->uM,toList_push->agl,mem_of_getElem?->afL,size_append->Yi
open List renaming range->fj,mem_filter->tU,mem_range->rT,filterMap_cons->XQ,mem_cons_self->dH,mem_cons_of_mem->gh,mem_cons->cM,mem_append->dR,mem_append_left->jd,getElem?_eq_some_iff->jW,getElem?_set_self->afz,getElem?_set_ne->xM,set_comm->Qg,mem_filterMap->O2,mem_append_right->gn,size_toArray->gG,any_eq_false->agc,append_nil->lq,nodup_cons->jL,of_mem_zip->Px,replicate->jz,length->qx,length_take->qu,getElem?_append_right->qO,getElem?_replicate->Xw,getElem?_append_left->qP,getElem?_map->iG,getElem?_take_of_lt->Xq,take_sublist->Jm,mem_of_getElem?->qm,length_append->dM,length_map->bz,length_replicate->afE,filterMap_map->af2,length_drop->BJ,map_nil->kj,map_cons->cO,length_set->xU,all_cons->Qh,any_cons->JB,reverse_cons->Fp,find?_cons->qR,length_cons->dw,length_nil->BW,filter_cons->Pb,lookup_cons->BK,append_assoc->mF,map_map->gZ,all_eq_true->qw,getElem_of_mem->xQ,getElem?_eq_getElem->j7,getElem_mem->zJ,mem_singleton->j8,not_mem_nil->mV,getD->qY,ext_getElem->BL,length_range->mU,map_congr_left->xR,zip_cons_cons->X4,mem_map->gQ,ext_getElem?->Yd,getElem?_eq_none->Je,getElem?_set->Fq,pairwise_iff_getElem->Jd,pairwise_lt_range->Ox,pairwise_append->XN,getElem_take->agk,pairwise_cons->rR,foldl_cons->Js,nodup_append->lO,length_eq_zero_iff->afu,length_eraseIdx->afP,take_zero->agT,Sublist->Zt,nodup_nil->pH,any_map->Qv,length_zip->Ju,getElem?_range->XR,getElem?_eq_none_iff->Xo,drop_length->agE,drop_eq_getElem_cons->Xp,getElem?_mapIdx->afQ,sublist_nil->agF,getElem?_take->X5,map_id->JX,map_fst_zip->agG,take_of_length_le->afB,sum_cons->ag9,any_eq_true->Ph,mem_of_mem_take->xO,map_append->jf,find?_map->agV,isEmpty_nil->Yp,getElem_map->agI,find?_eq_none->O5,nodup_iff_pairwise_ne->Xm,cons_append->lQ,nil_append->jM,getElem?_drop->af5,mem_of_mem_drop->Oz,length_flatMap->afV,length_pos_of_mem->afC,length_reverse->afW,filter_eq_self->zB,range_succ->YF,map_take->Zg,length_filter_le->Fo,length_pos_iff->O1,getD_eq_getElem?_getD->Ol,map_drop->Zh,filter_cons_of_pos->afx,filter_cons_of_neg->afy,set_cons_succ->aga,set_cons_zero->agb
open Ne renaming symm->kI
open PySem.Calls renaming Name_function_global->afn,spliced_nil->X7,spliced_cons->XS,call_function_entry->Oo
open False renaming elim->tY
open PySem.Flow renaming next->Ru
open Bool renaming false_ne_true->jo,false_and->wg,eq_iff_iff->oU,and_eq_true->jX,true_or->ahp,false_or->ag3,not_eq_true->agy,false_eq_true->qQ,not_true->Ga,not_false->uR,not_eq_true'->agp,true_and->uT,and_true->ahg,true->ao,false->aL
open Int renaming mul_one->ZL,toNat_natCast->zE,ediv_one->ahk,le_refl->ye,emod_eq_emod_iff_emod_sub_eq_zero->afe,emod_eq_of_lt->Pa,emod_nonneg->pG,emod_lt_of_pos->uO,ediv_nonneg->agR,zero_add->ahH,toNat->aaX,ne_of_lt->ahI
open PySem.Builtin.Range renaming rangeSize->arF
open PyProof.Rows renaming callWith_type1->Jc,callWith_builtin1->Xl,slot_tuple_getitem->Og,boot_zip->arI,boot_enumerate->aq2,evalArgs_none->aq5
open PySem.EqNone renaming eq_none_none->aq6,eq_none_bool->aq7,eq_none_int->ark,eq_none_str->arl,eq_bool_none->aq8,eq_int_none->arn,eq_str_none->arp,ne_none_none->arb,ne_none_bool->arc,ne_none_int->ars,ne_none_str->art,ne_bool_none->ard,ne_int_none->aru,ne_str_none->arw
open PySem.EqMixed renaming eq_bool_str->aq9,eq_int_str->aro,eq_str_bool->ara,eq_str_int->arq,ne_bool_str->arf,ne_int_str->arv,ne_str_bool->arh,ne_str_int->arx
open True renaming intro->nU
open Option renaming isSome_iff_exists->zx,getD_none->agx,isSome_some->X3,isSome_map->X8,map_eq_some_iff->Bu,none->pI,map_some->mW,getD_some->Jp,bind_some->ir,some_ne_none->xT,map->Kd,map_map->Qa,bind_eq_some_iff->nR,map_eq_none_iff->XF,isSome_none->af7,isNone_none->af9,isNone_some->Jk,some->aa,none->aj
open PySem.F renaming slot_tuple_add->Xz,entry_tuple_add->Xx,args_tuple_add_2->Xr,slot_list_append->XX,slot_list_extend->af4,slot_list_pop->agK,slot_dict_iter->agA,slot_dict_keyiterator_next->Oi,entry_dict_keyiterator_next->afh,args_dict_keyiterator_next_1->afg,plain_proto_collect->afj,plain_list_iadd->Ov,slot_set_iter->agP,plain_extend_loop->afq,plainAttrs_list->Ow,type_list_append->aft,entry_min_loop->XD,plain_min_loop->Bv,slot_dict_items->afv
open PySem.Builtin.Slice renaming sliceAdjust->Xn,slicePlaces->Om,slicePartIndex->aq1,sliceApplied->afo,sliceFields->ari
open PySem.Str renaming ofString->eZ
open PySem.Builtin.Tuple renaming tupleItemsOf->afp,tupleExact->Oq,tupleCompareSizes->aqZ,tupleIsExact->aq3
open PySem.Heap.IsSliceOf renaming new->af3
open PySem.Obj renaming mapSeq->nW,mapFields->Y9,isFreed_of_fields->afI,data_mapFields->O4,cls_mapFields->agi,putSet->Rk
open PySem.SeqAt renaming EqAt->Z5,shaped->je
open PySem.Builtin.List renaming listTooLong->Xu,listExtendWith->Oj,listLengthHint->afk,listSameRef->Xv
open PySem.Heap.DictOf renaming new->agL
open List.Pairwise renaming nil->Bw,filterMap->arG,imp_of_mem->arC,imp->arJ
open Or renaming inl->cG,inr->qF
open PySem.NameKind renaming free->qU,cell->Qi
open ForInStep renaming yield->agN
open PySem.Code renaming compLoop->FQ
open PySem.Walks renaming list->Z9
open PySem.WalksT renaming zip2->ahQ
open List.Perm renaming refl->Cd,of_eq->agO,swap->P0,append_left->afK
open List.cons renaming inj->FW,injEq->Yx
open PySem.Heap.SameBut renaming update->tR,refl->Yg
open PySem.Builtin.Dict renaming dictSlotNone->arj,showsAll->afH,pairItems->afD,addKeywords->arD,selfAndRest->arE,updateFrom->afw
open PySem.Builtin.Dict_items renaming ownsTuple->afi
open PySem.Around renaming under_plainId->xN
open PySem.SetTable.below renaming go->Jo
open PySem.SetTable renaming below->j9,has->ahr,slot->ag7,grown->Cg
open PySem.SetTable.probe renaming go->Ye
open PySem.SetTable.Met.empty renaming injEq->arz
open Prod.mk renaming injEq->ag8
open PySem.pickOrder renaming go->Zr
open PySem.Builtin.Frozenset renaming slot0->arH,sizeOf->arA,oneOther->aq4,addrOf->arB
open PySem.Bind renaming checkArgs->agS
open PySem.PyData renaming int->dN,str->fB,eqv->yg,tuple->oV,strOk->Qw,canLayAll0->zG,depthAll->BX,canLay0->Cj,depth->Gd,eqvAll->Zi,bool->ahY
open List.Sublist renaming refl->By,append->Ji
open PySem.Builtin.Str renaming strSliceIndices->afl
open PySem.Builtin.Builtins renaming bindParams->afm
open Classical renaming byContradiction->afr
open Nat.succ renaming inj->Ge
open PySem.StrLaws renaming seqIndex_nonneg->aq0
open PySem.PassesOwn renaming never->nG
theorem bC{c:Prop}[i:Decidable c](h:c){α:Sort _}{t e:α}:ite c t e=t:=if_pos h
theorem bJ{c:Prop}[i:Decidable c](h:¬c){α:Sort _}{t e:α}:ite c t e=e:=if_neg h
theorem dZ{p:Prop}[i:Decidable p](h:p):decide p=true:=decide_eq_true h
theorem dY{p:Prop}[i:Decidable p](h:¬p):decide p=false:=decide_eq_false h
noncomputable section
namespace L2
open PySem PySem.Spec PyProof.Rows
abbrev Key:=Sum Int Str
def Eb:Key->Value->Bool
 |.inl k,v=>ahJ k v
 |.inr x,v=>Y0 x v
def aoF(w:bK):Key->Int
 |.inl k=>hashInt k
 |.inr x=>hashStr w x
theorem tW:∀{k:Key}{v:Value},Eb k v=ao->(∃i t,k=mH i/\v=Km i t)\/(∃x t,k=lA x/\v=Ko x t)
 |.inl i,v,h=>by
  obtain⟨t,e⟩:=Value.isInt_shape (k:=i) (v:=v) h
  exact .inl ⟨i,t,rfl,e⟩
 |.inr x,v,h=>by
  obtain⟨t,e⟩:=afR (x:=x) (v:=v) h
  exact .inr ⟨x,t,rfl,e⟩
theorem aiD(i:Int)(t:Tok):Eb (.inl i) (.int i t)=ao:=by simp[Eb,ahJ]
theorem aiE(x:Str)(t:Tok):Eb (.inr x) (.str x t)=ao:=by simp[Eb,Y0]
theorem amm(a b:Int):decide ((mH a:Key)=mH b)=(a==b):=by
 by_cases e:a=b
 .subst e;simp
 .have h:¬(mH a:Key)=mH b:=λq=>e (ZJ q)
  rw[dY h]
  exact(beq_eq_false_iff_ne.mpr e).symm
theorem amn(a b:Str):decide ((lA a:Key)=lA b)=decide (a=b):=by
 by_cases e:a=b
 .subst e;simp
 .have h:¬(lA a:Key)=lA b:=λq=>e (ahK q)
  rw[dY h,dY e]
theorem amo(a:Int)(b:Str):decide ((mH a:Key)=lA b)=aL:=dY (λq=>nomatch q)
theorem amq(a:Str)(b:Int):decide ((lA a:Key)=mH b)=aL:=dY (λq=>nomatch q)
def jb(prog:bQ)(w:bK):xX prog w Key where
 is:=Eb
 hash:=aoF w
 inj:=λv a b ha hb=>by
  rcases tW ha with⟨i,t,rfl,rfl⟩|⟨x,t,rfl,rfl⟩
  .rcases tW hb with⟨j,u,rfl,e⟩|⟨y,u,rfl,e⟩
   .injection e with e1 _;rw[e1]
   .exact nomatch e
  .rcases tW hb with⟨j,u,rfl,e⟩|⟨y,u,rfl,e⟩
   .exact nomatch e
   .injection e with e1 _;rw[e1]
 byValue:=λk v h=>by
  rcases tW h with⟨i,t,rfl,rfl⟩|⟨x,t,rfl,rfl⟩<;>rfl
 pyHash:=λhv h=>by
  rcases tW hv with⟨i,t,rfl,rfl⟩|⟨x,t,rfl,rfl⟩
  .exact wpAny_pyHash_int h
  .exact wpAny_pyHash_str h
 eqBool:=λhu hv h=>by
  rcases tW hu with⟨i,t,rfl,rfl⟩|⟨x,t,rfl,rfl⟩
  .rcases tW hv with⟨j,u,rfl,rfl⟩|⟨y,u,rfl,rfl⟩
   .rw[amm] at h;exact wpAny_eqBool_int h
   .rw[amo] at h;exact afX i t y u _ _ _ _ h
  .rcases tW hv with⟨j,u,rfl,rfl⟩|⟨y,u,rfl,rfl⟩
   .rw[amq] at h;exact afY x t j u _ _ _ _ h
   .rw[amn] at h;exact wpAny_eqBool_str h
 «strs»:=λk x t v h=>by
  rcases tW h with⟨i,u,rfl,e⟩|⟨y,u,rfl,e⟩
  .exact nomatch e
  .injection e with e1 _
   subst e1;cases v<;>rfl
theorem ahL(prog:bQ)(w:bK)(i:Int)(t:Tok):(jb prog w).is (.inl i) (.int i t)=ao:=aiD i t
theorem ahM(prog:bQ)(w:bK)(x:Str)(t:Tok):(jb prog w).is (.inr x) (.str x t)=ao:=aiE x t
inductive V where
 |non|bl (b:Bool)|int (i:Int)|str (x:Str)|rM (b:Array UInt8)|flt (b:UInt64)|ref (a:aq)|ty (n:String)
 deriving DecidableEq
def RelV:V->Value->Prop
 |.non,u=>u=nJ
 |.bl b,u=>u=uV b
 |.int i,u=>∃t,u=Km i t
 |.str x,u=>∃t,u=Ko x t
 |.rM b,u=>∃t,u=Value.bytes b t
 |.flt b,u=>∃t,u=ZK b t
 |.ref a,u=>u=eV a
 |.ty n,u=>u=Gh n
abbrev Vals:List V->List Value->Prop:=Paired RelV
theorem Vals.length{xs:List V}{us:List Value}(r:Vals xs us):xs.length=us.length:=Paired.length r
theorem Vals.get:∀{xs:List V}{us:List Value}{i:Nat}{x:V},Vals xs us->xs[i]?=aa x->∃u,us[i]?=aa u/\RelV x u
 |_,_,_,_,.nil,e=>by simp at e
 |_,_,0,_,.cons r _,e=>by simp at e;subst e;exact⟨_,rfl,r⟩
 |_,_,i+1,x,.cons _ t,e=>by
  obtain⟨u,h1,h2⟩:=Vals.get (i:=i) (x:=x) t (by simpa using e)
  exact⟨u,by simpa using h1,h2⟩
theorem Vals.set{x:V}{u:Value}(r:RelV x u):∀{xs:List V}{us:List Value}(i:Nat),Vals xs us->Vals (xs.set i x) (us.set i u)
 |_,_,_,.nil=>.nil
 |_,_,0,.cons _ t=>.cons r t
 |_,_,i+1,.cons q t=>.cons q (Vals.set r i t)
theorem Vals.append:∀{xs ys:List V}{us ws:List Value},Vals xs us->Vals ys ws->Vals (xs++ys) (us++ws)
 |_,_,_,_,.nil,s=>s
 |_,_,_,_,.cons r t,s=>.cons r (Vals.append t s)
theorem Vals.take:∀{xs:List V}{us:List Value}(n:Nat),Vals xs us->Vals (xs.take n) (us.take n)
 |_,_,0,_=>.nil
 |_,_,_+1,.nil=>.nil
 |_,_,n+1,.cons r t=>.cons r (Vals.take n t)
theorem Vals.drop:∀{xs:List V}{us:List Value}(n:Nat),Vals xs us->Vals (xs.drop n) (us.drop n)
 |_,_,0,r=>r
 |_,_,_+1,.nil=>.nil
 |_,_,n+1,.cons _ t=>Vals.drop n t
def rD:Option V->Option Value->Prop
 |some v,some u=>RelV v u
 |none,none=>True
 |_,_=>False
def KV{κ:Type}:List (κ×V)->List (κ×Value)->Prop:=Paired λ(p:κ×V)(q:κ×Value)=>p.1=q.1/\RelV p.2 q.2
def kV:Key->V
 |.inl i=>.int i
 |.inr x=>.str x
inductive HO where
 |lst (xs:List V)
 |tup (xs:List V)
 |dK (kvs:List (Key×V))|dT (kvs:List (List Key×V))
 |set (S:Int->Bool) (n:Nat)
 |ins (C dx:aq) (fs:List (Str×V))
 |own (x:aq)
 |xd (fs:List (Str×V))
 |met (f x:aq)
 |Wm (lo hi:Int)
 |nO (o:Obj) (u:HO)
 |Bm (ps:Array Value)
 |ext (φ:bw->Prop)
abbrev Hp:=aq->Option HO
def upd(H:Hp)(a:aq)(o:HO):Hp:=λb=>if b=a then aa o else H b
theorem fG{H:Hp}{a:aq}{o:HO}:upd H a o a=aa o:=by unfold upd;rw[bC rfl]
theorem di{H:Hp}{a b:aq}{o:HO}(h:b≠a):upd H a o b=H b:=by unfold upd;rw[bJ h]
theorem ab4{H:Hp}{a:aq}{o u:HO}:upd (upd H a o) a u=upd H a u:=by
 funext b;unfold upd;split<;>rfl
theorem Vt{H:Hp}{a b:aq}{o u:HO}(h:H a=aa o)(h':H b=aa u)(d:o≠u):a≠b:=by
 intro e;subst e;rw[h] at h';exact d (gH h')
theorem qW{H:Hp}{a b:aq}{o:HO}(h:H a=aa o)(h':H b=aj):a≠b:=by
 intro e;subst e;rw[h] at h';cases h'
section
variable(P:bQ)(w:bK)
def gj(H:Hp)(h:bw)(a:aq):HO->Prop
 |.lst xs=>xs.length<=cH/\∃(its:List Value)(n:Nat),Vals xs its/\h.get? a=aa {cls:=.type "list",data:=.seq its.toArray n}
 |.tup xs=>xs.length<=cH/\∃its:List Value,Vals xs its/\IsTup h a its.toArray
 |.dK kvs=>kvs.length<=cH/\(a==tX)=aL/\∃vs,KV kvs vs/\h.DictOf (jb P w) a vs
 |.dT kvs=>kvs.length<=cH/\(a==tX)=aL/\∃xs:List (List Key×aq×Value),
   Paired (λ(p:List Key×V)(q:List Key×aq×Value)=>p.1=q.1/\H q.2.1=aa (.tup (p.1.map kV))/\RelV p.2 q.2.2) kvs xs/\
   ∃o es ep,h.get? a=aa o/\o.ExactDict/\o.data=.dict es ep/\es.toList=xs.map (entryOfKey (Kq (jb P w)))/\(xs.map (·.1)).Nodup
 |.set S n=>h.SetOf (intKind P w) a S n
 |.ins C dx fs=>H dx=aa (.own a)/\fs.length<=1000/\dx≠a/\h.get? a=aa (Yt C dx)/\
   ∃mA,h.Ns1 dx mA/\(∀f,rD (fs.lookup f) (mA f))/\ahh mA (fs.map (·.1))
 |.own _=>∃o,h.get? a=aa o
 |.xd fs=>∃mA,h.Ns1 a mA/\∀f,rD (fs.lookup f) (mA f)
 |.Wm lo hi=>∃t u v,h.get? a=aa {cls:=.type "range",data:=.fields #[.int lo t,.int hi u,.int 1 v]}
 |.nO o u=>h.get? a=aa o/\gj H h a u
 |.Bm ps=>h.get? a=aa {cls:=.none,data:=.fields ps}
 |.met f x=>h.get? a=aa (X6 (.ref f) (.ref x))
 |.ext φ=>φ h/\(∃o,h.get? a=aa o)/\∀h1 h2:bw,φ h1->(∀o,h1.get? a=aa o->h2.get? a=aa o)->φ h2
def jm(H:Hp)(h:bw):Prop:=∀a o,H a=aa o->gj P w H h a o
end
section
variable{P:bQ}{w:bK}{H H':Hp}{h h':bw}{a:aq}{o:HO}
theorem gj.lt(x:gj P w H h a o):a<h.objs.size:=by
 cases o with
 |lst xs=>obtain⟨_,_,_,_,e⟩:=x;exact cN e
 |tup xs=>obtain⟨_,_,_,p⟩:=x;exact p.lt
 |dK kvs=>obtain⟨_,_,_,_,o,_,_,e,_⟩:=x;exact cN e
 |dT kvs=>obtain⟨_,_,_,_,o,_,_,e,_⟩:=x;exact cN e
 |set S n=>obtain⟨o,_,_,_,e,_⟩:=x;exact cN e
 |ins C dx fs=>obtain⟨_,_,_,e,_⟩:=x;exact cN e
 |own y=>obtain⟨_,e⟩:=x;exact cN e
 |xd fs=>obtain⟨_,⟨_,_,_,e,_⟩,_⟩:=x;exact cN e
 |Wm lo hi=>obtain⟨_,_,_,e⟩:=x;exact cN e
 |nO ob u=>obtain⟨e,_⟩:=x;exact cN e
 |Bm ps=>exact cN (show h.get? a=aa _ from x)
 |met f y=>exact cN (show h.get? a=aa _ from x)
 |ext φ=>obtain⟨_,⟨_,e⟩,_⟩:=x;exact cN e
theorem Paired.V3{α β:Type}{F G:α->β->Prop}:∀{l₁:List α}{l₂:List β},Paired F l₁ l₂->(∀a b,F a b->G a b)->Paired G l₁ l₂
 |_,_,.nil,_=>.nil
 |_,_,.cons r t,f=>.cons (f _ _ r) (Paired.V3 t f)
theorem gj.stay(x:gj P w H h a o)(k:∀b u,(b=a\/H b=aa (.own a))->h.get? b=aa u->h'.get? b=aa u)
  (ho:∀b,H b=aa (.own a)->H' b=aa (.own a))(ht:∀b xs,H b=aa (.tup xs)->H' b=aa (.tup xs)):gj P w H' h' a o:=by
 induction o with
 |lst xs=>obtain⟨z,its,n,r,e⟩:=x;exact⟨z,its,n,r,k _ _ (.inl rfl) e⟩
 |tup xs=>obtain⟨z,its,r,ob,e,c⟩:=x;exact⟨z,its,r,ob,k _ _ (.inl rfl) e,c⟩
 |dK kvs=>obtain⟨z,y,vs,r,ob,es,ep,e,c⟩:=x;exact⟨z,y,vs,r,ob,es,ep,k _ _ (.inl rfl) e,c⟩
 |dT kvs=>
  obtain⟨z,y,xs,r,ob,es,ep,e,c⟩:=x
  exact⟨z,y,xs,Paired.V3 r λp q z=>⟨z.1,ht _ _ z.2.1,z.2.2⟩,ob,es,ep,k _ _ (.inl rfl) e,c⟩
 |set S n=>obtain⟨ob,es,ep,t,e,c⟩:=x;exact⟨ob,es,ep,t,k _ _ (.inl rfl) e,c⟩
 |ins C dx fs=>
  obtain⟨d,z,ne,e,mA,⟨od,es,ep,e2,c⟩,r⟩:=x
  exact⟨ho _ d,z,ne,k _ _ (.inl rfl) e,mA,⟨od,es,ep,k _ _ (.inr d) e2,c⟩,r⟩
 |own y=>obtain⟨ob,e⟩:=x;exact⟨ob,k _ _ (.inl rfl) e⟩
 |xd fs=>obtain⟨mA,⟨od,es,ep,e,c⟩,r⟩:=x;exact⟨mA,⟨od,es,ep,k _ _ (.inl rfl) e,c⟩,r⟩
 |Wm lo hi=>obtain⟨t,u,v,e⟩:=x;exact⟨t,u,v,k _ _ (.inl rfl) e⟩
 |nO ob u ih=>obtain⟨e,q⟩:=x;exact⟨k _ _ (.inl rfl) e,ih q⟩
 |Bm ps=>
  have e:h.get? a=aa {cls:=.none,data:=.fields ps}:=x;show h'.get? a=aa {cls:=.none,data:=.fields ps};exact k a _ (.inl rfl) e
 |met f y=>
  have e:h.get? a=aa (X6 (.ref f) (.ref y)):=x;show h'.get? a=aa (X6 (.ref f) (.ref y));exact k a _ (.inl rfl) e
 |ext φ=>obtain⟨p,⟨o,e⟩,st⟩:=x;exact⟨st _ _ p λo q=>k _ _ (.inl rfl) q,⟨o,k _ _ (.inl rfl) e⟩,st⟩
theorem jm.lt(x:jm P w H h)(e:H a=aa o):a<h.objs.size:=(x a o e).lt
theorem jm.fresh(x:jm P w H h)(e:h.objs.size<=a):H a=aj:=by
 cases q:H a with
 |none=>rfl
 |some u=>exact absurd (qt (x.lt q) e) (xY _)
theorem jm.kept(x:jm P w H h)(k:∀b u,h.get? b=aa u->h'.get? b=aa u):jm P w H h':=λa o e=>
 (x a o e).stay (λb u _ q=>k b u q) (λ_ q=>q) λ_ _ q=>q
theorem jm.laid(x:jm P w H h)(k:∀b u,h.get? b=aa u->h'.get? b=aa u)(hp:h.objs.size<=a)(new:gj P w (upd H a o) h' a o):jm P w (upd H a o) h':=λb u e=>by
 have hn:=x.fresh hp;by_cases hb:b=a
 .subst hb;rw[fG] at e;cases e;exact new
 .rw[di hb] at e
  exact(x b u e).stay (λc v _ q=>k c v q) (λc q=>by rw[di (qW q hn)];exact q) λc xs q=>by rw[di (qW q hn)];exact q
end
def Rd(H:Hp)(a:aq)(u:HO):Prop:=H a=aa u\/∃o,H a=aa (.nO o u)
theorem Rd.of{H:Hp}{a:aq}{u:HO}(h:H a=aa u):Rd H a u:=.inl h
theorem Rd.ok{P:bQ}{w:bK}{H:Hp}{h:bw}{a:aq}{u:HO}(r:Rd H a u)(x:jm P w H h):gj P w H h a u:=by
 rcases r with r|⟨o,r⟩
 .exact x a u r
 .obtain⟨_,q⟩:=x a _ r
  exact q
def H9:Option HO->Prop
 |some (.lst _)=>True
 |some (.dK _)=>True
 |some (.dT _)=>True
 |some (.set _ _)=>True
 |some (.ins _ _ _)=>True
 |some (.ext _)=>True
 |_=>False
section
variable{P:bQ}{w:bK}{H:Hp}{h h':bw}{x e:aq}{o':HO}
theorem jm.write(ok:jm P w H h)(mu:H9 (H x))(he:e=x\/H e=aa (.own x))(k:∀b u,b≠e->h.get? b=aa u->h'.get? b=aa u)(heo:∃u,h'.get? e=aa u)
  (new:gj P w (upd H x o') h' x o'):jm P w (upd H x o') h':=λb u q=>by
 have ad8:∀c y,H c=aa (.own y)->c≠x:=λc y r z=>by subst z;rw[r] at mu;exact mu
 have aoG:∀c xs,H c=aa (.tup xs)->c≠x:=λc xs r z=>by subst z;rw[r] at mu;exact mu
 by_cases hb:b=x
 .subst hb;rw[fG] at q;cases q;exact new
 .rw[di hb] at q;by_cases hbe:b=e
  .have q':H b=aa (.own x):=by
    rcases he with z|z
    .exact absurd (hbe.trans z) hb
    .rw[hbe];exact z
   rw[q] at q';cases q'
   obtain⟨v,hv⟩:=heo
   exact⟨v,by rw[hbe];exact hv⟩
  .refine(ok b u q).stay (λc v hc r=>k c v ?_ r) (λc r=>by rw[di (ad8 c b r)];exact r) λc xs r=>by rw[di (aoG c xs r)];exact r
   rcases hc with rfl|hc
   .exact hbe
   .rintro rfl;rcases he with z|z
    .exact ad8 c b hc z
    .rw[hc] at z;cases z;exact hb rfl
end
structure Un(fs ex:List aq)(H H':Hp)(h h':bw):Prop where
 keep:∀b o,h.get? b=aa o->H b=aj->b∉fs->b∉ex->h'.get? b=aa o
 slot:∀b o,h.get? b=aa o->H b=aj->b∈fs->b∉ex->∃sl,h'.get? b=aa {o with slots:=sl}
 free:∀b o,h.get? b=aa o->H b=aj->b∉ex->H' b=aj
 there:∀b o,h.get? b=aa o->b∉ex->∃o',h'.get? b=aa o'
 tups:∀b xs,H b=aa (.tup xs)->H' b=aa (.tup xs)
 rE:∀b o u,H b=aa (.nO o u)->H' b=aa (.nO o u)
 sV:∀b ps,H b=aa (.Bm ps)->∃more,H' b=aa (.Bm (ps++more))
section
variable{fs fs' ex ex':List aq}{H H1 H2:Hp}{h h1 h2 h':bw}{a x e:aq}{o:HO}
theorem Un.any(u:Un fs ex H H1 h h1){b:aq}{ob:Obj}(q:h.get? b=aa ob)(n:H b=aj)(hx:b∉ex):∃sl,h1.get? b=aa {ob with slots:=sl}:=by
 by_cases hb:b∈fs
 .exact u.slot b ob q n hb hx
 .exact⟨ob.slots,u.keep b ob q n hb hx⟩
theorem Un.trans(a:Un fs ex H H1 h h1)(b:Un fs ex H1 H2 h1 h2):Un fs ex H H2 h h2 where
 keep:=λc ob q n hc hx=>b.keep c ob (a.keep c ob q n hc hx) (a.free c ob q n hx) hc hx
 slot:=λc ob q n hc hx=>by
  obtain⟨sl,e1⟩:=a.slot c ob q n hc hx
  obtain⟨sl',e2⟩:=b.slot c _ e1 (a.free c ob q n hx) hc hx
  exact⟨sl',e2⟩
 free:=λc ob q n hx=>by
  obtain⟨o',e1⟩:=a.there c ob q hx
  exact b.free c o' e1 (a.free c ob q n hx) hx
 there:=λc ob q hx=>by
  obtain⟨o',e1⟩:=a.there c ob q hx
  exact b.there c o' e1 hx
 tups:=λc xs q=>b.tups c xs (a.tups c xs q)
 rE:=λc ob xs q=>b.rE c ob xs (a.rE c ob xs q)
 sV:=λc ps q=>by
  obtain⟨m1,e1⟩:=a.sV c ps q
  obtain⟨m2,e2⟩:=b.sV c _ e1
  exact⟨m1++m2,by rw[e2,afZ]⟩
theorem Un.kept(k:∀b u,h.get? b=aa u->h'.get? b=aa u):Un fs ex H H h h':=
 ⟨λb ob q _ _ _=>k b ob q,λb ob q _ _ _=>⟨ob.slots,k b ob q⟩,λ_ _ _ n _=>n,λb ob q _=>⟨ob,k b ob q⟩,λ_ _ q=>q,λ_ _ _ q=>q,λ_ ps q=>⟨#[],by rw[q];simp⟩⟩
theorem Un.refl:Un fs ex H H h h:=Un.kept λ_ _ q=>q
theorem Un.laid(k:∀b u,h.get? b=aa u->h'.get? b=aa u)(hp:h.objs.size<=a)(hn:H a=aj):Un fs ex H (upd H a o) h h' where
 keep:=λb u q _ _ _=>k b u q
 slot:=λb u q _ _ _=>⟨u.slots,k b u q⟩
 free:=λb u q n _=>by rw[di (eU (qt (cN q) hp))];exact n
 there:=λb u q _=>⟨u,k b u q⟩
 tups:=λb xs q=>by rw[di (qW q hn)];exact q
 rE:=λb u xs q=>by rw[di (qW q hn)];exact q
 sV:=λb ps q=>⟨#[],by rw[di (qW q hn),q];simp⟩
theorem Un.write(mu:H9 (H x))(he:e=x\/H e=aa (.own x))(k:∀b u,b≠e->h.get? b=aa u->h'.get? b=aa u)(heo:∃u,h'.get? e=aa u):Un fs ex H (upd H x o) h h':=by
 have hx:∀b,H b=aj->b≠x:=λb n z=>by subst z;rw[n] at mu;exact mu
 have hb:∀b,H b=aj->b≠e:=λb n z=>by
  subst z;rcases he with r|r
  .exact hx b n r
  .rw[n] at r;cases r
 have hm:∀b u,H b=aa u->¬H9 (aa u)->b≠x:=λb u q nm z=>by subst z;rw[q] at mu;exact nm mu
 refine⟨λb u q n _ _=>k b u (hb b n) q,λb u q n _ _=>⟨u.slots,k b u (hb b n) q⟩,λb u q n _=>by rw[di (hx b n)];exact n,λb u q _=>?_,
  λb xs q=>by rw[di (hm b _ q λz=>z)];exact q,λb u xs q=>by rw[di (hm b _ q λz=>z)];exact q,λb ps q=>⟨#[],by rw[di (hm b _ q λz=>z),q];simp⟩⟩
 by_cases hbe:b=e
 .subst hbe;exact heo
 .exact⟨u,k b u hbe q⟩
theorem Un.mono(u:Un fs ex H H1 h h1)(hs:∀b∈fs,b∈fs')(hx:∀b∈ex,b∈ex'):Un fs' ex' H H1 h h1:=
 ⟨λb ob q n hb he=>u.keep b ob q n (λz=>hb (hs b z)) λz=>he (hx b z),λ_ _ q n _ he=>u.any q n λz=>he (hx _ z),λb ob q n he=>u.free b ob q n λz=>he (hx b z),λb ob q he=>u.there b ob q λz=>he (hx b z),u.tups,u.rE,u.sV⟩
end
def Nm(h:bw)(H:Hp):List aq:=(fj h.objs.size).filter λa=>(H a).isSome
def wY(h:bw)(H:Hp):bw:=PySem.W.hideAll h (Nm h H)
theorem aiF(h:bw)(H:Hp):(wY h H).objs.size=h.objs.size:=PySem.W.hideAll_size _ _
theorem ajF{h:bw}{H:Hp}{b:aq}{o:Obj}(e:h.get? b=aa o)(n:H b=aj):(wY h H).get? b=aa o:=
 PySem.W.hideAll_get _ e λhm=>by
  have q:(H b).isSome=ao:=(tU.mp hm).2;rw[n] at q;simp at q
theorem akS{h:bw}{H:Hp}{b:aq}{o:Obj}(e:(wY h H).get? b=aa o):h.get? b=aa o/\H b=aj:=by
 have e':h.get? b=aa o:=PySem.W.of_hideAll (Nm h H) e
 refine⟨e',?_⟩
 cases q:H b with
 |none=>rfl
 |some x=>
  have hm:b∈Nm h H:=tU.mpr ⟨rT.mpr (cN e'),by simp[q]⟩;have z:(wY h H).get? b=aj:=PySem.W.hideAll_none (Nm h H) hm;rw[z] at e;cases e
def akT(g h:bw)(L:aq):List (aq×Obj):=(fj h.objs.size).filterMap λa=>if a=L\/(g.get? a).isSome=ao then aj else(h.get? a).map λo=>(a,o)
def rest(g h:bw)(L d:aq):List (aq×Obj):=(akT g h L).filter λp=>decide (p.1≠d)
structure Mod(K:aQ)(mg:Str->Option Value)(base:bw):Prop where
 Wn:K.In base
 glob:base.Ns iZ mg
 blt:∃mb,base.Ns builtinsNs mb/\∀x:Str,x≠"__name__"->mb x=uU x
 nolimit:base.NoLimit
structure Cx where
 prog:bQ
 w:bK
 K:aQ
 mg:Str->Option Value
 base:bw
 A:cV
 N:List Str
 s₀:aJ
 H₀:Hp
 env:Env
 outer:List Env
 stack:List Env
 ex:List aq
 fn:Str->Bool
 calm:Bool
 pn:List (aq×Obj)
 xe:Value->aJ->Prop
def frs(l:List Env):List aq:=l.filterMap (·.frame)
abbrev Cx.fs(X:Cx):List aq:=frs X.outer
def Np(sc:kJ)(x:Str):Prop:=sc.names.lookup x=aa .local\/sc.names.lookup x=aa .cell\/sc.names.lookup x=aa .free
def Loc(sc:kJ)(x:Str):Prop:=sc.names.lookup x=aa .local\/sc.names.lookup x=aa .cell
def Look(env:Env)(h:bw)(m:Str->Option Value)(x:Str)(u:Value):Prop:=
 (env.kindOf x=aa .local/\m x=aa u)\/((env.kindOf x=aa .cell\/env.kindOf x=aa .free)/\∃c,env.cells.lookup x=aa c/\h.IsCell c (aa u))
structure Cx.Ok(X:Cx):Prop where
 mod:Mod X.K X.mg X.base
 kind:X.env.scope.kind=.function
 glob:X.env.globals=iZ
 blt:X.env.builtins=builtinsNs
 above:X.s₀.heap.objs.size<=X.env.locals
 inj:∀x y c,X.env.cells.lookup x=aa c->X.env.cells.lookup y=aa c->x=y
 has:∀x,(X.env.kindOf x=aa .cell\/X.env.kindOf x=aa .free)->∃c,X.env.cells.lookup x=aa c
 cab:∀x c,X.fn x=ao->X.env.cells.lookup x=aa c->X.s₀.heap.objs.size<=c
 hd:X.calm=ao->X.A.handled=aj
 frames:X.A.frames=aa X.stack
 stk:X.stack=X.outer\/(X.stack=X.env::X.outer/\X.env.frame=aa X.env.locals)
 exf:∀b∈X.ex,b≠X.env.locals/\∀x c,X.env.cells.lookup x=aa c->c≠b
 bs:∀b o,X.base.get? b=aa o->X.s₀.heap.get? b=aa o/\X.H₀ b=aj
 vO:X.base.objs.size<=X.s₀.heap.objs.size
 HH:∀b o,X.base.get? b=aa o->b∉X.ex
 M7:∀b∈X.ex,b∉X.fs
 sW:X.s₀.heap.FunFrames X.base X.outer
 Bo:∀b∈X.fs,X.H₀ b=aj
structure Inv(X:Cx)(pins:List (aq×Obj))(σ:List (Option V))(H:Hp)(s:aJ):Prop where
 ok:X.Ok
 os:s.os=X.s₀.os
 bare:AllBare s.gens
 base:Un X.fs X.ex X.H₀ H X.s₀.heap s.heap
 loc:∃m,s.heap.Ns X.env.locals m/\∀(i:Nat)(x:Str)(v:V),X.N[i]?=aa x->σ[i]?=aa (aa v)->Np X.env.scope x->∃u,RelV v u/\Look X.env s.heap m x u
 cell:∀x c,X.env.cells.lookup x=aa c->∃v,s.heap.IsCell c v
 free:H X.env.locals=aj
 ur:∀x c,X.env.cells.lookup x=aa c->H c=aj
 pin:∀p∈X.pn++pins,s.heap.get? p.1=aa p.2/\H p.1=aj/\p.1≠X.env.locals/\p.1∉X.fs/\∀v,p.2.data≠.cell v
 hok:jm X.prog X.w H s.heap
 len:σ.length=X.N.length
section
variable{X:Cx}{pins:List (aq×Obj)}{σ:List (Option V)}{H H':Hp}{s:aJ}{h':bw}
theorem Cx.Ok.aoH(ok:X.Ok){b:aq}{o:Obj}(e:X.base.get? b=aa o):b∉X.fs:=λhb=>by
 have:=(ok.sW.mem hb).1;rw[e] at this;cases this
theorem Inv.bs(I:Inv X pins σ H s):∀b o,X.base.get? b=aa o->s.heap.get? b=aa o/\H b=aj:=λb o e=>
 ⟨I.base.keep b o (I.ok.bs b o e).1 (I.ok.bs b o e).2 (I.ok.aoH e) (I.ok.HH b o e),I.base.free b o (I.ok.bs b o e).1 (I.ok.bs b o e).2 (I.ok.HH b o e)⟩
theorem Inv.bk(I:Inv X pins σ H s):∀b o,X.base.get? b=aa o->s.heap.get? b=aa o:=λb o e=>(I.bs b o e).1
theorem Inv.mod(I:Inv X pins σ H s):Mod X.K X.mg X.base:=I.ok.mod
theorem Inv.jy(I:Inv X pins σ H s):X.K.In s.heap:=I.ok.mod.Wn.keeps I.bk
theorem Inv.nolimit(I:Inv X pins σ H s):s.heap.NoLimit:=I.ok.mod.nolimit.keeps I.bk
theorem Inv.fr(I:Inv X pins σ H s):∃m,Fr X.base X.env.locals s.heap m:=
 let ⟨m,hn,_⟩:=I.loc
 ⟨m,hn,I.bk,lR I.ok.vO I.ok.above⟩
theorem Inv.lt(I:Inv X pins σ H s):X.env.locals<s.heap.objs.size:=let ⟨_,hn,_⟩:=I.loc;hn.lt
theorem Inv.sz(I:Inv X pins σ H s):X.s₀.heap.objs.size<=s.heap.objs.size:=lR I.ok.above (yc I.lt)
theorem Inv.aoI(I:Inv X pins σ H s){a:aq}(h:s.heap.objs.size<=a):a∉X.fs:=λhb=>by
 obtain⟨_,o,ho,_⟩:=I.ok.sW.mem hb
 exact absurd (qt (cN ho) (lR I.sz h)) (xY _)
theorem Inv.Bp(I:Inv X pins σ H s):∀x c,X.env.cells.lookup x=aa c->c≠X.env.locals:=λx c e z=>by
 obtain⟨v,o,ho,hd⟩:=I.cell x c e
 obtain⟨m,⟨o',es,ep,ho',hd',_⟩,_⟩:=I.loc
 rw[z,ho'] at ho;cases ho;rw[hd'] at hd;cases hd
theorem Inv.sW(I:Inv X pins σ H s):s.heap.FunFrames X.base X.outer:=by
 have all:∀(l:List Env),(∀b∈frs l,b∈X.fs)->X.s₀.heap.FunFrames X.base l->s.heap.FunFrames X.base l:=by
  intro l;induction l with
  |nil=>intro _ _;trivial
  |cons env r ih=>
   intro hs hl
   obtain⟨hk,⟨L,o,hf,hn,ho,hd⟩,hr⟩:=hl
   have hL:L∈X.fs:=hs L (by unfold frs;rw[XQ,hf];exact dH)
   obtain⟨sl,e⟩:=I.base.slot L o ho (I.ok.Bo L hL) hL λz=>I.ok.M7 L z hL
   exact⟨hk,⟨L,_,hf,hn,e,hd⟩,ih (λb hb=>hs b (by unfold frs;rw[XQ,hf];exact gh _ hb)) hr⟩
 exact all X.outer (λ_ hb=>hb) I.ok.sW
theorem Inv.stack(I:Inv X pins σ H s):s.heap.FunFrames X.base X.stack:=by
 rcases I.ok.stk with e|⟨e,hf⟩
 .rw[e];exact I.sW
 .rw[e]
  obtain⟨m,hn,_⟩:=I.loc
  refine .cons (by rw[I.ok.kind];decide) hf hn ?_ I.sW;exact Heap.get?_none_of_le (lR I.ok.vO I.ok.above)
theorem Inv.Dv(I:Inv X pins σ H s):∀b∈frs X.stack,b∈X.env.locals::X.fs:=λb hb=>by
 rcases I.ok.stk with e|⟨e,hf⟩
 .rw[e] at hb;exact gh _ hb
 .rw[e] at hb;unfold frs at hb;rw[XQ,hf] at hb;exact hb
theorem Inv.ab5(I:Inv X pins σ H s):∀b∈frs X.stack,H b=aj:=λb hb=>by
 rcases cM.mp (I.Dv b hb) with e|hb
 .rw[e];exact I.free
 .obtain⟨_,o,ho,_⟩:=I.ok.sW.mem hb
  exact I.base.free b o ho (I.ok.Bo b hb) λz=>I.ok.M7 b z hb
theorem Inv.step{g':Array GenState}{t':Nat}{d':Al}{ch:List aq}(I:Inv X pins σ H s)
  (hch:∀b∈ch,(b∈X.ex\/X.s₀.heap.objs.size<=b)/\b≠X.env.locals/\(∀x c,X.env.cells.lookup x=aa c->c≠b)/\∀p∈X.pn++pins,p.1≠b)
  (keep:∀b o,b≠X.env.locals->b∉X.fs->b∉ch->s.heap.get? b=aa o->H b=aj->h'.get? b=aa o)
  (slot:∀b o,b≠X.env.locals->b∈X.fs->b∉ch->s.heap.get? b=aa o->H b=aj->∃sl,h'.get? b=aa {o with slots:=sl})(free:∀b o,b∉ch->s.heap.get? b=aa o->H b=aj->H' b=aj)
  (there:∀b o,b∉ch->s.heap.get? b=aa o->∃o',h'.get? b=aa o')
  (tups:∀b xs,H b=aa (.tup xs)->H' b=aa (.tup xs))(rE:∀b o u,H b=aa (.nO o u)->H' b=aa (.nO o u))(sV:∀b ps,H b=aa (.Bm ps)->∃more,H' b=aa (.Bm (ps++more)))
  (ns:∀m,s.heap.Ns X.env.locals m->h'.Ns X.env.locals m)(hok:jm X.prog X.w H' h')(hg:AllBare g'):
  Inv X pins σ H' {s with heap:=h',gens:=g',drawn:=d',toks:=t'}:=by
 have neL:∀b o,X.s₀.heap.get? b=aa o->b≠X.env.locals:=λb o e=>eU (qt (cN e) I.ok.above)
 have Nq:∀b o,X.s₀.heap.get? b=aa o->b∉X.ex->b∉ch:=λb o e hx hb=>by
  rcases(hch b hb).1 with z|z
  .exact hx z
  .exact absurd (qt (cN e) z) (xY _)
 have cellK:∀x c,X.env.cells.lookup x=aa c->∀v,s.heap.IsCell c v->h'.IsCell c v:=λx c e v aW=>by
  obtain⟨o,ho,hd⟩:=aW
  have Ia:c∉ch:=λz=>(hch c z).2.2.1 x c e rfl
  by_cases hc:c∈X.fs
  .obtain⟨sl,q⟩:=slot c o (I.Bp x c e) hc Ia ho (I.ur x c e)
   exact⟨_,q,hd⟩
  .exact⟨o,keep c o (I.Bp x c e) hc Ia ho (I.ur x c e),hd⟩
 refine⟨I.ok,I.os,hg,⟨λb o e n hb hx=>?_,λb o e n hb hx=>?_,λb o e n hx=>?_,λb o e hx=>?_,λb xs e=>tups b xs (I.base.tups b xs e),λb o xs e=>rE b o xs (I.base.rE b o xs e),λb ps e=>?_⟩,?_,λx c e=>?_,?_,λx c e=>?_,λp hp=>?_,hok,I.len⟩
 .exact keep b o (neL b o e) hb (Nq b o e hx) (I.base.keep b o e n hb hx) (I.base.free b o e n hx)
 .obtain⟨sl,e1⟩:=I.base.slot b o e n hb hx
  obtain⟨sl',e2⟩:=slot b _ (neL b o e) hb (Nq b o e hx) e1 (I.base.free b o e n hx)
  exact⟨sl',e2⟩
 .obtain⟨o',e1⟩:=I.base.there b o e hx
  exact free b o' (Nq b o e hx) e1 (I.base.free b o e n hx)
 .obtain⟨o',e1⟩:=I.base.there b o e hx
  exact there b o' (Nq b o e hx) e1
 .obtain⟨m1,e1⟩:=I.base.sV b ps e
  obtain⟨m2,e2⟩:=sV b _ e1
  exact⟨m1++m2,by rw[e2,afZ]⟩
 .obtain⟨m,hn,hl⟩:=I.loc
  refine⟨m,ns m hn,λi x v e1 e2 e3=>?_⟩
  obtain⟨u,r,l⟩:=hl i x v e1 e2 e3
  refine⟨u,r,?_⟩
  rcases l with l|⟨k,c,e,z⟩
  .exact .inl l
  .exact .inr ⟨k,c,e,cellK x c e _ z⟩
 .obtain⟨v,z⟩:=I.cell x c e
  exact⟨v,cellK x c e v z⟩
 .obtain⟨m,⟨o,_,_,ho,_⟩,_⟩:=I.loc
  exact free _ o (λz=>(hch _ z).2.1 rfl) ho I.free
 .obtain⟨v,o,ho,hd⟩:=I.cell x c e
  exact free c o (λz=>(hch c z).2.2.1 x c e rfl) ho (I.ur x c e)
 .obtain⟨e,n,ne,nf,d⟩:=I.pin p hp
  have Ia:p.1∉ch:=λz=>(hch p.1 z).2.2.2 p hp rfl
  exact⟨keep p.1 p.2 ne nf Ia e n,free p.1 p.2 Ia e n,ne,nf,d⟩
theorem Inv.un{t':Nat}(I:Inv X pins σ H s)(u:Un X.fs [] H H' s.heap h')(hok:jm X.prog X.w H' h'):Inv X pins σ H' {s with heap:=h',toks:=t'}:=by
 obtain⟨m,⟨o,es,ep,ho,r⟩,_⟩:=id I.loc
 obtain⟨sl,hL⟩:=u.any ho I.free (by simp)
 exact I.step (g':=s.gens) (d':=s.drawn) (ch:=[]) (λ_ z=>nomatch z) (λb o _ hb _ e n=>u.keep b o e n hb (by simp)) (λb o _ hb _ e n=>u.slot b o e n hb (by simp)) (λb o _ e n=>u.free b o e n (by simp)) (λb o _ e=>u.there b o e (by simp)) u.tups u.rE u.sV (λm' hm=>by
  obtain⟨o',es',ep',ho',r'⟩:=hm
  rw[ho] at ho';cases ho'
  exact⟨_,es',ep',hL,r'⟩) hok I.bare
theorem Inv.call{g':Array GenState}{t':Nat}{d':Al}{ch:List aq}(I:Inv X pins σ H s)(u:Un (frs X.stack) ch H H' s.heap h')(hok:jm X.prog X.w H' h')(hg:AllBare g')
  (hch:∀b∈ch,(b∈X.ex\/X.s₀.heap.objs.size<=b)/\b≠X.env.locals/\(∀x c,X.env.cells.lookup x=aa c->c≠b)/\∀p∈X.pn++pins,p.1≠b):
  Inv X pins σ H' {s with heap:=h',gens:=g',drawn:=d',toks:=t'}:=by
 obtain⟨m,⟨o,es,ep,ho,r⟩,_⟩:=id I.loc
 obtain⟨sl,hL⟩:=u.any ho I.free λz=>(hch _ z).2.1 rfl
 exact I.step (ch:=ch) hch (λb o hL hb hc e n=>u.keep b o e n (λz=>(cM.mp (I.Dv b z)).elim hL hb) hc) (λb o _ _ hc e n=>u.any e n hc) (λb o hc e n=>u.free b o e n hc) (λb o hc e=>u.there b o e hc) u.tups u.rE u.sV (λm' hm=>by
  obtain⟨o',es',ep',ho',r'⟩:=hm
  rw[ho] at ho';cases ho'
  exact⟨_,es',ep',hL,r'⟩) hok hg
theorem Inv.turned{t':Nat}{it:aq}(I:Inv X pins σ H s)(k:∀b o,b≠it->s.heap.get? b=aa o->h'.get? b=aa o)(hn:H it=aj)(hL:it≠X.env.locals)
  (h1:it∈X.ex\/X.s₀.heap.objs.size<=it)(h2:∀x c,X.env.cells.lookup x=aa c->c≠it)(h3:∀p∈X.pn++pins,p.1≠it):Inv X pins σ H {s with heap:=h',toks:=t'}:=by
 have Ib:∀b u,H b=aa u->b≠it:=λb u e z=>by rw[z,hn] at e;cases e
 refine I.step (g':=s.gens) (d':=s.drawn) (ch:=[it]) (λb hb=>?_) (λb o _ _ hc e _=>k b o (λz=>hc (by simp[z])) e) (λb o _ _ hc e _=>⟨o.slots,k b o (λz=>hc (by simp[z])) e⟩) (λ_ _ _ _ n=>n)
  (λb o hc e=>⟨o,k b o (λz=>hc (by simp[z])) e⟩) (λ_ _ e=>e) (λ_ _ _ e=>e) (λb ps e=>⟨#[],by rw[e];simp⟩) (λm hm=>?_) (λb u e=>?_) I.bare
 .have e:b=it:=by simpa using hb
  subst e
  exact⟨h1,hL,h2,h3⟩
 .obtain⟨o,es,ep,ho,r⟩:=hm
  exact⟨o,es,ep,k _ o (kI hL) ho,r⟩
 .refine(I.hok b u e).stay (λc v hc q=>k c v ?_ q) (λ_ q=>q) λ_ _ q=>q
  rcases hc with z|z
  .rw[z];exact Ib b u e
  .exact Ib c _ z
theorem Inv.tok(I:Inv X pins σ H s)(t:Nat):Inv X pins σ H {s with toks:=t}:=I.un (h':=s.heap) (t':=t) Un.refl I.hok
theorem Inv.kept{t':Nat}(I:Inv X pins σ H s)(k:∀b u,s.heap.get? b=aa u->h'.get? b=aa u):Inv X pins σ H {s with heap:=h',toks:=t'}:=I.un (Un.kept k) (I.hok.kept k)
theorem Inv.laid{a:aq}{o:HO}{t':Nat}(I:Inv X pins σ H s)(k:∀b u,s.heap.get? b=aa u->h'.get? b=aa u)(hp:s.heap.objs.size<=a)(new:gj X.prog X.w (upd H a o) h' a o):
  Inv X pins σ (upd H a o) {s with heap:=h',toks:=t'}:=I.un (Un.laid k hp (I.hok.fresh hp)) (I.hok.laid k hp new)
theorem Inv.write{x e:aq}{o:HO}{t':Nat}(I:Inv X pins σ H s)(mu:H9 (H x))(he:e=x\/H e=aa (.own x))(k:∀b u,b≠e->s.heap.get? b=aa u->h'.get? b=aa u)(heo:∃u,h'.get? e=aa u)
  (new:gj X.prog X.w (upd H x o) h' x o):Inv X pins σ (upd H x o) {s with heap:=h',toks:=t'}:=I.un (Un.write mu he k heo) (I.hok.write mu he k heo new)
theorem Inv.weak{σ':List (Option V)}(I:Inv X pins σ H s)(hl:σ'.length=σ.length)(w:∀(i:Nat) v,σ'[i]?=aa (aa v)->σ[i]?=aa (aa v)):Inv X pins σ' H s:=
 ⟨I.ok,I.os,I.bare,I.base,let ⟨m,hn,hl'⟩:=I.loc;⟨m,hn,λi x v e1 e2 e3=>hl' i x v e1 (w i v e2) e3⟩,I.cell,I.free,I.ur,I.pin,I.hok,hl.trans I.len⟩
theorem Inv.ab6{Vu:List (aq×Obj)}(I:Inv X pins σ H s)(h:∀p∈Vu,s.heap.get? p.1=aa p.2/\H p.1=aj/\p.1≠X.env.locals/\p.1∉X.fs/\∀v,p.2.data≠.cell v):Inv X Vu σ H s:=
 ⟨I.ok,I.os,I.bare,I.base,I.loc,I.cell,I.free,I.ur,λp hp=>(dR.mp hp).elim (λz=>I.pin p (jd _ z)) (h p),I.hok,I.len⟩
theorem aa8{N:List Str}(hN:N.Nodup){i j:Nat}{x:Str}(a:N[i]?=aa x)(b:N[j]?=aa x):i=j:=by
 obtain⟨h1,e1⟩:=jW.mp a
 obtain⟨h2,e2⟩:=jW.mp b
 exact(List.getElem_inj hN).mp (e1.trans e2.symm)
theorem Rt{M:Model}{A:cV}{E:Value->aJ->Prop}{i:Nat}{x:Str}{v:V}{u:Value}{Q:Unit->aJ->Prop}(I:Inv X pins σ H s)(hN:X.N.Nodup)(hi:X.N[i]?=aa x)(hx:Loc X.env.scope x)(r:RelV v u)
  (h:∀s',Inv X pins (σ.set i (aa v)) H s'->(∃a,zR a s.heap s'.heap/\(a=X.env.locals\/X.env.cells.lookup x=aa a))->Q () s')(hf:X.fn x=ao\/X.env.scope.names.lookup x=aa .local:=by first|exact .inl rfl|exact .inr rfl|assumption):aX M A (storeName X.env x u) Q E s:=by
 obtain⟨m,hn,hl⟩:=id I.loc
 have hcls:(X.env.scope.kind==.class||(X.env.scope.kind==.module&&X.env.locals != X.env.globals))=aL:=by rw[I.ok.kind];rfl
 have hiσ:i<σ.length:=by rw[I.len];exact(jW.mp hi).1
 have Bp:=I.Bp;have tracked:∀{a:aq}{h':bw},(∃o,s.heap.get? a=aa o/\H a=aj)->zR a s.heap h'->jm X.prog X.w H h':=λ{a h'} ha hs b ob e=>by
  obtain⟨_,_,hfree⟩:=ha
  refine(I.hok b ob e).stay (λc w' hc q=>(hs.2 c ?_).trans q) (λ_ q=>q) λ_ _ q=>q
  rintro rfl;rcases hc with rfl|hc
  .rw[hfree] at e;cases e
  .rw[hfree] at hc;cases hc
 rcases hx with hk|hk
 .refine wpAny_storeName_local hk hn (λh' hn' hs=>?_) hcls
  obtain⟨oL,_,_,hoL,_⟩:=id hn
  refine h _ ⟨I.ok,I.os,I.bare,⟨λb o e n hb hx=>?_,λb o e n hb hx=>?_,I.base.free,λb o e hx=>?_,I.base.tups,I.base.rE,I.base.sV⟩,⟨_,hn',λj y v' e1 e2 e3=>?_⟩,λy c e=>?_,I.free,I.ur,λp hp=>?_,tracked ⟨oL,hoL,I.free⟩ hs,by simpa using I.len⟩ ⟨_,hs,.inl rfl⟩
  .exact(hs.2 b (eU (qt (cN e) I.ok.above))).trans (I.base.keep b o e n hb hx)
  .obtain⟨sl,e1⟩:=I.base.slot b o e n hb hx
   exact⟨sl,(hs.2 b (eU (qt (cN e) I.ok.above))).trans e1⟩
  .obtain⟨o',e1⟩:=I.base.there b o e hx
   exact⟨o',(hs.2 b (eU (qt (cN e) I.ok.above))).trans e1⟩
  .by_cases hj:j=i
   .subst hj;rw[hi] at e1;cases e1;rw[afz hiσ] at e2;cases e2
    exact⟨u,r,.inl ⟨hk,by simp⟩⟩
   .rw[xM (kI hj)] at e2
    obtain⟨u',r',q⟩:=hl j y v' e1 e2 e3
    refine⟨u',r',?_⟩
    rcases q with⟨k,e⟩|⟨k,c,e,z⟩
    .refine .inl ⟨k,?_⟩;have:y≠x:=λe=>hj (aa8 hN e1 (e▸hi))
     simp[this,e]
    .exact .inr ⟨k,c,e,z.sameBut hs (Bp y c e)⟩
  .obtain⟨w',z⟩:=I.cell y c e
   exact⟨w',z.sameBut hs (Bp y c e)⟩
  .obtain⟨e,n,ne,nf,d⟩:=I.pin p hp
   exact⟨(hs.2 p.1 ne).trans e,n,ne,nf,d⟩
 .have hfn:X.fn x=ao:=by
   rcases hf with z|z
   .exact z
   .rw[z] at hk;cases hk
  obtain⟨c,hc⟩:=I.ok.has x (.inl hk)
  obtain⟨w',z⟩:=I.cell x c hc
  refine wpAny_storeName_cell I.ok.kind hk hc z (λh' hc' hs=>?_)
  obtain⟨oc,hoc,aoJ⟩:=id z
  refine h {s with heap:=h'} ⟨I.ok,I.os,I.bare,⟨λb o e n hb hx=>?_,λb o e n hb hx=>?_,I.base.free,λb o e hx=>?_,I.base.tups,I.base.rE,I.base.sV⟩,⟨m,hn.sameBut hs (kI (Bp x c hc)),λj y v' e1 e2 e3=>?_⟩,λy c' e=>?_,I.free,I.ur,λp hp=>?_,tracked ⟨oc,hoc,I.ur x c hc⟩ hs,by simpa using I.len⟩ ⟨c,hs,.inr hc⟩
  .exact(hs.2 b (eU (qt (cN e) (I.ok.cab x c hfn hc)))).trans (I.base.keep b o e n hb hx)
  .obtain⟨sl,e1⟩:=I.base.slot b o e n hb hx
   exact⟨sl,(hs.2 b (eU (qt (cN e) (I.ok.cab x c hfn hc)))).trans e1⟩
  .obtain⟨o',e1⟩:=I.base.there b o e hx
   exact⟨o',(hs.2 b (eU (qt (cN e) (I.ok.cab x c hfn hc)))).trans e1⟩
  .by_cases hj:j=i
   .subst hj;rw[hi] at e1;cases e1;rw[afz hiσ] at e2;cases e2
    exact⟨u,r,.inr ⟨.inl hk,c,hc,hc'⟩⟩
   .rw[xM (kI hj)] at e2
    obtain⟨u',r',q⟩:=hl j y v' e1 e2 e3
    refine⟨u',r',?_⟩
    rcases q with q|⟨k,c',e,z'⟩
    .exact .inl q
    .refine .inr ⟨k,c',e,z'.sameBut hs ?_⟩;rintro rfl;exact hj (aa8 hN e1 (I.ok.inj _ _ _ e hc▸hi))
  .by_cases hcc:c'=c
   .subst hcc;exact⟨_,hc'⟩
   .obtain⟨w2,z2⟩:=I.cell y c' e
    exact⟨w2,z2.sameBut hs hcc⟩
  .obtain⟨e,n,ne,nf,d⟩:=I.pin p hp
   refine⟨(hs.2 p.1 ?_).trans e,n,ne,nf,d⟩
   intro q;rw[q,hoc] at e;have q':oc=p.2:=gH e;exact d w' (by rw[<-q'];exact aoJ)
theorem uZ{M:Model}{A:cV}{E:Value->aJ->Prop}{i:Nat}{x:Str}{v:V}{u:Value}{Q:Unit->aJ->Prop}(I:Inv X pins σ H s)(hN:X.N.Nodup)(hi:X.N[i]?=aa x)(hx:Loc X.env.scope x)(r:RelV v u)
  (h:∀s',Inv X pins (σ.set i (aa v)) H s'->Q () s')(hf:X.fn x=ao\/X.env.scope.names.lookup x=aa .local:=by first|exact .inl rfl|exact .inr rfl|assumption):aX M A (storeName X.env x u) Q E s:=
 Rt I hN hi hx r (λs' I' _=>h s' I') hf
theorem Inv.call'{s':aJ}{ch:List aq}(I:Inv X pins σ H s)(ho:s'.os=s.os)(u:Un (frs X.stack) ch H H' s.heap s'.heap)(hok:jm X.prog X.w H' s'.heap)(hg:AllBare s'.gens)
  (hch:∀b∈ch,(b∈X.ex\/X.s₀.heap.objs.size<=b)/\b≠X.env.locals/\(∀x c,X.env.cells.lookup x=aa c->c≠b)/\∀p∈X.pn++pins,p.1≠b):Inv X pins σ H' s':=by
 obtain⟨h',g',d',t',o'⟩:=s'
 have e:o'=s.os:=ho;subst e;exact I.call (g':=g') (t':=t') (d':=d') u hok hg hch
end
abbrev XK:=Value->Option aq->Hp->Prop
abbrev St:=List (Option V)
abbrev VK:=V->Hp->Prop
abbrev TE:=St->Hp->VK->Prop
abbrev TT:=St->Hp->(Bool->Hp->Prop)->Prop
abbrev TA:=St->Hp->(List V->Hp->Prop)->Prop
structure Ends where
 nx:St->Hp->Prop
 rt:VK
 bk:St->Hp->Prop:=λ_ _=>False
 ct:St->Hp->Prop:=λ_ _=>False
abbrev TS:=Ends->St->Hp->Prop
def EP(X:Cx)(pins:List (aq×Obj))(σ:St)(Q:VK)(u:Value)(s':aJ):Prop:=∃v H',Inv X pins σ H' s'/\RelV v u/\Q v H'
def TP(X:Cx)(pins:List (aq×Obj))(σ:St)(Q:Bool->Hp->Prop)(b:Bool)(s':aJ):Prop:=∃H',Inv X pins σ H' s'/\Q b H'
def AP(X:Cx)(pins:List (aq×Obj))(σ:St)(Q:List V->Hp->Prop)(us:List Value)(s':aJ):Prop:=∃vs H',Inv X pins σ H' s'/\Vals vs us/\Q vs H'
def SP(X:Cx)(pins:List (aq×Obj))(D:Ends)(f:Flow)(s':aJ):Prop:=
 match f with
 |.next=>∃σ' H',Inv X pins σ' H' s'/\D.nx σ' H'
 |.brk=>∃σ' H',Inv X pins σ' H' s'/\D.bk σ' H'
 |.cont=>∃σ' H',Inv X pins σ' H' s'/\D.ct σ' H'
 |.ret u=>∃v σ' H',Inv X pins σ' H' s'/\RelV v u/\D.rt v H'
def PE(X:Cx)(e:Expr)(t:TE):Prop:=
 ∀(pins:List (aq×Obj))(s:aJ)(σ:St)(H:Hp)(Q:VK),Inv X pins σ H s->t σ H Q->aX (model X.prog X.w) X.A (eval e X.env) (EP X pins σ Q) X.xe s
def PT(X:Cx)(e:Expr)(t:TT):Prop:=
 ∀(pins:List (aq×Obj))(s:aJ)(σ:St)(H:Hp)(Q:Bool->Hp->Prop),Inv X pins σ H s->t σ H Q->aX (model X.prog X.w) X.A (isTrue e X.env (eval e X.env)) (TP X pins σ Q) X.xe s
def PW(X:Cx)(e:Expr)(t:TT):Prop:=
 ∀(whole:Sem Value)(pins:List (aq×Obj))(s:aJ)(σ:St)(H:Hp)(Q:Bool->Hp->Prop),Inv X pins σ H s->t σ H Q->aX (model X.prog X.w) X.A (isTrue e X.env whole) (TP X pins σ Q) X.xe s
theorem PW.pt{X:Cx}{e:Expr}{t:TT}(h:PW X e t):PT X e t:=h _
def PA(X:Cx)(es:List Expr)(t:TA):Prop:=
 ∀(pos:Pos)(pins:List (aq×Obj))(s:aJ)(σ:St)(H:Hp)(Q:List V->Hp->Prop),Inv X pins σ H s->t σ H Q->aX (model X.prog X.w) X.A (spliced (iu pos (bO es X.env))) (AP X pins σ Q) X.xe s
def PS(X:Cx)(st:dz)(t:TS):Prop:=
 ∀(pins:List (aq×Obj))(s:aJ)(σ:St)(H:Hp)(D:Ends),Inv X pins σ H s->t D σ H->aX (model X.prog X.w) X.A (exec st X.env) (SP X pins D) X.xe s
def j4(X:Cx)(st:List dz)(t:TS):Prop:=
 ∀(pins:List (aq×Obj))(s:aJ)(σ:St)(H:Hp)(D:Ends),Inv X pins σ H s->t D σ H->aX (model X.prog X.w) X.A (execs st X.env) (SP X pins D) X.xe s
theorem bV{α:Type}{t:Sem α}{Q Q':α->aJ->Prop}{M:Model}{A:cV}{E:Value->aJ->Prop}{s:aJ}(h:aX M A t Q E s)(hQ:∀a s,Q a s->Q' a s):aX M A t Q' E s:=qz h hQ λ_ _ x=>x
section
variable{X:Cx}
def rF(i:Nat):TE:=λσ H Q=>∃v,σ[i]?=aa (aa v)/\Q v H
def tC(v:V):TE:=λ_ H Q=>Q v H
theorem amr{i:Nat}{x:Str}{pos:Pos}(hN:X.N[i]?=aa x)(hv:Np X.env.scope x)(hd:(x==("__debug__":Str))=aL:=by decide)(hcd:(x==("__classdict__":Str))=aL:=by decide):PE X (.Name x pos) (rF i):=by
 intro pins s σ H Q I h
 obtain⟨v,e,h⟩:=h
 obtain⟨m,hn,hl⟩:=I.loc
 obtain⟨u,r,l⟩:=hl i x v hN e hv
 have fin:EP X pins σ Q u s:=⟨v,H,I,r,h⟩
 rcases l with⟨hk,hm⟩|⟨hk,c,hc,hcell⟩
 .exact Z1 (afO I.ok.kind hk hn hm fin) hd
 .rcases hk with hk|hk
  .exact Z1 (afS I.ok.kind hk hc hcell fin) hd
  .exact Z1 (wpAny_loadName_free I.ok.kind hk hc hcell fin hcd) hd
theorem aY{i j pos}:PE X (.Constant (.int i) j pos) (tC (.int i)):=λ_ _ _ H _ I h=>wpAny_Constant_int ⟨.int i,H,I.tok _,⟨_,rfl⟩,h⟩
theorem qI{b j pos}:PE X (.Constant (.bool b) j pos) (tC (.bl b)):=λ_ _ _ H _ I h=>Constant_bool ⟨.bl b,H,I,rfl,h⟩
theorem Dw{j pos}:PE X (.Constant .none j pos) (tC .non):=λ_ _ _ H _ I h=>Constant_none ⟨.non,H,I,rfl,h⟩
theorem Dy{x j pos}:PE X (.Constant (.str x) j pos) (tC (.str x)):=λ_ _ _ H _ I h=>Calls.Constant_str ⟨.str x,H,I.tok _,⟨_,rfl⟩,h⟩
def Gl(X:Cx)(x:Str):Prop:=X.env.kindOf x=aa .globalImplicit
theorem akU{E:Value->aJ->Prop}{pins:List (aq×Obj)}{s:aJ}{σ:St}{H:Hp}{x:Str}{u:Value}{pos:Pos}{Q:Value->aJ->Prop}(I:Inv X pins σ H s)(hg:Gl X x)(hm:X.mg x=aa u)(h:Q u s)
  (hd:(x==("__debug__":Str))=aL:=by decide):aX (model X.prog X.w) X.A (eval (.Name x pos) X.env) Q E s:=
 afn I.ok.kind hg (Calls.loadGlobal_global (by rw[I.ok.glob];exact I.mod.glob.keeps I.bk) hm h) hd
theorem wM{E:Value->aJ->Prop}{pins:List (aq×Obj)}{s:aJ}{σ:St}{H:Hp}{x:Str}{u:Value}{pos:Pos}{Q:Value->aJ->Prop}(I:Inv X pins σ H s)(hg:Gl X x)(hm:X.mg x=aj)(hv:uU x=aa u)(h:Q u s)
  (hn:x≠"__name__":=by decide)(hd:(x==("__debug__":Str))=aL:=by decide):aX (model X.prog X.w) X.A (eval (.Name x pos) X.env) Q E s:=by
 obtain⟨mb,h1,h2⟩:=I.mod.blt
 exact afn I.ok.kind hg (Calls.loadGlobal_builtin (by rw[I.ok.glob];exact I.mod.glob.keeps I.bk) hm (by rw[I.ok.blt];exact h1.keeps I.bk) ((h2 x hn).trans hv) h) hd
theorem mY{x:Str}{v:V}{u:Value}{pos:Pos}(hg:Gl X x)(hm:X.mg x=aj)(hv:uU x=aa u)(r:RelV v u)(hn:x≠"__name__":=by decide)(hd:(x==("__debug__":Str))=aL:=by decide):PE X (.Name x pos) (tC v):=
 λ_ _ _ H _ I h=>wM I hg hm hv ⟨v,H,I,r,h⟩ hn hd
variable{a b:Expr}{ta tb:TE}{pos:Pos}
def tB(t:TE):TT:=λσ H Q=>t σ H λx H1=>∃c,x=.bl c/\Q c H1
variable{tA Nr:TT}{rest:List Expr}
def ad9(t u:TT):TT:=λσ H Q=>t σ H λc H1=>if c=ao then u σ H1 Q else Q aL H1
def tOr(t u:TT):TT:=λσ H Q=>t σ H λc H1=>if c=ao then Q ao H1 else u σ H1 Q
def aoK(t:TT):TT:=λσ H Q=>t σ H λc H1=>Q (!c) H1
theorem pw_and1(ha:PT X a tA):PW X (.BoolOp .And [a] pos) tA:=by
 intro wh pins s σ H Q I h;refine isTrue_and (bV (ha pins s σ H Q I h) λc s1 e=>?_);cases c with
 |true=>exact isTrue_and_nil e
 |false=>exact e
theorem pw_or1(ha:PT X a tA):PW X (.BoolOp .Or [a] pos) tA:=by
 intro wh pins s σ H Q I h;refine isTrue_or (bV (ha pins s σ H Q I h) λc s1 e=>?_);cases c with
 |false=>exact isTrue_or_nil e
 |true=>exact e
theorem pw_and(ha:PT X a tA)(hb:PW X (.BoolOp .And (b::rest) pos) Nr):PW X (.BoolOp .And (a::b::rest) pos) (ad9 tA Nr):=by
 intro wh pins s σ H Q I h;refine isTrue_and (bV (ha pins s σ H _ I h) λc s1 aW=>?_)
 obtain⟨H1,I1,q1⟩:=aW
 cases c with
 |true=>exact hb wh pins s1 σ H1 Q I1 q1
 |false=>exact⟨H1,I1,q1⟩
theorem pw_or(ha:PT X a tA)(hb:PW X (.BoolOp .Or (b::rest) pos) Nr):PW X (.BoolOp .Or (a::b::rest) pos) (tOr tA Nr):=by
 intro wh pins s σ H Q I h;refine isTrue_or (bV (ha pins s σ H _ I h) λc s1 aW=>?_)
 obtain⟨H1,I1,q1⟩:=aW
 cases c with
 |true=>exact⟨H1,I1,q1⟩
 |false=>exact hb wh pins s1 σ H1 Q I1 q1
theorem ams(ha:PT X a tA):PT X (.UnaryOp .Not a pos) (aoK tA):=by
 intro pins s σ H Q I h;exact isTrue_not (ha pins s σ H (λc H1=>Q (!c) H1) I h)
def anG(ta tb:TE):TE:=λσ H Q=>ta σ H λx H1=>∃c,x=.bl c/\if c=ao then tb σ H1 Q else Q (.bl aL) H1
def aoL(ta tb:TE):TE:=λσ H Q=>ta σ H λx H1=>∃c,x=.bl c/\if c=ao then Q (.bl ao) H1 else tb σ H1 Q
def anH(ta:TE):TE:=λσ H Q=>ta σ H λx H1=>∃c,x=.bl c/\Q (.bl (!c)) H1
theorem amt{op}{t:TE}(h:PE X a t):PE X (.BoolOp op [a] pos) t:=λpins s σ H Q I hw=>BoolOp_one (h pins s σ H Q I hw)
theorem amu(ha:PE X a ta)(hb:PE X (.BoolOp .And (b::rest) pos) tb):PE X (.BoolOp .And (a::b::rest) pos) (anG ta tb):=by
 intro pins s σ H Q I h;refine BoolOp_and (bV (ha pins s σ H _ I h) λv s1 aW=>?_)
 obtain⟨x,H1,I1,r1,q1⟩:=aW
 obtain⟨c,rfl,q1⟩:=q1
 cases r1;refine vX ?_;cases c with
 |true=>exact hb pins s1 σ H1 Q I1 q1
 |false=>exact⟨.bl aL,H1,I1,rfl,q1⟩
theorem anI(ha:PE X a ta)(hb:PE X (.BoolOp .Or (b::rest) pos) tb):PE X (.BoolOp .Or (a::b::rest) pos) (aoL ta tb):=by
 intro pins s σ H Q I h;refine BoolOp_or (bV (ha pins s σ H _ I h) λv s1 aW=>?_)
 obtain⟨x,H1,I1,r1,q1⟩:=aW
 obtain⟨c,rfl,q1⟩:=q1
 cases r1;refine vX ?_;cases c with
 |false=>exact hb pins s1 σ H1 Q I1 q1
 |true=>exact⟨.bl ao,H1,I1,rfl,q1⟩
theorem amv(ha:PE X a ta):PE X (.UnaryOp .Not a pos) (anH ta):=by
 intro pins s σ H Q I h;refine UnaryOp_ (bV (ha pins s σ H _ I h) λv s1 aW=>?_)
 obtain⟨x,H1,I1,r1,q1⟩:=aW
 obtain⟨c,rfl,q1⟩:=q1
 cases r1;exact not_of (vX ⟨.bl (!c),H1,I1,rfl,q1⟩)
def tIf(t:TT)(ta tb:TE):TE:=λσ H Q=>t σ H λc H1=>if c=ao then ta σ H1 Q else tb σ H1 Q
theorem ajG{c:Expr}(hc:PT X c tA)(ha:PE X a ta)(hb:PE X b tb):PE X (.IfExp c a b pos) (tIf tA ta tb):=by
 intro pins s σ H Q I h;refine wpAny_IfExp (bV (hc pins s σ H _ I h) λd s1 aW=>?_)
 obtain⟨H1,I1,q1⟩:=aW
 cases d with
 |true=>exact ha pins s1 σ H1 Q I1 q1
 |false=>exact hb pins s1 σ H1 Q I1 q1
end
def bU(K:aQ)(H:Hp)(a:aq)(xs:List V):Prop:=
 Rd H a (.lst xs)\/
  ∃(o:Obj)(its:Array Value)(n:Nat),K.lookup a=aa o/\o.cls=.type "list"/\o.dict=aj/\o.data=.seq its n/\its.size<=cH/\Vals xs its.toList
def dD(K:aQ)(H:Hp)(a:aq)(xs:List V):Prop:=
 Rd H a (.tup xs)\/
  ∃(o:Obj)(its:Array Value)(n:Nat),K.lookup a=aa o/\o.cls=.type "tuple"/\o.data=.seq its n/\its.size<=cH/\Vals xs its.toList
def aoM:Value->Option V
 |.none=>aa .non
 |.bool b=>aa (.bl b)
 |.int i _=>aa (.int i)
 |.str x _=>aa (.str x)
 |.bytes b _=>aa (.rM b)
 |.float b _=>aa (.flt b)
 |.ref a=>aa (.ref a)
 |.type n=>aa (.ty n)
 |_=>aj
theorem RelV.abs{x:V}{u:Value}(r:RelV x u):aoM u=aa x:=by
 cases x with
 |non=>cases r;rfl
 |bl _=>cases r;rfl
 |int _=>obtain⟨t,rfl⟩:=r;rfl
 |str _=>obtain⟨t,rfl⟩:=r;rfl
 |rM _=>obtain⟨t,rfl⟩:=r;rfl
 |flt _=>obtain⟨t,rfl⟩:=r;rfl
 |ref _=>cases r;rfl
 |ty _=>cases r;rfl
theorem RelV.inj{x y:V}{u:Value}(r:RelV x u)(q:RelV y u):x=y:=gH (r.abs.symm.trans q.abs)
theorem Vals.inj:∀{xs ys:List V}{us:List Value},Vals xs us->Vals ys us->xs=ys
 |_,_,_,.nil,.nil=>rfl
 |_,_,_,.cons r t,.cons r' t'=>by rw[r.inj r',Vals.inj t t']
section
variable{X:Cx}{pins:List (aq×Obj)}{σ:St}{H:Hp}{s:aJ}{a:aq}{xs ys:List V}
theorem bU.of{K:aQ}(h:H a=aa (.lst xs)):bU K H a xs:=.inl (.inl h)
theorem dD.of{K:aQ}(h:H a=aa (.tup xs)):dD K H a xs:=.inl (.inl h)
theorem Inv.list(I:Inv X pins σ H s)(h:bU X.K H a xs):∃its:List Value,Vals xs its/\PlainL s.heap a its.toArray/\xs.length<=cH:=by
 rcases h with h|⟨o,its,n,hk,hc,hd,hs,hz,r⟩
 .obtain⟨z,its,n,r,e⟩:=h.ok I.hok
  exact⟨its,r,⟨_,n,e,rfl,rfl,rfl⟩,z⟩
 .refine⟨its.toList,r,⟨o,n,I.jy a o hk,hc,hd,by simpa using hs⟩,?_⟩
  have e:=r.length;simp only[nD] at e;lia
theorem Inv.tuple(I:Inv X pins σ H s)(h:dD X.K H a xs):∃its:List Value,Vals xs its/\IsTup s.heap a its.toArray/\xs.length<=cH:=by
 rcases h with h|⟨o,its,n,hk,hc,hs,hz,r⟩
 .obtain⟨z,its,r,p⟩:=h.ok I.hok
  exact⟨its,r,p,z⟩
 .refine⟨its.toList,r,⟨o,I.jy a o hk,hc,n,by simpa using hs⟩,?_⟩
  have e:=r.length;simp only[nD] at e;lia
theorem Inv.KQ(I:Inv X pins σ H s)(h:bU X.K H a xs)(h':bU X.K H a ys):xs=ys:=by
 obtain⟨its,r,⟨o,n,e,_,_,d⟩,_⟩:=I.list h
 obtain⟨its',r',⟨o',n',e',_,_,d'⟩,_⟩:=I.list h'
 rw[e] at e';cases e';rw[d] at d';injection d' with d1 _
 have:its=its':=by simpa using congrArg ahi d1
 subst this;exact r.inj r'
theorem Inv.aiG(I:Inv X pins σ H s)(h:dD X.K H a xs)(h':dD X.K H a ys):xs=ys:=by
 obtain⟨its,r,⟨o,e,_,n,d⟩,_⟩:=I.tuple h
 obtain⟨its',r',⟨o',e',_,n',d'⟩,_⟩:=I.tuple h'
 rw[e] at e';cases e';rw[d] at d';injection d' with d1 _
 have:its=its':=by simpa using congrArg ahi d1
 subst this;exact r.inj r'
end
abbrev Cx.wish(X:Cx)(E:Value->aJ->Prop):Cx:={X with xe:=E}
abbrev Cx.xx(X:Cx):Cx:=X.wish λ_ _=>False
theorem Cx.Ok.wish{X:Cx}(ok:X.Ok)(E:Value->aJ->Prop):(X.wish E).Ok:=
 ⟨ok.mod,ok.kind,ok.glob,ok.blt,ok.above,ok.inj,ok.has,ok.cab,ok.hd,ok.frames,ok.stk,ok.exf,ok.bs,ok.vO,ok.HH,ok.M7,ok.sW,ok.Bo⟩
theorem Cx.Ok.vg{X:Cx}{E:Value->aJ->Prop}(ok:(X.wish E).Ok):X.Ok:=
 ⟨ok.mod,ok.kind,ok.glob,ok.blt,ok.above,ok.inj,ok.has,ok.cab,ok.hd,ok.frames,ok.stk,ok.exf,ok.bs,ok.vO,ok.HH,ok.M7,ok.sW,ok.Bo⟩
section
variable{X:Cx}{pins:List (aq×Obj)}{σ:St}{H:Hp}{s:aJ}{E:Value->aJ->Prop}
theorem Inv.wish(I:Inv X pins σ H s)(E:Value->aJ->Prop):Inv (X.wish E) pins σ H s:=⟨I.ok.wish E,I.os,I.bare,I.base,I.loc,I.cell,I.free,I.ur,I.pin,I.hok,I.len⟩
theorem Inv.vg(I:Inv (X.wish E) pins σ H s):Inv X pins σ H s:=⟨I.ok.vg,I.os,I.bare,I.base,I.loc,I.cell,I.free,I.ur,I.pin,I.hok,I.len⟩
theorem SP.vg{D:Ends}{f:Flow}{s':aJ}(h:SP (X.wish E) pins D f s'):SP X pins D f s':=by
 cases f with
 |next=>obtain⟨σ',H',I,q⟩:=h;exact⟨σ',H',I.vg,q⟩
 |brk=>obtain⟨σ',H',I,q⟩:=h;exact⟨σ',H',I.vg,q⟩
 |cont=>obtain⟨σ',H',I,q⟩:=h;exact⟨σ',H',I.vg,q⟩
 |ret u=>obtain⟨v,σ',H',I,r,q⟩:=h;exact⟨v,σ',H',I.vg,r,q⟩
theorem PE.xx{e:Expr}{t:TE}(h:PE X.xx e t):PE X e t:=λpins s σ H Q I hw=>
 qz (h pins s σ H Q (I.wish _) hw) (λ_ _ ⟨v,H',I',r,q⟩=>⟨v,H',I'.vg,r,q⟩) λ_ _ z=>tY z
theorem PT.xx{e:Expr}{t:TT}(h:PT X.xx e t):PT X e t:=λpins s σ H Q I hw=>
 qz (h pins s σ H Q (I.wish _) hw) (λ_ _ ⟨H',I',q⟩=>⟨H',I'.vg,q⟩) λ_ _ z=>tY z
theorem j4.xx{st:List dz}{t:TS}(h:j4 X.xx st t):j4 X st t:=λpins s σ H D I hw=>
 qz (h pins s σ H D (I.wish _) hw) (λ_ _ q=>q.vg) λ_ _ z=>tY z
end
section
variable{X:Cx}{st:dz}{rest:List dz}{t u:TS}{e:Expr}{te:TE}{pos:Pos}
def anJ:TS:=λD σ H=>D.nx σ H
def aea(t u:TS):TS:=λD σ H=>t {D with nx:=u D} σ H
theorem akV:j4 X [] anJ:=λ_ _ σ H _ I h=>Pu ⟨σ,H,I,h⟩
theorem ajH(h1:PS X st t)(h2:j4 X rest u):j4 X (st::rest) (aea t u):=by
 intro pins s σ H D I h;refine ags (bV (h1 pins s σ H {D with nx:=u D} I h) λf s1 q=>?_);cases f with
 |next=>
  obtain⟨σ',H',I',q⟩:=q
  exact h2 pins s1 σ' H' D I' q
 |ret v=>exact q
 |brk=>exact q
 |cont=>exact q
theorem akW(h1:PS X st t):j4 X [st] t:=by
 intro pins s σ H D I h;refine ags (bV (h1 pins s σ H D I h) λf s1 q=>?_);cases f with
 |next=>exact Pu q
 |ret v=>exact q
 |brk=>exact q
 |cont=>exact q
theorem Inv.quiet{pins:List (aq×Obj)}{σ:St}{H:Hp}{s:aJ}(I:Inv X pins σ H s):interactive X.env=aL:=by simp[interactive,I.ok.kind]
def anK(te:TE):TS:=λD σ H=>te σ H λ_ H1=>D.nx σ H1
theorem TV(he:PE X e te)(hs:uY e aj pos.line X.env=pure aL:=by rfl):PS X (.Expr e pos) (anK te):=by
 intro pins s σ H D I h;exact wpAny_Expr_any (bV (he pins s σ H _ I h) λv s1 ⟨x,H1,I1,r1,q1⟩=>⟨σ,H1,I1,q1⟩) I.quiet hs
def aoN(te:TE):TS:=λD σ H=>te σ H D.rt
theorem ac3(he:PE X e te):PS X (.Return (aa e) pos) (aoN te):=by
 intro pins s σ H D I h;exact wpAny_Return_some (bV (he pins s σ H _ I h) λv s1 ⟨x,H1,I1,r1,q1⟩=>⟨x,σ,H1,I1,r1,q1⟩)
def aoO(c:TT)(t u:TS):TS:=λD σ H=>c σ H λb H1=>if b=ao then t D σ H1 else u D σ H1
theorem anL{c:Expr}{a b:List dz}{tc:TT}(hc:PT X c tc)(ha:j4 X a t)(hb:j4 X b u):PS X (.If c a b pos) (aoO tc t u):=by
 intro pins s σ H D I h;refine wpAny_If (bV (hc pins s σ H _ I h) λd s1 aW=>?_)
 obtain⟨H1,I1,q1⟩:=aW
 cases d with
 |true=>exact ha pins s1 σ H1 D I1 q1
 |false=>exact hb pins s1 σ H1 D I1 q1
end
abbrev TG:=V->St->Hp->(St->Hp->Prop)->Prop
abbrev xF:=List V->St->Hp->(St->Hp->Prop)->Prop
def PG(X:Cx)(target:Expr)(t:TG):Prop:=
 ∀(pins:List (aq×Obj))(s:aJ)(σ:St)(H:Hp)(v:V)(u:Value)(Q:St->Hp->Prop),Inv X pins σ H s->RelV v u->t v σ H Q->
  aX (model X.prog X.w) X.A (assign target X.env u) (λ_ s'=>∃σ' H',Inv X pins σ' H' s'/\Q σ' H') X.xe s
def Nt(X:Cx)(ts:List Expr)(t:xF):Prop:=
 ∀(pins:List (aq×Obj))(s:aJ)(σ:St)(H:Hp)(vs:List V)(us:List Value)(Q:St->Hp->Prop),Inv X pins σ H s->Vals vs us->t vs σ H Q->
  aX (model X.prog X.w) X.A (FJ ((uW ts X.env).map (·.2)) us) (λ_ s'=>∃σ' H',Inv X pins σ' H' s'/\Q σ' H') X.xe s
abbrev V4:=V->V->V->Hp->(Hp->Prop)->Prop
def wZ(X:Cx)(t:V4):Prop:=
 ∀(pins:List (aq×Obj))(s:aJ)(σ:St)(H:Hp)(o i v:V)(ov iv u:Value)(Q:Hp->Prop),Inv X pins σ H s->RelV o ov->RelV i iv->RelV v u->t o i v H Q->
  aX (model X.prog X.w) X.A (setItem ov iv u) (λ_ s'=>∃H',Inv X pins σ H' s'/\Q H') X.xe s
abbrev Nu:=V->V->Hp->VK->Prop
def PIp(X:Cx)(op:Operator)(t:Nu):Prop:=
 ∀(pins:List (aq×Obj))(s:aJ)(σ:St)(H:Hp)(x y:V)(v u:Value)(Q:VK),Inv X pins σ H s->RelV x v->RelV y u->t x y H Q->
  aX (model X.prog X.w) X.A (inplaceOp op v u) (EP X pins σ Q) X.xe s
section
variable{X:Cx}{pos:Pos}
def yF(i:Nat):TG:=λv σ H Q=>Q (σ.set i (aa v)) H
theorem gJ{i:Nat}{x:Str}(hN:X.N.Nodup)(hi:X.N[i]?=aa x)(hx:Loc X.env.scope x)(hf:X.fn x=ao\/X.env.scope.names.lookup x=aa .local:=by first|exact .inl rfl|exact .inr rfl|assumption):PG X (.Name x pos) (yF i):=by
 intro pins s σ H v u Q I r h;exact Jl (uZ I hN hi hx r (λs' I'=>⟨_,H,I',h⟩) hf)
def V5:xF:=λvs σ H Q=>vs=[]/\Q σ H
def Vv(t:TG)(u:xF):xF:=λvs σ H Q=>∃v r,vs=v::r/\t v σ H λσ' H'=>u r σ' H' Q
theorem u9:Nt X [] V5:=by
 intro pins s σ H vs us Q I r h
 obtain⟨e,h⟩:=h
 subst e;cases r;exact assignInOrder_nil ⟨σ,H,I,h⟩
theorem jY{e:Expr}{es:List Expr}{t:TG}{u:xF}(h1:PG X e t)(h2:Nt X es u)
  (hs:(uW (e::es) X.env).map (·.2)=assign e X.env::(uW es X.env).map (·.2):=by rfl):Nt X (e::es) (Vv t u):=by
 intro pins s σ H vs us Q I r h
 obtain⟨v,vr,e1,h⟩:=h
 subst e1;cases r with
 |cons r rr=>
  rw[hs];refine assignInOrder_cons (bV (h1 pins s σ H _ _ _ I r h) λ_ s1 aW=>?_)
  obtain⟨σ1,H1,I1,q1⟩:=aW
  exact h2 pins s1 σ1 H1 _ _ Q I1 rr q1
def V6(K:aQ)(n:Nat)(t:xF):TG:=λv σ H Q=>∃a xs,v=.ref a/\dD K H a xs/\xs.length=n/\t xs σ H Q
theorem vh{es:List Expr}{k:Nat}{t:xF}{n:Nat}(hc:X.calm=ao)(h:Nt X es t)
  (hn:(uW es X.env).length=n:=by rfl)(hst:(uW es X.env).findIdx? (·.1)=aj:=by rfl):PG X (.Tuple es k pos) (V6 X.K n t):=by
 intro pins s σ H v u Q I r hw
 obtain⟨a,xs,e1,hq,hl,hw⟩:=hw
 subst e1;cases r
 obtain⟨its,rv,ht,hz⟩:=I.tuple hq
 refine assign_Tuple_tuple (I.ok.hd hc) ht (by simp[hn,<-hl,rv.length]) hst λh' hx=>?_
 have I1:Inv X pins σ H {s with heap:=h'}:=I.kept (t':=s.toks) λb o e=>hx b o (eU (cN e)) e
 exact h pins _ σ H xs _ Q I1 (by simpa using rv) hw
def aoP(to ti:TE)(t:V4):TG:=λv σ H Q=>to σ H λo H1=>ti σ H1 λi H2=>t o i v H2 λH3=>Q σ H3
theorem amw{o i:Expr}{to ti:TE}{t:V4}(ho:PE X o to)(hi:PE X i ti)(hs:wZ X t)
  (ha:∀v,assign (.Subscript o i pos) X.env v=(do
   let ov <-sr [v] (eval o X.env)
   let iv <-sr [v,ov] (eval i X.env)
   vd pos
   sr [v,ov,iv] (setItem ov iv v)
   release [v,ov,iv] []):=by intro _;rfl):PG X (.Subscript o i pos) (aoP to ti t):=by
 intro pins s σ H v u Q I r h;rw[ha];refine aK (mX (bV (ho pins s σ H _ I h) λov s1 aW=>?_))
 obtain⟨x,H1,I1,r1,q1⟩:=aW
 refine aK (mX (bV (hi pins s1 σ H1 _ I1 q1) λiv s2 aW=>?_))
 obtain⟨y,H2,I2,r2,q2⟩:=aW
 refine aK (wj (aK (mX (bV (hs pins s2 σ H2 x y v ov iv u _ I2 r1 r2 r q2) λ_ s3 aW=>?_))))
 obtain⟨H3,I3,q3⟩:=aW
 exact wpAny_release ⟨σ,H3,I3,q3⟩
def Ep(te:TE)(g:TG):TS:=λD σ H=>te σ H λx H1=>g x σ H1 D.nx
theorem UL{tg e:Expr}{te:TE}{g:TG}(he:PE X e te)(hg:PG X tg g)(hs:zP [tg] e pos.line X.env=pure aL:=by rfl)(hw:zQ [tg] e X.env=pure aj:=by rfl)
  (h1:(uW [tg] X.env).map (·.2)=[assign tg X.env]:=by rfl):PS X (.Assign [tg] e pos) (Ep te g):=by
 intro pins s σ H D I h;refine wpAny_Assign_stores (bV (he pins s σ H _ I h) λv s1 aW=>?_) hs hw
 obtain⟨x,H1,I1,r1,q1⟩:=aW
 rw[h1];exact bV (hg pins s1 σ H1 x v _ I1 r1 q1) λ_ s2 q=>q
theorem ac4{i:Nat}{x:Str}{e:Expr}{te:TE}{pos':Pos}(hN:X.N.Nodup)(hi:X.N[i]?=aa x)(hx:Loc X.env.scope x)(he:PE X e te)(hs:uY e (aa (.Name x pos')) pos.line X.env=pure aL:=by rfl)(hf:X.fn x=ao\/X.env.scope.names.lookup x=aa .local:=by first|exact .inl rfl|exact .inr rfl|assumption):
  PS X (.Assign [.Name x pos'] e pos) (Ep te (yF i)):=by
 intro pins s σ H D I h;refine wpAny_Assign_Name (bV (he pins s σ H _ I h) λv s1 aW=>?_) hs
 obtain⟨y,H1,I1,r1,q1⟩:=aW
 exact uZ I1 hN hi hx r1 (λs2 I2=>⟨_,H1,I2,q1⟩) hf
def aoQ(i j:Nat)(ta:TA):TS:=λD σ H=>ta σ H λvs H1=>∃v w,vs=[v,w]/\D.nx ((σ.set i (aa v)).set j (aa w)) H1
theorem amx{i j:Nat}{x y:Str}{a b:Expr}{ta:TA}{px py pt:Pos}{kt k2 pZ}(hc:X.calm=ao)(hN:X.N.Nodup)(hi:X.N[i]?=aa x)(hj:X.N[j]?=aa y)(hij:i≠j)
  (hx:X.env.scope.names.lookup x=aa .local)(hy:X.env.scope.names.lookup y=aa .local)(ha:PA X [a,b] ta)
  (hw:zQ [.Tuple [.Name x px,.Name y py] kt pt] (.Tuple [a,b] k2 pZ) X.env=pure (aa [x,y]))
  (hs:zP [.Tuple [.Name x px,.Name y py] kt pt] (.Tuple [a,b] k2 pZ) pos.line X.env=pure aL:=by rfl):
  PS X (.Assign [.Tuple [.Name x px,.Name y py] kt pt] (.Tuple [a,b] k2 pZ) pos) (aoQ i j ta):=by
 intro pins s σ H D I h;rw[exec_Assign_arm];refine aK (wj ?_);rw[hs];refine aK (bh ?_);rw[bJ (by decide)];refine aK (Tuple_ (bV (ha _ pins s σ H _ I h) λus s1 aW=>?_))
 obtain⟨vs,H1,I1,r1,q1⟩:=aW
 obtain⟨v,w,e1,q1⟩:=q1
 subst e1
 obtain⟨u1,u2,rfl,rv,rw'⟩:∃u1 u2,us=[u1,u2]/\RelV v u1/\RelV w u2:=by
  cases r1 with
  |cons p q=>
   cases q with
   |cons p' q'=>
    cases q'
    exact⟨_,_,rfl,p,p'⟩
 refine nF ?_ (by show 2<=cH;decide);have I2:Inv X pins σ H1 {s1 with heap:=s1.heap.push {cls:=.type "tuple",data:=.seq [u1,u2].toArray}}:=I1.kept (t':=s1.toks) λb o e=>cR _ e
 rw[hw];refine aK (bh ?_);show aX (model X.prog X.w) X.A (do rule "assign.swapped-stores";let items <-unpackItems (.ref s1.heap.objs.size) 2 aj;FJ [λv=>wB X.env y v,λv=>wB X.env x v] items.reverse;pure Ru) _ _ _;refine aK (yf (aK (unpackItems_tuple (items:=#[u1,u2]) (I.ok.hd hc) (IsTup.new s1.heap _) λh' hx'=>?_)));have I3:=I2.kept (h':=h') (t':=s1.toks) λb o e=>hx' b o (eU (cN e)) e
 show aX _ _ (FJ [λv=>wB X.env y v,λv=>wB X.env x v] [u2,u1] >>= λ_=>pure Ru) _ _ _;refine aK (assignInOrder_cons (Jv (uZ I3 hN hj (.inl hy) rw' (λs2 I4=>?_) (.inr hy))));refine assignInOrder_cons (Jv (uZ I4 hN hi (.inl hx) rv (λs3 I5=>assignInOrder_nil (bh ?_)) (.inr hx)));rw[Qg _ _ (kI hij)] at I5
 exact⟨_,H1,I5,q1⟩
def aoR(i:Nat)(te:TE)(ti:Nu):TS:=λD σ H=>∃x,σ[i]?=aa (aa x)/\te σ H λy H1=>ti x y H1 λz H2=>D.nx (σ.set i (aa z)) H2
theorem amy{i:Nat}{x:Str}{e:Expr}{te:TE}{op:Operator}{ti:Nu}{pos':Pos}(hN:X.N.Nodup)(hi:X.N[i]?=aa x)(hx:Loc X.env.scope x)(he:PE X e te)(ho:PIp X op ti)(hf:X.fn x=ao\/X.env.scope.names.lookup x=aa .local:=by first|exact .inl rfl|exact .inr rfl|assumption):
  PS X (.AugAssign (.Name x pos') op e pos) (aoR i te ti):=by
 intro pins s σ H D I h
 obtain⟨v,e1,h⟩:=h
 obtain⟨m,hn,hl⟩:=I.loc
 have vis:Np X.env.scope x:=by rcases hx with k|k;exact .inl k;exact .inr (.inl k)
 obtain⟨u,r,l⟩:=hl i x v hi e1 vis
 refine wpAny_AugAssign_Name ?_;have go:aX (model X.prog X.w) X.A (eval e X.env) (λw s₂=>aX (model X.prog X.w) X.A (inplaceOp op u w) (λr s₃=>aX (model X.prog X.w) X.A (storeName X.env x r) (λ_=>SP X pins D .next) X.xe s₃) X.xe s₂) X.xe s:=by
  refine bV (he pins s σ H _ I h) λw s1 aW=>?_
  obtain⟨y,H1,I1,r1,q1⟩:=aW
  refine bV (ho pins s1 σ H1 v y u w _ I1 r r1 q1) λz s2 aW=>?_
  obtain⟨zv,H2,I2,r2,q2⟩:=aW
  exact uZ I2 hN hi hx r2 (λs3 I3=>⟨_,H2,I3,q2⟩) hf
 rcases l with⟨hk,hm⟩|⟨hk,c,hc,hcell⟩
 .exact afO I.ok.kind hk hn hm go
 .rcases hk with hk|hk
  .exact afS I.ok.kind hk hc hcell go
  .rcases hx with k|k
   .have:X.env.scope.names.lookup x=aa .free:=hk;rw[k] at this;cases this
   .have:X.env.scope.names.lookup x=aa .free:=hk;rw[k] at this;cases this
def ipI(f:Int->Int->Int):Nu:=λx y H Q=>∃i j,x=.int i/\y=.int j/\Q (.int (f i j)) H
theorem amz:PIp X .Add (ipI λi j=>i+j):=by
 intro pins s σ H x y v u Q I r1 r2 h
 obtain⟨i,j,e1,e2,q⟩:=h
 subst e1;subst e2
 obtain⟨t,rfl⟩:=r1
 obtain⟨t',rfl⟩:=r2
 exact iadd_int ⟨.int _,H,I.tok _,⟨_,rfl⟩,q⟩
end
section
variable{X:Cx}{pos:Pos}
def ac5(c:TT)(tb:TS):TS:=λD σ H=>∃W:Nat->St->Hp->Prop,(∃m,W m σ H)/\∀m σ H,W m σ H->
 c σ H λb H1=>if b=ao then ∃N:St->Hp->Prop,(∀σ' H',N σ' H'->∃m',m'<m/\W m' σ' H')/\tb {D with nx:=N,ct:=N,bk:=D.nx} σ H1 else D.nx σ H1
theorem ajI{c:Expr}{body:List dz}{tc:TT}{tb:TS}(hp:Rv (model X.prog X.w) X.A X.env X.xe)(hc:PT X c tc)(hb:j4 X body tb):PS X (.While c body [] pos) (ac5 tc tb):=by
 intro pins s σ H D I h
 obtain⟨W,⟨m0,w0⟩,turn⟩:=h
 refine wpAny_While (codeAny_whileLoop (λn s'=>∃σ' H',Inv X pins σ' H' s'/\W n σ' H') ?_ m0 ⟨σ,H,I,w0⟩);rintro n s1 ⟨σ1,H1,I1,w1⟩;refine BV hp (bV (hc pins s1 σ1 H1 _ I1 (turn n σ1 H1 w1)) λb s2 aW=>?_)
 obtain⟨H2,I2,q2⟩:=aW
 cases b with
 |true=>
  obtain⟨N,hN,q2⟩:=q2
  rw[bC rfl];refine BV hp (bV (hb pins s2 σ1 H2 _ I2 q2) λf s3 q3=>?_);cases f with
  |next=>
   obtain⟨σ3,H3,I3,n3⟩:=q3
   obtain⟨m',hm,w3⟩:=hN σ3 H3 n3
   exact⟨m',hm,σ3,H3,I3,w3⟩
  |cont=>
   obtain⟨σ3,H3,I3,n3⟩:=q3
   obtain⟨m',hm,w3⟩:=hN σ3 H3 n3
   exact⟨m',hm,σ3,H3,I3,w3⟩
  |brk=>exact q3
  |ret v=>exact q3
 |false=>
  rw[bJ jo];exact Pu ⟨σ1,H2,I2,q2⟩
end
structure It where
 go:Nat->Hp->Prop
 yW:Nat->Hp->V->Hp->Prop
 stop:Nat->Hp->Prop
def lJ(X:Cx)(pins:List (aq×Obj))(H:Hp)(b:aq):Prop:=
 H b=aj/\b≠X.env.locals/\b∉X.fs/\(b∈X.ex\/X.s₀.heap.objs.size<=b)/\(∀x c,X.env.cells.lookup x=aa c->c≠b)/\∀p∈X.pn++pins,p.1≠b
theorem Inv.w5{X:Cx}{pins:List (aq×Obj)}{σ:St}{H H':Hp}{s:aJ}{b:aq}(I:Inv X pins σ H s)(hb:s.heap.objs.size<=b)(hn:H' b=aj):lJ X pins H' b:=by
 refine⟨hn,zT (qt I.lt hb),I.aoI hb,.inr (lR I.sz hb),λx c e z=>?_,λp hp z=>?_⟩
 .obtain⟨v,q⟩:=I.cell x c e
  exact absurd (qt q.lt (by rw[z];exact hb)) (xY _)
 .exact absurd (qt (cN (I.pin p hp).1) (by rw[z];exact hb)) (xY _)
structure Turn(P:bQ)(w:bK)(K:aQ)(tg:Expr)(J:It)(fp:List aq)(it:aq)(tn:Nat->bw->Prop):Prop where
 mem:it∈fp
 obj:∀i h,tn i h->∀b∈fp,∃o,h.get? b=aa o/\∀v,o.data≠.cell v
 keep:∀i h h',tn i h->(∀b∈fp,∀o,h.get? b=aa o->h'.get? b=aa o)->tn i h'
 item:∀(X:Cx),X.prog=P->X.w=w->X.K=K->X.calm=ao->∀(i:Nat)(pins:List (aq×Obj))(s:aJ)(σ:St)(H:Hp)(E:Value->aJ->Prop),Inv X pins σ H s->(∀b∈fp,lJ X pins H b)->tn i s.heap->J.go i H->
  aX (model P w) X.A (m7 (.ref it)) (λr s1=>∃u,r=aa u/\
   aX (model P w) X.A (zK tg (.ref it) u) (λ_ s2=>∃x H',Inv X pins σ H' s2/\RelV x u/\J.yW i H x H'/\tn (i+1) s2.heap/\∀b∈fp,H' b=aj) E s1) E s
 done:∀(X:Cx),X.prog=P->X.w=w->X.K=K->X.calm=ao->∀(i:Nat)(pins:List (aq×Obj))(s:aJ)(σ:St)(H:Hp)(E:Value->aJ->Prop),Inv X pins σ H s->(∀b∈fp,lJ X pins H b)->tn i s.heap->J.stop i H->
  aX (model P w) X.A (m7 (.ref it)) (λr s1=>r=aj/\Inv X pins σ H s1) E s
 self:∀(A:cV)(i:Nat)(s:aJ)(Q:Value->aJ->Prop)(E:Value->aJ->Prop),tn i s.heap->Q (.ref it) s->aX (model P w) A (Dz (.ref it)) Q E s
abbrev TI:=St->Hp->(It->Hp->Prop)->Prop
def PIE(X:Cx)(pins:List (aq×Obj))(σ:St)(tg:Expr)(R:It->Hp->Prop)(itv:Value)(s2:aJ):Prop:=
 ∃(it:aq)(fp:List aq)(tn:Nat->bw->Prop)(J:It)(H':Hp),itv=.ref it/\Inv X pins σ H' s2/\Turn X.prog X.w X.K tg J fp it tn/\tn 0 s2.heap/\(∀b∈fp,lJ X pins H' b)/\R J H'
def PI(X:Cx)(tg iter:Expr)(wi:TI):Prop:=
 ∀(pins:List (aq×Obj))(s:aJ)(σ:St)(H:Hp)(R:It->Hp->Prop),Inv X pins σ H s->wi σ H R->
  aX (model X.prog X.w) X.A (eval iter X.env) (λv s1=>aX (model X.prog X.w) X.A (Dz v) (PIE X pins σ tg R) X.xe s1) X.xe s
theorem Vw{M:Model}{A:cV}{E:Value->aJ->Prop}{s:aJ}{tg:Expr}{it:aq}{u:Value}{o:Obj}{n:String}{vs:Array Value}{Q:Unit->aJ->Prop}(ho:s.heap.get? it=aa o)(hc:o.cls=.type n)(hd:o.data=.fields vs)
  (hn:["enumerate","zip","dict_itemiterator","dict_reverseitemiterator","odict_iterator","itertools.zip_longest","itertools.pairwise"].contains n=aL)(hQ:Q () s):aX M A (zK tg (.ref it) u) Q E s:=by
 unfold zK;cases tg<;>first
  |exact bh hQ
  |(cases u<;>first
    |exact bh hQ
    |(refine aK (J7 ho ?_)
      rw[hc,hd];show aX M A (if(["enumerate","zip","dict_itemiterator","dict_reverseitemiterator","odict_iterator","itertools.zip_longest","itertools.pairwise"].contains n&&vs[0]?==aa (jC _))=ao then _ else _) Q E s;rw[bJ (by intro h;rw[hn,wg] at h;cases h)];exact bh hQ))
def Wo(K:aQ)(a:aq):It:=
 ⟨λi H=>∃xs x,bU K H a xs/\xs[i]?=aa x,λi H x H'=>H'=H/\∀xs,bU K H a xs->xs[i]?=aa x,λi H=>∃xs,bU K H a xs/\xs.length<=i⟩
def Wq(K:aQ)(a:aq):It:=
 ⟨λi H=>∃xs x,dD K H a xs/\xs[i]?=aa x,λi H x H'=>H'=H/\∀xs,dD K H a xs->xs[i]?=aa x,λi H=>∃xs,dD K H a xs/\xs.length<=i⟩
def Ie(lo:Int)(n:Nat):It:=⟨λi _=>i<n,λi H x H'=>H'=H/\x=.int (lo+i),λi _=>n<=i⟩
theorem aiH{P:bQ}{w:bK}{K:aQ}{tg:Expr}(a it:aq):Turn P w K tg (Wo K a) [it] it (λi h=>h.IsListIter it a i) where
 mem:=by simp
 obj:=λi h st b hb=>by
  have e:b=it:=by simpa using hb
  subst e
  obtain⟨o,e,c,d⟩:=st
  exact⟨o,e,λv z=>by rw[d] at z;cases z⟩
 keep:=λi h h' st k=>st.at λo e=>k it (by simp) o e
 item:=by
  intro X hP hw hK hc i pins s σ H E I hf st hg;subst hP hw hK
  obtain⟨xs,x,hq,hx⟩:=hg
  obtain⟨its,rv,p,hz⟩:=I.list hq
  obtain⟨u,hu,ru⟩:=rv.get hx
  obtain⟨f0,f1,f2,f3,f4,f5⟩:=hf it (by simp)
  refine wpAny_pyNext_list_item st p.isList (x:=u) (by simpa using hu) λh' st' sb=>?_
  have I1:Inv X pins σ H {s with heap:=h'}:=I.turned (t':=s.toks) (λb o hb e=>(sb.2 b hb).trans e) f0 f1 f3 f4 f5
  obtain⟨o,e,c,d⟩:=id st'
  exact⟨u,rfl,Vw (s:={s with heap:=h'}) e c d (by decide) ⟨x,H,I1,ru,⟨rfl,λys hy=>by rw[I.KQ hy hq];exact hx⟩,st',λb hb=>(hf b hb).1⟩⟩
 done:=by
  intro X hP hw hK hc i pins s σ H E I hf st hg;subst hP hw hK
  obtain⟨xs,hq,hx⟩:=hg
  obtain⟨its,rv,p,hz⟩:=I.list hq
  obtain⟨f0,f1,f2,f3,f4,f5⟩:=hf it (by simp)
  have hl:=rv.length;exact wpAny_pyNext_list_end (I.ok.hd hc) st p.isList (by simp;lia) λh' eb=>⟨rfl,I.turned (t':=s.toks) (λb o hb e=>eb b o hb e) f0 f1 f3 f4 f5⟩
 self:=λ_ _ _ _ _ st h=>wpAny_pyIter_listiter st h
theorem ahZ{P:bQ}{w:bK}{K:aQ}{tg:Expr}(a it:aq):Turn P w K tg (Wq K a) [it] it (λi h=>h.IsTupleIter it a i) where
 mem:=by simp
 obj:=λi h st b hb=>by
  have e:b=it:=by simpa using hb
  subst e
  obtain⟨o,e,c,d⟩:=st
  exact⟨o,e,λv z=>by rw[d] at z;cases z⟩
 keep:=λi h h' st k=>st.at λo e=>k it (by simp) o e
 item:=by
  intro X hP hw hK hc i pins s σ H E I hf st hg;subst hP hw hK
  obtain⟨xs,x,hq,hx⟩:=hg
  obtain⟨its,rv,p,hz⟩:=I.tuple hq
  obtain⟨u,hu,ru⟩:=rv.get hx
  obtain⟨f0,f1,f2,f3,f4,f5⟩:=hf it (by simp)
  refine wpAny_pyNext_tuple_item st (show s.heap.IsTuple a its.toArray from p) (x:=u) (by simpa using hu) λh' st' sb=>?_
  have I1:Inv X pins σ H {s with heap:=h'}:=I.turned (t':=s.toks) (λb o hb e=>(sb.2 b hb).trans e) f0 f1 f3 f4 f5
  obtain⟨o,e,c,d⟩:=id st'
  exact⟨u,rfl,Vw (s:={s with heap:=h'}) e c d (by decide) ⟨x,H,I1,ru,⟨rfl,λys hy=>by rw[I.aiG hy hq];exact hx⟩,st',λb hb=>(hf b hb).1⟩⟩
 done:=by
  intro X hP hw hK hc i pins s σ H E I hf st hg;subst hP hw hK
  obtain⟨xs,hq,hx⟩:=hg
  obtain⟨its,rv,p,hz⟩:=I.tuple hq
  obtain⟨f0,f1,f2,f3,f4,f5⟩:=hf it (by simp)
  have hl:=rv.length;exact wpAny_pyNext_tuple_end (I.ok.hd hc) st (show s.heap.IsTuple a its.toArray from p) (by simp;lia) λh' eb=>⟨rfl,I.turned (t':=s.toks) (λb o hb e=>eb b o hb e) f0 f1 f3 f4 f5⟩
 self:=λ_ _ _ _ _ st h=>wpAny_pyIter_tupleiter st h
theorem ah0{P:bQ}{w:bK}{K:aQ}{tg:Expr}(it:aq)(lo:Int)(n:Nat):Turn P w K tg (Ie lo n) [it] it (λi h=>IsRangeIter h it (lo+(i:Nat)*1) ((n:Int)-(i:Nat)) 1) where
 mem:=by simp
 obj:=λi h st b hb=>by
  have e:b=it:=by simpa using hb
  subst e
  exact⟨_,st,λv z=>by
   have z':Data.fields _=Data.cell v:=z;cases z'⟩
 keep:=λi h h' st k=>k it (by simp) _ st
 item:=by
  intro X hP hw hK hc i pins s σ H E I hf st hg;subst hP hw hK
  obtain⟨f0,f1,f2,f3,f4,f5⟩:=hf it (by simp)
  have W:=Walks.range (prog:=X.prog) (w:=X.w) (I.ok.hd hc) it lo 1 n;refine W.item i s _ _ hg st λv h' tk hv st' kk=>?_
  obtain⟨t,rfl⟩:=hv
  have I1:Inv X pins σ H {s with heap:=h',toks:=tk}:=I.turned (λb o hb e=>kk b o (by simpa using hb) e) f0 f1 f3 f4 f5
  refine⟨_,rfl,Vw (s:={s with heap:=h',toks:=tk}) (n:="range_iterator") st' rfl rfl (by decide) ⟨.int (lo+i),H,I1,⟨t,?_⟩,⟨rfl,rfl⟩,st',λb hb=>(hf b hb).1⟩⟩
  rw[ZL]
 done:=by
  intro X hP hw hK hc i pins s σ H E I hf st hg;subst hP hw hK
  obtain⟨f0,f1,f2,f3,f4,f5⟩:=hf it (by simp)
  exact wpAny_pyNext_range_end (I.ok.hd hc) st (by have:n<=i:=hg;lia) λh' eb=>⟨rfl,I.turned (t':=s.toks) (λb o hb e=>eb b o hb e) f0 f1 f3 f4 f5⟩
 self:=λ_ _ _ _ _ st h=>wpAny_pyIter_rangeiter st h
section
variable{X:Cx}{tg:Expr}
def anM(K:aQ)(tl:TE):TI:=λσ H R=>tl σ H λx H1=>∃a,x=.ref a/\(∃xs,bU K H1 a xs)/\R (Wo K a) H1
def aoS(K:aQ)(tl:TE):TI:=λσ H R=>tl σ H λx H1=>∃a,x=.ref a/\(∃xs,dD K H1 a xs)/\R (Wq K a) H1
theorem Lj{l:Expr}{tl:TE}(hl:PE X l tl):PI X tg l (anM X.K tl):=by
 intro pins s σ H R I h;refine bV (hl pins s σ H _ I h) λv s1 aW=>?_
 obtain⟨x,H1,I1,r1,q1⟩:=aW
 obtain⟨a,e,⟨xs,hq⟩,q⟩:=q1
 subst e;cases r1
 obtain⟨its,rv,p,hz⟩:=I1.list hq
 refine O6 p.isList ?_
 refine⟨s1.heap.objs.size,[s1.heap.objs.size],_,_,H1,rfl,I1.kept (t':=s1.toks) λb o e=>cR _ e,aiH a _,⟨_,iK _ rfl,rfl,rfl⟩,λb hb=>?_,q⟩
 have e:b=s1.heap.objs.size:=by simpa using hb
 subst e;exact I1.w5 (cz _) (I1.hok.fresh (cz _))
theorem Mh{l:Expr}{tl:TE}(hl:PE X l tl):PI X tg l (aoS X.K tl):=by
 intro pins s σ H R I h;refine bV (hl pins s σ H _ I h) λv s1 aW=>?_
 obtain⟨x,H1,I1,r1,q1⟩:=aW
 obtain⟨a,e,⟨xs,hq⟩,q⟩:=q1
 subst e;cases r1
 obtain⟨its,rv,p,hz⟩:=I1.tuple hq
 refine wpAny_pyIter_tuple (show s1.heap.IsTuple a its.toArray from p) ?_
 refine⟨s1.heap.objs.size,[s1.heap.objs.size],_,_,H1,rfl,I1.kept (t':=s1.toks) λb o e=>cR _ e,ahZ a _,⟨_,iK _ rfl,rfl,rfl⟩,λb hb=>?_,q⟩
 have e:b=s1.heap.objs.size:=by simpa using hb
 subst e;exact I1.w5 (cz _) (I1.hok.fresh (cz _))
theorem aa9{pins:List (aq×Obj)}{σ:St}{H:Hp}{s:aJ}{R:It->Hp->Prop}{E:Value->aJ->Prop}{lo hi:Int}{t u v:Tok}{tk:Nat}(I:Inv X pins σ H s)(h1:-(2^62)<=lo)(h2:lo<2^62)(h3:-(2^62)<=hi)(h4:hi<2^62)
  (q:R (Ie lo (hi-lo).toNat) H):aX (model X.prog X.w) X.A (Dz (.ref s.heap.objs.size)) (PIE X pins σ tg R) E {s with heap:=s.heap.push {cls:=.type "range",data:=.fields #[.int lo t,.int hi u,.int 1 v]},toks:=tk}:=by
 refine wpAny_pyIter_range (IsRange.new ..) (small_one h1 h2 h3 h4) ?_;have I1:Inv X pins σ H {s with heap:=s.heap.push {cls:=.type "range",data:=.fields #[.int lo t,.int hi u,.int 1 v]},toks:=tk}:=I.kept λb o e=>cR _ e
 refine⟨(s.heap.push {cls:=.type "range",data:=.fields #[.int lo t,.int hi u,.int 1 v]}).objs.size,[(s.heap.push {cls:=.type "range",data:=.fields #[.int lo t,.int hi u,.int 1 v]}).objs.size],_,_,H,rfl,
  I1.kept (t':=tk) λb o e=>cR _ e,ah0 _ lo (hi-lo).toNat,?_,λb hb=>?_,q⟩
 .have e1:lo+((0:Nat):Int)*1=lo:=by simp
  have e2:(((hi-lo).toNat:Nat):Int)-((0:Nat):Int)=arF lo hi 1:=by rw[rangeSize_one];split<;>lia
  show IsRangeIter _ _ (lo+((0:Nat):Int)*1) ((((hi-lo).toNat:Nat):Int)-((0:Nat):Int)) 1;rw[e1,e2];exact iK _ rfl
 .have e:b=(s.heap.push {cls:=.type "range",data:=.fields #[.int lo t,.int hi u,.int 1 v]}).objs.size:=by simpa using hb
  subst e;exact I1.w5 (cz _) (I1.hok.fresh (cz _))
def anN(ta:TA):TI:=λσ H R=>ta σ H λvs H1=>∃j:Int,vs=[.int j]/\-(2^62)<=j/\j<2^62/\R (Ie 0 j.toNat) H1
def anO(ta:TA):TI:=λσ H R=>ta σ H λvs H1=>∃i j:Int,vs=[.int i,.int j]/\(-(2^62)<=i/\i<2^62/\-(2^62)<=j/\j<2^62)/\R (Ie i (j-i).toNat) H1
theorem aiI{a:Expr}{ta:TA}{p pos:Pos}(hg:Gl X "range")(hm:X.mg "range"=aj)(ha:PA X [a] ta)(hs:bO [a] X.env=[(aL,eval a X.env)]:=by rfl):PI X tg (.Call (.Name "range" p) [a] [] pos) (anN ta):=by
 intro pins s σ H R I h;refine Call_ (wM I hg hm boot_range (Jc (bV (ha pos pins s σ H _ I h) λus s1 aW=>?_) hs rfl))
 obtain⟨vs,H1,I1,r1,q1⟩:=aW
 obtain⟨j,e,q1,q2,q⟩:=q1
 subst e;cases r1 with
 |cons r rr=>
  cases rr
  obtain⟨t,rfl⟩:=r
  exact call_range_1 (aa9 I1 (by lia) (by lia) q1 q2 (by simpa using q))
theorem aiJ{a b:Expr}{ta:TA}{p pos:Pos}(hg:Gl X "range")(hm:X.mg "range"=aj)(ha:PA X [a,b] ta)(hs:bO [a,b] X.env=[(aL,eval a X.env),(aL,eval b X.env)]:=by rfl)(hs2:bO [b] X.env=[(aL,eval b X.env)]:=by rfl):
  PI X tg (.Call (.Name "range" p) [a,b] [] pos) (anO ta):=by
 intro pins s σ H R I h;refine Call_ (wM I hg hm boot_range (Jc (bV (ha pos pins s σ H _ I h) λus s1 aW=>?_) (by rw[hs,hs2]) (by rw[hs2];rfl)))
 obtain⟨vs,H1,I1,r1,q1⟩:=aW
 obtain⟨i,j,e,⟨q1,q2,q3,q4⟩,q⟩:=q1
 subst e;cases r1 with
 |cons r rr=>
  cases rr with
  |cons r' rr=>
   cases rr
   obtain⟨t,rfl⟩:=r
   obtain⟨t',rfl⟩:=r'
   exact call_range_2 (aa9 I1 q1 q2 q3 q4 q)
def aeb(wi:TI)(g:TG)(tb:TS):TS:=λD σ H=>wi σ H λJ H1=>∃W:Nat->Nat->St->Hp->Prop,(∃m,W 0 m σ H1)/\∀i m σ H,W i m σ H->
 (J.stop i H/\D.nx σ H)\/(J.go i H/\∃N:St->Hp->Prop,(∀σ' H',N σ' H'->∃m',m'<m/\W (i+1) m' σ' H')/\∀x H',J.yW i H x H'->g x σ H' λσ2 H2=>tb {D with nx:=N,ct:=N,bk:=D.nx} σ2 H2)
def GR(fp:List aq)(h:bw):List (aq×Obj):=fp.filterMap λb=>(h.get? b).map λo=>(b,o)
theorem J8{fp:List aq}{h:bw}{b:aq}{o:Obj}(hb:b∈fp)(e:h.get? b=aa o):(b,o)∈GR fp h:=O2.mpr ⟨b,hb,by rw[e];rfl⟩
theorem aiK{fp:List aq}{h:bw}{p:aq×Obj}(hp:p∈GR fp h):p.1∈fp/\h.get? p.1=aa p.2:=by
 obtain⟨b,hb,e⟩:=O2.mp hp
 cases q:h.get? b with
 |none=>rw[q] at e;cases e
 |some o=>
  rw[q] at e;have e':(b,o)=p:=gH e;subst e'
  exact⟨hb,q⟩
theorem Inv.pinned{pins:List (aq×Obj)}{σ:St}{H:Hp}{s:aJ}{fp:List aq}(I:Inv X pins σ H s)(hf:∀b∈fp,lJ X pins H b)(ho:∀b∈fp,∃o,s.heap.get? b=aa o/\∀v,o.data≠.cell v):Inv X (pins++GR fp s.heap) σ H s:=
 I.ab6 λp hp=>(dR.mp hp).elim (λz=>I.pin p (gn _ z)) λz=>by
  obtain⟨hb,e⟩:=aiK z
  obtain⟨f0,f1,f2,_⟩:=hf p.1 hb
  obtain⟨o,e',d⟩:=ho p.1 hb
  rw[e] at e';cases e'
  exact⟨e,f0,f1,f2,d⟩
theorem Inv.KR{pins pl:List (aq×Obj)}{σ:St}{H:Hp}{s:aJ}(I:Inv X (pins++pl) σ H s):Inv X pins σ H s:=I.ab6 λp hp=>I.pin p (gn _ (jd _ hp))
theorem amA{iter:Expr}{body:List dz}{wi:TI}{g:TG}{tb:TS}{pos:Pos}(hp:Rv (model X.prog X.w) X.A X.env X.xe)(hc:X.calm=ao)(hi:PI X tg iter wi)(hg:PG X tg g)(hb:j4 X body tb)
  (hs:∀x,vY iter X.env x=pure x:=by intro _;rfl):PS X (.For tg iter body [] pos) (aeb wi g tb):=by
 intro pins s σ H D I h;refine wpAny_For (bV (hi pins s σ H _ I h) λv s1 h1=>bV h1 λitv s2 h2=>?_) hs
 obtain⟨it,fp,tn,J,H2,e,I2,T,st2,f2,W,⟨m0,w0⟩,turn⟩:=h2
 subst e;have stat:∀{H':Hp},(∀b∈fp,H' b=aj)->∀b∈fp,lJ X pins H' b:=λhn b hb=>⟨hn b hb,(f2 b hb).2⟩
 refine codeAny_forLoop_any (λn s'=>∃i σ' H',Inv X pins σ' H' s'/\tn i s'.heap/\(∀b∈fp,H' b=aj)/\W i n σ' H') ?_ m0 ⟨0,σ,H2,I2,st2,λb hb=>(f2 b hb).1,w0⟩;rintro n s3 ⟨i,σ3,H3,I3,st3,Ig,w3⟩;rcases turn i n σ3 H3 w3 with⟨stop,qn⟩|⟨go,N,hN,step⟩
 .refine BV hp (bV (T.done X rfl rfl rfl hc i pins s3 σ3 H3 X.xe I3 (stat Ig) st3 stop) λr s4 aW=>?_)
  obtain⟨hr,I4⟩:=aW
  subst hr;exact Pu ⟨σ3,H3,I4,qn⟩
 .refine BV hp (bV (T.item X rfl rfl rfl hc i pins s3 σ3 H3 X.xe I3 (stat Ig) st3 go) λr s4 aW=>?_)
  obtain⟨u,hr,h4⟩:=aW
  subst hr;refine BV hp (bV h4 λ_ s5 aW=>?_)
  obtain⟨x,H5,I5,r5,y5,Bq,Wr⟩:=aW
  have Ws:=I5.pinned (stat Wr) (T.obj _ _ Bq);refine BV hp (bV (hg _ s5 σ3 H5 x u _ Ws r5 (step x H5 y5)) λ_ s6 aW=>?_)
  obtain⟨σ6,H6,I6,q6⟩:=aW
  refine BV hp (bV (hb _ s6 σ6 H6 _ I6 q6) λf s7 q7=>?_);have again:∀{σ7:St}{H7:Hp},Inv X (pins++GR fp s5.heap) σ7 H7 s7->N σ7 H7->∃m,m<n/\∃i σ' H',Inv X pins σ' H' s7/\tn i s7.heap/\(∀b∈fp,H' b=aj)/\W i m σ' H':=λ{σ7 H7} I7 n7=>by
   obtain⟨m',hm,w7⟩:=hN σ7 H7 n7
   refine⟨m',hm,i+1,σ7,H7,I7.KR,T.keep _ _ _ Bq λb hb o e=>(I7.pin (b,o) (gn _ (gn _ (J8 hb e)))).1,λb hb=>?_,w7⟩
   obtain⟨o,e,d⟩:=T.obj _ _ Bq b hb
   exact(I7.pin (b,o) (gn _ (gn _ (J8 hb e)))).2.1
  cases f with
  |next=>obtain⟨σ7,H7,I7,n7⟩:=q7;exact again I7 n7
  |cont=>obtain⟨σ7,H7,I7,n7⟩:=q7;exact again I7 n7
  |brk=>obtain⟨σ7,H7,I7,q7⟩:=q7;exact⟨σ7,H7,I7.KR,q7⟩
  |ret v=>obtain⟨x7,σ7,H7,I7,r7,q7⟩:=q7;exact⟨x7,σ7,H7,I7.KR,r7,q7⟩
end
abbrev R2:=V->V->Hp->VK->Prop
def dB(X:Cx)(f:Value->Value->Sem Value)(r:R2):Prop:=
 ∀(pins:List (aq×Obj))(s:aJ)(σ:St)(H:Hp)(x y:V)(v u:Value)(Q:VK),Inv X pins σ H s->RelV x v->RelV y u->r x y H Q->
  aX (model X.prog X.w) X.A (f v u) (EP X pins σ Q) X.xe s
def Wt(X:Cx)(f:Value->Sem Value)(r:V->Hp->VK->Prop):Prop:=
 ∀(pins:List (aq×Obj))(s:aJ)(σ:St)(H:Hp)(x:V)(v:Value)(Q:VK),Inv X pins σ H s->RelV x v->r x H Q->
  aX (model X.prog X.w) X.A (f v) (EP X pins σ Q) X.xe s
def iI(X:Cx)(f:Value)(r:List V->Hp->VK->Prop):Prop:=
 ∀(pins:List (aq×Obj))(s:aJ)(σ:St)(H:Hp)(xs:List V)(us:List Value)(Q:VK),Inv X pins σ H s->Vals xs us->r xs H Q->
  aX (model X.prog X.w) X.A (call f us) (EP X pins σ Q) X.xe s
def aoT(X:Cx)(r:V->Hp->(Bool->Hp->Prop)->Prop):Prop:=
 ∀(pins:List (aq×Obj))(s:aJ)(σ:St)(H:Hp)(x:V)(v:Value)(Q:Bool->Hp->Prop),Inv X pins σ H s->RelV x v->r x H Q->
  aX (model X.prog X.w) X.A (truthy v) (TP X pins σ Q) X.xe s
def Ih(r:R2)(ta tb:TE):TE:=λσ H Q=>ta σ H λx H1=>tb σ H1 λy H2=>r x y H2 Q
def tUn(r:V->Hp->VK->Prop)(ta:TE):TE:=λσ H Q=>ta σ H λx H1=>r x H1 Q
def rI(C:Int->Int->Prop)(g:Int->Int->V):R2:=λx y H Q=>∃i j,x=.int i/\y=.int j/\C i j/\Q (g i j) H
def rN(g:Int->Int->V):R2:=λx y H Q=>∃i j,x=.int i/\y=.int j/\Q (g i j) H
def rU(g:Int->V):V->Hp->VK->Prop:=λx H Q=>∃i,x=.int i/\Q (g i) H
section
variable{X:Cx}{a b c:Expr}{ta tb tc:TE}{pos:Pos}
theorem V7(ha:PE X a ta)(hb:PE X b tb){pins:List (aq×Obj)}{s:aJ}{σ:St}{H:Hp}{R:V->V->Hp->Prop}(I:Inv X pins σ H s)
  (h:ta σ H λx H1=>tb σ H1 λy H2=>R x y H2){Q:Value->aJ->Prop}{f:Value->Value->Sem Value}
  (hf:∀v u s2 x y H2,Inv X pins σ H2 s2->RelV x v->RelV y u->R x y H2->aX (model X.prog X.w) X.A (f v u) Q X.xe s2):
  aX (model X.prog X.w) X.A (eval a X.env) (λv s₁=>aX (model X.prog X.w) X.A (eval b X.env) (λu s₂=>aX (model X.prog X.w) X.A (f v u) Q X.xe s₂) X.xe s₁) X.xe s:=by
 refine bV (ha pins s σ H _ I h) λv s1 aW=>?_
 obtain⟨x,H1,I1,r1,q1⟩:=aW
 refine bV (hb pins s1 σ H1 _ I1 q1) λu s2 aW=>?_
 obtain⟨y,H2,I2,r2,q2⟩:=aW
 exact hf v u s2 x y H2 I2 r1 r2 q2
theorem anP{op:Operator}{r:R2}(ho:dB X (qZ op) r)(ha:PE X a ta)(hb:PE X b tb):PE X (.BinOp a op b pos) (Ih r ta tb):=by
 intro pins s σ H Q I h;exact wpAny_BinOp (V7 ha hb I h λv u s2 x y H2 I2 rx ry q=>ho pins s2 σ H2 x y v u Q I2 rx ry q)
theorem anQ{op:UnaryOp}{r:V->Hp->VK->Prop}(ho:Wt X (unaryOp op) r)(ha:PE X a ta):PE X (.UnaryOp op a pos) (tUn r ta):=by
 intro pins s σ H Q I h;exact UnaryOp_ (bV (ha pins s σ H _ I h) λv s1 ⟨x,H1,I1,r1,q1⟩=>ho pins s1 σ H1 x v Q I1 r1 q1)
theorem Nv{f:Value->Value->Sem Value}{C:Int->Int->Prop}{g:Int->Int->Int}
  (rule:∀(i j:Int)(t u:Tok)(s:aJ)(Q:Value->aJ->Prop)(E:Value->aJ->Prop),C i j->Q (.int (g i j) s.toks) {s with toks:=s.toks+1}->aX (model X.prog X.w) X.A (f (.int i t) (.int j u)) Q E s):
  dB X f (rI C λi j=>.int (g i j)):=by
 intro pins s σ H x y v u Q I rx ry h
 obtain⟨i,j,rfl,rfl,hc,q⟩:=h
 obtain⟨t,rfl⟩:=rx
 obtain⟨t',rfl⟩:=ry
 exact rule i j t t' s _ _ hc ⟨.int (g i j),H,I.tok _,⟨_,rfl⟩,q⟩
theorem aec{f:Value->Value->Sem Value}{g:Int->Int->Int}
  (rule:∀(i j:Int)(t u:Tok)(s:aJ)(Q:Value->aJ->Prop)(E:Value->aJ->Prop),Q (.int (g i j) s.toks) {s with toks:=s.toks+1}->aX (model X.prog X.w) X.A (f (.int i t) (.int j u)) Q E s):
  dB X f (rN λi j=>.int (g i j)):=by
 intro pins s σ H x y v u Q I rx ry h
 obtain⟨i,j,rfl,rfl,q⟩:=h
 obtain⟨t,rfl⟩:=rx
 obtain⟨t',rfl⟩:=ry
 exact rule i j t t' s _ _ ⟨.int (g i j),H,I.tok _,⟨_,rfl⟩,q⟩
theorem V8{f:Value->Value->Sem Value}{g:Int->Int->Bool}
  (rule:∀(i j:Int)(t u:Tok)(s:aJ)(Q:Value->aJ->Prop)(E:Value->aJ->Prop),Q (.bool (g i j)) s->aX (model X.prog X.w) X.A (f (.int i t) (.int j u)) Q E s):
  dB X f (rN λi j=>.bl (g i j)):=by
 intro pins s σ H x y v u Q I rx ry h
 obtain⟨i,j,rfl,rfl,q⟩:=h
 obtain⟨t,rfl⟩:=rx
 obtain⟨t',rfl⟩:=ry
 exact rule i j t t' s _ _ ⟨.bl (g i j),H,I,rfl,q⟩
def aed(i j:Int):Prop:=0<j/\j<1073741824
def aee(i j:Int):Prop:=0<=j/\j<=1000000/\i.natAbs<2^64
def M8(i j:Int):Prop:=(-(2^64)<i/\i<2^64)\/(-(2^64)<j/\j<2^64)
theorem M8.ok{i j:Int}(h:M8 i j):IntMulOk i j:=by
 rcases h with⟨h1,h2⟩|⟨h1,h2⟩
 .exact .of_left (intBits_le_64 h1 h2)
 .exact .of_right (intBits_le_64 h1 h2)
theorem amB:dB X (qZ .Add) (rN λi j=>.int (i+j)):=aec λ_ _ _ _ _ _ _ q=>add_int q
theorem GX:dB X (qZ .Sub) (rN λi j=>.int (i-j)):=aec λ_ _ _ _ _ _ _ q=>sub_int q
theorem sy:dB X (qZ .Mult) (rI M8 λi j=>.int (i*j)):=Nv λ_ _ _ _ _ _ _ hc q=>mul_int q hc.ok
theorem TX:dB X (qZ .FloorDiv) (rI aed λi j=>.int (i / j)):=Nv λi j _ _ _ _ _ hc q=>by
 have h1:(0:Int)<j:=hc.1;have h2:j<1073741824:=hc.2;exact floordiv_int (by lia) (by rw[Int.fdiv_eq_ediv_of_nonneg i (by lia)];exact q) (.inl (PyProof.noPylong_small (by lia)))
theorem uf:dB X (qZ .Mod) (rI (λ_ j=>0<j) λi j=>.int (i%j)):=Nv λi j _ _ _ _ _ hc q=>by
 have h1:(0:Int)<j:=hc;exact mod_int' (by lia) (by rw[Int.fmod_eq_emod_of_nonneg i (by lia)];exact q)
theorem UT:dB X (qZ .Pow) (rI aee λi j=>.int (i^j.toNat)):=Nv λ_ _ _ _ _ _ _ hc q=>pow_int_small hc.1 hc.2.1 hc.2.2 q
theorem unI{f:Value->Sem Value}{g:Int->Int}
  (rule:∀(i:Int)(t:Tok)(s:aJ)(Q:Value->aJ->Prop)(E:Value->aJ->Prop),Q (.int (g i) s.toks) {s with toks:=s.toks+1}->aX (model X.prog X.w) X.A (f (.int i t)) Q E s):
  Wt X f (rU λi=>.int (g i)):=by
 intro pins s σ H x v Q I rx h
 obtain⟨i,rfl,q⟩:=h
 obtain⟨t,rfl⟩:=rx
 exact rule i t s _ _ ⟨.int (g i),H,I.tok _,⟨_,rfl⟩,q⟩
theorem amC:Wt X (unaryOp .USub) (rU λi=>.int (-i)):=unI λ_ _ _ _ _ q=>neg_int q
end
def V9:V->V->Bool
 |.non,.non=>ao|.non,.int _=>ao|.int _,.non=>ao|.non,.bl _=>ao|.bl _,.non=>ao|.non,.str _=>ao|.str _,.non=>ao
 |.int _,.int _=>ao|.bl _,.bl _=>ao|.str _,.str _=>ao|.rM _,.rM _=>ao
 |.int _,.str _=>ao|.str _,.int _=>ao|.bl _,.str _=>ao|.str _,.bl _=>ao
 |_,_=>aL
def rEq:R2:=λx y H Q=>V9 x y=ao/\Q (.bl (decide (x=y))) H
def rNe:R2:=λx y H Q=>V9 x y=ao/\Q (.bl (!decide (x=y))) H
theorem TY{i j:Int}:decide (V.int i=V.int j)=(i==j):=by
 rw[oU];simp
theorem UW{i j:Bool}:decide (V.bl i=V.bl j)=(i==j):=by
 rw[oU];simp
theorem T3{i j:Str}:decide (V.str i=V.str j)=(i==j):=by
 rw[oU];simp
theorem ab7{i j:Array UInt8}:decide (V.rM i=V.rM j)=(i.toList==j.toList):=by
 rw[oU];cases i;cases j;simp
section
variable{X:Cx}{a b c:Expr}{ta tb tc:TE}{pos:Pos}
theorem gW{pins:List (aq×Obj)}{σ:St}{H:Hp}{s:aJ}{Q:VK}{k k':Bool}(I:Inv X pins σ H s)(q:Q (.bl k) H)(e:k=k'):EP X pins σ Q (.bool k') s:=by
 subst e
 exact⟨.bl k,H,I,rfl,q⟩
theorem anR:dB X (gq .Eq) rEq:=by
 intro pins s σ H x y v u Q I rx ry h
 obtain⟨hs,q⟩:=h
 cases x with
 |non=>
  cases rx;cases y with
  |non=>cases ry;exact aq6 (gW I q (by simp))
  |bl j=>cases ry;exact aq7 (gW I q (by simp))
  |int j=>obtain⟨t',rfl⟩:=ry;exact ark (gW I q (by simp))
  |str j=>obtain⟨t',rfl⟩:=ry;exact arl (gW I q (by simp))
  |_=>exact absurd (show aL=ao from hs) jo
 |bl i=>
  cases rx;cases y with
  |non=>cases ry;exact aq8 (gW I q (by simp))
  |bl j=>cases ry;exact eq_bool (gW I q UW)
  |str j=>obtain⟨t',rfl⟩:=ry;exact aq9 (gW I q (by simp))
  |_=>exact absurd (show aL=ao from hs) jo
 |int i=>
  obtain⟨t,rfl⟩:=rx
  cases y with
  |non=>cases ry;exact arn (gW I q (by simp))
  |int j=>obtain⟨t',rfl⟩:=ry;exact eq_int (gW I q TY)
  |str j=>obtain⟨t',rfl⟩:=ry;exact aro (gW I q (by simp))
  |_=>exact absurd (show aL=ao from hs) jo
 |str i=>
  obtain⟨t,rfl⟩:=rx
  cases y with
  |non=>cases ry;exact arp (gW I q (by simp))
  |bl j=>cases ry;exact ara (gW I q (by simp))
  |int j=>obtain⟨t',rfl⟩:=ry;exact arq (gW I q (by simp))
  |str j=>obtain⟨t',rfl⟩:=ry;exact eq_str (gW I q T3)
  |_=>exact absurd (show aL=ao from hs) jo
 |rM i=>
  obtain⟨t,rfl⟩:=rx
  cases y with
  |rM j=>obtain⟨t',rfl⟩:=ry;exact PySem.W.eq_bytes (gW I q ab7)
  |_=>exact absurd (show aL=ao from hs) jo
 |_=>cases y<;>exact absurd (show aL=ao from hs) jo
theorem anS:dB X (gq .NotEq) rNe:=by
 intro pins s σ H x y v u Q I rx ry h
 obtain⟨hs,q⟩:=h
 cases x with
 |non=>
  cases rx;cases y with
  |non=>cases ry;exact arb (gW I q (by simp))
  |bl j=>cases ry;exact arc (gW I q (by simp))
  |int j=>obtain⟨t',rfl⟩:=ry;exact ars (gW I q (by simp))
  |str j=>obtain⟨t',rfl⟩:=ry;exact art (gW I q (by simp))
  |_=>exact absurd (show aL=ao from hs) jo
 |bl i=>
  cases rx;cases y with
  |non=>cases ry;exact ard (gW I q (by simp))
  |bl j=>cases ry;exact ne_bool (gW I q (congrArg not UW))
  |str j=>obtain⟨t',rfl⟩:=ry;exact arf (gW I q (by simp))
  |_=>exact absurd (show aL=ao from hs) jo
 |int i=>
  obtain⟨t,rfl⟩:=rx
  cases y with
  |non=>cases ry;exact aru (gW I q (by simp))
  |int j=>obtain⟨t',rfl⟩:=ry;exact ne_int (gW I q (congrArg not TY))
  |str j=>obtain⟨t',rfl⟩:=ry;exact arv (gW I q (by simp))
  |_=>exact absurd (show aL=ao from hs) jo
 |str i=>
  obtain⟨t,rfl⟩:=rx
  cases y with
  |non=>cases ry;exact arw (gW I q (by simp))
  |bl j=>cases ry;exact arh (gW I q (by simp))
  |int j=>obtain⟨t',rfl⟩:=ry;exact arx (gW I q (by simp))
  |str j=>obtain⟨t',rfl⟩:=ry;exact ne_str (gW I q (congrArg not T3))
  |_=>exact absurd (show aL=ao from hs) jo
 |rM i=>
  obtain⟨t,rfl⟩:=rx
  cases y with
  |rM j=>obtain⟨t',rfl⟩:=ry;exact PySem.W.ne_bytes (gW I q (congrArg not ab7))
  |_=>exact absurd (show aL=ao from hs) jo
 |_=>cases y<;>exact absurd (show aL=ao from hs) jo
theorem anT:dB X (gq .LtE) (rN λi j=>.bl (decide (i<=j))):=V8 λ_ _ _ _ _ _ _ q=>le_int q
theorem Hh:dB X (gq .Gt) (rN λi j=>.bl (decide (j<i))):=V8 λ_ _ _ _ _ _ _ q=>gt_int q
theorem anU:dB X (gq .GtE) (rN λi j=>.bl (decide (j<=i))):=V8 λ_ _ _ _ _ _ _ q=>ge_int q
theorem amD:dB X (gq .Is) (λx y H Q=>y=.non/\Q (.bl (decide (x=.non))) H):=by
 intro pins s σ H x y v u Q I rx ry h
 obtain⟨rfl,q⟩:=h
 cases ry;refine is_none_gen (gW I q ?_);cases x<;>first
  |(cases rx;rfl)
  |(obtain⟨t,rfl⟩:=rx;rfl)
theorem akX:dB X (gq .IsNot) (λx y H Q=>y=.non/\Q (.bl (!decide (x=.non))) H):=by
 intro pins s σ H x y v u Q I rx ry h
 obtain⟨rfl,q⟩:=h
 cases ry;refine isnot_none_gen (gW I q ?_);cases x<;>first
  |(cases rx;rfl)
  |(obtain⟨t,rfl⟩:=rx;rfl)
theorem dB.or{f:Value->Value->Sem Value}{r r':R2}(h:dB X f r)(h':dB X f r'):dB X f (λx y H Q=>r x y H Q\/r' x y H Q):=by
 intro pins s σ H x y v u Q I rx ry q;rcases q with q|q
 .exact h pins s σ H x y v u Q I rx ry q
 .exact h' pins s σ H x y v u Q I rx ry q
theorem f9(b:Expr){op:CmpOp}(h:op≠.In:=by decide)(h2:op≠.NotIn:=by decide):FP op b=aL:=by
 have e1:(op==CmpOp.In)=aL:=by cases op<;>first|rfl|exact absurd rfl h
 have e2:(op==CmpOp.NotIn)=aL:=by cases op<;>first|rfl|exact absurd rfl h2
 cases b<;>simp[FP,e1,e2]
theorem akY{op:CmpOp}{r:R2}(ho:dB X (gq op) r)(ha:PE X a ta)(hb:PE X b tb)(hm:FP op b=aL):PE X (.Compare a [op] [b] pos) (Ih r ta tb):=by
 intro pins s σ H Q I h;exact wpAny_Compare1 (V7 ha hb I h λv u s2 x y H2 I2 rx ry q=>ho pins s2 σ H2 x y v u Q I2 rx ry q) hm
def Vx(t:TE):TT:=λσ H Q=>t σ H λx H'=>∃k,x=.bl k/\Q k H'
theorem akZ{op:CmpOp}{r:R2}(ho:dB X (gq op) r)(ha:PE X a ta)(hb:PE X b tb)(hm:FP op b=aL):PT X (.Compare a [op] [b] pos) (Vx (Ih r ta tb)):=by
 intro pins s σ H Q I h;refine wpAny_isTrue_Compare1 (bV (ha pins s σ H _ I h) λv s1 ⟨x,H1,I1,r1,q1⟩=>bV (hb pins s1 σ H1 _ I1 q1) λu s2 ⟨y,H2,I2,r2,q2⟩=>
  bV (ho pins s2 σ H2 x y v u _ I2 r1 r2 q2) λc s3 ⟨z,H3,I3,r3,k,e,q3⟩=>?_) hm
 subst e;cases r3;exact vX ⟨H3,I3,q3⟩
def U0(r r':R2)(ta tb tc:TE):TE:=λσ H Q=>ta σ H λx H1=>tb σ H1 λy H2=>r x y H2 λz H3=>∃k,z=.bl k/\
 (if k=ao then tc σ H3 λw' H4=>r' y w' H4 Q else Q (.bl aL) H3)
theorem ajJ{op op':CmpOp}{r r':R2}(ho:dB X (gq op) r)(ho':dB X (gq op') r')(ha:PE X a ta)(hb:PE X b tb)(hc:PE X c tc)
  (hm:Rw [op,op'] [b,c]=aL:=by with_unfolding_all rfl):PE X (.Compare a [op,op'] [b,c] pos) (U0 r r' ta tb tc):=by
 intro pins s σ H Q I h;refine Compare_chain (bV (ha pins s σ H _ I h) λv s1 ⟨x,H1,I1,r1,q1⟩=>chain_link (bV (hb pins s1 σ H1 _ I1 q1) λu s2 ⟨y,H2,I2,r2,q2⟩=>
  bV (ho pins s2 σ H2 x y v u _ I2 r1 r2 q2) λd s3 ⟨z,H3,I3,r3,k,e,q3⟩=>?_)) hm
 subst e;cases r3;refine vX ?_;cases k with
 |false=>exact ite_ff ⟨.bl aL,H3,I3,rfl,q3⟩
 |true=>exact ite_tt (chain_last (bV (hc pins s3 σ H3 _ I3 q3) λw' s4 ⟨z',H4,I4,r4,q4⟩=>ho' pins s4 σ H4 y z' u w' Q I4 r2 r4 q4))
theorem ajK{op op':CmpOp}{r r':R2}(ho:dB X (gq op) r)(ho':dB X (gq op') r')(ha:PE X a ta)(hb:PE X b tb)(hc:PE X c tc)
  (hm:Rw [op,op'] [b,c]=aL:=by with_unfolding_all rfl):PT X (.Compare a [op,op'] [b,c] pos) (Vx (U0 r r' ta tb tc)):=by
 intro pins s σ H Q I h;refine isTrue_chain (bV (ha pins s σ H _ I h) λv s1 ⟨x,H1,I1,r1,q1⟩=>test_link (bV (hb pins s1 σ H1 _ I1 q1) λu s2 ⟨y,H2,I2,r2,q2⟩=>
  bV (ho pins s2 σ H2 x y v u _ I2 r1 r2 q2) λd s3 ⟨z,H3,I3,r3,k,e,q3⟩=>?_)) hm
 subst e;cases r3;refine vX ?_;cases k with
 |false=>
  obtain⟨k',e',q'⟩:=q3
  cases e';exact ite_ff ⟨H3,I3,q'⟩
 |true=>
  refine ite_tt (test_last (bV (hc pins s3 σ H3 _ I3 q3) λw' s4 ⟨z',H4,I4,r4,q4⟩=>bV (ho' pins s4 σ H4 y z' u w' _ I4 r2 r4 q4) λd' s5 aW=>?_))
  obtain⟨z2,H5,I5,r5,k2,e2,q5⟩:=aW
  subst e2;cases r5;exact vX ⟨H5,I5,q5⟩
def Wa(K:aQ)(x:V)(H:Hp)(k:Bool):Prop:=
 match x with
 |.non=>k=aL
 |.bl b=>k=b
 |.int i=>k=(i != 0)
 |.str y=>y.length<=cH/\k=((y.length:Int) != 0)
 |.rM y=>y.size<=cH/\k=((y.size:Int) != 0)
 |.ref p=>(∃xs,bU K H p xs/\k=!xs.isEmpty)\/(∃xs,dD K H p xs/\k=!xs.isEmpty)\/∃kvs,H p=aa (.dK kvs)/\k=!kvs.isEmpty
 |_=>False
theorem ah1{κ:Type}{kvs:List (κ×V)}{vs:List (κ×Value)}(r:KV kvs vs):(!vs.isEmpty)=!kvs.isEmpty:=by
 cases r<;>rfl
theorem Z2{xs:List V}{its:List Value}(r:Vals xs its):(!its.toArray.isEmpty)=!xs.isEmpty:=by
 cases r<;>simp
theorem Ai:(cH:Nat)<2^63:=by rw[jq];decide
theorem amE:aoT X (λx H Q=>∃k,Wa X.K x H k/\Q k H):=by
 intro pins s σ H x v Q I rx h
 obtain⟨k,e,q⟩:=h
 have hl:=Ai;have hs:cH=16777216:=jq;cases x with
 |non=>
  cases rx;have e':k=aL:=e;subst e';exact truthy_none ⟨H,I,q⟩
 |bl b=>
  cases rx;have e':k=b:=e;subst e';exact vX ⟨H,I,q⟩
 |int i=>
  obtain⟨t,rfl⟩:=rx
  have e':k=(i != 0):=e;subst e';exact PySem.P.truthy_int ⟨H,I,q⟩
 |str y=>
  obtain⟨t,rfl⟩:=rx
  obtain⟨hy,e'⟩:y.length<=cH/\k=((y.length:Int) != 0):=e
  subst e';exact PySem.P.truthy_str (by lia) ⟨H,I.tok _,q⟩
 |rM y=>
  obtain⟨t,rfl⟩:=rx
  obtain⟨hy,e'⟩:y.size<=cH/\k=((y.size:Int) != 0):=e
  subst e';exact PySem.W.truthy_bytes (by lia) ⟨H,I.tok _,q⟩
 |ref p=>
  cases rx;have e':(∃xs,bU X.K H p xs/\k=!xs.isEmpty)\/(∃xs,dD X.K H p xs/\k=!xs.isEmpty)\/∃kvs,H p=aa (.dK kvs)/\k=!kvs.isEmpty:=e;rcases e' with⟨xs,hx,e'⟩|⟨xs,hx,e'⟩|⟨kvs,hx,e'⟩
  .subst e'
   obtain⟨its,r,pl,hz⟩:=I.list hx
   have hlen:=r.length;exact wpAny_truthy_list pl.isList (by simp only[gG];lia) ⟨H,I.tok _,by rw[Z2 r];exact q⟩
  .subst e'
   obtain⟨its,r,pl,hz⟩:=I.tuple hx
   have hlen:=r.length;exact truthy_tuple pl (by simp only[gG];lia) ⟨H,I.tok _,by rw[Z2 r];exact q⟩
  .subst e'
   obtain⟨hz,hS,vs,r,m⟩:kvs.length<=cH/\(p==tX)=aL/\∃vs,KV kvs vs/\s.heap.DictOf (jb X.prog X.w) p vs:=I.hok p _ hx
   have hlen:kvs.length=vs.length:=Paired.length r;exact wpAny_truthy_dict hS m (by lia) ⟨H,I.tok _,by rw[ah1 r];exact q⟩
 |_=>exact(show False from e).elim
theorem ajL(ha:PE X a ta)(he:∀whole,isTrue a X.env whole=(do let v <-whole;vd a.pos;sr [v] (truthy v))):
  PT X a (λσ H Q=>ta σ H λx H'=>∃k,Wa X.K x H' k/\Q k H'):=by
 intro pins s σ H Q I h;exact isTrue_plain (bV (ha pins s σ H _ I h) λv s1 ⟨x,H1,I1,r1,q1⟩=>amE pins s1 σ H1 x v Q I1 r1 q1) (he _)
theorem ah2:dB X (qZ .Add) (λx y H Q=>∃i j,x=.str i/\y=.str j/\i.length+j.length<=cH/\Q (.str (i++j)) H):=by
 intro pins s σ H x y v u Q I rx ry h
 obtain⟨i,j,rfl,rfl,hz,q⟩:=h
 obtain⟨t,rfl⟩:=rx
 obtain⟨t',rfl⟩:=ry
 exact add_str (λt' tk=>⟨.str (i++j),H,I.tok _,⟨_,rfl⟩,q⟩) hz
theorem vals1{x:V}{us:List Value}(r:Vals [x] us):∃u,us=[u]/\RelV x u:=by
 cases r with
 |cons r1 r2=>cases r2;exact⟨_,rfl,r1⟩
theorem vals2{x y:V}{us:List Value}(r:Vals [x,y] us):∃u w',us=[u,w']/\RelV x u/\RelV y w':=by
 cases r with
 |cons r1 r2=>
  cases r2 with
  |cons r3 r4=>cases r4;exact⟨_,_,rfl,r1,r3⟩
theorem aba:iI X (.builtin "abs") (λxs H Q=>∃i,xs=[.int i]/\Q (.int (if i<0 then -i else i)) H):=by
 intro pins s σ H xs us Q I r h
 obtain⟨i,rfl,q⟩:=h
 obtain⟨u,rfl,t,rfl⟩:=vals1 r
 exact call_abs_int λu tk=>⟨.int (if i<0 then -i else i),H,I.tok _,⟨_,rfl⟩,q⟩
theorem aiL(hc:X.calm=ao):iI X (.builtin "max") (λxs H Q=>∃i j,xs=[.int i,.int j]/\Q (.int (if j>i then j else i)) H):=by
 intro pins s σ H xs us Q I r h
 obtain⟨i,j,rfl,q⟩:=h
 obtain⟨u,w',rfl,⟨t,rfl⟩,⟨t',rfl⟩⟩:=vals2 r
 refine max_two_ints (I.ok.hd hc) λh' tk k=>⟨_,H,I.kept k,?_,q⟩
 by_cases hj:j>i
 .rw[bC hj,bC hj];exact⟨_,rfl⟩
 .rw[bJ hj,bJ hj];exact⟨_,rfl⟩
theorem Kr(hc:X.calm=ao):iI X (.builtin "min") (λxs H Q=>∃i j,xs=[.int i,.int j]/\Q (.int (if j<i then j else i)) H):=by
 intro pins s σ H xs us Q I r h
 obtain⟨i,j,rfl,q⟩:=h
 obtain⟨u,w',rfl,⟨t,rfl⟩,⟨t',rfl⟩⟩:=vals2 r
 refine min_two_ints (I.ok.hd hc) λh' tk k=>⟨_,H,I.kept k,?_,q⟩
 by_cases hj:j<i
 .rw[bC hj,bC hj];exact⟨_,rfl⟩
 .rw[bJ hj,bJ hj];exact⟨_,rfl⟩
theorem Rx:iI X (.type "int") (λxs H Q=>(∃i,xs=[.int i]/\Q (.int i) H)\/∃k,xs=[.bl k]/\Q (.int (if k then 1 else 0)) H):=by
 intro pins s σ H xs us Q I r h;rcases h with⟨i,rfl,q⟩|⟨k,rfl,q⟩
 .obtain⟨u,rfl,t,rfl⟩:=vals1 r
  exact call_int_int ⟨.int i,H,I,⟨_,rfl⟩,q⟩
 .obtain⟨u,rfl,r1⟩:=vals1 r
  cases r1;exact call_int_bool ⟨.int (if k then 1 else 0),H,I.tok _,⟨_,rfl⟩,q⟩
end
structure Wb(h:bw)(x dx C:aq)(mA:Str->Option Value):Prop where
 obj:h.get? x=aa (Yt C dx)
 ns:h.Ns1 dx mA
 ne:dx≠x
theorem aiM{h:bw}{dx:aq}{mA:Str->Option Value}(n:h.Ns1 dx mA):∃od,h.get? dx=aa od/\∀name,YG name od=aa (mA name):=by
 obtain⟨o,es,ep,ho,hd,hk,_,hm⟩:=n
 refine⟨o,ho,λname=>?_⟩
 have e:=hm name;unfold nsFind findBy at e;rw[<-Array.find?_toList] at e;unfold YG;rw[hd];dsimp only;split
 .rename_i y q;rw[q] at e;exact congrArg aa e
 .rename_i q;rw[q] at e;have a:es.toList.any (·.refKey)=aL:=by
   rw[agc];intro y hy
   obtain⟨z,t,hkey⟩:=hk y (Array.mem_toList_iff.mp hy)
   simp[DictEntry.refKey,hkey]
  have a':¬es.toList.any (·.refKey)=ao:=by rw[a];exact jo
  rw[bJ a'];exact congrArg aa e
theorem Wb.look{h:bw}{x dx C:aq}{mA:Str->Option Value}(I:Wb h x dx C mA):∃od,PySem.W.InstAt h x (Yt C dx) C (aa od)/\∀name,YG name od=aa (mA name):=
 let ⟨od,ho,hl⟩:=aiM I.ns
 ⟨od,⟨I.obj,rfl,rfl,ho⟩,hl⟩
section
variable{prog:bQ}{w:bK}{A:cV}{E:Value->aJ->Prop}{s:aJ}{K:aQ}{x dx C f:aq}{mA:Str->Option Value}{name:Str}{v:Value}
end
theorem rD.some_of{v:V}{o:Option Value}(r:rD (aa v) o):∃u,o=aa u/\RelV v u:=by
 cases o with
 |none=>exact(show False from r).elim
 |some u=>exact⟨u,rfl,r⟩
section
variable{P:bQ}{w:bK}{H H':Hp}{h h':bw}{a C dx:aq}{fs fs':List (Str×V)}
theorem ab8(hok:jm P w H h)(e:H a=aa (.ins C dx fs)):∃mA,Wb h a dx C mA/\(∀f,rD (fs.lookup f) (mA f))/\ahh mA (fs.map (·.1))/\fs.length<=1000/\H dx=aa (.own a):=by
 obtain⟨d,z,ne,ob,mA,n,r,q⟩:=(show gj P w H h a (.ins C dx fs) from hok a _ e)
 exact⟨mA,⟨ob,n,ne⟩,r,q,z,d⟩
end
structure Wu(K:aQ)(C:aq):Prop where
 pg:agt K C Str.empty=ao
 hd:PySem.W.hasDictIn K C=ao
 po:PySem.W.plainOver K C=ao
 sa:BZ K (.ref C) "__setattr__"=aa (aa (.builtin "object.__setattr__"))
theorem Wu.get{K:aQ}{C:aq}(c:Wu K C)(f:Str):agt K C f=ao:=c.pg
def ac6(K:aQ)(C:aq)(f:Str):Prop:=BZ K (.ref C) f=aa aj
theorem ac6.taker{K:aQ}{C:aq}{f:Str}(n:ac6 K C f):agJ K C f=aa aj:=by
 unfold agJ;rw[show BZ K (.ref C) f=aa aj from n];rfl
structure Con(K:aQ)(C:aq)(f:Str)(v:V)(u:Value):Prop where
 at_:BZ K (.ref C) f=aa (aa u)
 rel:RelV v u
 get:agd K u "__get__"=aa aj
 cp:PySem.W.copiedNames.contains f=aL
structure Meth(K:aQ)(C:aq)(m:Str)(f:aq):Prop where
 at_:BZ K (.ref C) m=aa (aa (.ref f))
 fn:ahj K (.ref f)=ao
 kp:xW K (.ref f)=ao
section
variable{X:Cx}{pins:List (aq×Obj)}{σ:St}{H:Hp}{s:aJ}{a C dx:aq}{fs:List (Str×V)}{f:Str}{v:V}{A:cV}{E:Value->aJ->Prop}
end
section
variable{X:Cx}{o e value:Expr}{f:Str}{pos pos' tpos:Pos}{ta tv:TE}
end
section
variable{X:Cx}{pins:List (aq×Obj)}{σ:St}{H:Hp}{s:aJ}{A:cV}{E:Value->aJ->Prop}{Q:Value->aJ->Prop}{c:Value}{b:Bool}
inductive oK(K:aQ)(H:Hp):V->Value->Prop where
 |non:oK K H .non (.type "NoneType")
 |bl (x:Bool):oK K H (.bl x) (.type "bool")
 |int (i:Int):oK K H (.int i) (.type "int")
 |str (x:Str):oK K H (.str x) (.type "str")
 |flt (x:UInt64):oK K H (.flt x) (.type "float")
 |lst {a:aq} {xs:List V} (e:H a=aa (.lst xs)):oK K H (.ref a) (.type "list")
 |nO {a:aq} {o:Obj} {xs:List V} (e:H a=aa (.nO o (.lst xs))):oK K H (.ref a) (.type "list")
 |tup {a:aq} {xs:List V} (e:H a=aa (.tup xs)):oK K H (.ref a) (.type "tuple")
 |dK {a:aq} {kvs:List (Key×V)} (e:H a=aa (.dK kvs)):oK K H (.ref a) (.type "dict")
 |dT {a:aq} {kvs:List (List Key×V)} (e:H a=aa (.dT kvs)):oK K H (.ref a) (.type "dict")
 |ins {a C dx:aq} {fs:List (Str×V)} (e:H a=aa (.ins C dx fs)) (cl:Wu K C) (ha:BZ K (.ref C) "__class__"=aa (aa (.builtin "object.__class__")))
   (hn:agd K (.builtin "object.__class__") "__get__"=aa (aa (.builtin "getset_descriptor.__get__"))) (htk:PySem.W.takesIn K (.builtin "object.__class__")=aa ao)
   (hm:PySem.W.mroIn K C (.type "object")=aa ao):oK K H (.ref a) (.ref C)
theorem aiN{x:V}{u t:Value}(I:Inv X pins σ H s)(rx:RelV x u)(ty:oK X.K H x t)(e:Ca X.K t c=aa b)(h:∀tk,Q (.bool b) {s with toks:=tk}):
  aX (model X.prog X.w) A (call (.builtin "isinstance") [u,c]) Q E s:=by
 cases ty with
 |non=>cases(show u=nJ from rx);exact uP age I.jy nU e (λz=>nomatch z) h
 |bl y=>cases(show u=uV y from rx);exact uP agf I.jy nU e (λz=>nomatch z) h
 |int i=>obtain⟨t,q⟩:=(show ∃t,u=Km i t from rx);cases q;exact uP agu I.jy nU e (λz=>nomatch z) h
 |str y=>obtain⟨t,q⟩:=(show ∃t,u=Ko y t from rx);cases q;exact uP agv I.jy nU e (λz=>nomatch z) h
 |flt y=>obtain⟨t,q⟩:=(show ∃t,u=ZK y t from rx);cases q;exact uP af0 I.jy nU e (λz=>nomatch z) h
 |@lst a xs ea=>
  cases(show u=eV a from rx)
  obtain⟨_,_,n,_,h1⟩:=(show gj X.prog X.w H s.heap a (.lst xs) from I.hok a _ ea)
  exact uP O7 I.jy ⟨_,h1,rfl⟩ e (λz=>nomatch z) h
 |@nO a ob xs ea=>
  cases(show u=eV a from rx)
  obtain⟨_,_,_,n,_,h1⟩:=(show gj X.prog X.w H s.heap a (.nO ob (.lst xs)) from I.hok a _ ea)
  exact uP O7 I.jy ⟨_,h1,rfl⟩ e (λz=>nomatch z) h
 |@tup a xs ea=>
  cases(show u=eV a from rx)
  obtain⟨_,_,_,p⟩:=(show gj X.prog X.w H s.heap a (.tup xs) from I.hok a _ ea)
  obtain⟨o,h1,h2,_⟩:=p
  exact uP af1 I.jy ⟨o,h1,h2⟩ e (λz=>nomatch z) h
 |@dK a kvs ea=>
  cases(show u=eV a from rx)
  obtain⟨_,_,vs,_,p⟩:=(show gj X.prog X.w H s.heap a (.dK kvs) from I.hok a _ ea)
  obtain⟨o,es,ep,h1,h2,_⟩:=p
  exact uP O8 I.jy ⟨o,h1,h2.1⟩ e (λz=>nomatch z) h
 |@dT a kvs ea=>
  cases(show u=eV a from rx)
  obtain⟨_,_,xs,_,o,es,ep,h1,h2,_⟩:=(show gj X.prog X.w H s.heap a (.dT kvs) from I.hok a _ ea)
  exact uP O8 I.jy ⟨o,h1,h2.1⟩ e (λz=>nomatch z) h
 |@ins a C dx fs ea cl ha hn htk hm=>
  cases(show u=eV a from rx)
  obtain⟨mA,O,_⟩:=ab8 I.hok ea
  obtain⟨od,J,_⟩:=O.look
  exact uP (agw (cl.get _) cl.hd ha hn htk hm) I.jy J e (λz=>nomatch z) h
end
structure jD(k:Nat)(A:cV):Prop where
 hd:A.handled=aj
 dp:A.depth+3*k+5<recursionLimit
 un:A.units+16*k+200<jc
 gd:A.guards=aa []
theorem jD.mono{j k:Nat}{A:cV}(r:jD k A)(h:j<=k):jD j A:=⟨r.hd,by have:=r.dp;lia,by have:=r.un;lia,r.gd⟩
theorem jD.deeper{k:Nat}{A:cV}(r:jD (k+1) A)(env:Env):jD k (A.deeper env):=
 ⟨r.hd,by have:=r.dp;show A.depth+1+3*k+5<_;lia,by have:=r.un;show A.units+3+16*k+200<_;lia,r.gd⟩
theorem jD.in1{k:Nat}{A:cV}(r:jD (k+1) A):jD k A.in1:=
 ⟨r.hd,by have:=r.dp;show A.depth+3*k+5<_;lia,by have:=r.un;show A.units+1+16*k+200<_;lia,r.gd⟩
theorem jD.depth{k:Nat}{A:cV}(r:jD k A):A.depth<recursionLimit:=by have:=r.dp;lia
theorem jD.units{k:Nat}{A:cV}(r:jD k A):A.units+64<jc:=by have:=r.un;lia
theorem jD.Mi{k:Nat}{A:cV}(r:jD k A):A.units<jc:=by have:=r.un;lia
def aoU:TA:=λ_ H Q=>Q [] H
def anV(ta:TE)(tr:TA):TA:=λσ H Q=>ta σ H λx H1=>tr σ H1 λxs H2=>Q (x::xs) H2
section
variable{X:Cx}{e:Expr}{es:List Expr}{te:TE}{t:TA}{pos:Pos}
theorem rA:PA X [] aoU:=λ_ _ _ _ H Q I h=>X7 ⟨[],H,I,.nil,h⟩
theorem oX(ha:PE X e te)(hr:PA X es t)(hs:bO (e::es) X.env=(aL,eval e X.env)::bO es X.env:=by rfl):PA X (e::es) (anV te t):=by
 intro pos pins s σ H Q I h;rw[hs];show aX _ _ (spliced ((aL,eval e X.env)::iu pos (bO es X.env))) _ _ s;refine XS (bV (ha pins s σ H _ I h) λu s1 aW=>?_)
 obtain⟨x,H1,I1,r1,q1⟩:=aW
 exact bV (hr pos pins s1 σ H1 _ I1 q1) λus s2 ⟨xs,H2,I2,r2,q2⟩=>⟨x::xs,H2,I2,.cons r1 r2,q2⟩
def aoV(t:TA):TE:=λσ H Q=>t σ H λxs H1=>xs.length<=cH/\∀p,H1 p=aj->Q (.ref p) (upd H1 p (.tup xs))
def aoW(t:TA):TE:=λσ H Q=>t σ H λxs H1=>xs.length<=cH/\∀p,H1 p=aj->Q (.ref p) (upd H1 p (.lst xs))
theorem U3{x1}(h:PA X es t):PE X (.Tuple es x1 pos) (aoV t):=by
 intro pins s σ H Q I hq;refine wpAny_Tuple_spliced (bV (h pos pins s σ H _ I hq) λus s1 ⟨xs,H1,I1,r,z,q⟩=>⟨by rw[<-r.length];exact z,?_⟩);have hf:H1 s1.heap.objs.size=aj:=I1.hok.fresh (cz _)
 refine⟨.ref s1.heap.objs.size,upd H1 s1.heap.objs.size (.tup xs),I1.laid (t':=s1.toks) (λb u e=>cR _ e) (cz _) ?_,rfl,q _ hf⟩
 exact⟨z,us,r,⟨_,iK _ rfl,rfl,_,rfl⟩⟩
theorem amF(h:PA X es t):PE X (.List es pos) (aoW t):=by
 intro pins s σ H Q I hq;refine wpAny_List_spliced (bV (h pos pins s σ H _ I hq) λus s1 ⟨xs,H1,I1,r,z,q⟩=>⟨by rw[<-r.length];exact z,?_⟩);have hf:H1 s1.heap.objs.size=aj:=I1.hok.fresh (cz _)
 refine⟨.ref s1.heap.objs.size,upd H1 s1.heap.objs.size (.lst xs),I1.laid (t':=s1.toks) (λb u e=>cR _ e) (cz _) ?_,rfl,q _ hf⟩
 exact⟨z,us,0,r,iK _ rfl⟩
end
abbrev Sp:=List V->Hp->VK->XK->Prop
abbrev rO:=List Env->Hp->aJ->XK->Value->aJ->Prop
structure Ay(P:bQ)(w:bK)(K:aQ)(mg:Str->Option Value)(base:bw)(A:cV)(outer:List Env)(s:aJ)(H:Hp):Prop where
 frames:A.frames=aa outer
 mod:Mod K mg base
 bs:∀b o,base.get? b=aa o->s.heap.get? b=aa o/\H b=aj
 vO:base.objs.size<=s.heap.objs.size
 sW:s.heap.FunFrames base outer
 Bo:∀b∈frs outer,H b=aj
 hok:jm P w H s.heap
 bare:AllBare s.gens
def CE(outer:List Env)(P:bQ)(w:bK)(H:Hp)(s:aJ)(Q:VK)(u:Value)(s':aJ):Prop:=
 ∃v H',s'.os=s.os/\AllBare s'.gens/\Un (frs outer) [] H H' s.heap s'.heap/\jm P w H' s'.heap/\RelV v u/\Q v H'
def CR(CX:rO)(outer:List Env)(P:bQ)(w:bK)(H:Hp)(s:aJ)(Q:VK)(E:XK)(r:sE)(s':aJ):Prop:=
 match r with
 |.ok (.ret u)=>CE outer P w H s Q u s'
 |.ok _=>False
 |.error e=>CX outer H s E e s'
structure dI(P:bQ)(w:bK)(K:aQ)(mg:Str->Option Value)(base:bw)(CX:rO)(k:Nat)(f:aq)(fd:dO)(ps:List Str)(sp:Sp):Prop where
 len:∀vs H Q E,sp vs H Q E->vs.length=ps.length
 run:∀(A:cV)(outer:List Env)(s:aJ)(H:Hp)(args:Args)(us:List Value)(vs:List V)(Q:VK)(E:XK),jD k A->Ay P w K mg base A outer s H->z8 s fd args (ps.zip us)->Vals vs us->sp vs H Q E->
  mJ (model P w) A (.call (.ref f) args) (CR CX outer P w H s Q E) s
theorem dI.mono{P:bQ}{w:bK}{K:aQ}{mg:Str->Option Value}{base:bw}{CX:rO}{j k:Nat}{f:aq}{fd:dO}{ps:List Str}{sp:Sp}(F:dI P w K mg base CX j f fd ps sp)(h:j<=k):
  dI P w K mg base CX k f fd ps sp:=⟨F.len,λA outer s H args us vs Q E hr=>F.run A outer s H args us vs Q E (hr.mono h)⟩
theorem dI.imp{P:bQ}{w:bK}{K:aQ}{mg:Str->Option Value}{base:bw}{CX:rO}{k:Nat}{f:aq}{fd:dO}{ps:List Str}{sp sp':Sp}(F:dI P w K mg base CX k f fd ps sp)
  (h:∀vs H Q E,sp' vs H Q E->sp vs H Q E):dI P w K mg base CX k f fd ps sp':=
 ⟨λvs H Q E q=>F.len vs H Q E (h _ _ _ _ q),λA outer s H args us vs Q E hr he hb hv hs=>F.run A outer s H args us vs Q E hr he hb hv (h _ _ _ _ hs)⟩
theorem Ay.in1{P:bQ}{w:bK}{K:aQ}{mg:Str->Option Value}{base:bw}{A:cV}{outer:List Env}{s:aJ}{H:Hp}(e:Ay P w K mg base A outer s H):
  Ay P w K mg base A.in1 outer s H:=⟨e.frames,e.mod,e.bs,e.vO,e.sW,e.Bo,e.hok,e.bare⟩
section
variable{X:Cx}{pins:List (aq×Obj)}{σ:St}{H:Hp}{s s':aJ}
theorem Inv.env0(I:Inv X pins σ H s):Ay X.prog X.w X.K X.mg X.base X.A X.stack s H:=
 ⟨I.ok.frames,I.ok.mod,I.bs,lR I.ok.vO I.sz,I.stack,I.ab5,I.hok,I.bare⟩
theorem Inv.after{Q:VK}{u:Value}(I:Inv X pins σ H s)(h:CE X.stack X.prog X.w H s Q u s'):EP X pins σ Q u s':=by
 obtain⟨v,H',os,bare,un,hok,r,q⟩:=h
 obtain⟨hh,g,d,t,os'⟩:=s'
 obtain rfl:os'=s.os:=os
 exact⟨v,H',I.call (h':=hh) (g':=g) (d':=d) (t':=t) (ch:=[]) un hok bare (λb z=>absurd z (by simp)),r,q⟩
end
def Vy(sp:Sp)(yX:List V)(E:XK)(t:TA):TE:=λσ H Q=>t σ H λvs H1=>sp (vs++yX) H1 Q E
def Binds(K:aQ)(fd:dO)(ps:List Str)(ds:List Value):Prop:=
 ∀(s:aJ)(us:List Value),K.In s.heap->(us++ds).length=ps.length->z8 s fd ⟨us,[]⟩ (ps.zip (us++ds))
theorem Binds.all{K:aQ}{fd:dO}{ps:List Str}(h:∀us:List Value,us.length=ps.length->bindArgs fd ⟨us,[]⟩=pure (ps.zip us)):Binds K fd ps []:=λs us _ hl=>by
 rw[lq] at hl⊢;exact .of_eq (h us hl)
def Passes(CX:rO)(X:Cx)(E:XK):Prop:=∀(pins:List (aq×Obj))(σ:St)(H:Hp)(s:aJ)(e:Value)(s':aJ),Inv X pins σ H s->CX X.stack H s E e s'->X.xe e s'
section
variable{X:Cx}{CX:rO}{k:Nat}{f C:aq}{fd:dO}{ps:List Str}{sp:Sp}{yX:List V}{ds:List Value}{E:XK}{x m:Str}{p pos apos:Pos}{e o:Expr}{es:List Expr}{ta:TE}{t:TA}
theorem amG{pins:List (aq×Obj)}{σ:St}{H:Hp}{s:aJ}{Q:VK}{us:List Value}{vs:List V}(F:dI X.prog X.w X.K X.mg X.base CX k f fd ps sp)(hr:jD k X.A)(hb:Binds X.K fd ps ds)(hd:Vals yX ds)(hx:Passes CX X E)
  (I:Inv X pins σ H s)(r:Vals vs us)(h:sp (vs++yX) H Q E):aX (model X.prog X.w) X.A (call (.ref f) us) (EP X pins σ Q) X.xe s:=by
 have r2:Vals (vs++yX) (us++ds):=r.append hd;have hl:(us++ds).length=ps.length:=by rw[<-r2.length];exact F.len _ _ _ _ h
 refine wpAny_call (JL (F.run X.A X.stack s H ⟨us,[]⟩ (us++ds) (vs++yX) Q E hr I.env0 (hb s us I.jy hl) r2 h) λr s' hq=>?_);cases r with
 |error e=>exact hx pins σ H s e s' I hq
 |ok fl=>
  cases fl with
  |ret u=>exact I.after hq
  |next=>exact tY hq
  |brk=>exact tY hq
  |cont=>exact tY hq
theorem ak0(F:dI X.prog X.w X.K X.mg X.base CX k f fd ps sp)(hr:jD k X.A)(hg:Gl X x)(hm:X.mg x=aa (.ref f))(hk:xW X.K (.ref f)=ao)(hb:Binds X.K fd ps ds)(hd:Vals yX ds)(hx:Passes CX X E)
  (ha:PA X (e::es) t)(hdb:(x==("__debug__":Str))=aL:=by decide)(he:bO (e::es) X.env=(aL,eval e X.env)::bO es X.env:=by rfl)(hpl:(iu pos (bO es X.env)).any (·.1)=aL:=by rfl):
  PE X (.Call (.Name x p) (e::es) [] pos) (Vy sp yX E t):=by
 intro pins s σ H Q I h;refine Jj (akU I hg hm ?_ hdb);refine PySem.W.callWith_K (h₀:=X.base) I.ok.mod.Wn hk (bV (ha pos pins s σ H _ I h) λus s1 ⟨vs,H1,I1,r,q⟩=>⟨I1.jy,?_⟩) he hpl;exact amG F hr hb hd hx I1 r q
structure Mk(K:aQ)(C f:aq):Prop where
 makes:PySem.W.makesIn K C=ao
 init:BZ K (.ref C) "__init__"=aa (aa (.ref f))
 fn:ahj K (.ref f)=ao
 kp:xW K (.ref C)=ao
end
section
variable{X:Cx}{CX:rO}{k:Nat}{f C:aq}{fd:dO}{ps ks:List Str}{sp:Sp}{E:XK}{x m:Str}{p pos apos kpos:Pos}{e o:Expr}{es:List Expr}{kws:List oY}{te ta:TE}{t tk:TA}{nm:Option Str}
structure arK(K:aQ)(fd:dO)(ps ks:List Str)(g:List Value->List Value->List Value)(gV:List V->List V->List V):Prop where
 to:∀(s:aJ)(us ws:List Value),K.In s.heap->(g us ws).length=ps.length->z8 s fd ⟨us,ks.zip ws⟩ (ps.zip (g us ws))
 rel:∀{vs:List V}{us:List Value}{zs:List V}{ws:List Value},Vals vs us->Vals zs ws->Vals (gV vs zs) (g us ws)
variable{g:List Value->List Value->List Value}{gV:List V->List V->List V}
end
structure gR(N P:List Str)(sc:kJ):Prop where
 kind:sc.kind=.function
 co:sc.isCoroutine=aL
 gen:sc.isGenerator=aL
 nd:N.Nodup
 pre:N.take P.length=P
 par:∀x∈P,sc.names.lookup x=aa .local\/sc.names.lookup x=aa .cell
 amH:∀y∈sc.names,y.2≠.free
theorem aav{kindOf:Str->Option Dh}{x:Str}:∀{binds:List (Str×Value)}{m:Str->Option Value},(∀v,(x,v)∉binds)->Am kindOf binds m x=m x
 |[],_,_=>rfl
 |(n,v)::r,m,h=>by
  unfold Am;rw[aav λw hw=>h w (gh _ hw)];split
  .have:x≠n:=by rintro rfl;exact h v dH
   simp[this]
  .rfl
theorem aaw{kindOf:Str->Option Dh}{x:Str}:∀{binds:List (Str×Value)}{m:Str->Option Value},(∀v,(x,v)∉binds)->An kindOf binds m x=m x
 |[],_,_=>rfl
 |(n,v)::r,m,h=>by
  unfold An;rw[aaw λw hw=>h w (gh _ hw)];split
  .rfl
  .have:x≠n:=by rintro rfl;exact h v dH
   simp[this]
theorem aax{kindOf:Str->Option Dh}{x:Str}{v:Value}:∀{P:List Str}{vs:List Value}{i:Nat}{m:Str->Option Value},P.Nodup->P[i]?=aa x->vs[i]?=aa v->kindOf x=aa .local->
  Am kindOf (P.zip vs) m x=aa v
 |[],_,_,_,_,h,_,_=>by simp at h
 |_::_,[],_,_,_,_,h,_=>by simp at h
 |p::P,w::vs,0,m,nd,h1,h2,hk=>by
  simp at h1 h2;subst h1;subst h2;show Am kindOf ((p,w)::P.zip vs) m p=_;unfold Am;rw[aav λv hv=>(jL.mp nd).1 (Px hv).1,bC hk];simp
 |p::P,w::vs,i+1,m,nd,h1,h2,hk=>by
  show Am kindOf ((p,w)::P.zip vs) m x=_;unfold Am;exact aax (i:=i) (jL.mp nd).2 (by simpa using h1) (by simpa using h2) hk
theorem aay{kindOf:Str->Option Dh}{x:Str}{v:Value}:∀{P:List Str}{vs:List Value}{i:Nat}{m:Str->Option Value},P.Nodup->P[i]?=aa x->vs[i]?=aa v->kindOf x≠aa .local->
  An kindOf (P.zip vs) m x=aa v
 |[],_,_,_,_,h,_,_=>by simp at h
 |_::_,[],_,_,_,_,h,_=>by simp at h
 |p::P,w::vs,0,m,nd,h1,h2,hk=>by
  simp at h1 h2;subst h1;subst h2;show An kindOf ((p,w)::P.zip vs) m p=_;unfold An;rw[aaw λv hv=>(jL.mp nd).1 (Px hv).1,bJ hk];simp
 |p::P,w::vs,i+1,m,nd,h1,h2,hk=>by
  show An kindOf ((p,w)::P.zip vs) m x=_;unfold An;exact aay (i:=i) (jL.mp nd).2 (by simpa using h1) (by simpa using h2) hk
def start(N:List Str)(vs:List V):St:=vs.map aa++jz (N.length-vs.length) aj
def Az(CX:rO)(P:bQ)(w:bK)(K:aQ)(mg:Str->Option Value)(base:bw)(N:List Str)(qual:Str)(scope:kJ)(f:aq)(cd:Value)(A:cV)(outer:List Env)(s:aJ)(H:Hp)(E:XK):Cx where
 prog:=P
 w:=w
 K:=K
 mg:=mg
 base:=base
 A:=A.deeper (envOfC qual scope s.heap.objs.size f cd)
 N:=N
 s₀:=s
 H₀:=H
 env:=envOfC qual scope s.heap.objs.size f cd
 outer:=outer
 stack:=envOfC qual scope s.heap.objs.size f cd::outer
 ex:=[]
 calm:=ao
 fn:=λ_=>ao
 pn:=[]
 xe:=λe s'=>aX (model P w) (A.deeper (envOfC qual scope s.heap.objs.size f cd)) (leaving (envOfC qual scope s.heap.objs.size f cd) e) (λ_ s''=>CX outer H s E e s'') (λe' s''=>CX outer H s E e' s'') s'
theorem abb{sc:kJ}{n:Nat}{x:Str}(h:sc.names.lookup x=aa .cell):∃c,(cellsFrom n sc.names []).lookup x=aa c:=by
 have q:=afA sc.names n [] (.inl h);exact zx.mp q
theorem aiO{CX:rO}{P:bQ}{w:bK}{K:aQ}{mg:Str->Option Value}{base:bw}{N ps:List Str}{qual:Str}{scope:kJ}{f:aq}{cd:Value}{A:cV}{outer:List Env}{s s1:aJ}{H:Hp}{E:XK}{us:List Value}{vs:List V}
  (S:gR N ps scope)(hd:A.handled=aj)(e0:Ay P w K mg base A outer s H)(hl:vs.length=ps.length)(r:Vals vs us)
  (x:InCallC s s.heap.objs.size (Am (envOfC qual scope s.heap.objs.size f cd).kindOf (ps.zip us) λ_=>aj) (cellsFrom (s.heap.objs.size+1) scope.names []) (An (envOfC qual scope s.heap.objs.size f cd).kindOf (ps.zip us) λ_=>aj) s1):
  Inv (Az CX P w K mg base N qual scope f cd A outer s H E) [] (start N vs) H s1:=by
 have hpl:ps.length<=N.length:=by have:=congrArg qx S.pre;rw[qu] at this;lia
 obtain⟨h1,tk,rfl,hk⟩:=x.done
 have Ii:∀b:aq,b∉(Az CX P w K mg base N qual scope f cd A outer s H E).ex:=λb z=>absurd (show b∈([]:List aq) from z) (by simp)
 refine⟨⟨e0.mod,S.kind,rfl,rfl,cz _,λy z c h1 h2=>?_,λy hy=>?_,λy c _ h=>?_,λ_=>hd,Around.frames_deeper e0.frames,.inr ⟨rfl,rfl⟩,λb z=>absurd z (Ii b),e0.bs,e0.vO,λb _ _=>Ii b,λb z=>absurd z (Ii b),e0.sW,e0.Bo⟩,
  rfl,e0.bare,Un.kept hk,⟨_,x.toInCall.ns,λi y v h1 h2 h3=>?_⟩,λy c h=>⟨_,x.cell y c h⟩,e0.hok.fresh (cz _),λy c h=>?_,λp hp=>absurd (show p∈([]:List (aq×Obj)) from hp) (by simp),e0.hok.kept hk,?_⟩
 .exact name_of_addr x.apart (xP h1) (xP h2)
 .have hy:scope.names.lookup y=aa .cell\/scope.names.lookup y=aa .free:=hy;rcases hy with hy|hy
  .exact abb hy
  .exact absurd rfl (S.amH _ (xP hy))
 .exact yc (x.above y c (xP h))
 .have hi:i<vs.length:=by
   unfold start at h2;by_cases hi:i<vs.length
   .exact hi
   .rw[qO (by simpa using hi)] at h2;rw[Xw] at h2;split at h2<;>cases h2
  have ha:vs[i]?=aa v:=by
   unfold start at h2;rw[qP (by simpa using hi),iG] at h2;cases e:vs[i]? with
   |none=>rw[e] at h2;cases h2
   |some a=>rw[e] at h2;cases h2;rfl
  obtain⟨u,hu,rv⟩:=r.get ha
  have hp:ps[i]?=aa y:=by
   rw[<-S.pre,Xq (by lia)];exact h1
  have ndP:ps.Nodup:=by rw[<-S.pre];exact S.nd.sublist (Jm _ _)
  refine⟨u,rv,?_⟩
  rcases S.par y (qm hp) with k|k
  .exact .inl ⟨k,aax ndP hp hu k⟩
  .obtain⟨c,e⟩:=abb (n:=s.heap.objs.size+1) k
   refine .inr ⟨.inl k,c,e,?_⟩;have q:=x.cell y c e;rw[aay ndP hp hu (by show scope.names.lookup y≠_;rw[k];decide)] at q;exact q
 .exact e0.hok.fresh (yc (x.above y c (xP h)))
 .unfold start;show _=N.length;rw[dM,bz,afE];lia
theorem anW{CX:rO}{P:bQ}{w:bK}{K:aQ}{mg:Str->Option Value}{base:bw}{k:Nat}{f:aq}{name qual:Str}{params:Arguments}{body:List dz}{scope:kJ}{dV kV doc pm cdv ct oc:Value}{an od:Option aq}
  {osl:Array (Option Value)}{N ps:List Str}{sp:Sp}(lk:K.lookup f=aa ⟨oc,od,.func (zU name qual params body scope dV kV doc pm an cdv ct),osl⟩)(hcd:PL K cdv qual=ao)(S:gR N ps scope)
  (len:∀vs H Q E,sp vs H Q E->vs.length=ps.length)
  (hbody:∀(A:cV)(outer:List Env)(s:aJ)(H:Hp)(vs:List V)(Q:VK)(E:XK),jD k (A.deeper (envOfC qual scope s.heap.objs.size f cdv))->sp vs H Q E->
   ∃t,j4 (Az CX P w K mg base N qual scope f cdv A outer s H E) body t/\t {nx:=λ_ H'=>Q .non H',rt:=Q} (start N vs) H):
  dI P w K mg base CX (k+1) f (zU name qual params body scope dV kV doc pm an cdv ct) ps sp:=by
 refine⟨len,λA outer s H args us vs Q E hr e0 hb r hsp=>?_⟩
 have hl:=len _ _ _ _ hsp;have KX:K.In s.heap:=e0.mod.Wn.keeps λb o e=>(e0.bs b o e).1
 have lim:s.heap.NoLimit:=e0.mod.nolimit.keeps λb o e=>(e0.bs b o e).1
 have hkind:∀y∈ps.zip us,scope.names.lookup y.1=aa .local\/(scope.names.lookup y.1=aa .cell/\((cellsFrom (s.heap.objs.size+1) scope.names []).lookup y.1).isSome=ao):=λ⟨n,v⟩ hy=>by
  rcases S.par n (Px hy).1 with q|q
  .exact .inl q
  .exact .inr ⟨q,afA _ _ _ (.inl q)⟩
 refine codeAny_call_function hr.depth (KX _ _ lk) rfl S.co S.gen rfl (PySem.W.codeRec_of KX hcd) (hb _ _ _ _ ?_);refine wpAny_newFunctionEnv_cells S.kind hkind λenv he s1 x=>?_
 subst he
 refine⟨lim.keeps x.toInCall.keep,codeAny_func ?_⟩
 obtain⟨t,ht,hq⟩:=hbody A outer s H vs Q E (hr.deeper _) hsp
 have I:Inv (Az CX P w K mg base N qual scope f cdv A outer s H E) [] (start N vs) H s1:=aiO S hr.hd e0 hl r x;refine qz (ht [] s1 (start N vs) H _ I hq) (λfl s' hs=>?_) λe s' hs=>hs
 have fin:∀{σ':St}{H':Hp}{v:V}{u:Value},Inv (Az CX P w K mg base N qual scope f cdv A outer s H E) [] σ' H' s'->RelV v u->Q v H'->CE outer P w H s Q u s':=
  λ{σ' H' v u} J rv q=>⟨v,H',J.os,J.bare,J.base,J.hok,rv,q⟩
 cases fl with
 |ret u=>
  obtain⟨v,σ',H',J,rv,q⟩:=hs
  exact fin J rv q
 |next=>
  obtain⟨σ',H',J,q⟩:=hs
  exact fin (v:=V.non) (u:=nJ) J rfl q
 |brk=>
  obtain⟨_,_,_,q⟩:=hs
  exact tY q
 |cont=>
  obtain⟨_,_,_,q⟩:=hs
  exact tY q
section
variable{X:Cx}{x:Str}{p pos:Pos}{e:Expr}{es:List Expr}{t:TA}{id T:String}{r:List V->Hp->VK->Prop}
def Wv(r:List V->Hp->VK->Prop)(t:TA):TE:=λσ H Q=>t σ H λvs H1=>r vs H1 Q
theorem KY(hc:iI X (.builtin id) r)(hg:Gl X x)(hm:X.mg x=aj)(hv:uU x=aa (.builtin id))(ha:PA X (e::es) t)(hn:x≠"__name__":=by decide)(hdb:(x==("__debug__":Str))=aL:=by decide)
  (he:bO (e::es) X.env=(aL,eval e X.env)::bO es X.env:=by rfl)(hpl:(iu pos (bO es X.env)).any (·.1)=aL:=by rfl):PE X (.Call (.Name x p) (e::es) [] pos) (Wv r t):=by
 intro pins s σ H Q I h;refine Jj (wM I hg hm hv ?_ hn hdb);exact Xl (bV (ha pos pins s σ H _ I h) λus s1 ⟨vs,H1,I1,r1,q1⟩=>hc pins s1 σ H1 vs us Q I1 r1 q1) he hpl
theorem aiP(hc:iI X (.type T) r)(hg:Gl X x)(hm:X.mg x=aj)(hv:uU x=aa (.type T))(ha:PA X (e::es) t)(hn:x≠"__name__":=by decide)(hdb:(x==("__debug__":Str))=aL:=by decide)
  (he:bO (e::es) X.env=(aL,eval e X.env)::bO es X.env:=by rfl)(hpl:(iu pos (bO es X.env)).any (·.1)=aL:=by rfl):PE X (.Call (.Name x p) (e::es) [] pos) (Wv r t):=by
 intro pins s σ H Q I h;refine Jj (wM I hg hm hv ?_ hn hdb);exact Jc (bV (ha pos pins s σ H _ I h) λus s1 ⟨vs,H1,I1,r1,q1⟩=>hc pins s1 σ H1 vs us Q I1 r1 q1) he hpl
end
end L2
namespace HT
open PySem PyProof.Rows
section
open PySem.SeqAt
open PySem.AutoSeq1 (wpAny_loadPart')
open PySem.MeetsSeq PySem.MeetsSeq2 PySem.MeetsSeq3
end
section
variable{prog:bQ}{w:bK}{A:cV}{E:Value->aJ->Prop}{s:aJ}
theorem ak1{t b:aq}{vs ws:List Value}{Q:Value->aJ->Prop}(ht:IsTup s.heap t vs.toArray)(hb:IsTup s.heap b ws.toArray)(hv:vs≠[])
  (h1:ws=[]->Q (.ref t) s)(h2:ws≠[]->Q (.ref s.heap.objs.size) {s with heap:=s.heap.push {cls:=.type "tuple",data:=.seq (vs++ws).toArray}})
  (hsz:vs.length+ws.length<=cH):aX (model prog w) A (qZ .Add (.ref t) (.ref b)) Q E s:=by
 obtain⟨⟨cls,dd,data,sl⟩,ho,hc,n,hd⟩:=id ht
 obtain⟨⟨cls2,dd2,data2,sl2⟩,ho2,hc2,n2,hd2⟩:=id hb
 simp only at hc hd hc2 hd2;subst hc hd hc2 hd2;have e:vs.toArray++ws.toArray=(vs++ws).toArray:=by simp
 by_cases hw:ws=[]
 .exact Zj ⟨_,ho,rfl⟩ ⟨_,ho2,rfl⟩ Yj Y4 Xz Xx (Xr _ _)
   (tuple_addW1 t b vs.toArray ws.toArray n n2 dd dd2 sl sl2 (by simpa using hv) (by simp[hw])) ⟨ho,ho2,h1 hw⟩
 .refine Zj ⟨_,ho,rfl⟩ ⟨_,ho2,rfl⟩ Yj Y4 Xz Xx (Xr _ _)
   (tuple_addW2 t b vs.toArray ws.toArray n n2 dd dd2 sl sl2 (by simpa using hv) (by simpa using hw) (by rw[gG,gG];exact hsz)) ⟨ho,ho2,?_⟩
  rw[e];exact h2 hw
def cP(n d:Nat):Option Int->Nat
 |none=>d
 |some v=>if v<0 then(v+(n:Int)).toNat else min v.toNat n
theorem Lk(n d k:Nat):cP n d (aa (k:Int))=min k n:=by
 show(if(k:Int)<0 then((k:Int)+(n:Int)).toNat else min (k:Int).toNat n)=min k n
 rw[bJ (by lia),zE]
theorem amI(n d:Nat)(hd:d<=n)(o:Option Int):cP n d o<=n:=by
 cases o with
 |none=>exact hd
 |some v=>
  show(if v<0 then(v+(n:Int)).toNat else min v.toNat n)<=n
  by_cases hv:v<0
  .rw[bC hv];lia
  .rw[bJ hv];exact Nat.min_le_right _ _
theorem ab9(v:Int)(n d:Nat):(if v<0 then max (v+(n:Int)) 0 else min v (n:Int))=((cP n d (aa v):Nat):Int):=by
 show(if v<0 then max (v+(n:Int)) 0 else min v (n:Int))=(((if v<0 then(v+(n:Int)).toNat else min v.toNat n):Nat):Int)
 by_cases hv:v<0
 .simp only[bC hv];lia
 .simp only[bJ hv];lia
theorem ah3(lo hi:Option Int)(n:Nat):Xn lo hi 1 (n:Int)=(((cP n 0 lo:Nat):Int),((cP n n hi:Nat):Int)):=by
 have h1:¬((1:Int)<0):=by lia
 unfold Xn;simp only[h1,if_false];refine Prod.ext ?_ ?_
 .cases lo with
  |none=>rfl
  |some v=>exact ab9 v n 0
 .cases hi with
  |none=>rfl
  |some v=>exact ab9 v n n
theorem ah4(i j:Nat):Om (i:Int) (j:Int) 1=j-i:=by
 unfold Om;have h1:(1:Int)>0:=by lia
 simp only[h1,if_true,ahk];split<;>lia
theorem Z3{v:Value}{o:Option Int}{Q:Option Int->aJ->Prop}(p:vm v o)(h:Q o s):aX (model prog w) A (aq1 v) Q E s:=by
 cases p with
 |none=>exact slicePart_none h
 |int i t=>exact slicePart_int h
theorem Yk{sl:aq}{vl vu:Value}{lo hi:Option Int}{n:Nat}{Q:Int×Int×Nat->aJ->Prop}(hs:s.heap.IsSliceOf sl vl vu .none)(pl:vm vl lo)(pu:vm vu hi)
  (h:Q (((cP n 0 lo:Nat):Int),1,cP n n hi-cP n 0 lo) s):aX (model prog w) A (afo (.ref sl) (pure (n:Int))) Q E s:=by
 obtain⟨os,hos,hcs,hds⟩:=id hs
 unfold afo ari;refine aK (aK (ZM hos hds (x:=vl) rfl (aK (ZM hos hds (x:=vu) rfl (aK (ZM hos hds (x:=.none) rfl (bh ?_)))))));refine aK (slicePart_none ?_);show aX _ _ (if((1:Int)==0)=ao then _ else _) _ _ s;rw[bJ (by decide)];refine aK (Z3 pl (aK (Z3 pu (aK (bh ?_)))));show aX _ _ (match Xn lo hi 1 (n:Int) with|(lo,hi)=>pure (lo,(1:Int),Om lo hi 1)) _ _ s;rw[ah3 lo hi n];show aX _ _ (pure (((cP n 0 lo:Nat):Int),(1:Int),Om ((cP n 0 lo:Nat):Int) ((cP n n hi:Nat):Int) 1)) _ _ s;rw[ah4];exact bh h
theorem ajM(xs:Array Value)(i k:Nat):((fj k).filterMap λ(m:Nat)=>xs[((i:Int)+(m:Int)*1).toNat]?).toArray=((xs.toList.drop i).take k).toArray:=by
 have e:(λ(m:Nat)=>xs[((i:Int)+(m:Int)*1).toNat]?)=λm=>xs[i+m]?:=by
  funext m;have:((i:Int)+(m:Int)*1).toNat=i+m:=by lia
  rw[this]
 rw[e];have:=pick_run xs i k;rw[af2] at this;have e2:((λx=>xs[x]?) ∘ λx=>i+x)=λm=>xs[i+m]?:=rfl
 rw[e2] at this;rw[this]
theorem agg{t sl:aq}{items:Array Value}{vl vu:Value}{lo hi:Option Int}{Q:Value->aJ->Prop}(ht:IsTup s.heap t items)(hs:s.heap.IsSliceOf sl vl vu .none)(pl:vm vl lo)(pu:vm vu hi)
  (hw:¬(cP items.size 0 lo=0/\cP items.size items.size hi=items.size))
  (h:Q (.ref s.heap.objs.size) {s with heap:=s.heap.push {cls:=.type "tuple",data:=.seq ((items.toList.drop (cP items.size 0 lo)).take (cP items.size items.size hi-cP items.size 0 lo)).toArray}})
  (hsz:items.size<=cH):aX (model prog w) A (wK (.ref t) (.ref sl)) Q E s:=by
 have Mx:sizeOk (.seq ((items.toList.drop (cP items.size 0 lo)).take (cP items.size items.size hi-cP items.size 0 lo)).toArray):=by
  show((items.toList.drop (cP items.size 0 lo)).take (cP items.size items.size hi-cP items.size 0 lo)).toArray.size<=cH
  rw[gG,qu,BJ,nD];lia
 have hj:cP items.size items.size hi<=items.size:=amI _ _ (cz _) hi
 obtain⟨os,hos,hcs,hds⟩:=id hs
 have hTs:s.TypeIs (.ref sl) "slice":=⟨os,hos,hcs⟩
 unfold wK
 try with_reducible refine mX ?_
 first|refine aK (bh ?_)|skip
 refine aK (agh ht.typeIs (by decide) ?_);refine aK (zy (name:=eZ "__getitem__") ht.typeIs Og
  (pF Og ht.typeIs entry_tuple_getitem ?_ (args_tuple_getitem _ _)))
 show aX _ _ (afp (.ref t) >>= _) _ _ s;refine aK (tupleItemsOf_ ht ?_);refine aK (Cv hTs ?_);rw[bC (by decide)];refine aK (Yk hs pl pu ?_);have hno:¬((((cP items.size 0 lo:Nat):Int)==0&&(1:Int)==1&&(cP items.size items.size hi-cP items.size 0 lo)==items.size)=ao):=by
  intro q;rw[jX,jX] at q;have q1:((cP items.size 0 lo:Nat):Int)=0:=eq_of_beq q.1.1;have q2:cP items.size items.size hi-cP items.size 0 lo=items.size:=eq_of_beq q.2;exact hw ⟨by lia,by lia⟩
 show aX _ _ (if(((cP items.size 0 lo:Nat):Int)==0&&(1:Int)==1&&(cP items.size items.size hi-cP items.size 0 lo)==items.size)=ao then _ else _) _ _ s;rw[bJ hno,ajM]
 first
  |exact aK (m:=Oq _) (nF (bh ⟨_,rfl,bh h⟩) Mx)
  |exact aK (m:=Oq _) (nF (aK (bh (bh ⟨_,rfl,bh h⟩))) Mx)
  |exact aK (aK (m:=Oq _) (nF (bh (bh ⟨_,rfl,bh h⟩)) Mx))
  |exact aK (aK (m:=Oq _) (nF (bh ⟨_,rfl,bh h⟩) Mx))
end
end HT
namespace L2
open PySem PySem.Spec PyProof.Rows
abbrev TO:=St->Hp->(Option Int->Hp->Prop)->Prop
def PO(X:Cx)(e:Option Expr)(t:TO):Prop:=
 ∀(pins:List (aq×Obj))(s:aJ)(σ:St)(H:Hp)(Q:Option Int->Hp->Prop),Inv X pins σ H s->t σ H Q->
  aX (model X.prog X.w) X.A (evalPart e X.env) (λu s'=>∃o H',Inv X pins σ H' s'/\vm u o/\Q o H') X.xe s
def ak2:TO:=λ_ H Q=>Q aj H
def anY(t:TE):TO:=λσ H Q=>t σ H λx H1=>∃i,x=.int i/\Q (aa i) H1
theorem intsAre_of{ns:List Int}:∀{us:List Value},Vals (ns.map V.int) us->IntsAre us ns:=by
 induction ns with
 |nil=>intro us r;rw[kj] at r;cases r;exact .nil
 |cons n ns ih=>
  intro us r;rw[cO] at r;cases r with
  |cons r1 r2=>
   obtain⟨t,e⟩:=r1
   subst e;exact .cons n t (ih r2)
section
variable{X:Cx}{e:Expr}{te:TE}{lo hi:Option Expr}{tl th:TO}{pos p2:Pos}
theorem ak3:PO X aj ak2:=by
 intro pins s σ H Q I h;rw[Y5];exact bh ⟨aj,H,I,.none,h⟩
theorem ak4(h:PE X e te):PO X (aa e) (anY te):=by
 intro pins s σ H Q I hw;rw[evalPart_some];refine bV (h pins s σ H _ I hw) λu s1 aW=>?_
 obtain⟨x,H1,I1,r1,q1⟩:=aW
 obtain⟨i,rfl,q⟩:=q1
 obtain⟨t,rfl⟩:=r1
 exact⟨aa i,H1,I1,.int i t,q⟩
def xG(X:Cx)(r:V->Option Int->Option Int->Hp->VK->Prop):Prop:=
 ∀(pins:List (aq×Obj))(s:aJ)(σ:St)(H:Hp)(x:V)(v vl vu:Value)(lo hi:Option Int)(sl:aq)(Q:VK),Inv X pins σ H s->RelV x v->s.heap.IsSliceOf sl vl vu .none->vm vl lo->vm vu hi->r x lo hi H Q->
  ∃T id,typeLookup (.type T) "__getitem__"=pure (aa (.builtin id))/\s.TypeIs v T/\aX (model X.prog X.w) X.A (wK v (.ref sl)) (EP X pins σ Q) X.xe s
theorem xG.or{r r':V->Option Int->Option Int->Hp->VK->Prop}(h:xG X r)(h':xG X r'):xG X (λx lo hi H Q=>r x lo hi H Q\/r' x lo hi H Q):=by
 intro pins s σ H x v vl vu lo hi sl Q I rx hs pl pu q;rcases q with q|q
 .exact h pins s σ H x v vl vu lo hi sl Q I rx hs pl pu q
 .exact h' pins s σ H x v vl vu lo hi sl Q I rx hs pl pu q
def tSl(r:V->Option Int->Option Int->Hp->VK->Prop)(te:TE)(tl th:TO):TE:=λσ H Q=>te σ H λx H1=>tl σ H1 λl H2=>th σ H2 λu H3=>r x l u H3 Q
theorem ajN{r:V->Option Int->Option Int->Hp->VK->Prop}(hr:xG X r)(he:PE X e te)(hl:PO X lo tl)(hu:PO X hi th):PE X (.Subscript e (.Slice lo hi aj p2) pos) (tSl r te tl th):=by
 intro pins s σ H Q I h;refine Subscript_ (bV (he pins s σ H _ I h) λv s1 aW=>?_)
 obtain⟨x,H1,I1,r1,q1⟩:=aW
 refine wpAny_Slice (bV (hl pins s1 σ H1 _ I1 q1) λvl s2 ⟨l,H2,I2,pl,q2⟩=>bV (hu pins s2 σ H2 _ I2 q2) λvu s3 aW=>?_)
 obtain⟨u,H3,I3,pu,q3⟩:=aW
 rw[Y5];refine bh ?_;have I4:Inv X pins σ H3 {s3 with heap:=s3.heap.push {cls:=.type "slice",data:=.fields #[vl,vu,.none]}}:=I3.kept (t':=s3.toks) λb ob q=>cR _ q
 obtain⟨T,id,hT,ht,hg⟩:=hr pins {s3 with heap:=s3.heap.push {cls:=.type "slice",data:=.fields #[vl,vu,.none]}} σ H3 x v vl vu l u s3.heap.objs.size Q I4 r1 (af3 ..) pl pu q3
 show aX (model X.prog X.w) X.A (subscriptTail e (.Slice lo hi aj p2) v (.ref s3.heap.objs.size)) (EP X pins σ Q) X.xe {s3 with heap:=s3.heap.push {cls:=.type "slice",data:=.fields #[vl,vu,.none]}};exact tail_any (ops:=[.ref s3.heap.objs.size,v]) ht hT hg (by with_unfolding_all rfl)
def uz(xs:List V)(lo hi:Option Int):List V:=(xs.drop (HT.cP xs.length 0 lo)).take (HT.cP xs.length xs.length hi-HT.cP xs.length 0 lo)
theorem ZP(xs:List V)(lo hi:Option Int):(uz xs lo hi).length<=xs.length:=by
 unfold uz;rw[qu,BJ];lia
def aoX(K:aQ):V->Option Int->Option Int->Hp->VK->Prop:=λx lo hi H Q=>∃a xs,x=.ref a/\dD K H a xs/\
 ¬(HT.cP xs.length 0 lo=0/\HT.cP xs.length xs.length hi=xs.length)/\∀p,H p=aj->Q (.ref p) (upd H p (.tup (uz xs lo hi)))
theorem amJ:xG X (aoX X.K):=by
 intro pins s σ H x v vl vu lo hi sl Q I rx hs pl pu h
 obtain⟨a,xs,rfl,hx,hw,q⟩:=h
 cases rx
 obtain⟨its,r,ht,hz⟩:=I.tuple hx
 have hlen:its.toArray.size=xs.length:=by rw[gG];exact r.length.symm
 refine⟨"tuple",_,PyProof.Rows.slot_tuple_getitem.lookup,ht.typeIs,?_⟩
 refine HT.agg ht hs pl pu (by rw[hlen];exact hw) ?_ (by rw[hlen];exact hz);rw[hlen]
 refine⟨.ref s.heap.objs.size,_,I.laid (t':=s.toks) (o:=.tup (uz xs lo hi)) (λb ob q=>cR _ q) (cz _) ?_,rfl,q _ (I.hok.fresh (cz _))⟩
 exact⟨lR (ZP xs lo hi) hz,_,(r.drop (HT.cP xs.length 0 lo)).take (HT.cP xs.length xs.length hi-HT.cP xs.length 0 lo),IsTup.new _ _⟩
def adM(K:aQ):R2:=λx y H Q=>∃a b xs ys,x=.ref a/\y=.ref b/\dD K H a xs/\dD K H b ys/\xs≠[]/\xs.length+ys.length<=cH/\
 (ys=[]->Q (.ref a) H)/\(ys≠[]->∀p,H p=aj->Q (.ref p) (upd H p (.tup (xs++ys))))
theorem Vals.T4{xs:List V}{us:List Value}(r:Vals xs us):us=[]↔xs=[]:=by
 cases r with
 |nil=>simp
 |cons _ _=>simp
theorem ak5:dB X (qZ .Add) (adM X.K):=by
 intro pins s σ H x y v u Q I rx ry h
 obtain⟨a,b,xs,ys,rfl,rfl,ha,hb,hx,hz,q1,q2⟩:=h
 cases rx;cases ry
 obtain⟨its,r1,p1,_⟩:=I.tuple ha
 obtain⟨its2,r2,p2,_⟩:=I.tuple hb
 refine HT.ak1 p1 p2 (λz=>hx (r1.T4.mp z)) (λz=>⟨.ref a,H,I,rfl,q1 (r2.T4.mp z)⟩) (λz=>?_) (by rw[<-r1.length,<-r2.length];exact hz)
 refine⟨.ref s.heap.objs.size,_,I.laid (t':=s.toks) (o:=.tup (xs++ys)) (λb ob q=>cR _ q) (cz _) ?_,rfl,q2 (λw=>z (r2.T4.mpr w)) _ (I.hok.fresh (cz _))⟩
 exact⟨by rw[dM];exact hz,_,r1.append r2,IsTup.new _ _⟩
end
def qb(n:Nat)(i:Int):Option Nat:=if 0<=i then(if i<n then aa i.toNat else aj) else if -(n:Int)<=i then aa (i+n).toNat else aj
def fK{α:Type}(xs:List α)(i:Int):Option α:=(qb xs.length i).bind λj=>xs[j]?
theorem acd{n:Nat}{i:Int}{j:Nat}(h:qb n i=aa j):Ry i n=aa j/\j<n/\-(n:Int)<=i/\i<n:=by
 unfold qb at h;by_cases h0:0<=i
 .rw[bC h0] at h;by_cases h1:i<n
  .rw[bC h1] at h;have e:i.toNat=j:=gH h
   exact⟨by rw[ZQ h0 h1,e],by lia,by lia,h1⟩
  .rw[bJ h1] at h;cases h
 .rw[bJ h0] at h;by_cases h1:-(n:Int)<=i
  .rw[bC h1] at h;have e:(i+n).toNat=j:=gH h
   exact⟨by rw[Zk (by lia) h1,e],by lia,h1,by lia⟩
  .rw[bJ h1] at h;cases h
theorem T5{α:Type}{xs:List α}{i:Int}{v:α}(h:fK xs i=aa v):∃j,Ry i xs.length=aa j/\xs[j]?=aa v/\j<xs.length/\-(xs.length:Int)<=i/\i<xs.length:=by
 unfold fK at h;cases e:qb xs.length i with
 |none=>rw[e] at h;cases h
 |some j=>
  rw[e] at h
  obtain⟨h1,h2,h3,h4⟩:=acd e
  exact⟨j,h1,h,h2,h3,h4⟩
theorem yr{α:Type}{xs:List α}{j:Nat}{v:α}(h:xs[j]?=aa v):fK xs (j:Int)=aa v:=by
 have hj:j<xs.length:=(jW.mp h).1;have e:qb xs.length (j:Int)=aa j:=by
  unfold qb;rw[bC (by lia),bC (by lia)];simp
 unfold fK;rw[e];exact h
def Ln(b:Expr):Prop:=∀o i,ZR b aL o i=operate [o,i] (wK o i)
def tG(X:Cx)(r:R2):Prop:=
 ∀(value slice:Expr)(pins:List (aq×Obj))(s:aJ)(σ:St)(H:Hp)(x y:V)(v u:Value)(Q:VK),Inv X pins σ H s->RelV x v->RelV y u->r x y H Q->
  ZR slice aL v u=operate [v,u] (wK v u)->aX (model X.prog X.w) X.A (subscriptTail value slice v u) (EP X pins σ Q) X.xe s
def Ez(X:Cx)(id:String)(r:V->List V->Hp->VK->Prop):Prop:=
 ∀(pins:List (aq×Obj))(s:aJ)(σ:St)(H:Hp)(x:V)(xs:List V)(v:Value)(us:List Value)(Q:VK),Inv X pins σ H s->RelV x v->Vals xs us->r x xs H Q->
  aX (model X.prog X.w) X.A (call (.builtin id) (v::us)) (EP X pins σ Q) X.xe s
section
variable{X:Cx}{a b:Expr}{ta tb:TE}{pos:Pos}
theorem tG.or{r r':R2}(h:tG X r)(h':tG X r'):tG X (λx y H Q=>r x y H Q\/r' x y H Q):=by
 intro value slice pins s σ H x y v u Q I rx ry q hs;rcases q with q|q
 .exact h value slice pins s σ H x y v u Q I rx ry q hs
 .exact h' value slice pins s σ H x y v u Q I rx ry q hs
theorem Ez.or{id:String}{r r':V->List V->Hp->VK->Prop}(h:Ez X id r)(h':Ez X id r'):Ez X id (λx xs H Q=>r x xs H Q\/r' x xs H Q):=by
 intro pins s σ H x xs v us Q I rx rs q;rcases q with q|q
 .exact h pins s σ H x xs v us Q I rx rs q
 .exact h' pins s σ H x xs v us Q I rx rs q
theorem Vz{r:R2}(hr:tG X r)(ha:PE X a ta)(hb:PE X b tb)(hs:Ln b):PE X (.Subscript a b pos) (Ih r ta tb):=by
 intro pins s σ H Q I h;exact Subscript_ (V7 ha hb I h λv u s2 x y H2 I2 rx ry q=>hr a b pins s2 σ H2 x y v u Q I2 rx ry q (hs _ _))
def aef(K:aQ):R2:=λx y H Q=>∃p xs i v,x=.ref p/\y=.int i/\bU K H p xs/\fK xs i=aa v/\Q v H
def aeg(K:aQ):R2:=λx y H Q=>∃p xs i v,x=.ref p/\y=.int i/\dD K H p xs/\fK xs i=aa v/\Q v H
def aeh:R2:=λx y H Q=>∃z i c,x=.str z/\y=.int i/\z.length<=cH/\fK z.cps.toList i=aa c/\Q (.str ⟨#[c]⟩) H
theorem T6:tG X (aef X.K):=by
 intro value slice pins s σ H x y v u Q I rx ry h hs
 obtain⟨p,xs,i,z,rfl,rfl,hq,he,q⟩:=h
 cases rx
 obtain⟨t,rfl⟩:=ry
 obtain⟨its,r,pl,hz⟩:=I.list hq
 obtain⟨j,h1,h2,h3,h4,h5⟩:=T5 he
 obtain⟨w,ew,rw'⟩:=r.get h2
 have hl:=r.length;have hn:=Ai;have fin:EP X pins σ Q w s:=⟨z,H,I,rw',q⟩
 by_cases h0:0<=i
 .have hj:i.toNat=j:=by
   rw[ZQ h0 h5] at h1;exact gH h1
  exact item_listR pl.isList h0 (by lia) (by rw[hj];simpa using ew) fin hs
 .have hj:(i+(its.toArray.size:Int)).toNat=j:=by
   rw[Zk (by lia) h4] at h1;rw[gG,<-hl];exact gH h1
  exact subscriptTail_builtinR (x:=w) pl.isList.typeIs slot_list_getitem.lookup
   (wpAny_getItem_list_neg (Q:=λr s'=>r=w/\EP X pins σ Q r s') pl.isList (by lia) (by rw[gG]<;>lia) (by lia) (by rw[hj];simpa using ew) ⟨rfl,fin⟩) hs
theorem amK:tG X (aeg X.K):=by
 intro value slice pins s σ H x y v u Q I rx ry h hs
 obtain⟨p,xs,i,z,rfl,rfl,hq,he,q⟩:=h
 cases rx
 obtain⟨t,rfl⟩:=ry
 obtain⟨its,r,pl,hz⟩:=I.tuple hq
 obtain⟨j,h1,h2,h3,h4,h5⟩:=T5 he
 obtain⟨w,ew,rw'⟩:=r.get h2
 have hl:=r.length;have hn:=Ai;have fin:EP X pins σ Q w s:=⟨z,H,I,rw',q⟩
 exact subscriptTail_builtinR (x:=w) pl.typeIs slot_tuple_getitem.lookup
  (getItem_tuple (j:=j) (Q:=λr s'=>r=w/\EP X pins σ Q r s') pl (by lia) (by lia) (by rw[gG,<-hl];exact h1) (by simpa using ew) ⟨rfl,fin⟩) hs
theorem amL:tG X aeh:=by
 intro value slice pins s σ H x y v u Q I rx ry h hs
 obtain⟨z,i,c,rfl,rfl,hz,he,q⟩:=h
 obtain⟨t,rfl⟩:=rx
 obtain⟨t',rfl⟩:=ry
 obtain⟨j,h1,h2,h3,h4,h5⟩:=T5 he
 have hl:z.cps.toList.length=z.length:=by simp[Str.length]
 rw[hl] at h1 h4 h5;have hn:=Ai;exact tail_any (Z4 s z t) slot_str_getitem.lookup (getItem_str (c:=c) (by
  have e1:decide (i< -(2^63:Int))=aL:=dY (by lia);have e2:decide (i>=2^63)=aL:=dY (by lia);rw[e1,e2,Bool.or_false]) (by rw[h1];simpa using h2) ⟨.str ⟨#[c]⟩,H,I.tok _,⟨_,rfl⟩,q⟩) hs
def rIx(K:aQ):R2:=λx y H Q=>aef K x y H Q\/aeg K x y H Q\/aeh x y H Q
theorem amM:tG X (rIx X.K):=T6.or (amK.or amL)
theorem ah5(its:List Value)(n j:Nat)(u:Value):nW (·.setIfInBounds j u) {cls:=.type "list",data:=.seq its.toArray n}={cls:=.type "list",data:=.seq (its.set j u).toArray n}:=by
 simp[nW]
theorem Inv.lst{pins:List (aq×Obj)}{σ:St}{H:Hp}{s:aJ}{p:aq}{xs:List V}(I:Inv X pins σ H s)(h:H p=aa (.lst xs)):
  ∃(its:List Value)(n:Nat),Vals xs its/\s.heap.get? p=aa {cls:=.type "list",data:=.seq its.toArray n}/\xs.length<=cH:=by
 obtain⟨z,its,n,r,e⟩:=I.hok p _ h
 exact⟨its,n,r,e,z⟩
theorem Inv.amN{pins:List (aq×Obj)}{σ:St}{H:Hp}{s:aJ}{p:aq}{xs ys:List V}{its its':List Value}{n n':Nat}{f:Obj->Obj}(I:Inv X pins σ H s)(h:H p=aa (.lst xs))
  (ho:s.heap.get? p=aa {cls:=.type "list",data:=.seq its.toArray n})(hf:f {cls:=.type "list",data:=.seq its.toArray n}={cls:=.type "list",data:=.seq its'.toArray n'})(r:Vals ys its')(hz:ys.length<=cH)(t:Nat):
  Inv X pins σ (upd H p (.lst ys)) {s with heap:=s.heap.update p f,toks:=t}:=by
 have e:(s.heap.update p f).get? p=aa {cls:=.type "list",data:=.seq its'.toArray n'}:=by
  rw[zA f ho (by rw[hf]<;>rfl),hf]
 refine I.write (x:=p) (e:=p) (by rw[h];trivial) (.inl rfl) (λb u hb q=>(uN _ _ (kI hb)).trans q) ⟨_,e⟩ ?_
 exact⟨hz,its',n',r,e⟩
def VB:V->V->V->Hp->(Hp->Prop)->Prop:=λo i v H Q=>∃p xs k j,o=.ref p/\i=.int k/\H p=aa (.lst xs)/\qb xs.length k=aa j/\Q (upd H p (.lst (xs.set j v)))
theorem set_list:wZ X VB:=by
 intro pins s σ H o i v ov iv u Q I ro ri rv h
 obtain⟨p,xs,k,j,rfl,rfl,hp,hj,q⟩:=h
 cases ro
 obtain⟨t,rfl⟩:=ri
 obtain⟨its,n,r,ho,hz⟩:=I.lst hp
 obtain⟨h1,h2,h3,h4⟩:=acd hj
 have hl:=r.length;have hn:=Ai;have I':Inv X pins σ (upd H p (.lst (xs.set j v))) {s with heap:=s.heap.update p (nW (·.setIfInBounds j u))}:=
  I.amN hp ho (ah5 its n j u) (r.set rv j) (by rw[xU];exact hz) s.toks
 by_cases h0:0<=k
 .have hk:k.toNat=j:=by
   rw[ZQ h0 h4] at h1;exact gH h1
  exact PySem.W.ki_setAt ho h0 (by lia) (by rw[gG,<-hl];exact h4) (by rw[hk];exact⟨_,I',q⟩)
 .have hk:(k+(its.toArray.size:Int)).toNat=j:=by
   rw[Zk (by lia) h3] at h1;rw[gG,<-hl];exact gH h1
  exact PySem.W.ki_setBack ho (by lia) (by rw[gG,<-hl];exact h3) (by lia) (by rw[hk];exact⟨_,I',q⟩)
theorem ahl(lo hi:Option Int)(n:Nat):(Cy lo hi aj n).1=((HT.cP n 0 lo:Nat):Int)/\(Cy lo hi aj n).2.1=((HT.cP n n hi:Nat):Int)/\(Cy lo hi aj n).2.2=1:=by
 refine⟨?_,?_,rfl⟩
 .cases lo with
  |none=>simp[Cy,HT.cP]
  |some i=>
   simp only[Cy,HT.cP,agx,show(1:Int)>0 by decide,if_true];by_cases h:i<0
   .simp only[h,if_true]<;>lia
   .simp only[h,if_false]<;>lia
 .cases hi with
  |none=>simp[Cy,HT.cP]
  |some i=>
   simp only[Cy,HT.cP,agx,show(1:Int)>0 by decide,if_true];by_cases h:i<0
   .simp only[h,if_true]<;>lia
   .simp only[h,if_false]<;>lia
theorem ag2(its:List Value)(lo hi:Option Int):Rz its.toArray lo hi aj=((its.drop (HT.cP its.length 0 lo)).take (HT.cP its.length its.length hi-HT.cP its.length 0 lo)).toArray:=by
 obtain⟨h1,h2,h3⟩:=ahl lo hi its.toArray.size
 unfold Rz;rw[h1,h2,h3];simp only[sliceRange_one,pick_run,gG]<;>rfl
def aoY(K:aQ):V->Option Int->Option Int->Hp->VK->Prop:=λx lo hi H Q=>∃a xs,x=.ref a/\bU K H a xs/\∀p,H p=aj->Q (.ref p) (upd H p (.lst (uz xs lo hi)))
theorem ak6:xG X (aoY X.K):=by
 intro pins s σ H x v vl vu lo hi sl Q I rx hs pl pu h
 obtain⟨a,xs,rfl,hx,q⟩:=h
 cases rx
 obtain⟨its,r,ht,hz⟩:=I.list hx
 have hlen:=r.length
 refine⟨"list",_,slot_list_getitem.lookup,ht.isList.typeIs,?_⟩
 refine afs ht.isList hs pl pu .none (by simp) ?_ (by rw[gG]<;>lia);rw[ag2,<-hlen]
 refine⟨.ref s.heap.objs.size,_,I.laid (t':=s.toks) (o:=.lst (uz xs lo hi)) (λb ob q=>cR _ q) (cz _) ?_,rfl,q _ (I.hok.fresh (cz _))⟩
 exact⟨lR (ZP xs lo hi) hz,_,0,(r.drop (HT.cP xs.length 0 lo)).take (HT.cP xs.length xs.length hi-HT.cP xs.length 0 lo),iK _ rfl⟩
def rB:V->Bool
 |.non=>ao
 |.bl _=>ao
 |.int _=>ao
 |.str _=>ao
 |_=>aL
def tH:V->V->Bool
 |.non,.non=>ao
 |.bl a,.bl b=>a==b
 |.bl a,.int b=>(if a then 1 else 0)==b
 |.int a,.bl b=>a==(if b then 1 else 0)
 |.int a,.int b=>a==b
 |.str a,.str b=>a==b
 |_,_=>aL
theorem U4{A:cV}{s:aJ}{y x:V}{u v:Value}(ry:RelV y u)(rx:RelV x v)(fy:rB y=ao)(fx:rB x=ao):Z5 A s u v (tH y x):=by
 cases y with
 |non=>
  cases ry;cases x with
  |non=>cases rx;exact SeqAt.EqAt.same _
  |bl b=>cases rx;exact SeqAt.EqAt.none_bool b
  |int b=>obtain⟨t,rfl⟩:=rx;exact SeqAt.EqAt.none_int b t
  |str b=>obtain⟨t,rfl⟩:=rx;exact SeqAt.EqAt.none_str b t
  |_=>exact absurd (show aL=ao from fx) jo
 |bl a=>
  cases ry;cases x with
  |non=>cases rx;exact SeqAt.EqAt.bool_none a
  |bl b=>cases rx;exact SeqAt.EqAt.bool_bool a b
  |int b=>obtain⟨t,rfl⟩:=rx;exact SeqAt.EqAt.bool_int a b t
  |str b=>obtain⟨t,rfl⟩:=rx;exact SeqAt.EqAt.bool_str a b t
  |_=>exact absurd (show aL=ao from fx) jo
 |int a=>
  obtain⟨t',rfl⟩:=ry
  cases x with
  |non=>cases rx;exact SeqAt.EqAt.int_none a t'
  |bl b=>cases rx;exact SeqAt.EqAt.int_bool a t' b
  |int b=>obtain⟨t,rfl⟩:=rx;exact SeqAt.EqAt.int_int a t' b t
  |str b=>obtain⟨t,rfl⟩:=rx;exact afX a t' b t
  |_=>exact absurd (show aL=ao from fx) jo
 |str a=>
  obtain⟨t',rfl⟩:=ry
  cases x with
  |non=>cases rx;exact SeqAt.EqAt.str_none a t'
  |bl b=>cases rx;exact SeqAt.EqAt.str_bool a t' b
  |int b=>obtain⟨t,rfl⟩:=rx;exact afY a t' b t
  |str b=>obtain⟨t,rfl⟩:=rx;exact SeqAt.EqAt.str_str a t' b t
  |_=>exact absurd (show aL=ao from fx) jo
 |_=>exact absurd (show aL=ao from fy) jo
def qe(x:V)(u:Value):Bool:=match u with
 |.none=>tH .non x
 |.bool b=>tH (.bl b) x
 |.int i _=>tH (.int i) x
 |.str z _=>tH (.str z) x
 |_=>aL
theorem ac7{x y:V}{u:Value}(r:RelV y u)(f:rB y=ao):qe x u=tH y x:=by
 cases y with
 |non=>cases r;rfl
 |bl b=>cases r;rfl
 |int i=>obtain⟨t,rfl⟩:=r;rfl
 |str z=>obtain⟨t,rfl⟩:=r;rfl
 |_=>exact absurd (show aL=ao from f) jo
theorem Gx{x:V}:∀{xs:List V}{us:List Value},Vals xs us->xs.all rB=ao->us.any (qe x)=xs.any λy=>tH y x
 |_,_,.nil,_=>rfl
 |y::xs,u::us,.cons r t,f=>by
  rw[Qh,jX] at f;rw[JB,JB,ac7 r f.1,Gx t f.2]
theorem Gm{A:cV}{s:aJ}{x:V}{v:Value}(rx:RelV x v)(fx:rB x=ao):∀{xs:List V}{us:List Value},Vals xs us->xs.all rB=ao->∀u∈us,Z5 A s u v (qe x u)
 |_,_,.nil,_=>λu hu=>by cases hu
 |y::xs,u::us,.cons r t,f=>λu' hu=>by
  rw[Qh,jX] at f;rcases cM.mp hu with rfl|hu
  .rw[ac7 r f.1];exact U4 r rx f.1 fx
  .exact Gm rx fx t f.2 u' hu
def inV(x:V)(xs:List V):Bool:=xs.any λy=>tH y x
def Nx(K:aQ)(neg:Bool):R2:=λx y H Q=>∃p xs,y=.ref p/\(bU K H p xs\/dD K H p xs)/\rB x=ao/\xs.all rB=ao/\Q (.bl (if neg then !inV x xs else inV x xs)) H
theorem aiQ:dB X (gq .In) (Nx X.K aL):=by
 intro pins s σ H x y v u Q I rx ry h
 obtain⟨p,xs,rfl,hq,fx,fs,q⟩:=h
 cases ry;rcases hq with hq|hq
 .obtain⟨its,r,pl,hz⟩:=I.list hq
  refine SeqAt.in_listAt (qe x) pl.isList (λw hw=>Gm rx fx r fs w (by simpa using hw)) ⟨.bl _,H,I,rfl,?_⟩;rw[show its.toArray.any (qe x)=its.any (qe x) by simp,Gx r fs];exact q
 .obtain⟨its,r,pl,hz⟩:=I.tuple hq
  refine SeqAt.in_tupleAt (qe x) pl (λw hw=>Gm rx fx r fs w (by simpa using hw)) ⟨.bl _,H,I,rfl,?_⟩;rw[show its.toArray.any (qe x)=its.any (qe x) by simp,Gx r fs];exact q
theorem ahm:dB X (gq .NotIn) (Nx X.K ao):=by
 intro pins s σ H x y v u Q I rx ry h
 obtain⟨p,xs,rfl,hq,fx,fs,q⟩:=h
 cases ry;rcases hq with hq|hq
 .obtain⟨its,r,pl,hz⟩:=I.list hq
  refine SeqAt.notIn_listAt (qe x) pl.isList (λw hw=>Gm rx fx r fs w (by simpa using hw)) ⟨.bl _,H,I,rfl,?_⟩;rw[show its.toArray.any (qe x)=its.any (qe x) by simp,Gx r fs];exact q
 .obtain⟨its,r,pl,hz⟩:=I.tuple hq
  refine SeqAt.notIn_tupleAt (qe x) pl (λw hw=>Gm rx fx r fs w (by simpa using hw)) ⟨.bl _,H,I,rfl,?_⟩;rw[show its.toArray.any (qe x)=its.any (qe x) by simp,Gx r fs];exact q
theorem Zm:iI X (.builtin "len") (λxs H Q=>∃p ys,xs=[.ref p]/\(bU X.K H p ys\/dD X.K H p ys)/\Q (.int ys.length) H):=by
 intro pins s σ H xs us Q I r h
 obtain⟨p,ys,rfl,hq,q⟩:=h
 obtain⟨u,rfl,rx⟩:=vals1 r
 cases rx;have hn:=Ai;rcases hq with hq|hq
 .obtain⟨its,r',pl,hz⟩:=I.list hq
  have hlen:=r'.length;exact Calls.call_len_list pl.isList (by simp only[gG]<;>lia) ⟨.int ys.length,H,I.tok _,⟨s.toks+1,by rw[gG,hlen]⟩,q⟩
 .obtain⟨its,r',pl,hz⟩:=I.tuple hq
  have hlen:=r'.length;exact len_tuple pl (by simp only[gG]<;>lia) ⟨.int ys.length,H,I.tok _,⟨s.toks+1,by rw[gG,hlen]⟩,q⟩
theorem ahn:iI X (.builtin "len") (λxs H Q=>∃z,xs=[.str z]/\z.length<=cH/\Q (.int z.length) H):=by
 intro pins s σ H xs us Q I r h
 obtain⟨z,rfl,hz,q⟩:=h
 obtain⟨u,rfl,t,rfl⟩:=vals1 r
 have hn:=Ai;exact len_str (by lia) ⟨.int z.length,H,I.tok _,⟨_,rfl⟩,q⟩
theorem iI.or{f:Value}{r r':List V->Hp->VK->Prop}(h:iI X f r)(h':iI X f r'):iI X f (λxs H Q=>r xs H Q\/r' xs H Q):=by
 intro pins s σ H xs us Q I rs q;rcases q with q|q
 .exact h pins s σ H xs us Q I rs q
 .exact h' pins s σ H xs us Q I rs q
theorem aho:iI X (.type "list") (λxs H Q=>∃p ys,xs=[.ref p]/\(bU X.K H p ys\/dD X.K H p ys)/\∀l,H l=aj->Q (.ref l) (upd H l (.lst ys))):=by
 intro pins s σ H xs us Q I r h
 obtain⟨p,ys,rfl,hq,q⟩:=h
 obtain⟨u,rfl,rx⟩:=vals1 r
 cases rx;have fin:∀(its:List Value),Vals ys its->ys.length<=cH->∀(h':bw)(c':Nat),(∀b o',s.heap.get? b=aa o'->h'.get? b=aa o')->
   h'.get? s.heap.objs.size=aa {cls:=.type "list",dict:=aj,data:=.seq its.toArray c',slots:=#[]}->EP X pins σ Q (.ref s.heap.objs.size) {s with heap:=h'}:=λits r' hz h' c' kp e=>
  ⟨.ref s.heap.objs.size,_,I.laid (t':=s.toks) kp (cz _) (show gj X.prog X.w _ h' _ (.lst ys) from⟨hz,its,c',r',e⟩),rfl,q _ (I.hok.fresh (cz _))⟩
 rcases hq with hq|hq
 .obtain⟨its,r',pl,hz⟩:=I.list hq
  have hlen:=r'.length
  obtain⟨o,ho,hc,n,hd⟩:=pl.isList
  exact call_list_seq p (.inl rfl) ho hc hd (λh' c' kp e=>fin its r' hz h' c' kp e) (by simp only[gG]<;>lia)
 .obtain⟨its,r',pl,hz⟩:=I.tuple hq
  have hlen:=r'.length
  obtain⟨o,ho,hc,n,hd⟩:=pl
  exact call_list_seq p (.inr rfl) ho hc hd (λh' c' kp e=>fin its r' hz h' c' kp e) (by simp only[gG]<;>lia)
theorem Y6:iI X (.type "tuple") (λxs H Q=>∃p ys,xs=[.ref p]/\((bU X.K H p ys/\∀l,H l=aj->Q (.ref l) (upd H l (.tup ys)))\/(dD X.K H p ys/\Q (.ref p) H))):=by
 intro pins s σ H xs us Q I r h
 obtain⟨p,ys,rfl,h⟩:=h
 obtain⟨u,rfl,rx⟩:=vals1 r
 cases rx;rcases h with⟨hq,q⟩|⟨hq,q⟩
 .obtain⟨its,r',pl,hz⟩:=I.list hq
  have hlen:=r'.length;refine call_tuple_list pl.isList (λh' kp=>?_) (by simp only[gG]<;>lia);have I1:Inv X pins σ H {s with heap:=h'}:=I.kept (t':=s.toks) kp;have I2:Inv X pins σ (upd H h'.objs.size (.tup ys)) {s with heap:=h'.push {cls:=.type "tuple",data:=.seq its.toArray}}:=
   I1.laid (t':=s.toks) (λb o e=>cR _ e) (cz _) (show gj X.prog X.w _ _ _ (.tup ys) from⟨hz,its,r',IsTup.new _ _⟩)
  exact⟨.ref h'.objs.size,_,I2,rfl,q _ (I1.hok.fresh (cz _))⟩
 .obtain⟨its,r',pl,hz⟩:=I.tuple hq
  exact call_tuple_same pl ⟨.ref p,H,I,rfl,q⟩
def tyV(K:aQ)(T:String)(x:V)(H:Hp):Prop:=match x with
 |.str _=>T="str"
 |.int _=>T="int"
 |.ref p=>(T="list"/\∃xs,bU K H p xs)\/(T="tuple"/\∃o,K.lookup p=aa o/\o.cls=.type "tuple"/\o.dict=aj)\/
   (T="dict"/\((∃kvs,H p=aa (.dK kvs))\/∃kvs,H p=aa (.dT kvs)))\/(T="set"/\∃S n,H p=aa (.set S n))
 |_=>False
theorem amO{pins:List (aq×Obj)}{σ:St}{H:Hp}{s:aJ}{T:String}{x:V}{v:Value}(I:Inv X pins σ H s)(r:RelV x v)(ty:tyV X.K T x H):
  s.TypeIs v T/\∀a,v=.ref a->∃ob,s.heap.get? a=aa ob/\ob.dict=aj:=by
 cases x with
 |str z=>
  obtain⟨t,rfl⟩:=r
  cases(show T="str" from ty)
  exact⟨Z4 s z t,λ_ e=>nomatch e⟩
 |int i=>
  obtain⟨t,rfl⟩:=r
  cases(show T="int" from ty)
  exact⟨typeIs_int s i t,λ_ e=>nomatch e⟩
 |ref p=>
  cases r;rcases ty with⟨rfl,xs,hq⟩|⟨rfl,o,hk,hc,hd⟩|⟨rfl,hk⟩|⟨rfl,S,n,hk⟩
  .obtain⟨its,_,pl,_⟩:=I.list hq
   refine⟨pl.isList.typeIs,λa e=>?_⟩
   cases e
   obtain⟨o,n,e,c,hd,_⟩:=pl
   exact⟨o,e,hd⟩
  .refine⟨⟨o,I.jy p o hk,hc⟩,λa e=>?_⟩
   cases e
   exact⟨o,I.jy _ o hk,hd⟩
  .have z:∃o,s.heap.get? p=aa o/\o.ExactDict:=by
    rcases hk with⟨kvs,hk⟩|⟨kvs,hk⟩
    .obtain⟨_,_,_,_,o,_,_,e,ex,_⟩:=I.hok p _ hk
     exact⟨o,e,ex⟩
    .obtain⟨_,_,_,_,o,_,_,e,ex,_⟩:=I.hok p _ hk
     exact⟨o,e,ex⟩
   obtain⟨o,e,ex⟩:=z
   refine⟨⟨o,e,ex.1⟩,λa e2=>?_⟩
   cases e2
   exact⟨o,e,ex.2.1⟩
  .obtain⟨o,_,_,_,e,ex,_⟩:=I.hok p _ hk
   refine⟨⟨o,e,ex.1⟩,λa e2=>?_⟩
   cases e2
   exact⟨o,e,ex.2.1⟩
 |_=>exact tY ty
def tBM(K:aQ)(T:String)(r:V->List V->Hp->VK->Prop)(to:TE)(t:TA):TE:=λσ H Q=>to σ H λx H1=>tyV K T x H1/\t σ H1 λxs H2=>r x xs H2 Q
variable{o e:Expr}{es:List Expr}{to:TE}{t:TA}{name:Str}{apos cpos:Pos}{T id:String}{r:V->List V->Hp->VK->Prop}
theorem Hi(pa:PlainAttrs T)(slot:Slot T name id)(hty:typeOf (.builtin id)=pure (.type "method_descriptor"))(hm:Ez X id r)(ho:PE X o to)(ha:PA X (e::es) t)
  (hbase:wu o name X.env (eval o X.env)=eval o X.env:=by rfl)
  (hfew:((iu cpos (bO (e::es) X.env)).all (λx=>!x.1)&&(z6 cpos (zV [] X.env)).all (λx=>x.1.isSome)
   &&decide ((e::es).length+([]:List oY).length+(if([]:List oY).isEmpty then 0 else 1)<30))=ao:=by rfl)
  (hline:(apos.endLine==cpos.line)=ao:=by rfl)(hs:bO (e::es) X.env=(aL,eval e X.env)::bO es X.env:=by rfl)(hplain:(iu cpos (bO es X.env)).any (·.1)=aL:=by rfl):
  PE X (.Call (.Attribute o name apos) (e::es) [] cpos) (tBM X.K T r to t):=by
 intro pins s σ H Q I h;refine wpAny_Call_method_late hbase hfew hline rfl (bV (ho pins s σ H _ I h) λv s1 aW=>?_)
 obtain⟨x,H1,I1,r1,ty,q1⟩:=aW
 obtain⟨h1,h2⟩:=amO I1 r1 ty
 refine⟨T,id,pa,slot,hty,h1,h2,?_⟩
 have hA:=ha cpos pins s1 σ H1 _ I1 q1;rw[hs] at hA⊢;refine Calls.callWith_builtin (by show(aL||(iu cpos (bO es X.env)).any (·.1))=aL;rw[hplain]<;>rfl) (Calls.evalArgs_plain ?_);exact bV hA λus s2 ⟨vs,H2,I2,r2,q2⟩=>hm pins s2 σ H2 x vs v us Q I2 r1 r2 q2
end
def uD(X:Cx)(id:String)(r:V->List V->Hp->VK->Prop):Prop:=
 ∀(pins:List (aq×Obj))(s:aJ)(σ:St)(H:Hp)(x:V)(xs:List V)(v:Value)(us:List Value)(Q:VK),Inv X pins σ H s->RelV x v->Vals xs us->r x xs H Q->
  aX (model X.prog X.w) X.A (call (.builtin id) (v::us)) (EP X pins σ Q) X.xe s
theorem Vals.one:∀{x:V}{us:List Value},Vals [x] us->∃u,us=[u]/\RelV x u
 |_,_,.cons r .nil=>⟨_,rfl,r⟩
theorem Vals.two:∀{x y:V}{us:List Value},Vals [x,y] us->∃u v,us=[u,v]/\RelV x u/\RelV y v
 |_,_,_,.cons r (.cons q .nil)=>⟨_,_,rfl,r,q⟩
theorem Vals.eraseIdx:∀{xs:List V}{us:List Value}(i:Nat),Vals xs us->Vals (xs.eraseIdx i) (us.eraseIdx i)
 |_,_,_,.nil=>.nil
 |_,_,0,.cons _ t=>t
 |_,_,i+1,.cons r t=>.cons r (Vals.eraseIdx i t)
theorem Vals.reverse{xs:List V}{us:List Value}(h:Vals xs us):Vals xs.reverse us.reverse:=by
 induction h with
 |nil=>exact .nil
 |cons r t ih=>rw[Fp,Fp];exact Vals.append ih (.cons r .nil)
theorem aaz{α:Type}:∀(l:List α)(i:Nat),(l.eraseIdx i).length<=l.length
 |[],_=>cz _
 |_::_,0=>wA _
 |_::r,i+1=>Yl (aaz r i)
section
variable{X:Cx}{pins:List (aq×Obj)}{σ:St}{H:Hp}{s:aJ}{l b:aq}{xs ys zs:List V}
theorem Inv.Wc{its its':List Value}{n:Nat}{f:Array Value->Array Value}{t':Nat}(I:Inv X pins σ H s)(hH:H l=aa (.lst xs))
  (e:s.heap.get? l=aa {cls:=.type "list",data:=.seq its.toArray n})(hf:f its.toArray=its'.toArray)(hv:Vals ys its')(hz:ys.length<=cH):
  Inv X pins σ (upd H l (.lst ys)) {s with heap:=s.heap.update l (nW f),toks:=t'}:=by
 have q:=PySem.IsL.update e f;rw[hf] at q;refine I.write (x:=l) (e:=l) (by rw[hH];exact trivial) (.inl rfl) (λb' u hb hu=>(uN s.heap (nW f) (kI hb)).trans hu) ⟨_,q⟩ ?_
 exact⟨hz,its',_,hv,q⟩
theorem Inv.aoZ{its:List Value}{t':Nat}(I:Inv X pins σ H s)(hv:Vals ys its)(hz:ys.length<=cH):
  Inv X pins σ (upd H s.heap.objs.size (.lst ys)) {s with heap:=s.heap.push {cls:=.type "list",data:=.seq its.toArray},toks:=t'}:=
 I.laid (λ_ _ q=>cR _ q) (cz _) ⟨hz,its,0,hv,iK _ rfl⟩
theorem Inv.fresh(I:Inv X pins σ H s):H s.heap.objs.size=aj:=I.hok.fresh (cz _)
theorem Inv.Er(I:Inv X pins σ H s)(hH:H l=aa (.lst xs)):xs.length<=cH/\∃(its:List Value)(n:Nat),Vals xs its/\xs.length=its.length/\s.heap.get? l=aa {cls:=.type "list",data:=.seq its.toArray n}:=by
 obtain⟨z,its,n,r,e⟩:=I.hok l _ hH
 exact⟨z,its,n,r,r.length,e⟩
theorem ajO{n:Nat}(h:n<=cH):Xu n=aL:=by
 unfold Xu;exact dY (by lia)
end
section
variable{X:Cx}
def ak7:V->List V->Hp->VK->Prop:=λx vs H Q=>∃l xs y,x=.ref l/\vs=[y]/\H l=aa (.lst xs)/\xs.length<cH/\Q .non (upd H l (.lst (xs++[y])))
theorem RB:uD X "list.append" ak7:=by
 intro pins s σ H x vs v us Q I rx rv h
 obtain⟨l,xs,y,rfl,rfl,hH,hz,q⟩:=h
 cases rx
 obtain⟨u,rfl,ru⟩:=rv.one
 obtain⟨z,its,n,r,hl,e⟩:=I.Er hH
 refine Rg XX ⟨_,e,rfl⟩ F.entry_list_append (F.args_list_append_2 _ _) (PySem.list_append l its.toArray n u (by rw[gG];lia)) ⟨e,?_⟩
 refine⟨.non,_,I.Wc (its':=its++[u]) hH e (by simp) (r.append (.cons ru .nil)) ?_,rfl,q⟩
 rw[dM,List.length_singleton];lia
def ak8:V->List V->Hp->VK->Prop:=λx vs H Q=>∃l b xs zs,x=.ref l/\vs=[.ref b]/\H l=aa (.lst xs)/\H b=aa (.lst zs)/\xs.length+zs.length<=cH/\Q .non (upd H l (.lst (xs++zs)))
theorem aiR:uD X "list.extend" ak8:=by
 intro pins s σ H x vs v us Q I rx rv h
 obtain⟨l,b,xs,zs,rfl,rfl,hH,hB,hz,q⟩:=h
 cases rx
 obtain⟨u,rfl,ru⟩:=rv.one
 cases ru
 obtain⟨z,its,n,r,hl,e⟩:=I.Er hH
 obtain⟨z2,its2,n2,r2,hl2,e2⟩:=I.Er hB
 have hsz:its.toArray.size+its2.toArray.size<=cH:=by rw[gG,gG];lia
 have anZ:¬(!its.toArray.isEmpty&&Xu (its.toArray.size+its2.toArray.size))=ao:=by
  rw[ajO hsz,Bool.and_false];exact jo
 refine Rg af4 ⟨_,e,rfl⟩ F.entry_list_extend (F.args_list_extend_2 _ _)
  (AutoSeq1.list_extend_list_list_0 l its.toArray n b its2.toArray n2 anZ (by rw[gG];lia) (by lia)) ⟨e,e2,?_⟩
 refine⟨.non,_,I.Wc (its':=its++its2) hH e (by simp) (r.append r2) ?_,rfl,q⟩
 rw[dM];lia
def amP:V->List V->Hp->VK->Prop:=λx vs H Q=>∃l xs i k y,x=.ref l/\vs=[.int i]/\H l=aa (.lst xs)/\-(2^63)<=i/\i<2^63/\Ry i xs.length=aa k/\xs[k]?=aa y/\Q y (upd H l (.lst (xs.eraseIdx k)))
theorem ajP:uD X "list.pop" amP:=by
 intro pins s σ H x vs v us Q I rx rv h
 obtain⟨l,xs,i,k,y,rfl,rfl,hH,h1,h2,hk,hy,q⟩:=h
 cases rx
 obtain⟨u,rfl,ru⟩:=rv.one
 obtain⟨t,rfl⟩:=ru
 obtain⟨z,its,n,r,hl,e⟩:=I.Er hH
 obtain⟨w,hw,rw'⟩:=r.get hy
 refine Rg agK ⟨_,e,rfl⟩ F.entry_list_pop (F.args_list_pop_2 _ _)
  (MeetsSeq.list_pop_at l its.toArray n i t k w (fitsIndex_both h1 h2) (by rw[gG,<-hl];exact hk) (by rw[<-Fj];exact hw) (by rw[gG];lia)) ⟨e,?_⟩
 refine⟨y,_,I.Wc (its':=its.eraseIdx k) hH e ?_ (r.eraseIdx k) ?_,rw',q⟩
 .show its.toArray.eraseIdxIfInBounds k=(its.eraseIdx k).toArray;rw[List.eraseIdxIfInBounds_toArray]
 .have:=aaz xs k;lia
def aei:R2:=λx y H Q=>∃l b xs zs,x=.ref l/\y=.ref b/\H l=aa (.lst xs)/\H b=aa (.lst zs)/\xs.length+zs.length<=cH/\∀p,H p=aj->Q (.ref p) (upd H p (.lst (xs++zs)))
theorem amQ:dB X (qZ .Add) aei:=by
 intro pins s σ H x y v u Q I rx ry h
 obtain⟨l,b,xs,zs,rfl,rfl,hH,hB,hz,q⟩:=h
 cases rx;cases ry
 obtain⟨z,its,n,r,hl,e⟩:=I.Er hH
 obtain⟨z2,its2,n2,r2,hl2,e2⟩:=I.Er hB
 refine PySem.P.add_list e e2 ?_ (by rw[gG,gG];lia);have ea:its.toArray++its2.toArray=(its++its2).toArray:=by simp
 rw[ea]
 exact⟨.ref _,_,I.aoZ (t':=s.toks) (r.append r2) (by rw[dM];lia),rfl,q _ I.fresh⟩
end
section
variable{prog:bQ}{w:bK}{A:cV}{E:Value->aJ->Prop}{s:aJ}
set_option maxRecDepth 100000 in
end
section
variable{X:Cx}
end
section
variable{κ:Type}[DecidableEq κ]
def pA(kvs:List (κ×V))(k:κ):Option V:=(kvs.find? λkv=>decide (kv.1=k)).map (·.2)
def putK(kvs:List (κ×V))(k:κ)(v:V):List (κ×V):=
 if(kvs.any λkv=>decide (kv.1=k))=ao then kvs.map (λkv=>if kv.1=k then(kv.1,v) else kv) else kvs++[(k,v)]
def adN(kvs:List (κ×V))(k:κ):List (κ×V):=kvs.filter λkv=>decide (kv.1≠k)
theorem KZ{p:κ×V}{r:List (κ×V)}{k:κ}(e:p.1=k):pA (p::r) k=aa p.2:=by simp[pA,qR,e]
theorem K1{p:κ×V}{r:List (κ×V)}{k:κ}(e:¬p.1=k):pA (p::r) k=pA r k:=by simp[pA,qR,e]
theorem abd(k:κ):∀kvs:List (κ×V),(kvs.any λkv=>decide (kv.1=k))=(pA kvs k).isSome
 |[]=>rfl
 |p::r=>by
  rw[JB];by_cases e:p.1=k
  .simp only[KZ e,dZ e,ahp,X3]
  .rw[K1 e,dY e,ag3];exact abd k r
theorem JW(kvs:List (κ×V))(k:κ)(v:V):(putK kvs k v).length<=kvs.length+1:=by
 unfold putK;split
 .rw[bz];lia
 .rw[dM,dw,BW];lia
theorem rD.Gi{o:Option V}{u:Option Value}(r:rD o u):o.isSome=u.isSome:=by
 cases o with
 |none=>cases u with
  |none=>rfl
  |some _=>exact(show False from r).elim
 |some _=>cases u with
  |none=>exact(show False from r).elim
  |some _=>rfl
theorem rD.getD{o:Option V}{u:Option Value}{d:V}{d':Value}(r:rD o u)(rd:RelV d d'):RelV (o.getD d) (u.getD d'):=by
 cases o with
 |none=>cases u with
  |none=>exact rd
  |some _=>exact(show False from r).elim
 |some _=>cases u with
  |none=>exact(show False from r).elim
  |some _=>exact r
theorem KV.val{kvs:List (κ×V)}{vs:List (κ×Value)}(r:KV kvs vs)(k:κ):rD (pA kvs k) (Dk vs k):=by
 unfold KV at r;induction r with
 |nil=>exact nU
 |@cons p q ps qs h t ih=>
  obtain⟨h1,h2⟩:=h
  by_cases e:p.1=k
  .have e':q.1=k:=h1.symm.trans e;have b:Dk (q::qs) k=aa q.2:=by simp[Dk,qR,e']
   rw[KZ e,b];exact h2
  .have e':¬q.1=k:=λz=>e (h1.trans z)
   have b:Dk (q::qs) k=Dk qs k:=by simp[Dk,qR,e']
   rw[K1 e,b];exact ih
theorem KV.any{kvs:List (κ×V)}{vs:List (κ×Value)}(r:KV kvs vs)(k:κ):(kvs.any λkv=>decide (kv.1=k))=vs.any λkv=>decide (kv.1=k):=by
 unfold KV at r;induction r with
 |nil=>rfl
 |cons h t ih=>rw[JB,JB,ih,h.1]
theorem KV.repl{kvs:List (κ×V)}{vs:List (κ×Value)}(r:KV kvs vs)(k:κ){y:V}{u:Value}(ry:RelV y u):
  KV (kvs.map λkv=>if kv.1=k then(kv.1,y) else kv) (vs.map λkv=>if kv.1=k then(kv.1,u) else kv):=by
 unfold KV at r⊢;induction r with
 |nil=>exact .nil
 |@cons p q ps qs h t ih=>
  rw[cO,cO];refine .cons ?_ ih
  obtain⟨h1,h2⟩:=h
  by_cases e:p.1=k
  .rw[bC e,bC (h1.symm.trans e)];exact⟨h1,ry⟩
  .rw[bJ e,bJ (λz=>e (h1.trans z))];exact⟨h1,h2⟩
theorem KV.put{kvs:List (κ×V)}{vs:List (κ×Value)}(r:KV kvs vs)(k:κ){y:V}{u:Value}(ry:RelV y u):KV (putK kvs k y) (stored vs k u):=by
 unfold putK stored;rw[r.any k];by_cases e:(vs.any λkv=>decide (kv.1=k))=ao
 .rw[bC e,bC e];exact r.repl k ry
 .rw[bJ e,bJ e];exact Paired.snoc r ⟨rfl,ry⟩
theorem KV.drop{kvs:List (κ×V)}{vs:List (κ×Value)}(r:KV kvs vs)(k:κ):KV (adN kvs k) (without vs k):=by
 unfold KV at r⊢;unfold adN without;induction r with
 |nil=>exact .nil
 |@cons p q ps qs h t ih=>
  obtain⟨h1,h2⟩:=h
  rw[Pb,Pb];by_cases e:p.1=k
  .have a:¬decide (p.1≠k)=ao:=by simp[e]
   have b:¬decide (q.1≠k)=ao:=by simp[h1.symm.trans e]
   rw[bJ a,bJ b];exact ih
  .have e':¬q.1=k:=λz=>e (h1.trans z)
   have a:decide (p.1≠k)=ao:=by simp[e]
   have b:decide (q.1≠k)=ao:=by simp[e']
   rw[bC a,bC b];exact .cons ⟨h1,h2⟩ ih
theorem KV.length{kvs:List (κ×V)}{vs:List (κ×Value)}(r:KV kvs vs):kvs.length=vs.length:=Paired.length r
end
theorem yG{P:bQ}{w:bK}{k:Key}{u:Value}(r:RelV (kV k) u):(jb P w).is k u=ao:=by
 cases k with
 |inl i=>obtain⟨t,e⟩:=(show ∃t,u=Km i t from r);subst e;exact ahL P w i t
 |inr x=>obtain⟨t,e⟩:=(show ∃t,u=Ko x t from r);subst e;exact ahM P w x t
theorem aaA{P:bQ}{w:bK}:∀{ks:List Key}{us:List Value},Vals (ks.map kV) us->ItemsAre (jb P w) ks us
 |[],_,r=>by rw[kj] at r;cases r;exact .nil
 |k::ks,_,r=>by
  rw[cO] at r;cases r with
  |cons h t=>exact .cons (yG h) (aaA t)
abbrev KT(H:Hp):List (List Key×V)->List (List Key×aq×Value)->Prop:=Paired λp q=>p.1=q.1/\H q.2.1=aa (.tup (p.1.map kV))/\RelV p.2 q.2.2
theorem KT.val{H:Hp}{kvs:List (List Key×V)}{xs:List (List Key×aq×Value)}(r:KT H kvs xs)(k:List Key):rD (pA kvs k) ((yH xs k).map (·.2)):=by
 induction r with
 |nil=>exact nU
 |@cons p q ps qs h t ih=>
  obtain⟨h1,_,h2⟩:=h
  by_cases e:p.1=k
  .have e':q.1=k:=h1.symm.trans e;have b:yH (q::qs) k=aa q.2:=by simp[yH,qR,e']
   rw[KZ e,b];exact h2
  .have e':¬q.1=k:=λz=>e (h1.trans z)
   have b:yH (q::qs) k=yH qs k:=by simp[yH,qR,e']
   rw[K1 e,b];exact ih
theorem KT.repl{H:Hp}{kvs:List (List Key×V)}{xs:List (List Key×aq×Value)}(r:KT H kvs xs)(k:List Key){y:V}{u:Value}(ry:RelV y u):
  KT H (kvs.map λkv=>if kv.1=k then(kv.1,y) else kv) (xs.map (putAt k u)):=by
 induction r with
 |nil=>exact .nil
 |@cons p q ps qs h t ih=>
  rw[cO,cO];refine .cons ?_ ih
  obtain⟨h1,h2,h3⟩:=h
  unfold putAt;by_cases e:p.1=k
  .rw[bC e,bC (h1.symm.trans e)];exact⟨h1,h2,ry⟩
  .rw[bJ e,bJ (λz=>e (h1.trans z))];exact⟨h1,h2,h3⟩
theorem KT.put{H:Hp}{kvs:List (List Key×V)}{xs:List (List Key×aq×Value)}(r:KT H kvs xs)(k:List Key){b:aq}{y:V}{u:Value}(hb:H b=aa (.tup (k.map kV)))(ry:RelV y u):
  KT H (putK kvs k y) (storedH xs k b u):=by
 have e:(kvs.any λkv=>decide (kv.1=k))=(yH xs k).isSome:=by
  rw[abd,(r.val k).Gi,X8]
 unfold putK storedH;rw[e];by_cases q:(yH xs k).isSome=ao
 .rw[bC q,bC q];exact r.repl k ry
 .rw[bJ q,bJ q];exact Paired.snoc r ⟨rfl,hb,ry⟩
theorem KT.keeps{H H':Hp}{kvs:List (List Key×V)}{xs:List (List Key×aq×Value)}(r:KT H kvs xs)(ht:∀b ys,H b=aa (.tup ys)->H' b=aa (.tup ys)):KT H' kvs xs:=
 Paired.V3 r λ_ _ z=>⟨z.1,ht _ _ z.2.1,z.2.2⟩
section
variable{P:bQ}{w:bK}{H:Hp}{h:bw}{a:aq}
theorem adO{u:HO}(ok:jm P w H h)(e:Rd H a u):gj P w H h a u:=e.ok ok
theorem Ec{kvs:List (Key×V)}(ok:jm P w H h)(e:Rd H a (.dK kvs)):kvs.length<=cH/\(a==tX)=aL/\∃vs,KV kvs vs/\h.DictOf (jb P w) a vs:=
 show gj P w H h a (.dK kvs) from adO ok e
theorem My{kvs:List (Key×V)}(ok:jm P w H h)(e:H a=aa (.dK kvs)):kvs.length<=cH/\(a==tX)=aL/\∃vs,KV kvs vs/\h.DictOf (jb P w) a vs:=Ec ok (.inl e)
theorem GZ{ks:List Key}(ok:jm P w H h)(e:H a=aa (.tup (ks.map kV))):(Kq (jb P w)).is h ks a:=by
 obtain⟨_,its,r,o,h1,h2,n,h3⟩:=(show gj P w H h a (.tup (ks.map kV)) from ok a _ e)
 exact⟨o,its.toArray,n,h1,h2,h3,by simpa using aaA r⟩
theorem Hj{kvs:List (List Key×V)}(ok:jm P w H h)(e:Rd H a (.dT kvs)):kvs.length<=cH/\(a==tX)=aL/\
  ∃xs,KT H kvs xs/\h.DictOfH (Kq (jb P w)) a xs:=by
 obtain⟨z,y,xs,r,o,es,ep,h1,h2,h3,h4,h5⟩:=(show gj P w H h a (.dT kvs) from adO ok e)
 refine⟨z,y,xs,r,o,es,ep,h1,h2,h3,h4,λx hx=>?_,h5⟩
 have all:∀{l:List (List Key×V)}{m:List (List Key×aq×Value)},KT H l m->∀x∈m,(Kq (jb P w)).is h x.1 x.2.1:=by
  intro l m q;induction q with
  |nil=>intro x hx;exact nomatch hx
  |@cons p q ps qs hq t ih=>
   intro x hx;rcases cM.mp hx with e|hx
   .subst e;exact GZ ok (by rw[<-hq.1];exact hq.2.1)
   .exact ih x hx
 exact all r x hx
theorem adP{kvs:List (List Key×V)}(ok:jm P w H h)(e:H a=aa (.dT kvs)):kvs.length<=cH/\(a==tX)=aL/\
  ∃xs,KT H kvs xs/\h.DictOfH (Kq (jb P w)) a xs:=Hj ok (.inl e)
end
def pB(H:Hp)(a:aq)(y:V)(r:Option V):Prop:=
 (∃kvs k,Rd H a (.dK kvs)/\y=kV k/\r=pA kvs k)\/∃kvs k b,Rd H a (.dT kvs)/\y=.ref b/\H b=aa (.tup (k.map kV))/\r=pA kvs k
def uA(H:Hp)(a:aq)(y v:V)(H':Hp):Prop:=
 (∃kvs k,H a=aa (.dK kvs)/\y=kV k/\kvs.length<cH/\H'=upd H a (.dK (putK kvs k v)))\/
 ∃kvs k b,H a=aa (.dT kvs)/\y=.ref b/\H b=aa (.tup (k.map kV))/\kvs.length<cH/\H'=upd H a (.dT (putK kvs k v))
theorem pB.k{H:Hp}{a:aq}{kvs:List (Key×V)}{k:Key}(e:H a=aa (.dK kvs)):pB H a (kV k) (pA kvs k):=.inl ⟨kvs,k,.inl e,rfl,rfl⟩
theorem pB.t{H:Hp}{a b:aq}{kvs:List (List Key×V)}{k:List Key}(e:H a=aa (.dT kvs))(eb:H b=aa (.tup (k.map kV))):pB H a (.ref b) (pA kvs k):=.inr ⟨kvs,k,b,.inl e,rfl,eb,rfl⟩
theorem uA.k{H:Hp}{a:aq}{kvs:List (Key×V)}{k:Key}{v:V}(e:H a=aa (.dK kvs))(hl:kvs.length<cH):uA H a (kV k) v (upd H a (.dK (putK kvs k v))):=.inl ⟨kvs,k,e,rfl,hl,rfl⟩
theorem uA.t{H:Hp}{a b:aq}{kvs:List (List Key×V)}{k:List Key}{v:V}(e:H a=aa (.dT kvs))(eb:H b=aa (.tup (k.map kV)))(hl:kvs.length<cH):
  uA H a (.ref b) v (upd H a (.dT (putK kvs k v))):=.inr ⟨kvs,k,b,e,rfl,eb,hl,rfl⟩
section
variable{X:Cx}{pins:List (aq×Obj)}{σ:St}{H:Hp}{s:aJ}{a:aq}{y v:V}{u r:Value}{o:Option V}{A:cV}{E:Value->aJ->Prop}
theorem Inv.big(I:Inv X pins σ H s):tX<s.heap.objs.size:=by
 have h:iZ<s.heap.objs.size:=(I.mod.glob.keeps I.bk).lt;exact Cw (by decide) h
theorem aiS{Q:Value->aJ->Prop}(hu:A.units+1<jc)(I:Inv X pins σ H s)(g:pB H a y (aa v))(ry:RelV y u)(h:∀w' s',Inv X pins σ H s'->RelV v w'->Q w' s'):
  aX (model X.prog X.w) A (wK (.ref a) u) Q E s:=by
 rcases g with⟨kvs,k,e,ey,l⟩|⟨kvs,k,b,e,ey,eb,l⟩
 .subst ey
  obtain⟨z,hd,vs,rel,dd⟩:=Ec I.hok e
  obtain⟨w',hw,rw'⟩:=rD.some_of (v:=v) (o:=Dk vs k) (by rw[l];exact rel.val k)
  exact wpAny_getItem_of (yG ry) dd.mapOf hw (h w' _ (I.tok _) rw')
 .subst ey
  cases(show u=eV b from ry)
  obtain⟨z,hd,xs,rel,dd⟩:=Hj I.hok e
  obtain⟨w',hw,rw'⟩:=rD.some_of (v:=v) (o:=(yH xs k).map (·.2)) (by rw[l];exact rel.val k)
  obtain⟨p,hp,hp2⟩:=Bu.mp hw
  refine wpAny_getItem_heap (O3 hu) (GZ I.hok eb) dd hp ?_;rw[hp2];exact h w' _ (I.tok _) rw'
theorem aej{Q:Value->aJ->Prop}(hu:A.units+1<jc)(I:Inv X pins σ H s)(g:pB H a y o)(ry:RelV y u)(h:∀s',Inv X pins σ H s'->Q (.bool o.isSome) s'):
  aX (model X.prog X.w) A (gq .In u (.ref a)) Q E s:=by
 rcases g with⟨kvs,k,e,ey,l⟩|⟨kvs,k,b,e,ey,eb,l⟩
 .subst ey
  obtain⟨z,hd,vs,rel,dd⟩:=Ec I.hok e
  refine wpAny_in_of (yG ry) hd dd.mapOf ?_;rw[<-(rel.val k).Gi,<-l];exact h _ (I.tok _)
 .subst ey
  cases(show u=eV b from ry)
  obtain⟨z,hd,xs,rel,dd⟩:=Hj I.hok e
  refine wpAny_in_heap (O3 hu) (GZ I.hok eb) hd dd ?_;have q:=(rel.val k).Gi;rw[X8] at q;rw[<-q,<-l];exact h _ (I.tok _)
theorem ace{Q:Value->aJ->Prop}(hu:A.units+1<jc)(I:Inv X pins σ H s)(g:pB H a y o)(ry:RelV y u)(h:∀s',Inv X pins σ H s'->Q (.bool (!o.isSome)) s'):
  aX (model X.prog X.w) A (gq .NotIn u (.ref a)) Q E s:=by
 rcases g with⟨kvs,k,e,ey,l⟩|⟨kvs,k,b,e,ey,eb,l⟩
 .subst ey
  obtain⟨z,hd,vs,rel,dd⟩:=Ec I.hok e
  refine wpAny_notIn_of (yG ry) hd dd.mapOf ?_;rw[<-(rel.val k).Gi,<-l];exact h _ (I.tok _)
 .subst ey
  cases(show u=eV b from ry)
  obtain⟨z,hd,xs,rel,dd⟩:=Hj I.hok e
  refine wpAny_notIn_heap (O3 hu) (GZ I.hok eb) hd dd ?_;have q:=(rel.val k).Gi;rw[X8] at q;rw[<-q,<-l];exact h _ (I.tok _)
theorem z9{h':bw}{t':Nat}{ob:HO}(I:Inv X pins σ H s)(mu:H9 (H a))(hs:zR a s.heap h')(he:∃q,h'.get? a=aa q)(new:gj X.prog X.w (upd H a ob) h' a ob):
  Inv X pins σ (upd H a ob) {s with heap:=h',toks:=t'}:=
 I.write (x:=a) (e:=a) mu (.inl rfl) (λb q hb z=>(hs.2 b hb).trans z) he new
theorem G3{P:bQ}{w:bK}{H':Hp}{h':bw}{kvs:List (Key×V)}{vs:List (Key×Value)}(z:kvs.length<=cH)(hd:(a==tX)=aL)(rel:KV kvs vs)(dd:h'.DictOf (jb P w) a vs):
  gj P w H' h' a (.dK kvs):=⟨z,hd,vs,rel,dd⟩
theorem aaB{H':Hp}{Q:Unit->aJ->Prop}(hu:A.units+1<jc)(I:Inv X pins σ H s)(g:uA H a y v H')(ry:RelV y u)(rv:RelV v r)(h:∀s',Inv X pins σ H' s'->Q () s'):
  aX (model X.prog X.w) A (setItem (.ref a) u r) Q E s:=by
 rcases g with⟨kvs,k,e,ey,l,eH⟩|⟨kvs,k,b,e,ey,eb,l,eH⟩
 .subst ey eH
  obtain⟨z,hd,vs,rel,dd⟩:=My I.hok e
  have hz:vs.length<=cH:=by rw[<-rel.length];exact z
  have hl:(putK kvs k v).length<=cH:=by have:=JW kvs k v;lia
  refine wpAny_setItem_pairs (hsz:=hz) (yG ry) dd λh' tK hs=>h _ ?_
  have he:∃q,h'.get? a=aa q:=let ⟨q,_,_,hq,_⟩:=tK;⟨q,hq⟩
  exact z9 I (by rw[e];exact nU) hs he (G3 hl hd (rel.put k rv) tK)
 .subst ey eH
  cases(show u=eV b from ry)
  obtain⟨z,hd,xs,rel,dd⟩:=adP I.hok e
  have hz:xs.length<=cH:=by rw[<-Paired.length rel];exact z
  have hl:(putK kvs k v).length<=cH:=by have:=JW kvs k v;lia
  refine wpAny_setItem_heap (hsz:=hz) (O3 hu) (GZ I.hok eb) dd λh' tK hs=>h _ ?_
  obtain⟨q,es,ep,hq,h2,h3,h4,_,h5⟩:=tK
  refine z9 I (by rw[e];exact nU) hs ⟨q,hq⟩ ⟨hl,hd,_,(rel.put k eb rv).keeps λc ys ec=>?_,q,es,ep,hq,h2,h3,h4,h5⟩;rw[di (Vt ec e (λz=>nomatch z))];exact ec
end
section
variable{X:Cx}{pins:List (aq×Obj)}{σ:St}{H:Hp}{s:aJ}{a:aq}{kvs:List (Key×V)}{k:Key}{u:Value}{A:cV}{E:Value->aJ->Prop}
theorem an0{Q:Value->aJ->Prop}(I:Inv X pins σ H s)(e:Rd H a (.dK kvs))(h:∀t s',Inv X pins σ H s'->Q (.int kvs.length t) s'):aX (model X.prog X.w) A (call (.builtin "len") [.ref a]) Q E s:=by
 obtain⟨z,hd,vs,rel,dd⟩:=Ec I.hok e
 refine call_len_dict hd dd (by rw[<-rel.length];rw[jq] at z;lia) ?_;rw[<-rel.length];exact h _ _ (I.tok _)
end
theorem ahN{X:Cx}{pins:List (aq×Obj)}{σ:St}{H:Hp}{s:aJ}{a:aq}{y:V}{o:Option V}(I:Inv X pins σ H s)(g:pB H a y o):s.TypeIs (.ref a) "dict":=by
 rcases g with⟨kvs,k,e,_,_⟩|⟨kvs,k,b,e,_,_,_⟩
 .obtain⟨_,_,vs,_,dd⟩:=Ec I.hok e
  exact dd.typeIs
 .obtain⟨_,_,xs,_,dd⟩:=Hj I.hok e
  exact dd.typeIs
section
variable{X:Cx}{o i e value:Expr}{pos pos' tpos:Pos}{td ty tv:TE}
end
theorem Ss{P:bQ}{w:bK}{H:Hp}(h:bw)(hb:tX<h.objs.size):gj P w H (h.push {cls:=.type "dict",data:=.dict #[]}) h.objs.size (.dK []):=
 ⟨nH _,beq_eq_false_iff_ne.mpr (kI (eU hb)),[],.nil,agL h⟩
def amR:TE:=λ_ H Q=>∀p,H p=aj->Q (.ref p) (upd H p (.dK []))
section
variable{X:Cx}{pos:Pos}
theorem ajQ:PE X (.Dict [] [] pos) amR:=λpins s σ H Q I h=>
 wpAny_Dict_empty ⟨.ref s.heap.objs.size,_,I.laid (a:=s.heap.objs.size) (o:=.dK []) (t':=s.toks) (λ_ _ q=>cR _ q) (cz _) (Ss s.heap I.big),rfl,h _ (I.hok.fresh (cz _))⟩
end
def U5:List (TE×TE)->St->Hp->(List (V×V)->Hp->Prop)->Prop
 |[],_,H,Q=>Q [] H
 |(tk,tv)::r,σ,H,Q=>tk σ H λx H1=>tv σ H1 λy H2=>U5 r σ H2 λps H3=>Q ((x,y)::ps) H3
abbrev VV:List (V×V)->List (Value×Value)->Prop:=Paired λp q=>RelV p.1 q.1/\RelV p.2 q.2
def Ny(X:Cx)(pos:Pos)(keys:List (Option Expr))(values:List Expr)(xH:List (TE×TE)):Prop:=
 ∀(pins:List (aq×Obj))(s:aJ)(σ:St)(H:Hp)(Q:List (V×V)->Hp->Prop),Inv X pins σ H s->U5 xH σ H Q->
  aX (model X.prog X.w) X.A (evalPairs (pairTrees keys values X.env pos)) (λvs s'=>∃ps H',Inv X pins σ H' s'/\VV ps vs/\Q ps H') X.xe s
theorem ak9{X:Cx}{pos:Pos}:Ny X pos [] [] []:=λpins s σ H Q I h=>pairTrees_nil_walk ⟨[],H,I,.nil,h⟩
theorem ajR{X:Cx}{pos:Pos}{k v:Expr}{ks:List (Option Expr)}{vs:List Expr}{tk tv:TE}{xH:List (TE×TE)}(hk:PE X k tk)(hv:PE X v tv)(hr:Ny X pos ks vs xH):
  Ny X pos (aa k::ks) (v::vs) ((tk,tv)::xH):=λpins s σ H Q I h=>
 pairTrees_cons_walk (bV (hk pins s σ H _ I h) λu s1 ⟨x,H1,I1,rx,q1⟩=>bV (hv pins s1 σ H1 _ I1 q1) λw2 s2 ⟨y,H2,I2,ry,q2⟩=>
  bV (hr pins s2 σ H2 _ I2 q2) λws s3 ⟨ps,H3,I3,rel,q3⟩=>⟨(x,y)::ps,H3,I3,.cons ⟨rx,ry⟩ rel,q3⟩)
def G4(kvs more:List (Key×V)):List (Key×V):=more.foldl (λacc kv=>putK acc kv.1 kv.2) kvs
theorem KV.merge:∀{more:List (Key×V)}{rs:List (Key×Value)}{kvs:List (Key×V)}{vs:List (Key×Value)},KV more rs->KV kvs vs->KV (G4 kvs more) (merged vs rs):=by
 intro more rs kvs vs r;unfold KV at r;induction r generalizing kvs vs with
 |nil=>intro q;exact q
 |@cons p q ps qs h t ih=>
  intro r0;have e:KV (putK kvs p.1 p.2) (stored vs q.1 q.2):=by
   have:=r0.put p.1 h.2;rw[<-h.1];exact this
  exact ih e
theorem Y7:∀(more kvs:List (Key×V)),(G4 kvs more).length<=kvs.length+more.length
 |[],kvs=>by show kvs.length<=kvs.length+0;lia
 |p::r,kvs=>by
  have h1:=Y7 r (putK kvs p.1 p.2);have h2:=JW kvs p.1 p.2
  show(G4 (putK kvs p.1 p.2) r).length<=_
  rw[dw];lia
theorem Z6{P:bQ}{w:bK}:∀{kvs:List (Key×V)}{ws:List (Value×Value)},VV (kvs.map λkv=>(kV kv.1,kv.2)) ws->∃rs,Carries (jb P w) ws rs/\KV kvs rs
 |[],_,r=>by rw[kj] at r;cases r;exact⟨[],nU,.nil⟩
 |p::kvs,_,r=>by
  rw[cO] at r;cases r with
  |@cons a b as bs h t=>
   obtain⟨rs,c,q⟩:=Z6 (P:=P) (w:=w) t
   obtain⟨b1,b2⟩:=b
   exact⟨(p.1,b2)::rs,⟨yG h.1,rfl,c⟩,.cons ⟨rfl,h.2⟩ q⟩
def an1(xH:List (TE×TE)):TE:=λσ H Q=>∀p,H p=aj->U5 xH σ (upd H p (.dK [])) λps H2=>H2 p=aa (.dK [])/\∃kvs:List (Key×V),ps=kvs.map (λkv=>(kV kv.1,kv.2))/\kvs.length<=15/\Q (.ref p) (upd H2 p (.dK (G4 [] kvs)))
theorem ala{X:Cx}{pos:Pos}{keys:List (Option Expr)}{values:List Expr}{xH:List (TE×TE)}(h:Ny X pos keys values xH)(hall:keys.all (·.isSome)=ao)(hl:keys.length=values.length)(h0:keys≠[])
  (h15:keys.length<=15):PE X (.Dict keys values pos) (an1 xH):=by
 intro pins s σ H Q I q;have hn:=I.hok.fresh (cz s.heap.objs.size);have I1:=I.laid (a:=s.heap.objs.size) (o:=.dK []) (h':=s.heap.push {cls:=.type "dict",data:=.dict #[]}) (t':=s.toks) (λ_ _ q=>cR _ q) (cz _) (Ss s.heap I.big);refine wpAny_Dict_walk (knd:=jb X.prog X.w) hall hl h0 h15 (bV (h pins _ σ _ _ I1 (q _ hn)) λws s2 aW=>?_)
 obtain⟨ps,H2,I2,rel,e,kvs,ep,lk,q2⟩:=aW
 subst ep
 obtain⟨rs,c,rk⟩:=Z6 (P:=X.prog) (w:=X.w) rel
 obtain⟨z,hd,EY,r0,dd⟩:=My I2.hok e
 cases r0
 refine⟨rs,c,dd,λh' tK hs=>⟨.ref s.heap.objs.size,_,?_,rfl,q2⟩⟩
 have hz:(G4 [] kvs).length<=cH:=by
  have h1:=Y7 kvs [];rw[BW] at h1;rw[jq];lia
 have he:∃q,h'.get? s.heap.objs.size=aa q:=let ⟨q,_,_,hq,_⟩:=tK;⟨q,hq⟩
 exact z9 I2 (by rw[e];exact nU) hs he (G3 hz hd (rk.merge .nil) tK)
structure M1(X:Cx)(o:Expr)(m:Str)(apos:Pos)(e:Expr)(cpos:Pos):Prop where
 base:wu o m X.env (eval o X.env)=eval o X.env
 few:((iu cpos (bO [e] X.env)).all (λx=>!x.1)&&(z6 cpos (zV [] X.env)).all (λx=>x.1.isSome)
  &&decide (([e]:List Expr).length+([]:List oY).length+(if([]:List oY).isEmpty then 0 else 1)<30))=ao
 line:(apos.endLine==cpos.line)=ao
 trees:iu cpos (bO [e] X.env)=[(aL,eval e X.env)]
structure M2(X:Cx)(o:Expr)(m:Str)(apos:Pos)(e f:Expr)(cpos:Pos):Prop where
 base:wu o m X.env (eval o X.env)=eval o X.env
 few:((iu cpos (bO [e,f] X.env)).all (λx=>!x.1)&&(z6 cpos (zV [] X.env)).all (λx=>x.1.isSome)
  &&decide (([e,f]:List Expr).length+([]:List oY).length+(if([]:List oY).isEmpty then 0 else 1)<30))=ao
 line:(apos.endLine==cpos.line)=ao
 trees:iu cpos (bO [e,f] X.env)=[(aL,eval e X.env),(aL,eval f X.env)]
section
variable{X:Cx}{pins:List (aq×Obj)}{σ:St}{H:Hp}{s:aJ}{a:aq}{y d:V}{u r:Value}{o:Option V}{A:cV}{E:Value->aJ->Prop}
end
section
variable{X:Cx}{o e f:Expr}{apos cpos:Pos}{td ty tx:TE}
end
section
variable{X:Cx}{pins:List (aq×Obj)}{σ:St}{H:Hp}{s:aJ}{a:aq}{kvs:List (Key×V)}{A:cV}{E:Value->aJ->Prop}
end
section
variable{X:Cx}{pins:List (aq×Obj)}{σ:St}{H:Hp}{s:aJ}{a:aq}{y:V}{u:Value}{A:cV}{E:Value->aJ->Prop}
end
end L2
namespace Att
open PySem PySem.W PySem.Calls PyProof.Rows
theorem agM{P:Params}{h:bw}:∀(ns:List Int)(vs:List Value),WellAll P h vs (ns.map WData.int)->IntsAre vs ns:=by
 intro ns;induction ns with
 |nil=>
  intro vs w;rw[kj] at w;cases w;exact .nil
 |cons n ns ih=>
  intro vs w;rw[cO] at w;cases w with
  |cons a b=>
   cases a;exact .cons _ _ (ih _ b)
theorem aiT{l:OpenLaw}{n:Nat}(hn:l.most=aa n){P:Params}{h:bw}{args:List WData}{vals:List Value}
  (hpre:l.row.toRowW.claim.pre args=ao)(hwl:WellAll P h vals args):
  ∃a vs ns,vals=[eV a]/\args=[WData.list (ns.map WData.int)]/\h.get? a=aa {cls:=.type "list",data:=.seq vs.toArray}/\IntsAre vs ns/\ns.length<=n:=by
 have hsh:WShape.hasAll [] args [.list .int]=ao:=(pre_splitW hpre).1;have hc:l.pre.holds [] {args:=args}=ao:=(pre_splitW hpre).2
 obtain⟨d,r,rfl,h1,h2⟩:=hasAllW_cons hsh
 obtain rfl:=hasAllW_nil h2
 obtain⟨xs,rfl,h3⟩:=hasW_list h1
 obtain⟨ns,rfl⟩:=items_int h3
 have hlen:ns.length<=n:=by
  unfold OpenLaw.pre at hc;have h4:(WTm.not (.lt (.lit (.int (n:Int))) (.len (.arg 0)))).holds [] {args:=[.list (ns.map .int)]}=ao:=by
   have h4:=(holds_andW hc).1;rw[hn] at h4;exact h4
  have h5:=condW_of h4 (w_not (w_lt w_lit (w_len_list (w_arg rfl))));rw[bz] at h5;refine Nat.le_of_not_lt λq=>?_
  have q':(n:Int)<((ns.length:Nat):Int):=by lia
  first
   |(rw[dZ q'] at h5;exact absurd h5 (by decide))
   |(simp at h5;lia)
 cases hwl with
 |cons w1 w2=>
  cases w2;cases w1 with
  |list ho hall=>exact⟨_,_,ns,rfl,rfl,ho,agM ns _ hall,hlen⟩
theorem aiU(l:OpenLaw)(args:List WData):l.row.toRowW.claim.post args (.bool ao) args=ao:=
 postW_of (r:=l.row.toRowW) (X:=(ao==ao))
  (show WShape.has [] (.bool ao) .bool=ao by first|rfl|decide|simp[WShape.has,WShape.arms,WShape.armsAll])
  (show(WTm.eq .res (.lit (.bool ao))).value [] {args:=args,res:=aa (.bool ao),after:=args}=aa (.bool (ao==ao)) from w_eq_bool (w_res rfl) w_lit) rfl
theorem ahO{l:OpenLaw}{n:Nat}{q:bQ}{loose:List Str}{XP:(Str->Option Value)->bw->Prop}{YP:bK->bw->Prop}{d:DefRec}
  (hn:l.most=aa n)(hdf:d.params.defaults=[])
  (call:∀(w:bK)(s₀ s₁:aJ)(mg mb:Str->Option Value)(fa:aq)(o:Obj)(pm cd doc:Value)(a:aq)(vs:List Value)(ns:List Int),
   Ground q loose [] XP w s₀ mg mb s₁.heap->YP w s₁.heap->
   s₁.heap.get? fa=aa o->o.data=.func (docDef d.name d.params d.body d.scope pm cd doc)->s₁.heap.CodeRec cd d.name->mg d.name=aa (.ref fa)->
   s₁.heap.get? a=aa {cls:=.type "list",data:=.seq vs.toArray}->IntsAre vs ns->ns.length<=n->s₁.gens=#[]->
   mJ (model l.prog w) Dl (.call (.ref fa) ⟨[.ref a],[]⟩) (λr s'=>r=.ok (.ret (.bool ao))/\OldK s₁.heap s'.heap/\s'.os=s₁.os/\AllBare s'.gens) s₁):
  WalkO q loose XP YP l.row.toRowW d [] (λf vs=>Z7 f vs):=by
 intro w s₀ s₁ mg mb G Y fa o pm cd doc dV kV ho hd hcd hD hmg hg args vals as hpre hlay hrd hwl hlo;obtain rfl:dV=.none:=Dflts.none hD hdf;obtain rfl:kV=.none:=Dflts.noKw hD
 obtain⟨a,vs,ns,rfl,rfl,hobj,hints,hlen⟩:=aiT hn hpre hwl
 refine enter_call (JL (call w s₀ s₁ mg mb fa o pm cd doc a vs ns G Y ho (fd_plain hd) hcd hmg hobj hints hlen hg) λr s' hq=>?_)
 obtain⟨rfl,h2,h3,h4⟩:=hq
 exact⟨.inl ⟨.bool ao,.bool ao,[],rfl,λ_=>rfl,.bool ao,aiU l _,λ_=>⟨Bw,λ_ hm=>(nomatch hm)⟩⟩,h2,h3,h4⟩
section
variable{prog:bQ}{w:bK}{A:cV}{E:Value->aJ->Prop}{s:aJ}{K:Frag}
def ledger(h:bw)(L d:aq):List (aq×Obj):=(fj h.objs.size).filterMap λa=>if a=L\/a=d then aj else(h.get? a).map λo=>(a,o)
end
end Att
namespace L2
open PySem PySem.Spec PyProof.Rows
theorem RC:∀{vs:List Value}{ns:List Int},IntsAre vs ns->Vals (ns.map V.int) vs
 |_,_,.nil=>.nil
 |_,_,.cons n t h=>.cons ⟨t,rfl⟩ (RC h)
def Only(H:Hp):Prop:=∀b,H b=aj\/∃o xs,H b=aa (.nO o (.lst xs))
theorem ajS{P:bQ}{w:bK}{K:aQ}{mg mb:Str->Option Value}{CX:rO}{k:Nat}{fa a:aq}{fd:dO}{x:Str}{sp:Sp}{s₁:aJ}{vs:List Value}{ns:List Int}
  (KX:K.In s₁.heap)(hns:s₁.heap.Ns iZ mg)(hb:s₁.heap.Ns builtinsNs mb)(hbb:∀x:Str,x≠"__name__"->mb x=uU x)(hlim:s₁.heap.NoLimit)(hg:s₁.gens=#[])
  (ha:s₁.heap.get? a=aa {cls:=.type "list",data:=.seq vs.toArray})(hi:IntsAre vs ns)(hl:ns.length<=cH)(hr:jD k Dl)
  (F:∀base:bw,K.In base->base.Ns iZ mg->dI P w K mg base CX k fa fd [x] sp)(hbind:∀(s:aJ)(u:Value),z8 s fd ⟨[u],[]⟩ [(x,u)])
  (hsp:∀H:Hp,Only H->bU K H a (ns.map V.int)->sp [.ref a] H (λv _=>v=.bl ao) λ_ _ _=>False)
  (Ww:∀H e s',CX [] H s₁ (λ_ _ _=>False) e s'->False):
  mJ (model P w) Dl (.call (.ref fa) ⟨[.ref a],[]⟩) (λr s'=>r=.ok (.ret (.bool ao))/\OldK s₁.heap s'.heap/\s'.os=s₁.os/\AllBare s'.gens) s₁:=by
 have rv:=RC hi;have lenV:=hi.length;have core:∀H:Hp,Only H->bU K H a (ns.map V.int)->jm P w H s₁.heap->(∀b,H b≠aj->b=a)->(H a≠aj->K.lookup a=aj)->
   mJ (model P w) Dl (.call (.ref fa) ⟨[.ref a],[]⟩) (λr s'=>r=.ok (.ret (.bool ao))/\OldK s₁.heap s'.heap/\s'.os=s₁.os/\AllBare s'.gens) s₁:=by
  intro H hO hS hok hA hK;have acf:∀{b:aq}{o:Obj},s₁.heap.get? b=aa o->H b=aj->(wY s₁.heap H).get? b=aa o:=λe n=>ajF e n
  have Ii:∀{b:aq}{o:Obj}{es:Array DictEntry}{ep:Nat},s₁.heap.get? b=aa o->o.data=.dict es ep->H b=aj:=λ{b o es ep} e d=>by
   cases q:H b with
   |none=>rfl
   |some u=>
    have e':b=a:=hA b (by rw[q];simp);subst e';rw[ha] at e;cases e;have d':Data.seq vs.toArray _=Data.dict es ep:=d;cases d'
  have Nz:∀{b:aq}{m:Str->Option Value},s₁.heap.Ns b m->(wY s₁.heap H).Ns b m:=λ{b m} ⟨o,es,ep,e,d,r⟩=>⟨o,es,ep,acf e (Ii e d),d,r⟩
  have hKb:K.In (wY s₁.heap H):=λb o e=>acf (KX b o e) (by
   cases q:H b with
   |none=>rfl
   |some u=>
    have e':b=a:=hA b (by rw[q];simp);subst e';rw[hK (by rw[q];simp)] at e;cases e)
  have hM:Mod K mg (wY s₁.heap H):=⟨hKb,Nz hns,⟨mb,Nz hb,hbb⟩,let ⟨mc,h1,h2⟩:=hlim;⟨mc,Nz h1,h2⟩⟩
  have e0:Ay P w K mg (wY s₁.heap H) Dl [] s₁ H:=⟨rfl,hM,λb o e=>akS e,Nat.le_of_eq (aiF _ _),trivial,λb hb=>absurd (show b∈([]:List aq) from hb) (by simp),hok,.of_eq hg⟩
  refine JL ((F _ hKb (Nz hns)).run Dl [] s₁ H ⟨[.ref a],[]⟩ [.ref a] [.ref a] _ _ hr e0 (hbind s₁ (.ref a)) (.cons rfl .nil) (hsp H hO hS)) λr s' h=>?_
  cases r with
  |error e=>exact(Ww H e s' h).elim
  |ok fl=>
   cases fl with
   |next=>exact tY h
   |brk=>exact tY h
   |cont=>exact tY h
   |ret u=>
    obtain⟨v,H',os,bare,un,hok',r',q⟩:=h
    have q':v=.bl ao:=q;subst q';obtain rfl:u=uV ao:=r'
    refine⟨rfl,OldK.of_keep λb o e=>?_,os,bare⟩
    cases q:H b with
    |none=>exact un.keep b o e q (by intro z;exact absurd (show b∈([]:List aq) from z) (by simp)) (by simp)
    |some u=>
     rcases hO b with z|⟨ob,xs,z⟩
     .rw[q] at z;cases z
     .have z2:=un.rE b ob _ z
      obtain⟨e1,_⟩:=hok b _ z
      obtain⟨e2,_⟩:=hok' b _ z2
      rw[e] at e1;cases e1;exact e2
 cases hk:K.lookup a with
 |some o=>
  have e:=KX a o hk;rw[ha] at e;cases e;refine core (λ_=>aj) (λ_=>.inl rfl) (.inr ⟨_,vs.toArray,_,hk,rfl,rfl,rfl,by rw[gG,lenV];exact hl,by simpa using rv⟩) (λb u z=>by have z':(aj:Option HO)=aa u:=z;cases z') (λb z=>absurd rfl z) λz=>absurd rfl z
 |none=>
  refine core (λb=>if b=a then aa (.nO {cls:=.type "list",data:=.seq vs.toArray} (.lst (ns.map V.int))) else aj) (λb=>?_) (.inl (.inr ⟨{cls:=.type "list",data:=.seq vs.toArray},bC rfl⟩)) (λb u z=>?_) (λb z=>?_) λ_=>hk
  .by_cases hb:b=a
   .exact .inr ⟨_,_,bC hb⟩
   .exact .inl (bJ hb)
  .by_cases hb:b=a
   .have z':=(bC hb).symm.trans z;cases z';subst hb
    exact⟨ha,by rw[bz];exact hl,vs,_,rv,ha⟩
   .have z':=(bJ hb).symm.trans z;cases z'
  .by_cases hb:b=a
   .exact hb
   .exact absurd (bJ hb) z
theorem alb{l:Yu}{n k:Nat}{q:bQ}{loose:List Str}{XP:(Str->Option Value)->bw->Prop}{YP:bK->bw->Prop}{d:DefRec}{K:Params->aQ}{CX:bK->rO}{sp:bK->Sp}{x:Str}
  (hn:l.most=aa n)(hn2:n<=cH)(hdf:d.params.defaults=[])(hr:jD k Dl)
  (hY:∀(w:bK)(h:bw),YP w h->(K w.params).In h)
  (F:∀(w:bK)(mg:Str->Option Value)(fa:aq)(h:bw),(K w.params).In h->h.Ns iZ mg->mg d.name=aa (.ref fa)->
   ∃fd:dO,(∀(s:aJ)(u:Value),z8 s fd ⟨[u],[]⟩ [(x,u)])/\
    ∀base:bw,(K w.params).In base->base.Ns iZ mg->dI l.prog w (K w.params) mg base (CX w) k fa fd [x] (sp w))
  (hsp:∀(w:bK)(H:Hp)(a:aq)(ns:List Int),ns.length<=n->Only H->bU (K w.params) H a (ns.map V.int)->sp w [.ref a] H (λv _=>v=.bl ao) λ_ _ _=>False)
  (Ww:∀(w:bK)(H:Hp)(s:aJ)(e:Value)(s':aJ),CX w [] H s (λ_ _ _=>False) e s'->False):
  ag4 q loose XP YP l.row.toRowW d [] (λf vs=>Z7 f vs):=by
 refine Att.ahO hn hdf λw s₀ s₁ mg mb fa o pm cd doc a vs ns G Y ho hd hcd hmg hobj hints hlen hg=>?_
 have KX:=hY w _ Y
 obtain⟨fd,hb,hF⟩:=F w mg fa _ KX G.T.g hmg
 exact ajS KX G.T.g G.T.b G.T.builtins G.T.nolimit hg hobj hints (lR hlen hn2) hr hF hb (λH hO hS=>hsp w H a ns hlen hO hS) λH e s'=>Ww w H s₁ e s'
def Dm(s:dz):Arguments:=match s with
 |.FunctionDef _ a _ _ _ _ _ _ _ _=>a
 |_=>{posonlyargs:=[],args:=[],vararg:=aj,kwonlyargs:=[],kw_defaults:=[],kwarg:=aj,defaults:=[]}
def yt(s:dz):List dz:=match s with
 |.FunctionDef _ _ b _ _ _ _ _ _ _=>b
 |_=>[]
def cX(s:dz):kJ:=match s with
 |.FunctionDef _ _ _ _ _ _ sc _ _ _=>sc
 |_=>{kind:=.function,names:=[],isGenerator:=aL,isCoroutine:=aL}
abbrev fP:rO:=λ_ _ _ _ _ _=>False
abbrev E0:XK:=λ_ _ _=>False
theorem an2{X:Cx}:Passes fP X E0:=λ_ _ _ _ _ _ _ h=>h.elim
structure gf(K:aQ)(x qual:Str)(st:dz)(f:aq)(fd:dO):Prop where
 ex:∃(oc:Value)(od:Option aq)(kV doc pm:Value)(an:Option aq)(cdv ct:Value)(osl:Array (Option Value)),
  fd=zU x qual (Dm st) (yt st) (cX st) .none kV doc pm an cdv ct/\K.lookup f=aa ⟨oc,od,.func fd,osl⟩/\PL K cdv qual=ao
 kp:xW K (.ref f)=ao
section
variable{P:bQ}{w:bK}{K:aQ}{mg:Str->Option Value}{base:bw}
theorem gf.ok{x qual:Str}{st:dz}{f:aq}{fd:dO}{N ps:List Str}{k:Nat}{sp:Sp}(F:gf K x qual st f fd)(S:gR N ps (cX st))(len:∀vs H Q E,sp vs H Q E->vs.length=ps.length)
  (hbody:∀(cdv:Value)(A:cV)(outer:List Env)(s:aJ)(H:Hp)(vs:List V)(Q:VK)(E:XK),jD k (A.deeper (envOfC qual (cX st) s.heap.objs.size f cdv))->sp vs H Q E->
   ∃t,j4 (Az fP P w K mg base N qual (cX st) f cdv A outer s H E).xx (yt st) t/\t {nx:=λ_ H'=>Q .non H',rt:=Q} (start N vs) H):dI P w K mg base fP (k+1) f fd ps sp:=by
 obtain⟨oc,od,kV,doc,pm,an,cdv,ct,osl,rfl,lk,hcd⟩:=F.ex
 refine anW lk hcd S len λA outer s H vs Q E hr hsp=>?_
 obtain⟨t,h,q⟩:=hbody cdv A outer s H vs Q E hr hsp
 exact⟨t,h.xx,q⟩
theorem gf.binds{x qual:Str}{st:dz}{f:aq}{fd:dO}{ps:List Str}(F:gf K x qual st f fd)
  (h:∀(kV doc pm:Value)(an:Option aq)(cdv ct:Value)(us:List Value),us.length=ps.length->bindArgs (zU x qual (Dm st) (yt st) (cX st) .none kV doc pm an cdv ct) ⟨us,[]⟩=pure (ps.zip us)):Binds K fd ps []:=by
 obtain⟨oc,od,kV,doc,pm,an,cdv,ct,osl,rfl,lk,hcd⟩:=F.ex
 exact .all (h kV doc pm an cdv ct)
theorem U6{x qual:Str}{st:dz}{f:aq}{oc:Value}{od an:Option aq}{osl:Array (Option Value)}{kV doc pm cdv ct:Value}(l:K.lookup f=aa ⟨oc,od,.func (zU x qual (Dm st) (yt st) (cX st) .none kV doc pm an cdv ct),osl⟩)
  (c:PL K cdv qual=ao)(k:xW K (.ref f)=ao):gf K x qual st f (zU x qual (Dm st) (yt st) (cX st) .none kV doc pm an cdv ct):=⟨⟨oc,od,kV,doc,pm,an,cdv,ct,osl,rfl,l,c⟩,k⟩
end
section
variable{X:Cx}
theorem pv(i:Nat){x:Str}{pos:Pos}(hN:X.N[i]?=aa x:=by rfl)(hv:Np X.env.scope x:=by first|exact cG rfl|exact qF (cG rfl)|exact qF (qF rfl))(hd:(x==("__debug__":Str))=aL:=by decide)
  (hcd:(x==("__classdict__":Str))=aL:=by decide):PE X (.Name x pos) (rF i):=amr hN hv hd hcd
end
theorem w6{A B:Prop}(h:B):if aL=ao then A else B:=by
 rw[bJ jo];exact h
theorem xj{A B:Prop}(h:A):if ao=ao then A else B:=by
 rw[bC rfl];exact h
def bW(H H':Hp):Prop:=∀b o,H b=aa o->H' b=aa o
theorem bW.refl(H:Hp):bW H H:=λ_ _ h=>h
theorem bW.trans{H H1 H2:Hp}(a:bW H H1)(b:bW H1 H2):bW H H2:=λc o h=>b c o (a c o h)
theorem bW.free{H H':Hp}(e:bW H H'){l:aq}(h:H' l=pI):H l=pI:=by
 cases q:H l with
 |none=>rfl
 |some o=>
  rw[e l o q] at h;cases h
theorem bW.seq{K:aQ}{H H':Hp}{a:aq}{xs:List V}(e:bW H H')(h:bU K H a xs):bU K H' a xs:=by
 rcases h with(h|⟨o,h⟩)|h
 .exact .inl (.inl (e _ _ h))
 .exact .inl (.inr ⟨o,e _ _ h⟩)
 .exact .inr h
section
variable{X:Cx}
theorem aiV:iI X (.builtin "len") (λxs H Q=>∃a kvs,xs=[V.ref a]/\H a=aa (.dK kvs)/\Q (.int kvs.length) H):=by
 intro pins s σ H xs us Q I r h
 obtain⟨a,kvs,rfl,ha,q⟩:=h
 obtain⟨u,rfl,ru⟩:=vals1 r
 cases ru;exact an0 I (.inl ha) λt s' I'=>⟨.int kvs.length,H,I',⟨t,rfl⟩,q⟩
end
section
variable{κ:Type}[DecidableEq κ]
end
def Cx.blk(X:Cx)(N:List Str)(scope:kJ)(cl:List (Str×aq))(C:aq)(s:aJ)(H:Hp)(fp:List aq):Cx:=
 {X with N:=N,s₀:=s,H₀:=H,env:=Su scope cl C X.env,outer:=X.stack,ex:=fp,fn:=λ_=>aL,pn:=[],xe:=λ_ _=>False}
theorem QM(f:Str×Dh->List (Str×aq)->Sem (ForInStep (List (Str×aq))))
  (hf:∀n k r,f (n,k) r=if k==qU then(do let c <-cellOf env n;pure (.yield ((n,c)::r))) else pure (.yield r)):
  ∀(names:List (Str×Dh))(cs:List (Str×aq)),(∀y∈names,y.2=.free->∃c,env.cells.lookup y.1=aa c)->(∀n c,cs.lookup n=aa c->env.cells.lookup n=aa c)->
   ∃cl,(forIn names cs f:Sem (List (Str×aq)))=pure cl/\(∀n c,cl.lookup n=aa c->env.cells.lookup n=aa c)/\
    ∀n,((∃c,cs.lookup n=aa c)\/∃y∈names,y.1=n/\y.2=.free)->∃c,cl.lookup n=aa c
 |[],cs,_,h2=>⟨cs,rfl,h2,λn h=>h.elim id λ⟨_,hy,_⟩=>nomatch hy⟩
 |(n,k)::r,cs,h1,h2=>by
  rw[List.forIn_cons,hf];by_cases hk:k=.free
  .subst hk
   obtain⟨c,hc⟩:=h1 (n,.free) dH rfl
   have hc':env.cells.lookup n=aa c:=hc;have e:cellOf env n=pure c:=by unfold cellOf;rw[hc']
   obtain⟨cl,q1,q2,q3⟩:=QM f hf r ((n,c)::cs) (λy hy=>h1 y (gh _ hy)) (λm d hm=>by
    rw[BK] at hm;by_cases hb:(m==n)=ao
    .rw[hb] at hm;have:=eq_of_beq hb;subst this;cases hm;exact hc'
    .rw[agy] at hb;rw[hb] at hm;exact h2 m d hm)
   refine⟨cl,?_,q2,λm hm=>q3 m ?_⟩
   .rw[bC (show(qU==qU)=ao from rfl),e];simp only[pure_bind];exact q1
   .by_cases hb:m=n
    .subst hb;exact .inl ⟨c,by simp[BK]⟩
    .rcases hm with⟨d,hm⟩|⟨y,hy,e1,e2⟩
     .refine .inl ⟨d,?_⟩;rw[BK,beq_eq_false_iff_ne.mpr hb];exact hm
     .rcases cM.mp hy with rfl|hy
      .exact absurd e1.symm hb
      .exact .inr ⟨y,hy,e1,e2⟩
  .have hb:(k==qU)=aL:=beq_eq_false_iff_ne.mpr hk
   obtain⟨cl,q1,q2,q3⟩:=QM f hf r cs (λy hy=>h1 y (gh _ hy)) h2
   refine⟨cl,?_,q2,λm hm=>q3 m ?_⟩
   .rw[hb];simp only[qQ,if_false,pure_bind];exact q1
   .rcases hm with hm|⟨y,hy,e1,e2⟩
    .exact .inl hm
    .rcases cM.mp hy with rfl|hy
     .exact absurd e2 hk
     .exact .inr ⟨y,hy,e1,e2⟩
theorem J9(h1:∀y∈scope.names,y.2=.free->∃c,env.cells.lookup y.1=aa c):
  ∃cl,closureFor scope env=pure cl/\(∀n c,cl.lookup n=aa c->env.cells.lookup n=aa c)/\∀y∈scope.names,y.2=.free->∃c,cl.lookup y.1=aa c:=by
 unfold closureFor
 obtain⟨cl,q1,q2,q3⟩:=QM (env:=env) (λx r=>if(x.2==qU)=ao then(do let c <-cellOf env x.1;pure (.yield ((x.1,c)::r))) else pure (.yield r)) (λn k r=>rfl) scope.names [] h1 (λn c h=>by simp at h)
 have q:=congrArg (λt:Sem (List (Str×aq))=>t >>= λcs=>pure cs) q1;simp only[pure_bind] at q
 exact⟨cl,q,q2,λy hy e=>q3 y.1 (.inr ⟨y,hy,rfl,e⟩)⟩
theorem Zn{scope:kJ}{env:Env}{x:Str}:∀{names:List (Str×Dh)},
  (names.map λ(n,k)=>if(k==qU&&env.scope.kind==.function&&env.kindOf n==aa .cell) then(n,Qi) else(n,k)).lookup x=
   (names.lookup x).map λk=>if(k==qU&&env.scope.kind==.function&&env.kindOf x==aa .cell) then Qi else k
 |[]=>rfl
 |(n,k)::r=>by
  have ih:=@Zn scope env x r;show List.lookup x ((if(k==qU&&env.scope.kind==.function&&env.kindOf n==aa .cell)=ao then(n,Qi) else(n,k))::_)=_;cases hx:x==n with
  |true=>
   have e:=eq_of_beq hx;subst e;by_cases hc:(k==qU&&env.scope.kind==.function&&env.kindOf x==aa .cell)=ao
   .rw[bC hc];simp only[BK,beq_self_eq_true,mW,hc,if_true]
   .rw[bJ hc];simp only[BK,beq_self_eq_true,mW,hc,if_false];rfl
  |false=>
   by_cases hc:(k==qU&&env.scope.kind==.function&&env.kindOf n==aa .cell)=ao
   .rw[bC hc];simp only[BK,hx];exact ih
   .rw[bJ hc];simp only[BK,hx];exact ih
def frees(js:List Nat)(σ:St):St:=js.map λj=>(σ[j]?).join
section
variable{X:Cx}{pins:List (aq×Obj)}{σ:St}{H:Hp}{s s1:aJ}{NT NF:List Str}{js:List Nat}{scope:kJ}{cl:List (Str×aq)}{fp:List aq}
structure rC(X:Cx)(NT NF:List Str)(js:List Nat)(scope:kJ):Prop where
 kind:scope.kind=.function
 names:∀y∈scope.names,y.2=.local->scope.names.lookup y.1=aa .local
 cell:∀y∈scope.names,y.2≠.cell
 free:∀y∈scope.names,y.2=.free->X.env.scope.names.lookup y.1=aa .cell\/X.env.scope.names.lookup y.1=aa .free
 len:js.length=NF.length
 fr:∀(k:Nat)(j:Nat)(x:Str),js[k]?=aa j->NF[k]?=aa x->X.N[j]?=aa x/\scope.names.lookup x=aa .free
 tg:∀x∈NT,scope.names.lookup x=aa .local
 nd:(NT++NF).Nodup
theorem Inv.blk(I:Inv X pins σ H s)(B:rC X NT NF js scope)(q2:∀n c,cl.lookup n=aa c->X.env.cells.lookup n=aa c)(q3:∀y∈scope.names,y.2=.free->∃c,cl.lookup y.1=aa c)
  (hf:∀b∈fp,lJ X pins H b)(hlt:∀b∈fp,b<s.heap.objs.size){m:Str->Option Value}(hns:s1.heap.Ns s.heap.objs.size m)(keep:∀b o,s.heap.get? b=aa o->s1.heap.get? b=aa o)
  (hos:s1.os=s.os)(hg:AllBare s1.gens):
  Inv (X.blk (NT++NF) scope cl s.heap.objs.size s H fp) [] (jz NT.length aj++frees js σ) H s1:=by
 have look:∀x,(X.blk (NT++NF) scope cl s.heap.objs.size s H fp).env.kindOf x=(scope.names.lookup x).map λk=>if(k==qU&&X.env.scope.kind==.function&&X.env.kindOf x==aa .cell) then Qi else k:=λx=>Zn (scope:=scope)
 have amS:∀x,((X.blk (NT++NF) scope cl s.heap.objs.size s H fp).env.kindOf x=aa .cell\/(X.blk (NT++NF) scope cl s.heap.objs.size s H fp).env.kindOf x=aa .free)->scope.names.lookup x=aa .free:=λx h=>by
  rw[look] at h;cases e:scope.names.lookup x with
  |none=>rw[e] at h;simp at h
  |some k=>
   rw[e] at h;by_cases hk:k=.free
   .rw[hk]
   .have hb:(k==qU)=aL:=beq_eq_false_iff_ne.mpr hk;simp only[mW,hb,wg,qQ,if_false,O9] at h;rcases h with h|h
    .subst h;exact absurd rfl (B.cell _ (xP e))
    .exact absurd h hk
 have ltC:∀c x,X.env.cells.lookup x=aa c->c<s.heap.objs.size:=λc x e=>by
  obtain⟨v,q⟩:=I.cell x c e
  exact q.lt
 refine⟨⟨I.ok.mod,B.kind,I.ok.glob,I.ok.blt,cz _,λx y c h1 h2=>I.ok.inj x y c (q2 x c h1) (q2 y c h2),λx hx=>?_,λx c h _=>(nomatch(show aL=ao from h)),I.ok.hd,I.ok.frames,.inl rfl,λb hb=>⟨eU (hlt b hb),λx c e=>(hf b hb).2.2.2.2.1 x c (q2 x c e)⟩,I.bs,lR I.ok.vO I.sz,λb o e hb=>?_,λb hb hb2=>?_,I.stack,I.ab5⟩,
  hos,hg,Un.kept keep,⟨m,hns,λi x v h1 h2 h3=>?_⟩,λx c e=>?_,I.hok.fresh (cz _),λx c e=>I.ur x c (q2 x c e),λp hp=>(nomatch(show p∈([]:List (aq×Obj)) from hp)),I.hok.kept keep,?_⟩
 .exact q3 _ (xP (amS x hx)) rfl
 .rcases(hf b hb).2.2.2.1 with z|z
  .exact I.ok.HH b o e z
  .exact absurd (qt (cN e) (lR I.ok.vO z)) (xY _)
 .obtain⟨_,f1,f2,_⟩:=hf b hb
  rcases cM.mp (I.Dv b hb2) with z|z
  .exact f1 z
  .exact f2 z
 .have h1':(NT++NF)[i]?=aa x:=h1;by_cases hi:i<NT.length
  .rw[qP (by simpa using hi),Xw] at h2;split at h2<;>cases h2
  .have hi':NT.length<=i:=by lia
   rw[qO (by simpa using hi')] at h2;rw[qO hi'] at h1';simp only[afE] at h2;unfold frees at h2;rw[iG] at h2;cases ej:js[i-NT.length]? with
   |none=>rw[ej] at h2;cases h2
   |some j=>
    rw[ej] at h2;have h2':(σ[j]?).join=aa v:=by simpa using h2
    obtain⟨g1,g2⟩:=B.fr _ j x ej h1'
    have hj:σ[j]?=aa (aa v):=by
     cases e:σ[j]? with
     |none=>rw[e] at h2';cases h2'
     |some o=>rw[e] at h2';simp at h2';rw[h2']
    have hk:=B.free _ (xP g2) rfl;have hk':X.env.scope.names.lookup x=aa .cell\/X.env.scope.names.lookup x=aa .free:=hk
    obtain⟨m0,hn0,hl0⟩:=I.loc
    obtain⟨u,r,l⟩:=hl0 j x v g1 hj (.inr hk')
    refine⟨u,r,.inr ⟨?_,?_⟩⟩
    .rw[look,g2];by_cases hc:(qU==qU&&X.env.scope.kind==.function&&X.env.kindOf x==aa .cell)=ao
     .left;simp only[mW,hc,if_true]
     .right;simp only[mW,hc,if_false];rfl
    .rcases l with⟨k0,_⟩|⟨_,c,e,z⟩
     .have k0':X.env.scope.names.lookup x=aa .local:=k0;rcases hk' with z|z<;>rw[z] at k0'<;>cases k0'
     .obtain⟨c',hc'⟩:=q3 _ (xP g2) rfl
      have hc2:cl.lookup x=aa c':=hc';have e2:=q2 x c' hc2;rw[e] at e2;cases e2
      obtain⟨o,ho,hd⟩:=z
      exact⟨c,hc2,o,keep c o ho,hd⟩
 .obtain⟨v,o,ho,hd⟩:=I.cell x c (q2 x c e)
  exact⟨v,o,keep c o ho,hd⟩
 .show(jz NT.length aj++frees js σ).length=(NT++NF).length
  unfold frees;simp[B.len]
theorem Inv.VD(I:Inv X pins σ H s)(hf:∀b∈fp,lJ X pins H b)(J:Inv (X.blk N scope cl s.heap.objs.size s H fp) Vu σ' H' s'):Inv X pins σ H' s':=
 I.call' J.os J.base J.hok J.bare λb hb=>⟨(hf b hb).2.2.2.1,(hf b hb).2.1,(hf b hb).2.2.2.2.1,(hf b hb).2.2.2.2.2⟩
end
theorem alc(a:List α)(x y:α)(b:List α)(h:a.length=n):(a++x::b).set n y=a++y::b:=by
 subst h;rw[List.set_append_right _ _ (cz _),Zo];rfl
inductive iT where
 |one|many (n:Nat)
def yZ(K:aQ):iT->V->Hp->List V->Prop
 |.one,x,_,vs=>vs=[x]
 |.many n,x,H,vs=>∃a,x=.ref a/\dD K H a vs/\vs.length=n
def isNm(e:Expr)(x:Str):Prop:=∃pos,e=.Name x pos
def qK(tg:Expr)(NT:List Str):iT->Prop
 |.one=>∃x,isNm tg x/\NT=[x]
 |.many n=>∃es k pos,tg=.Tuple es k pos/\Paired isNm es NT/\NT.length=n
theorem Z8:∀{es:List Expr}{NT:List Str},Paired isNm es NT->uW es env=es.map λe=>(aL,assign e env)
 |_,_,.nil=>rfl
 |_,_,.cons ⟨pos,e⟩ t=>by
  subst e
  show(aL,assign _ env)::uW _ env=_
  rw[Z8 t];rfl
section
variable{X:Cx}{pins:List (aq×Obj)}{H:Hp}{E:Value->aJ->Prop}
theorem aiW(p:Paired isNm es NT):∀{pre NF:List Str}{σp fs:St}{s:aJ}{vs:List V}{us:List Value}{Q:Unit->aJ->Prop},
  X.N=pre++NT++NF->X.N.Nodup->(∀x∈NT,X.env.scope.names.lookup x=aa .local)->σp.length=pre.length->vs.length=NT.length->
  Inv X pins (σp++(jz NT.length aj++fs)) H s->Vals vs us->(∀s',Inv X pins (σp++(vs.map aa++fs)) H s'->Q () s')->
  aX (model X.prog X.w) X.A (FJ (es.map λe=>assign e X.env) us) Q E s:=by
 induction p with
 |nil=>
  intro pre NF σp fs s vs us Q hN nd hl hp hv I r q;cases vs with
  |cons _ _=>simp at hv
  |nil=>
   cases r;exact assignInOrder_nil (q s I)
 |@cons e x es NT he t ih=>
  intro pre NF σp fs s vs us Q hN nd hl hp hv I r q;cases vs with
  |nil=>simp at hv
  |cons v vs=>
   cases r with
   |cons r rr=>
    obtain⟨pos,rfl⟩:=he
    have hx:=hl x dH;have hi:X.N[pre.length]?=aa x:=by
     rw[hN,mF,qO (cz _)];simp
    refine assignInOrder_cons (Jl (uZ I nd hi (.inl hx) r (λs' I'=>?_) (.inr hx)));have e1:(σp++(jz (x::NT).length aj++fs)).set pre.length (aa v)=(σp++[aa v])++(jz NT.length aj++fs):=by
     exact(alc σp aj (aa v) (jz NT.length aj++fs) hp).trans (List.append_cons σp (aa v) (jz NT.length aj++fs))
    rw[e1] at I';refine ih (pre:=pre++[x]) (NF:=NF) (σp:=σp++[aa v]) (by rw[hN];simp) nd (λy hy=>hl y (gh _ hy)) (by simp[hp]) (by simpa using hv) I' rr λs2 I2=>q s2 ?_
    have e2:σp++[aa v]++(vs.map aa++fs)=σp++((v::vs).map aa++fs):=by simp
    rw[e2] at I2;exact I2
theorem amT(tk:qK tg NT T)(hN:X.N=NT++NF)(nd:X.N.Nodup)(hc:X.calm=ao)
  (hl:∀x∈NT,X.env.scope.names.lookup x=aa .local)(I:Inv X pins (jz NT.length aj++fs) H s)(r:RelV v u)(hv:yZ X.K T v H vs)
  (q:∀s',Inv X pins (vs.map aa++fs) H s'->Q () s'):aX (model X.prog X.w) X.A (assign tg X.env u) Q E s:=by
 cases T with
 |one=>
  obtain⟨x,⟨pos,rfl⟩,rfl⟩:=tk
  have hv':vs=[v]:=hv;subst hv';have hx:=hl x dH;exact Jl (uZ I nd (i:=0) (by rw[hN];rfl) (.inl hx) r (λs' I'=>q s' I') (.inr hx))
 |many n=>
  obtain⟨es,k,pos,rfl,p,hn⟩:=tk
  obtain⟨a,rfl,hq,hlen⟩:=hv
  cases r
  obtain⟨its,rv,ht,hz⟩:=I.tuple hq
  have e:=Z8 (env:=X.env) p;have hpl:=p.length;refine assign_Tuple_tuple (I.ok.hd hc) ht (by rw[e];simp only[bz,gG];rw[<-rv.length];lia) (by rw[e];simp) λh' hx=>?_
  have I1:Inv X pins (jz NT.length aj++fs) H {s with heap:=h'}:=I.kept (t':=s.toks) λb o e=>hx b o (eU (cN e)) e
  rw[e,gZ];exact aiW p (pre:=[]) (σp:=[]) (by rw[hN];rfl) nd hl rfl (by lia) I1 (by simpa using rv) q
end
def turnOf(target iter:Expr)(ifs:List Expr)(it:Value)(env:Env)(emit:Sem Unit)(more:Sem PySem.Fin):Sem PySem.Fin:=do
 vd iter.pos
 match <-m7 it with
 |none=>pure (.done .next)
 |some v=>
  zK target it v
  assign target env v
  let mut ok:=ao
  for c in ifs do
   if ok then ok <-isTrue c env (eval c env)
  if ok then emit
  more
theorem ah6(elt target iter:Expr)(ifs:List Expr)(scope:kJ)(pos:Pos)(it acc:Value)(env:Env):
  Gn (.ListComp elt [⟨target,iter,ifs,0⟩] scope pos) 0 it acc env=turnOf target iter ifs it env (do let _ <-call (.builtin "list.append") [acc,<-eval elt env]) (again (.compLoop (.ListComp elt [⟨target,iter,ifs,0⟩] scope pos) 0 it acc env)):=by rfl
theorem ah7(kx vx target iter:Expr)(ifs:List Expr)(scope:kJ)(pos:Pos)(it:Value)(D:aq)(env:Env):
  Gn (.DictComp kx vx [⟨target,iter,ifs,0⟩] scope pos) 0 it (.ref D) env=turnOf target iter ifs it env (do
      let kv <-eval kx env
      let vv <-sr [kv] (eval vx env)
      vd {kx.pos with endLine:=vx.pos.endLine,endCol:=vx.pos.endCol}
      sr [kv,vv] (dictSet D kv vv)) (again (.compLoop (.DictComp kx vx [⟨target,iter,ifs,0⟩] scope pos) 0 it (.ref D) env)):=by rfl
theorem aiX(elt target iter:Expr)(ifs:List Expr)(scope:kJ)(pos:Pos)(it acc:Value)(env:Env):
  Gn (.SetComp elt [⟨target,iter,ifs,0⟩] scope pos) 0 it acc env=turnOf target iter ifs it env (do let v <-eval elt env;vd elt.pos;let _ <-call (.builtin "set.add") [acc,v]) (again (.compLoop (.SetComp elt [⟨target,iter,ifs,0⟩] scope pos) 0 it acc env)):=by rfl
def pC(X:Cx)(ifs:List Expr)(t:TT):Prop:=
 ∀(pins:List (aq×Obj))(s:aJ)(σ:St)(H:Hp)(Q:Bool->Hp->Prop),Inv X pins σ H s->t σ H Q->
  aX (model X.prog X.w) X.A (forIn ifs ao λc r=>if r=ao then do let ok <-isTrue c X.env (eval c X.env);pure (agN ok) else pure (agN r)) (TP X pins σ Q) X.xe s
def ao0:TT:=λ_ H Q=>Q ao H
theorem ald:pC X [] ao0:=λ_ _ _ H _ I h=>wpAny_tests_nil ⟨H,I,h⟩
theorem ale(h:PT X c t):pC X [c] t:=λpins s σ H Q I q=>wpAny_tests_one (h pins s σ H Q I q)
abbrev TM:=St->Hp->(Hp->Prop)->Prop
def PM(X:Cx)(emit:Sem Unit)(t:TM):Prop:=
 ∀(pins:List (aq×Obj))(s:aJ)(σ:St)(H:Hp)(Q:Hp->Prop),Inv X pins σ H s->t σ H Q->
  aX (model X.prog X.w) X.A emit (λ_ s'=>∃H',Inv X pins σ H' s'/\Q H') X.xe s
def T7(D:aq)(te:TE):TM:=λσ H Q=>te σ H λy H1=>∃xs,H1 D=aa (.lst xs)/\xs.length<cH/\Q (upd H1 D (.lst (xs++[y])))
theorem aiY(he:PE X elt te):PM X (do let _ <-call (.builtin "list.append") [.ref D,<-eval elt X.env]) (T7 D te):=by
 intro pins s σ H Q I h;refine aK (bV (he pins s σ H _ I h) λv s1 aW=>?_)
 obtain⟨y,H1,I1,r1,xs,hD,hz,q⟩:=aW
 refine aK (bV (RB (X:=X) pins s1 σ H1 (.ref D) [y] (.ref D) [v] (λ_ H'=>Q H') I1 rfl (.cons r1 .nil) ⟨D,xs,y,rfl,rfl,hD,hz,q⟩) λ_ s2 ⟨_,H2,I2,_,q2⟩=>bh ⟨H2,I2,q2⟩)
def yQ(K:aQ)(T:iT)(ts:TT)(em:TM)(fs:St)(J:It)(H0:Hp)(done:Hp->Prop):Prop:=
 ∃W:Nat->Nat->Hp->Prop,(∃m,W 0 m H0)/\∀i m H,W i m H->
  (J.stop i H/\done H)\/(J.go i H/\∀x H',J.yW i H x H'->∃vs,yZ K T x H' vs/\
   ts (vs.map aa++fs) H' λb H2=>if b=ao then em (vs.map aa++fs) H2 λH3=>∃m',m'<m/\W (i+1) m' H3 else ∃m',m'<m/\W (i+1) m' H2)
section
variable{X:Cx}{NT NF:List Str}{tg iter e:Expr}{ifs:List Expr}{T:iT}{ts:TT}{em:TM}{emit:Sem Unit}{acc:Value}{fp:List aq}{it:aq}{J:It}{tn:Nat->bw->Prop}
theorem ajT{fs:St}{vs:List V}{pins:List (aq×Obj)}{H:Hp}{s:aJ}(hv:vs.length=NT.length)(I:Inv X pins (vs.map aa++fs) H s):Inv X pins (jz NT.length aj++fs) H s:=
 I.weak (by simp[hv]) λi v h=>by
  by_cases hi:i<NT.length
  .rw[qP (by simpa using hi),Xw] at h;split at h<;>cases h
  .rw[qO (by simp;lia)] at h⊢;simpa[hv] using h
theorem yZ.len{tg:Expr}{K:aQ}{x:V}{H:Hp}{vs:List V}(tk:qK tg NT T)(h:yZ K T x H vs):vs.length=NT.length:=by
 cases T with
 |one=>obtain⟨y,_,rfl⟩:=tk;rw[show vs=[x] from h];rfl
 |many n=>obtain⟨_,_,_,_,_,e⟩:=tk;obtain⟨_,_,_,e'⟩:=h;lia
theorem Sv{R:sE->aJ->Prop}{fs:St}{H:Hp}{s:aJ}{done:Hp->Prop}(hx:X.xe=λ_ _=>False)(hT:Gn e 0 (.ref it) acc X.env=turnOf tg iter ifs (.ref it) X.env emit (again (.compLoop e 0 (.ref it) acc X.env)))
  (hq:(FQ e 0 (.ref it) acc X.env).isFrame=aL)(hqu:(FQ e 0 (.ref it) acc X.env).quiet=ao)(hA:X.A.under (FQ e 0 (.ref it) acc X.env)=X.A)
  (tk:qK tg NT T)(hN:X.N=NT++NF)(nd:X.N.Nodup)(hc:X.calm=ao)(hl:∀x∈NT,X.env.scope.names.lookup x=aa .local)
  (hts:pC X ifs ts)(hem:PM X emit em)(TT:Turn X.prog X.w X.K tg J fp it tn)(hf:∀b∈fp,lJ X [] H b)(I:Inv X [] (jz NT.length aj++fs) H s)(st:tn 0 s.heap)(hb:yQ X.K T ts em fs J H done)
  (hR:∀H' s' σ',Inv X [] σ' H' s'->done H'->R (.ok .next) s'):
  mJ (model X.prog X.w) X.A (.compLoop e 0 (.ref it) acc X.env) R s:=by
 obtain⟨W,⟨m0,w0⟩,turn⟩:=hb
 have stat:∀{H':Hp},(∀b∈fp,H' b=aj)->∀b∈fp,lJ X [] H' b:=λhn b hb=>⟨hn b hb,(hf b hb).2⟩
 have noE:∀{α:Type}{t:Sem α}{Q:α->aJ->Prop}{E:Value->aJ->Prop}{s:aJ},aX (model X.prog X.w) X.A t Q (λ_ _=>False) s->aX (model X.prog X.w) X.A t Q E s:=λh=>qz h (λ_ _ z=>z) λ_ _ z=>z.elim
 have noX:∀{α:Type}{t:Sem α}{Q:α->aJ->Prop}{E:Value->aJ->Prop}{s:aJ},aX (model X.prog X.w) X.A t Q X.xe s->aX (model X.prog X.w) X.A t Q E s:=λh=>noE (by rw[hx] at h;exact h)
 refine codeAny_loop hqu (λn s'=>∃i H',Inv X [] (jz NT.length aj++fs) H' s'/\tn i s'.heap/\(∀b∈fp,H' b=aj)/\W i n H') ?_ m0 ⟨0,H,I,st,λb hb=>(hf b hb).1,w0⟩;rintro n s3 ⟨i,H3,I3,st3,Ig,w3⟩;rw[hA];show aX _ X.A (if(FQ e 0 (.ref it) acc X.env).isFrame=ao then(Gn e 0 (.ref it) acc X.env).onRaise (leaving X.env) else(Gn e 0 (.ref it) acc X.env).onRaise (λx=>do noteFrame x X.env;theTreesLotGoes x)) _ _ s3;rw[hq,bJ jo];refine wpAny_noted (noE ?_);rw[hT];unfold turnOf;refine aK (wj (aK ?_));rcases turn i n H3 w3 with⟨stop,qn⟩|⟨go,step⟩
 .refine bV (TT.done X rfl rfl rfl hc i [] s3 _ H3 _ I3 (stat Ig) st3 stop) λr s4 aW=>?_
  obtain⟨hr,I4⟩:=aW
  subst hr;exact bh (hR H3 s4 _ I4 qn)
 .refine bV (TT.item X rfl rfl rfl hc i [] s3 _ H3 _ I3 (stat Ig) st3 go) λr s4 aW=>?_
  obtain⟨u,hr,h4⟩:=aW
  subst hr;refine aK (bV h4 λ_ s5 aW=>?_)
  obtain⟨x,H5,I5,r5,y5,Bq,Wr⟩:=aW
  have Ws:=I5.pinned (stat Wr) (TT.obj _ _ Bq)
  obtain⟨vs,hv,q5⟩:=step x H5 y5
  have hvl:=yZ.len tk hv;refine aK (amT tk hN nd hc hl Ws r5 hv λs6 I6=>?_);refine aK (noX (bV (hts _ s6 _ H5 _ I6 q5) λb s7 aW=>?_))
  obtain⟨H7,I7,q7⟩:=aW
  have ac8:∀{s8:aJ}{H8:Hp},Inv X ([]++GR fp s5.heap) (vs.map aa++fs) H8 s8->(∃m',m'<n/\W (i+1) m' H8)->
    (FQ e 0 (.ref it) acc X.env=FQ e 0 (.ref it) acc X.env)/\∃m,m<n/\∃i H',Inv X [] (jz NT.length aj++fs) H' s8/\tn i s8.heap/\(∀b∈fp,H' b=aj)/\W i m H':=λ{s8 H8} I8 n8=>by
   obtain⟨m',hm,w8⟩:=n8
   refine⟨rfl,m',hm,i+1,H8,ajT hvl I8.KR,TT.keep _ _ _ Bq λb hb o e=>(I8.pin (b,o) (gn _ (gn _ (J8 hb e)))).1,λb hb=>?_,w8⟩
   obtain⟨o,e,d⟩:=TT.obj _ _ Bq b hb
   exact(I8.pin (b,o) (gn _ (gn _ (J8 hb e)))).2.1
  cases b with
  |false=>exact bh (ac8 I7 q7)
  |true=>exact aK (noX (bV (hem _ s7 _ H7 _ I7 q7) λ_ s8 ⟨H8,I8,q8⟩=>bh (ac8 I8 q8)))
end
structure Bk where
 cl:List (Str×aq)
 C:aq
 s:aJ
 H:Hp
 fp:List aq
abbrev Cx.bk(X:Cx)(N:List Str)(scope:kJ)(b:Bk):Cx:=X.blk N scope b.cl b.C b.s b.H b.fp
section
variable{X:Cx}{NT NF:List Str}{js:List Nat}{elt kx vx tg iter e:Expr}{ifs:List Expr}{T:iT}{wi:TI}{ts:Bk->TT}{te tk' tv:Bk->TE}{scope:kJ}{pos:Pos}
def Wx(K:aQ)(wi:TI)(T:iT)(ts:Bk->TT)(te:Bk->TE)(js:List Nat):TE:=λσ H Q=>wi σ H λJ H1=>∀D,H1 D=aj->∀b,yQ K T (ts b) (T7 D (te b)) (frees js σ) J (upd H1 D (.lst [])) (Q (.ref D))
theorem ac9{pins:List (aq×Obj)}{σ:St}{s2:aJ}{H2:Hp}{cl:List (Str×aq)}{it:aq}{fp:List aq}{tn:Nat->bw->Prop}{J:It}{Q:Hp->Prop}{RR:Value->aq->sE->aJ->Prop}{E:Value->aJ->Prop}
  (B:rC X NT NF js scope)(tk:qK tg NT T)(hc:X.calm=ao)
  (hin:∀b,pC (X.bk (NT++NF) scope b) ifs (ts b)/\PE (X.bk (NT++NF) scope b) elt (te b))
  (q2:∀n c,cl.lookup n=aa c->X.env.cells.lookup n=aa c)(q3:∀y∈scope.names,y.2=.free->∃c,cl.lookup y.1=aa c)
  (I2:Inv X pins σ H2 s2)(TT:Turn X.prog X.w X.K tg J fp it tn)(st2:tn 0 s2.heap)(f2:∀b∈fp,lJ X pins H2 b)
  (q:∀b,yQ X.K T (ts b) (T7 s2.heap.objs.size (te b)) (frees js σ) J (upd H2 s2.heap.objs.size (.lst [])) Q)
  (hR:∀C H' s' m,Inv X pins σ H' s'->lJ X pins H' C->s'.heap.Ns C m->Q H'->RR (.ref s2.heap.objs.size) C (.ok .next) s'):
  aX (model X.prog X.w) X.A (newList []) (λacc s₃=>aX (model X.prog X.w) X.A (YH scope X.env.globals cl [] X.env.qual aj .none (aa X.env)) (λcenv s₄=>
   mJ (model X.prog X.w) X.A (.compStart (.ListComp elt [⟨tg,iter,ifs,0⟩] scope pos) 0 (.ref it) acc {cenv with scope:=relabel scope X.env}) (RR acc cenv.locals) s₄) E s₃) E s2:=by
 refine nF ?_;have hD:H2 s2.heap.objs.size=aj:=I2.hok.fresh (cz _);have I3:Inv X pins σ (upd H2 s2.heap.objs.size (.lst [])) {s2 with heap:=s2.heap.push {cls:=.type "list",dict:=aj,data:=.seq ([]:List Value).toArray}}:=
  I2.laid (t':=s2.toks) (λb o e=>cR _ e) (cz _) ⟨nH _,[],0,.nil,iK _ rfl⟩
 have hsz:(s2.heap.push {cls:=.type "list",dict:=aj,data:=.seq ([]:List Value).toArray}).objs.size=s2.heap.objs.size+1:=zM ..;refine XJ B.cell (by intro y hy;simp at hy) (λh₁ hns₁ hsb₁=>?_) B.kind;have vP:∀b∈fp,b<s2.heap.objs.size:=λb hb=>by
  obtain⟨o,e,_⟩:=TT.obj 0 _ st2 b hb
  exact cN e
 have f3:∀b∈fp,lJ X pins (upd H2 s2.heap.objs.size (.lst [])) b:=λb hb=>⟨by rw[di (eU (vP b hb))];exact(f2 b hb).1,(f2 b hb).2⟩
 have keep:∀b o,(s2.heap.push {cls:=.type "list",dict:=aj,data:=.seq ([]:List Value).toArray}).get? b=aa o->h₁.get? b=aa o:=λb o e=>
  hsb₁.extBut b o (eU (cN e)) (cR _ e)
 have za:∀b∈fp,b<(s2.heap.push {cls:=.type "list",dict:=aj,data:=.seq ([]:List Value).toArray}).objs.size:=λb hb=>by have:=vP b hb;rw[hsz];exact zF this
 have I4:=I3.blk (s1:={s2 with heap:=h₁,toks:=s2.toks+([]:List (Str×Value)).length}) B q2 q3 f3 za hns₁ keep rfl I2.bare;have zb:tn 0 h₁:=TT.keep 0 _ _ st2 λb _ o e=>keep b o (cR _ e)
 obtain⟨i1,i2⟩:=hin ⟨cl,(s2.heap.push {cls:=.type "list",dict:=aj,data:=.seq ([]:List Value).toArray}).objs.size,{s2 with heap:=s2.heap.push {cls:=.type "list",dict:=aj,data:=.seq ([]:List Value).toArray}},upd H2 s2.heap.objs.size (.lst []),fp⟩
 have loop:mJ (model X.prog X.w) X.A (.compLoop (.ListComp elt [⟨tg,iter,ifs,0⟩] scope pos) 0 (.ref it) (.ref s2.heap.objs.size) (Su scope cl (s2.heap.push {cls:=.type "list",dict:=aj,data:=.seq ([]:List Value).toArray}).objs.size X.env))
   (RR (.ref s2.heap.objs.size) (s2.heap.push {cls:=.type "list",dict:=aj,data:=.seq ([]:List Value).toArray}).objs.size) {s2 with heap:=h₁,toks:=s2.toks+([]:List (Str×Value)).length}:=by
  refine Sv (X:=X.blk (NT++NF) scope cl (s2.heap.push {cls:=.type "list",dict:=aj,data:=.seq ([]:List Value).toArray}).objs.size {s2 with heap:=s2.heap.push {cls:=.type "list",dict:=aj,data:=.seq ([]:List Value).toArray}} (upd H2 s2.heap.objs.size (.lst [])) fp)
   (T:=T) (fs:=frees js σ) (done:=Q) rfl (ah6 elt tg iter ifs scope pos _ _ _) rfl rfl rfl tk rfl B.nd hc (λx hx=>XM (B.tg x hx)) i1 (aiY i2) TT (λb hb=>?_) I4 zb (q _) λH' s' σ' J' qd=>?_
  .exact⟨(f3 b hb).1,eU (za b hb),λhb2=>by
    rcases cM.mp (I3.Dv b hb2) with z|z
    .exact(f3 b hb).2.1 z
    .exact(f3 b hb).2.2.1 z,.inl hb,λx c e=>(f3 b hb).2.2.2.2.1 x c (q2 x c e),λp hp=>(nomatch(show p∈([]:List (aq×Obj)) from hp))⟩
  .obtain⟨m,hn,_⟩:=J'.loc
   exact hR _ H' s' m (I3.VD f3 J') (I3.w5 (cz _) J'.free) hn qd
 exact codeAny_compStart_list loop (TT.self _ 0 _ _ _ zb loop)
theorem an3(B:rC X NT NF js scope)(tk:qK tg NT T)(hc:X.calm=ao)(hi:PI X tg iter wi)
  (hin:∀b,pC (X.bk (NT++NF) scope b) ifs (ts b)/\PE (X.bk (NT++NF) scope b) elt (te b))
  (hs:∀x,vY iter X.env x=pure x:=by intro _;rfl):PE X (.ListComp elt [⟨tg,iter,ifs,0⟩] scope pos) (Wx X.K wi T ts te js):=by
 intro pins s σ H Q I h
 obtain⟨cl,hclos,q2,q3⟩:=J9 (env:=X.env) (scope:=scope) λy hy e=>I.ok.has y.1 (B.free y hy e)
 rw[eval_ListComp];refine Ot (use:=aj) rfl hs hclos B.kind B.names (bV (hi pins s σ H _ I h) λv s1 h1=>bV h1 λitv s2 aW=>?_)
 obtain⟨it,fp,tn,J,H2,e,I2,TT,st2,f2,q⟩:=aW
 subst e;refine ac9 (Q:=λH'=>Q (.ref s2.heap.objs.size) H') (RR:=λacc C=>Sw (model X.prog X.w) X.A X.xe aj (EP X pins σ Q) acc C) B tk hc hin q2 q3 I2 TT st2 f2 (q _ (I2.hok.fresh (cz _))) λC H' s' m I' fC hn qd=>?_
 refine⟨m,hn,λh' sb=>⟨.ref s2.heap.objs.size,H',?_,rfl,qd⟩⟩
 exact I'.turned (t':=s'.toks) (λb o hb e=>(sb.2 b hb).trans e) fC.1 fC.2.1 fC.2.2.2.1 fC.2.2.2.2.1 fC.2.2.2.2.2
theorem ajU(B:rC X NT NF js scope)(tk:qK tg NT T)(hc:X.calm=ao)(hi:PI X tg iter wi)
  (hin:∀b,pC (X.bk (NT++NF) scope b) ifs (ts b)/\PE (X.bk (NT++NF) scope b) elt (te b))
  (hsw:uY (.ListComp elt [⟨tg,iter,ifs,0⟩] scope pos) (aa (.Name y pos')) spos.line X.env=pure ao)
  (hN:X.N.Nodup)(hI:X.N[i]?=aa y)(hy:X.env.scope.names.lookup y=aa .local)
  (hs:∀x,vY iter X.env x=pure x:=by intro _;rfl):PS X (.Assign [.Name y pos'] (.ListComp elt [⟨tg,iter,ifs,0⟩] scope pos) spos) (Ep (Wx X.K wi T ts te js) (yF i)):=by
 intro pins s σ H D I h
 obtain⟨cl,hclos,q2,q3⟩:=J9 (env:=X.env) (scope:=scope) λy hy e=>I.ok.has y.1 (B.free y hy e)
 rw[afF _ _ _ _ hsw];refine aK (wj (aK ?_));show aX _ X.A (do let _ <-Y8 (.ListComp elt [⟨tg,iter,ifs,0⟩] scope pos) scope X.env _ (newList []) aL (eval iter X.env) (aa (assign (.Name y pos') X.env))) _ _ s;refine aK (qz (Ot (use:=aa (assign (.Name y pos') X.env)) (Q:=λ_ s'=>SP X pins D .next s') rfl hs hclos B.kind B.names
  (bV (hi pins s σ H _ I h) λv s1 h1=>bV h1 λitv s2 ⟨it,fp,tn,J,H2,e,I2,TT,st2,f2,q⟩=>?_)) (λ_ s' hq=>bh (bh hq)) λ_ _ e=>e)
 subst e;refine ac9 (Q:=λH'=>D.nx (σ.set i (aa (.ref s2.heap.objs.size))) H') (RR:=λacc C=>Sw (model X.prog X.w) X.A X.xe (aa (assign (.Name y pos') X.env)) (λ_ s'=>SP X pins D .next s') acc C) B tk hc hin q2 q3 I2 TT st2 f2 (q _ (I2.hok.fresh (cz _))) λC H' s' m I' fC hn qd=>?_
 show aX _ X.A (assign (.Name y pos') X.env (.ref s2.heap.objs.size)) _ _ _;refine Jl (Rt I' hN hI (.inl hy) (v:=.ref s2.heap.objs.size) rfl (λs3 I3 aW=>?_) (.inr hy))
 obtain⟨a,sb,ha⟩:=aW
 have Wz:C≠a:=by
  rcases ha with z|z
  .rw[z];exact fC.2.1
  .exact λw=>fC.2.2.2.2.1 y a z w.symm
 refine⟨m,hn.sameBut sb Wz,λh' sb'=>⟨_,H',?_,qd⟩⟩
 exact I3.turned (t':=s3.toks) (λb o hb e=>(sb'.2 b hb).trans e) fC.1 fC.2.1 fC.2.2.2.1 fC.2.2.2.2.1 fC.2.2.2.2.2
end
def WD(z:Str):It:=⟨λi _=>i<z.cps.size,λi H x H'=>H'=H/\∃c,z.cps[i]?=aa c/\x=.str ⟨#[c]⟩,λi _=>z.cps.size<=i⟩
theorem ajV{P:bQ}{w:bK}{K:aQ}{tg:Expr}{z:Str}{t:Tok}{ty:String}{it:aq}(hty:ty="str_ascii_iterator"\/ty="str_iterator")(hgo:∀i u,zK tg i u=pure ()):
  Turn P w K tg (WD z) [it] it (λi h=>h.IsStrIter it ty z t i) where
 mem:=by simp
 obj:=λi h st b hb=>by
  have e:b=it:=by simpa using hb
  subst e
  obtain⟨o,e,c,d⟩:=st
  exact⟨o,e,λv q=>by rw[d] at q;cases q⟩
 keep:=λi h h' st k=>let ⟨o,ho,r⟩:=st;⟨o,k it (by simp) o ho,r⟩
 item:=by
  intro X hP hw hK hc i pins s σ H E I hf st hg;subst hP hw hK
  obtain⟨f0,f1,f2,f3,f4,f5⟩:=hf it (by simp)
  have hi:i<z.cps.size:=hg;have W:yI X.prog X.w X.A it [it] [it] z.cps.size (SignAt z) (λi h=>h.IsStrIter it ty z t i):=by
   rcases hty with rfl|rfl
   .exact Walks.strAscii (I.ok.hd hc) it z t
   .exact Walks.strWide (I.ok.hd hc) it z t
  refine W.item i s _ _ hi st λv h' tk hv st' kk=>?_
  obtain⟨c,u,hc',rfl⟩:=hv
  have I1:Inv X pins σ H {s with heap:=h',toks:=tk}:=I.turned (λb o hb e=>kk b o (by simpa using hb) e) f0 f1 f3 f4 f5
  refine⟨_,rfl,?_⟩
  rw[hgo];exact bh ⟨.str ⟨#[c]⟩,H,I1,⟨u,rfl⟩,⟨rfl,c,hc',rfl⟩,st',λb hb=>(hf b hb).1⟩
 done:=by
  intro X hP hw hK hc i pins s σ H E I hf st hg;subst hP hw hK
  obtain⟨f0,f1,f2,f3,f4,f5⟩:=hf it (by simp)
  have hi:z.cps.size<=i:=hg;rcases hty with rfl|rfl
  .exact wpAny_pyNext_ascii_end (I.ok.hd hc) st (by simpa using hi) λh' eb=>⟨rfl,I.turned (t':=s.toks) (λb o hb e=>eb b o hb e) f0 f1 f3 f4 f5⟩
  .exact wpAny_pyNext_wide_end (I.ok.hd hc) st (by simpa using hi) λh' eb=>⟨rfl,I.turned (t':=s.toks) (λb o hb e=>eb b o hb e) f0 f1 f3 f4 f5⟩
 self:=λ_ _ _ _ _ st h=>by
  rcases hty with rfl|rfl
  .exact wpAny_pyIter_striter_ascii st h
  .exact wpAny_pyIter_striter_wide st h
section
variable{X:Cx}{tg:Expr}
def ao1(tl:TE):TI:=λσ H R=>tl σ H λx H1=>∃z,x=.str z/\R (WD z) H1
theorem ada{l:Expr}{tl:TE}(hl:PE X l tl)(hgo:∀i u,zK tg i u=pure ():=by intro _ _;rfl):PI X tg l (ao1 tl):=by
 intro pins s σ H R I h;refine bV (hl pins s σ H _ I h) λv s1 aW=>?_
 obtain⟨x,H1,I1,r1,q1⟩:=aW
 obtain⟨z,e,q⟩:=q1
 subst e
 obtain⟨t,rfl⟩:=r1
 have fin:∀(o:Obj)(ty:String),(ty="str_ascii_iterator"\/ty="str_iterator")->Heap.IsStrIter (s1.heap.push o) s1.heap.objs.size ty z t 0->PIE X pins σ tg R (.ref s1.heap.objs.size) {s1 with heap:=s1.heap.push o}:=λo ty hty st=>by
  refine⟨s1.heap.objs.size,[s1.heap.objs.size],_,_,H1,rfl,I1.kept (t':=s1.toks) λb o e=>cR _ e,ajV hty hgo,st,λb hb=>?_,q⟩
  have e:b=s1.heap.objs.size:=by simpa using hb
  subst e;exact I1.w5 (cz _) (I1.hok.fresh (cz _))
 cases ha:z.cps.all (·<128)
 .exact wpAny_pyIter_wide ha (fin _ _ (.inr rfl) ⟨_,iK _ rfl,rfl,rfl⟩)
 .exact wpAny_pyIter_ascii ha (fin _ _ (.inl rfl) ⟨_,iK _ rfl,rfl,rfl⟩)
theorem aiZ:dB X (gq .LtE) (λx y H Q=>∃i j,x=.str i/\y=.str j/\Q (.bl (!(decide (j.cps.toList<i.cps.toList)))) H):=by
 intro pins s σ H x y v u Q I rx ry h
 obtain⟨i,j,rfl,rfl,q⟩:=h
 obtain⟨t,rfl⟩:=rx
 obtain⟨t',rfl⟩:=ry
 exact PySem.P.le_str (gW I q rfl)
theorem Ka:∀{ys:List Str}{us:List Value},Vals (ys.map V.str) us->StrsAre us ys
 |[],_,h=>by cases h;exact .nil
 |y::ys,_,h=>by
  cases h with
  |cons r rr=>
   obtain⟨t,rfl⟩:=r
   exact .cons y t (Ka rr)
theorem alf:uD X "str.join" (λx xs H Q=>∃z p ys,x=.str z/\xs=[.ref p]/\bU X.K H p (ys.map V.str)/\(ys.map (·.length)).sum+ys.length*z.length<=16777216/\Q (.str (Txt.join z ys)) H):=by
 intro pins s σ H x xs v us Q I rx r h
 obtain⟨z,p,ys,rfl,rfl,hp,hz,q⟩:=h
 obtain⟨t,rfl⟩:=rx
 obtain⟨u,rfl,ru⟩:=vals1 r
 cases ru
 obtain⟨its,rv,pl,_⟩:=I.list hp
 exact join_list pl.isList (by simpa using Ka rv) hz λt' k=>⟨.str _,H,I.tok _,⟨_,rfl⟩,q⟩
end
section
variable{X:Cx}
theorem part_of(h:vm v o):∃l:Option (Int×Tok),v=partValue l/\l.map (·.1)=o:=by
 cases h with
 |none=>exact⟨aj,rfl,rfl⟩
 |int i t=>exact⟨aa (i,t),rfl,rfl⟩
theorem amU:xG X (λx lo hi H Q=>∃z,x=.str z/\z.length<=cH/\Q (.str (Txt.slice z lo hi)) H):=by
 intro pins s σ H x v vl vu lo hi sl Q I rx hs pl pu h
 obtain⟨z,rfl,hz,q⟩:=h
 obtain⟨t,rfl⟩:=rx
 obtain⟨l,rfl,rfl⟩:=part_of pl
 obtain⟨u,rfl,rfl⟩:=part_of pu
 refine⟨"str",_,F.slot_str_getitem.lookup,Z4 s z t,?_⟩
 exact wpAny_getItem_str_slice (l:=l) (u:=u) (st:=aj) hs rfl (post_val_or_str ⟨lR (Txt.slice_le z _ _) hz,λt' k=>⟨.str _,H,I.tok _,⟨t',rfl⟩,q⟩⟩)
theorem abe:∀{bs:List Bool}{us:List Value},Vals (bs.map V.bl) us->us=bs.map uV
 |[],_,h=>by cases h;rfl
 |b::bs,_,h=>by
  cases h with
  |cons r rr=>
   cases r;rw[abe rr];rfl
theorem Sx(hc:X.calm=ao):iI X (.builtin "all") (λxs H Q=>∃(p:aq)(bs:List Bool),xs=[.ref p]/\bU X.K H p (bs.map V.bl)/\Q (.bl (bs.all id)) H):=by
 intro pins s σ H xs us Q I r h
 obtain⟨p,bs,rfl,hp,q⟩:=h
 obtain⟨u,rfl,ru⟩:=vals1 r
 cases ru
 obtain⟨its,rv,pl,_⟩:=I.list hp
 have hl:=pl.isList;have e0:=abe rv;subst e0;have hlt:p<s.heap.objs.size:=by obtain⟨_,e,_⟩:=hl;exact cN e
 refine call_all_walk (O6 hl ?_)
 refine⟨s.heap.objs.size,[s.heap.objs.size,p],[s.heap.objs.size],(bs.map uV).toArray.size,_,_,λi=>(bs[i]?).getD ao,rfl,Z9 (A:=X.A.in1) (I.ok.hd hc) _ p (eU hlt) (bs.map uV).toArray,
  ⟨⟨_,iK _ rfl,rfl,rfl⟩,hl.push _⟩,λi v s' Q' E' hP hQ=>?_,λh' tk hk=>?_⟩
 .have hP':(bs.map uV)[i]?=aa v:=by simpa using hP
  rw[iG] at hP';cases e:bs[i]? with
  |none=>rw[e] at hP';cases hP'
  |some b=>
   rw[e] at hP';cases hP';simp only[e,Jp] at hQ;exact vX hQ
 .have e:((fj (bs.map uV).toArray.size).all λi=>(bs[i]?).getD ao)=bs.all id:=by
   have:(bs.map uV).toArray.size=bs.length:=by simp
   rw[this,oU,qw,qw];constructor
   .intro h b hb
    obtain⟨i,hi,rfl⟩:=xQ hb
    have:=h i (rT.mpr hi);simpa[j7 hi] using this
   .intro h i hi;have hi':=rT.mp hi;simp only[j7 hi',Jp];exact h _ (zJ hi')
  rw[e]
  refine⟨.bl _,H,I.kept λb x e=>hk b x (λhm=>?_) (cR _ e),rfl,q⟩
  rw[j8.mp hm] at e;exact xY _ (cN e)
end
mutual
def RD(K:aQ)(H:Hp):aC->V->Prop
 |.none,v=>v=.non
 |.bool b,v=>v=.bl b
 |.int i,v=>v=.int i
 |.str x,v=>v=.str x
 |.tuple ds,v=>∃a vs,v=.ref a/\dD K H a vs/\qg K H ds vs
 |.list ds,v=>∃a vs,v=.ref a/\bU K H a vs/\qg K H ds vs
 |.dict _,_=>False
def qg(K:aQ)(H:Hp):List aC->List V->Prop
 |[],vs=>vs=[]
 |d::ds,vs=>∃v r,vs=v::r/\RD K H d v/\qg K H ds r
end
theorem dD.same{K:aQ}{H H':Hp}{a:aq}{xs:List V}(e:∀b ys,H b=aa (.tup ys)->H' b=aa (.tup ys))(ef:∀b o u,H b=aa (.nO o u)->H' b=aa (.nO o u))(h:dD K H a xs):dD K H' a xs:=by
 rcases h with(h|⟨o,h⟩)|h
 .exact .inl (.inl (e _ _ h))
 .exact .inl (.inr ⟨o,ef _ _ _ h⟩)
 .exact .inr h
mutual
theorem RD.same{K:aQ}{H H':Hp}(e:bW H H'):∀{d:aC}{v:V},RD K H d v->RD K H' d v
 |.none,_,h=>h
 |.bool _,_,h=>h
 |.int _,_,h=>h
 |.str _,_,h=>h
 |.tuple ds,v,h=>by
  obtain⟨a,vs,e1,q,r⟩:=h
  exact⟨a,vs,e1,q.same (λb ys z=>e _ _ z) (λb o u z=>e _ _ z),qg.same e r⟩
 |.list ds,v,h=>by
  obtain⟨a,vs,e1,q,r⟩:=h
  exact⟨a,vs,e1,e.seq q,qg.same e r⟩
theorem qg.same{K:aQ}{H H':Hp}(e:bW H H'):∀{ds:List aC}{vs:List V},qg K H ds vs->qg K H' ds vs
 |[],_,h=>h
 |d::ds,vs,h=>by
  obtain⟨v,r,e1,q,t⟩:=h
  exact⟨v,r,e1,RD.same e q,qg.same e t⟩
end
section
variable{X:Cx}{pins:List (aq×Obj)}{σ:St}{H:Hp}{s:aJ}
mutual
theorem RD.reads(I:Inv X pins σ H s):∀{d:aC}{v:V}{u:Value},RD X.K H d v->RelV v u->∃as,Reads s.heap u d as
 |.none,_,_,h,r=>by
  cases(show _=V.non from h)
  cases r
  exact⟨_,.none⟩
 |.bool b,_,_,h,r=>by
  cases(show _=V.bl b from h)
  cases r
  exact⟨_,.bool b⟩
 |.int i,_,_,h,r=>by
  cases(show _=V.int i from h)
  obtain⟨t,rfl⟩:=r
  exact⟨_,.int i t⟩
 |.str x,_,_,h,r=>by
  cases(show _=V.str x from h)
  obtain⟨t,rfl⟩:=r
  exact⟨_,.str x t⟩
 |.tuple ds,v,u,h,r=>by
  obtain⟨a,vs,e1,q,t⟩:=h
  subst e1;cases r
  obtain⟨its,rv,⟨o,e,c,n,d⟩,_⟩:=I.tuple q
  obtain⟨as,R⟩:=qg.reads I t rv
  exact⟨_,.tuple e c d (by simpa using R)⟩
 |.list ds,v,u,h,r=>by
  obtain⟨a,vs,e1,q,t⟩:=h
  subst e1;cases r
  obtain⟨its,rv,⟨o,n,e,c,_,d⟩,_⟩:=I.list q
  obtain⟨as,R⟩:=qg.reads I t rv
  exact⟨_,.list e c d (by simpa using R)⟩
theorem qg.reads(I:Inv X pins σ H s):∀{ds:List aC}{vs:List V}{us:List Value},qg X.K H ds vs->Vals vs us->∃as,ReadsAll s.heap us ds as
 |[],_,_,h,r=>by
  cases(show _=[] from h)
  cases r
  exact⟨_,.nil⟩
 |d::ds,vs,us,h,r=>by
  obtain⟨v,rr,e1,q,t⟩:=h
  subst e1;cases r with
  |cons r1 r2=>
   obtain⟨as,R⟩:=RD.reads I q r1
   obtain⟨bs,R2⟩:=qg.reads I t r2
   exact⟨_,.cons R R2⟩
end
end
section
variable{X:Cx}
end
def adb(lY:kJ)(N0 NT NF:List Str)(js:List Nat)(scope:kJ):Bool:=
 scope.kind==.function&&scope.names.all (λy=>!(y.2==.local)||scope.names.lookup y.1==some .local)&&scope.names.all (λy=>!(y.2==.cell))&&
  scope.names.all (λy=>!(y.2==.free)||(lY.names.lookup y.1==aa .cell||lY.names.lookup y.1==aa .free))&&js.length==NF.length&&
  (js.zip NF).all (λp=>N0[p.1]?==aa p.2&&scope.names.lookup p.2==aa .free)&&NT.all (λx=>scope.names.lookup x==aa .local)&&decide (NT++NF).Nodup
theorem oM.ok(h:adb lY N0 NT NF js scope=ao)(ho:X.env.scope=lY)(hN:X.N=N0):rC X NT NF js scope:=by
 unfold adb at h;simp only[jX] at h
 obtain⟨⟨⟨⟨⟨⟨⟨h1,h2⟩,h3⟩,h4⟩,h5⟩,h6⟩,h7⟩,h8⟩:=h
 refine⟨eq_of_beq h1,λy hy e=>?_,λy hy e=>?_,λy hy e=>?_,by simpa using h5,λk j x ej ex=>?_,λx hx=>?_,of_decide_eq_true h8⟩
 .have:=qw.mp h2 y hy;rw[e] at this;simpa using this
 .have:=qw.mp h3 y hy;rw[e] at this;simp at this
 .have:=qw.mp h4 y hy;rw[e] at this;rw[ho];simpa using this
 .have hm:(j,x)∈js.zip NF:=by
   have:(js.zip NF)[k]?=aa (j,x):=by
    rw[List.getElem?_zip_eq_some]
    exact⟨ej,ex⟩
   exact qm this
  have:=qw.mp h6 _ hm;simp only[jX] at this;rw[hN]
  exact⟨eq_of_beq this.1,eq_of_beq this.2⟩
 .exact eq_of_beq (qw.mp h7 x hx)
structure dg(P:bQ)(w:bK)(K:aQ)(mg:Str->Option Value)(base:bw)(x:Str)(k:Nat)(ps:List Str)(sp:Sp):Prop where
 ex:∃(f:aq)(fd:dO),mg x=aa (.ref f)/\xW K (.ref f)=ao/\Binds K fd ps []/\dI P w K mg base fP k f fd ps sp
section
variable{X:Cx}{x:Str}{k:Nat}{ps:List Str}{sp:Sp}{p pos:Pos}{e:Expr}{es:List Expr}{t:TA}
theorem an4(F:dg X.prog X.w X.K X.mg X.base x k ps sp)(hr:jD k X.A)(hg:Gl X x)(ha:PA X (e::es) t)(hdb:(x==("__debug__":Str))=aL:=by decide)
  (he:bO (e::es) X.env=(aL,eval e X.env)::bO es X.env:=by rfl)(hpl:(iu pos (bO es X.env)).any (·.1)=aL:=by rfl):
  PE X (.Call (.Name x p) (e::es) [] pos) (Vy sp [] E0 t):=by
 obtain⟨f,fd,h1,h2,h3,h4⟩:=F.ex
 exact ak0 h4 hr hg h1 h2 h3 .nil an2 ha hdb he hpl
theorem ahP:iI X (.builtin "isinstance") (λxs H Q=>∃x n t b,xs=[x,.ty n]/\oK X.K H x t/\Ca X.K t (.type n)=aa b/\Q (.bl b) H):=by
 intro pins s σ H xs us Q I r h
 obtain⟨x,n,t,b,rfl,ty,e,q⟩:=h
 obtain⟨u,u2,rfl,r1,r2⟩:=vals2 r
 cases r2;exact aiN I r1 ty e λtk=>⟨.bl b,H,I.tok tk,rfl,q⟩
end
structure Fx(K:aQ)(T:iT)(J:It)(n:Nat)(vs:Nat->List V)(G:Hp->Prop):Prop where
 go:∀i H,i<n->G H->J.go i H
 yW:∀i H x H',i<n->G H->J.yW i H x H'->H'=H/\yZ K T x H (vs i)
 stop:∀H,G H->J.stop n H
section
variable{K:aQ}{T:iT}{J:It}{n:Nat}{vs:Nat->List V}{G:Hp->Prop}{ts:TT}{te:TE}{fs:St}{H1:Hp}{D:aq}{done:Hp->Prop}
end
theorem alg(h:n<=m)(hm:m<=16777216:=by decide):n<=cH:=by rw[jq];lia
section
variable{K:aQ}{T:iT}{J:It}{n:Nat}{vs:Nat->List V}{G:Hp->Prop}{te:TE}{fs:St}{H1:Hp}{D:aq}{done:Hp->Prop}
end
section
variable{X:Cx}
theorem uD.r{id:String}{r:V->List V->Hp->VK->Prop}(h:uD X id r):Ez X id r:=h
theorem ag5:dB X (gq .IsNot) (λx y H Q=>∃a b,x=.bl a/\y=.bl b/\Q (.bl (a != b)) H):=by
 intro pins s σ H x y v u Q I rx ry h
 obtain⟨a,b,rfl,rfl,q⟩:=h
 cases rx;cases ry;exact isnot_bool (gW I q rfl)
end
def Ext(p:aq)(H H':Hp):Prop:=∀b o,H b=aa o->b≠p->H' b=aa o
theorem Ext.refl(p:aq)(H:Hp):Ext p H H:=λ_ _ h _=>h
theorem Ext.trans(a:Ext p H H1)(b:Ext p H1 H2):Ext p H H2:=λc o h hc=>b c o (a c o h hc) hc
theorem bW.ext(s:bW H H'):Ext p H H':=λb o h _=>s b o h
theorem Ext.upd:Ext p H (upd H p o):=λb u h hb=>by rw[di hb];exact h
theorem bW.upd(h:H p=aj):bW H (L2.upd H p o):=λb u e=>by rw[di (qW e h)];exact e
def Wd(D:aq)(tk tv:TE):TM:=λσ H Q=>tk σ H λy H1=>tv σ H1 λz H2=>∃kvs k,H2 D=aa (.dK kvs)/\y=kV k/\kvs.length<cH/\Q (upd H2 D (.dK (putK kvs k z)))
theorem amV(hu:X.A.units+1<jc)(hk:PE X kx tk)(hv:PE X vx tv):PM X (do
      let kv <-eval kx X.env
      let vv <-sr [kv] (eval vx X.env)
      vd {kx.pos with endLine:=vx.pos.endLine,endCol:=vx.pos.endCol}
      sr [kv,vv] (dictSet D kv vv)) (Wd D tk tv):=by
 intro pins s σ H Q I h;refine aK (bV (hk pins s σ H _ I h) λkv s1 aW=>?_)
 obtain⟨y,H1,I1,r1,q1⟩:=aW
 refine aK (mX (bV (hv pins s1 σ H1 _ I1 q1) λvv s2 aW=>?_))
 obtain⟨z,H2,I2,r2,kvs,k,hD,ey,hl,q2⟩:=aW
 subst ey;refine aK (wj (mX ?_))
 obtain⟨z1,hd,vs,rel,dd⟩:=My I2.hok hD
 have hz:vs.length<=cH:=by rw[<-rel.length];exact z1
 have hl2:(putK kvs k z).length<=cH:=by have:=JW kvs k z;lia
 refine afT (hsz:=hz) (yG r1) dd λh' tK hs=>⟨_,?_,q2⟩
 have he:∃q,h'.get? D=aa q:=let ⟨q,_,_,hq,_⟩:=tK;⟨q,hq⟩
 exact z9 I2 (by rw[hD];exact nU) hs he (G3 hl2 hd (rel.put k r2) tK)
section
variable{X:Cx}{NT NF:List Str}{js:List Nat}{elt kx vx tg iter e:Expr}{ifs:List Expr}{T:iT}{wi:TI}{ts:Bk->TT}{te tk' tv:Bk->TE}{scope:kJ}{pos:Pos}
def tDC(K:aQ)(wi:TI)(T:iT)(ts:Bk->TT)(tk' tv:Bk->TE)(js:List Nat):TE:=λσ H Q=>wi σ H λJ H1=>∀D,H1 D=aj->∀b,yQ K T (ts b) (Wd D (tk' b) (tv b)) (frees js σ) J (upd H1 D (.dK [])) (Q (.ref D))
theorem amW{pins:List (aq×Obj)}{σ:St}{s2:aJ}{H2:Hp}{cl:List (Str×aq)}{it:aq}{fp:List aq}{tn:Nat->bw->Prop}{J:It}{Q:Hp->Prop}{RR:Value->aq->sE->aJ->Prop}{E:Value->aJ->Prop}
  (B:rC X NT NF js scope)(tk:qK tg NT T)(hc:X.calm=ao)(hu:X.A.units+1<jc)
  (hin:∀b,pC (X.bk (NT++NF) scope b) ifs (ts b)/\PE (X.bk (NT++NF) scope b) kx (tk' b)/\PE (X.bk (NT++NF) scope b) vx (tv b))
  (q2:∀n c,cl.lookup n=aa c->X.env.cells.lookup n=aa c)(q3:∀y∈scope.names,y.2=.free->∃c,cl.lookup y.1=aa c)
  (I2:Inv X pins σ H2 s2)(TT:Turn X.prog X.w X.K tg J fp it tn)(st2:tn 0 s2.heap)(f2:∀b∈fp,lJ X pins H2 b)
  (q:∀b,yQ X.K T (ts b) (Wd s2.heap.objs.size (tk' b) (tv b)) (frees js σ) J (upd H2 s2.heap.objs.size (.dK [])) Q)
  (hR:∀C H' s' m,Inv X pins σ H' s'->lJ X pins H' C->s'.heap.Ns C m->Q H'->RR (.ref s2.heap.objs.size) C (.ok .next) s'):
  aX (model X.prog X.w) X.A (newDict) (λacc s₃=>aX (model X.prog X.w) X.A (YH scope X.env.globals cl [] X.env.qual aj .none (aa X.env)) (λcenv s₄=>
   mJ (model X.prog X.w) X.A (.compStart (.DictComp kx vx [⟨tg,iter,ifs,0⟩] scope pos) 0 (.ref it) acc {cenv with scope:=relabel scope X.env}) (RR acc cenv.locals) s₄) E s₃) E s2:=by
 refine nF ?_;have hD:H2 s2.heap.objs.size=aj:=I2.hok.fresh (cz _);have I3:Inv X pins σ (upd H2 s2.heap.objs.size (.dK [])) {s2 with heap:=s2.heap.push {cls:=.type "dict",dict:=aj,data:=.dict #[]}}:=
  I2.laid (t':=s2.toks) (λb o e=>cR _ e) (cz _) (Ss s2.heap I2.big)
 have hsz:(s2.heap.push {cls:=.type "dict",dict:=aj,data:=.dict #[]}).objs.size=s2.heap.objs.size+1:=zM ..;refine XJ B.cell (by intro y hy;simp at hy) (λh₁ hns₁ hsb₁=>?_) B.kind;have vP:∀b∈fp,b<s2.heap.objs.size:=λb hb=>by
  obtain⟨o,e,_⟩:=TT.obj 0 _ st2 b hb
  exact cN e
 have f3:∀b∈fp,lJ X pins (upd H2 s2.heap.objs.size (.dK [])) b:=λb hb=>⟨by rw[di (eU (vP b hb))];exact(f2 b hb).1,(f2 b hb).2⟩
 have keep:∀b o,(s2.heap.push {cls:=.type "dict",dict:=aj,data:=.dict #[]}).get? b=aa o->h₁.get? b=aa o:=λb o e=>
  hsb₁.extBut b o (eU (cN e)) (cR _ e)
 have za:∀b∈fp,b<(s2.heap.push {cls:=.type "dict",dict:=aj,data:=.dict #[]}).objs.size:=λb hb=>by have:=vP b hb;rw[hsz];exact zF this
 have I4:=I3.blk (s1:={s2 with heap:=h₁,toks:=s2.toks+([]:List (Str×Value)).length}) B q2 q3 f3 za hns₁ keep rfl I2.bare;have zb:tn 0 h₁:=TT.keep 0 _ _ st2 λb _ o e=>keep b o (cR _ e)
 obtain⟨i1,i2,i3⟩:=hin ⟨cl,(s2.heap.push {cls:=.type "dict",dict:=aj,data:=.dict #[]}).objs.size,{s2 with heap:=s2.heap.push {cls:=.type "dict",dict:=aj,data:=.dict #[]}},upd H2 s2.heap.objs.size (.dK []),fp⟩
 have loop:mJ (model X.prog X.w) X.A (.compLoop (.DictComp kx vx [⟨tg,iter,ifs,0⟩] scope pos) 0 (.ref it) (.ref s2.heap.objs.size) (Su scope cl (s2.heap.push {cls:=.type "dict",dict:=aj,data:=.dict #[]}).objs.size X.env))
   (RR (.ref s2.heap.objs.size) (s2.heap.push {cls:=.type "dict",dict:=aj,data:=.dict #[]}).objs.size) {s2 with heap:=h₁,toks:=s2.toks+([]:List (Str×Value)).length}:=by
  refine Sv (X:=X.blk (NT++NF) scope cl (s2.heap.push {cls:=.type "dict",dict:=aj,data:=.dict #[]}).objs.size {s2 with heap:=s2.heap.push {cls:=.type "dict",dict:=aj,data:=.dict #[]}} (upd H2 s2.heap.objs.size (.dK [])) fp)
   (T:=T) (fs:=frees js σ) (done:=Q) rfl (ah7 kx vx tg iter ifs scope pos _ _ _) rfl rfl rfl tk rfl B.nd hc (λx hx=>XM (B.tg x hx)) i1 (amV hu i2 i3) TT (λb hb=>?_) I4 zb (q _) λH' s' σ' J' qd=>?_
  .exact⟨(f3 b hb).1,eU (za b hb),λhb2=>by
    rcases cM.mp (I3.Dv b hb2) with z|z
    .exact(f3 b hb).2.1 z
    .exact(f3 b hb).2.2.1 z,.inl hb,λx c e=>(f3 b hb).2.2.2.2.1 x c (q2 x c e),λp hp=>(nomatch(show p∈([]:List (aq×Obj)) from hp))⟩
  .obtain⟨m,hn,_⟩:=J'.loc
   exact hR _ H' s' m (I3.VD f3 J') (I3.w5 (cz _) J'.free) hn qd
 exact codeAny_compStart_dict loop (TT.self _ 0 _ _ _ zb loop)
theorem ajW(B:rC X NT NF js scope)(tk:qK tg NT T)(hc:X.calm=ao)(hu:X.A.units+1<jc)(hi:PI X tg iter wi)
  (hin:∀b,pC (X.bk (NT++NF) scope b) ifs (ts b)/\PE (X.bk (NT++NF) scope b) kx (tk' b)/\PE (X.bk (NT++NF) scope b) vx (tv b))
  (hsw:uY (.DictComp kx vx [⟨tg,iter,ifs,0⟩] scope pos) (aa (.Name y pos')) spos.line X.env=pure ao)
  (hN:X.N.Nodup)(hI:X.N[i]?=aa y)(hy:X.env.scope.names.lookup y=aa .local)
  (hs:∀x,vY iter X.env x=pure x:=by intro _;rfl):PS X (.Assign [.Name y pos'] (.DictComp kx vx [⟨tg,iter,ifs,0⟩] scope pos) spos) (Ep (tDC X.K wi T ts tk' tv js) (yF i)):=by
 intro pins s σ H D I h
 obtain⟨cl,hclos,q2,q3⟩:=J9 (env:=X.env) (scope:=scope) λy hy e=>I.ok.has y.1 (B.free y hy e)
 rw[afF _ _ _ _ hsw];refine aK (wj (aK ?_));show aX _ X.A (do let _ <-Y8 (.DictComp kx vx [⟨tg,iter,ifs,0⟩] scope pos) scope X.env _ (newDict) aL (eval iter X.env) (aa (assign (.Name y pos') X.env))) _ _ s;refine aK (qz (Ot (use:=aa (assign (.Name y pos') X.env)) (Q:=λ_ s'=>SP X pins D .next s') rfl hs hclos B.kind B.names
  (bV (hi pins s σ H _ I h) λv s1 h1=>bV h1 λitv s2 ⟨it,fp,tn,J,H2,e,I2,TT,st2,f2,q⟩=>?_)) (λ_ s' hq=>bh (bh hq)) λ_ _ e=>e)
 subst e;refine amW (hu:=hu) (Q:=λH'=>D.nx (σ.set i (aa (.ref s2.heap.objs.size))) H') (RR:=λacc C=>Sw (model X.prog X.w) X.A X.xe (aa (assign (.Name y pos') X.env)) (λ_ s'=>SP X pins D .next s') acc C) B tk hc (hin:=hin) q2 q3 I2 TT st2 f2 (q _ (I2.hok.fresh (cz _))) λC H' s' m I' fC hn qd=>?_
 show aX _ X.A (assign (.Name y pos') X.env (.ref s2.heap.objs.size)) _ _ _;refine Jl (Rt I' hN hI (.inl hy) (v:=.ref s2.heap.objs.size) rfl (λs3 I3 aW=>?_) (.inr hy))
 obtain⟨a,sb,ha⟩:=aW
 have Wz:C≠a:=by
  rcases ha with z|z
  .rw[z];exact fC.2.1
  .exact λw=>fC.2.2.2.2.1 y a z w.symm
 refine⟨m,hn.sameBut sb Wz,λh' sb'=>⟨_,H',?_,qd⟩⟩
 exact I3.turned (t':=s3.toks) (λb o hb e=>(sb'.2 b hb).trans e) fC.1 fC.2.1 fC.2.2.2.1 fC.2.2.2.2.1 fC.2.2.2.2.2
end
section
variable{X:Cx}
theorem alh{K:aQ}{t:Value}{c d:Value}{p q:Bool}(e1:Ca K t c=aa p)(e2:Ca K t d=aa q):PN K t [c,d]=aa (p||q):=by
 unfold PN;rw[e1];cases p with
 |true=>rfl
 |false=>
  unfold PN;rw[e2];cases q with
  |true=>rfl
  |false=>rfl
end
structure Fy(K:aQ)(T:iT)(J:It)(n:Nat)(vs:Nat->List V)(G:Hp->Prop):Prop where
 go:∀i H,i<n->G H->J.go i H
 yW:∀i H x H',i<n->G H->J.yW i H x H'->bW H H'/\yZ K T x H' (vs i)
 stop:∀H,G H->J.stop n H
section
variable{K:aQ}{T:iT}{J:It}{n:Nat}{vs:Nat->List V}{G:Hp->Prop}{ts:TT}{te:TE}{fs:St}{H1:Hp}{D:aq}{done:Hp->Prop}
end
theorem Inv.Gy{X:Cx}{pins:List (aq×Obj)}{σ:St}{H H':Hp}{s:aJ}{h':bw}{t':Nat}{ch:List aq}(I:Inv X pins σ H s)(k:∀b o,b∉ch->s.heap.get? b=aa o->h'.get? b=aa o)(hf:∀b∈ch,lJ X pins H b)
  (hs:bW H H')(hfr:∀b o,s.heap.get? b=aa o->H b=aj->H' b=aj)(hn:∀b u,H' b=aa u->H b=aa u\/gj X.prog X.w H' h' b u):Inv X pins σ H' {s with heap:=h',toks:=t'}:=by
 have Ib:∀b u,H b=aa u->b∉ch:=λb u e z=>by rw[(hf b z).1] at e;cases e
 refine I.step (g':=s.gens) (d':=s.drawn) (ch:=ch) (λb hb=>⟨(hf b hb).2.2.2.1,(hf b hb).2.1,(hf b hb).2.2.2.2.1,(hf b hb).2.2.2.2.2⟩) (λb o _ _ hc e _=>k b o hc e) (λb o _ _ hc e _=>⟨o.slots,k b o hc e⟩) (λb o _ e n=>hfr b o e n)
  (λb o hc e=>⟨o,k b o hc e⟩) (λ_ _ e=>hs _ _ e) (λ_ _ _ e=>hs _ _ e) (λb ps e=>⟨#[],by rw[hs _ _ e];simp⟩) (λm hm=>?_) (λb u e=>?_) I.bare
 .obtain⟨o,es,ep,ho,r⟩:=hm
  exact⟨o,es,ep,k _ o (λz=>(hf _ z).2.1 rfl) ho,r⟩
 .rcases hn b u e with z|z
  .refine(I.hok b u z).stay (λc v hc q=>k c v ?_ q) (λ_ q=>hs _ _ q) λ_ _ q=>hs _ _ q
   rcases hc with y|y
   .rw[y];exact Ib b u z
   .exact Ib c _ y
  .exact z
def WK(K:aQ)(a b:aq):It:=⟨λi H=>∃xs ys,bU K H a xs/\bU K H b ys/\i<min xs.length ys.length,
 λi H v H'=>∃p x y,H p=aj/\v=.ref p/\H'=upd H p (.tup [x,y])/\∀xs ys,bU K H a xs->bU K H b ys->xs[i]?=aa x/\ys[i]?=aa y,
 λi H=>∃xs ys,bU K H a xs/\bU K H b ys/\i=min xs.length ys.length⟩
theorem ajX{P:bQ}{w:bK}{K:aQ}{es:List Expr}{k:Nat}{ps:Pos}{a b z TI TO i1 i2:aq}(D:ZipApart z TI TO i1 i2 a b):
  Turn P w K (.Tuple es k ps) (WK K a b) [z,TI,TO,i1,i2] z (λi h=>IsZip h z TI TO .none/\IsPair h TI (.ref i1) (.ref i2)/\(∃c d,IsPair h TO c d)/\h.IsListIter i1 a i/\h.IsListIter i2 b i) where
 mem:=by simp
 obj:=λi h st c hc=>by
  obtain⟨h1,h2,⟨_,_,h3⟩,⟨o4,e4,_,d4⟩,⟨o5,e5,_,d5⟩⟩:=st
  simp only[cM,mV,or_false] at hc;rcases hc with rfl|rfl|rfl|rfl|rfl
  .exact⟨_,h1,λv q=>by cases q⟩
  .exact⟨_,h2,λv q=>by cases q⟩
  .exact⟨_,h3,λv q=>by cases q⟩
  .exact⟨_,e4,λv q=>by rw[d4] at q;cases q⟩
  .exact⟨_,e5,λv q=>by rw[d5] at q;cases q⟩
 keep:=λi h h' st kk=>by
  obtain⟨h1,h2,⟨c,d,h3⟩,h4,h5⟩:=st
  exact⟨kk z (by simp) _ h1,kk TI (by simp) _ h2,⟨c,d,kk TO (by simp) _ h3⟩,h4.at λo e=>kk i1 (by simp) o e,h5.at λo e=>kk i2 (by simp) o e⟩
 item:=by
  intro X hP hw hK hc i pins s σ H E I hf st hg;subst hP hw hK
  obtain⟨xs,ys,ha,hb,hi⟩:=hg
  obtain⟨its,r1,p1,_⟩:=I.list ha
  obtain⟨its2,r2,p2,_⟩:=I.list hb
  have l1:=r1.length;have l2:=r2.length;have W:=ahQ (prog:=X.prog) (w:=X.w) (A:=X.A) (I.ok.hd hc) z TI TO i1 i2 a b D its.toArray its2.toArray
  obtain⟨s1,s2,s3,s4,s5⟩:=st
  refine W.item i s _ E (by simp;lia) ⟨s1,s2,s3,s4,s5,p1.isList,p2.isList⟩ λT vals h' tk hv hT ht hm kk=>?_
  obtain⟨x,y,hx,hy,rfl⟩:=hv
  refine⟨_,rfl,W.go es k ps i T _ _ E hm λh2 st2 uE=>?_⟩
  have gx:xs[i]?=aa (xs.getD i .non):=by
   have:i<xs.length:=by lia
   simp[qY,this]
  have gy:ys[i]?=aa (ys.getD i .non):=by
   have:i<ys.length:=by lia
   simp[qY,this]
  obtain⟨u1,hu1,q1⟩:=r1.get gx
  obtain⟨u2,hu2,q2⟩:=r2.get gy
  have ex:u1=x:=by
   have:its[i]?=aa x:=by simpa using hx
   rw[hu1] at this;exact gH this
  have ey:u2=y:=by
   have:its2[i]?=aa y:=by simpa using hy
   rw[hu2] at this;exact gH this
  subst ex ey;have wf:∀c,c∈[z,TO,i1,i2]->lJ X pins H c:=λc hc=>hf c (by simp at hc⊢;rcases hc with rfl|rfl|rfl|rfl<;>simp)
  have Ij:H T=aj:=I.hok.fresh hT;have nT:T∉[z,TO,i1,i2]:=W.apart i T _ hm;have kT:h2.get? T=h'.get? T:=by
   obtain⟨o,e,_⟩:=id ht
   rw[uE T o nT e];exact e.symm
  obtain⟨oT,eT,cT,nT',dT⟩:=id ht
  refine⟨.ref T,upd H T (.tup [xs.getD i .non,ys.getD i .non]),I.Gy (λc o hc e=>uE c o hc (kk c o hc e)) wf (bW.upd Ij) (λc o e n=>?_) (λc u e=>?_),rfl,⟨T,_,_,Ij,rfl,rfl,λxs' ys' h1 h2=>?_⟩,?_,λc hc=>?_⟩
  .rw[di]
   .exact n
   .intro z;subst z;exact absurd (cN e) (Rh.mpr hT)
  .by_cases Ik:c=T
   .subst Ik;rw[fG] at e;cases e;refine .inr ⟨by show 2<=cH;decide,[u1,u2],.cons q1 (.cons q2 .nil),oT,kT.trans eT,cT,nT',by simpa using dT⟩
   .rw[di Ik] at e;exact .inl e
  .rw[I.KQ h1 ha,I.KQ h2 hb]
   exact⟨gx,gy⟩
  .exact⟨st2.1,st2.2.1,st2.2.2.1,st2.2.2.2.1,st2.2.2.2.2.1⟩
  .rw[di]
   .exact(hf c hc).1
   .intro z;subst z
    obtain⟨o,e,_⟩:∃o,s.heap.get? c=aa o/\True:=by
     simp only[cM,mV,or_false] at hc
     obtain⟨c1,d1,s3⟩:=s3
     obtain⟨o4,e4,_⟩:=s4
     obtain⟨o5,e5,_⟩:=s5
     rcases hc with rfl|rfl|rfl|rfl|rfl
     .exact⟨_,s1,trivial⟩
     .exact⟨_,s2,trivial⟩
     .exact⟨_,s3,trivial⟩
     .exact⟨_,e4,trivial⟩
     .exact⟨_,e5,trivial⟩
    exact absurd (cN e) (Rh.mpr hT)
 done:=by
  intro X hP hw hK hc i pins s σ H E I hf st hg;subst hP hw hK
  obtain⟨xs,ys,ha,hb,hi⟩:=hg
  obtain⟨its,r1,p1,_⟩:=I.list ha
  obtain⟨its2,r2,p2,_⟩:=I.list hb
  have l1:=r1.length;have l2:=r2.length;have W:=ahQ (prog:=X.prog) (w:=X.w) (A:=X.A) (I.ok.hd hc) z TI TO i1 i2 a b D its.toArray its2.toArray
  obtain⟨s1,s2,s3,s4,s5⟩:=st
  have e:i=min its.toArray.size its2.toArray.size:=by simp;lia
  subst e;refine W.done s _ E ⟨s1,s2,s3,s4,s5,p1.isList,p2.isList⟩ λh' tk kk=>⟨rfl,?_⟩
  have wf:∀c,c∈[z,TO,i1,i2]->lJ X pins H c:=λc hc=>hf c (by simp at hc⊢;rcases hc with rfl|rfl|rfl|rfl<;>simp)
  exact I.Gy kk wf (bW.refl H) (λ_ _ _ n=>n) λ_ _ e=>.inl e
 self:=λ_ _ _ _ _ st h=>agz st.1 h
def ao2(K:aQ)(t:TA):TI:=λσ H R=>t σ H λvs H1=>∃a b xs ys,vs=[.ref a,.ref b]/\bU K H1 a xs/\bU K H1 b ys/\R (WK K a b) H1
theorem amX{X:Cx}{es:List Expr}{k:Nat}{ps:Pos}{x y:Expr}{t:TA}{p pos:Pos}(hg:Gl X "zip")(hm:X.mg "zip"=aj)(ha:PA X [x,y] t)(hs:bO [x,y] X.env=[(aL,eval x X.env),(aL,eval y X.env)]:=by rfl)(hs2:bO [y] X.env=[(aL,eval y X.env)]:=by rfl):
  PI X (.Tuple es k ps) (.Call (.Name "zip" p) [x,y] [] pos) (ao2 X.K t):=by
 intro pins s σ H R I h;refine Call_ (wM I hg hm arI (Jc (bV (ha pos pins s σ H _ I h) λus s1 aW=>?_) (by rw[hs,hs2]) (by rw[hs2];rfl)))
 obtain⟨vs,H1,I1,r1,q1⟩:=aW
 obtain⟨a,b,xs,ys,e,h1,h2,q⟩:=q1
 subst e;cases r1 with
 |cons r rr=>
  cases rr with
  |cons r' rr=>
   cases rr;cases r;cases r'
   obtain⟨its,v1,p1,_⟩:=I1.list h1
   obtain⟨its2,v2,p2,_⟩:=I1.list h2
   have lt1:a<s1.heap.objs.size:=by obtain⟨_,e,_⟩:=p1.isList;exact cN e
   have vP:b<s1.heap.objs.size:=by obtain⟨_,e,_⟩:=p2.isList;exact cN e
   refine call_zip_2 p1.isList p2.isList λh' g1 g2 g3 g4 g5 hsz kk=>?_
   refine agz g1 ?_;have I2:Inv X pins σ H1 {s1 with heap:=h'}:=I1.kept (t':=s1.toks) kk
   refine⟨s1.heap.objs.size+4,[s1.heap.objs.size+4,s1.heap.objs.size+2,s1.heap.objs.size+3,s1.heap.objs.size,s1.heap.objs.size+1],_,_,H1,rfl,I2,ajX (zipApart_new lt1 vP),⟨g1,g2,⟨_,_,g3⟩,g4,g5⟩,λc hc=>?_,q⟩
   refine I1.w5 ?_ (I1.hok.fresh ?_)
   all_goals
    simp only[cM,mV,or_false] at hc;rcases hc with rfl|rfl|rfl|rfl|rfl<;>lia
theorem ah8(I:Inv X pins σ H s)(rx:RelV x u)(ty:oK X.K H x t)(e:PN X.K t its=aa b)
  (hc:s.heap.IsTuple c its.toArray)(h:∀tk,Q (.bool b) {s with toks:=tk}):aX (model X.prog X.w) A (call (.builtin "isinstance") [u,.ref c]) Q E s:=by
 obtain⟨⟨oc,od,oda,osl⟩,g1,g2,g3,g4⟩:=hc
 simp only at g2 g4;subst g2 g4;cases ty with
 |non=>cases(show u=nJ from rx);exact uQ age I.jy nU g1 e (λz=>nomatch z) h
 |bl y=>cases(show u=uV y from rx);exact uQ agf I.jy nU g1 e (λz=>nomatch z) h
 |int i=>obtain⟨t,q⟩:=(show ∃t,u=Km i t from rx);cases q;exact uQ agu I.jy nU g1 e (λz=>nomatch z) h
 |str y=>obtain⟨t,q⟩:=(show ∃t,u=Ko y t from rx);cases q;exact uQ agv I.jy nU g1 e (λz=>nomatch z) h
 |flt y=>obtain⟨t,q⟩:=(show ∃t,u=ZK y t from rx);cases q;exact uQ af0 I.jy nU g1 e (λz=>nomatch z) h
 |@lst a xs ea=>
  cases(show u=eV a from rx)
  obtain⟨_,_,n,_,h1⟩:=(show gj X.prog X.w H s.heap a (.lst xs) from I.hok a _ ea)
  exact uQ O7 I.jy ⟨_,h1,rfl⟩ g1 e (λz=>nomatch z) h
 |@nO a ob xs ea=>
  cases(show u=eV a from rx)
  obtain⟨_,_,_,n,_,h1⟩:=(show gj X.prog X.w H s.heap a (.nO ob (.lst xs)) from I.hok a _ ea)
  exact uQ O7 I.jy ⟨_,h1,rfl⟩ g1 e (λz=>nomatch z) h
 |@tup a xs ea=>
  cases(show u=eV a from rx)
  obtain⟨_,_,_,p⟩:=(show gj X.prog X.w H s.heap a (.tup xs) from I.hok a _ ea)
  obtain⟨o,h1,h2,_⟩:=p
  exact uQ af1 I.jy ⟨o,h1,h2⟩ g1 e (λz=>nomatch z) h
 |@dK a kvs ea=>
  cases(show u=eV a from rx)
  obtain⟨_,_,vs,_,p⟩:=(show gj X.prog X.w H s.heap a (.dK kvs) from I.hok a _ ea)
  obtain⟨o,es,ep,h1,h2,_⟩:=p
  exact uQ O8 I.jy ⟨o,h1,h2.1⟩ g1 e (λz=>nomatch z) h
 |@dT a kvs ea=>
  cases(show u=eV a from rx)
  obtain⟨_,_,xs,_,o,es,ep,h1,h2,_⟩:=(show gj X.prog X.w H s.heap a (.dT kvs) from I.hok a _ ea)
  exact uQ O8 I.jy ⟨o,h1,h2.1⟩ g1 e (λz=>nomatch z) h
 |@ins a C dx fs ea cl ha hn htk hm=>
  cases(show u=eV a from rx)
  obtain⟨mA,O,_⟩:=ab8 I.hok ea
  obtain⟨od,J,_⟩:=O.look
  exact uQ (agw (cl.get _) cl.hd ha hn htk hm) I.jy J g1 e (λz=>nomatch z) h
theorem ahq:iI X (.builtin "isinstance") (λxs H Q=>∃x c m n t p q,xs=[x,.ref c]/\H c=aa (.tup [.ty m,.ty n])/\oK X.K H x t/\Ca X.K t (.type m)=aa p/\Ca X.K t (.type n)=aa q/\Q (.bl (p||q)) H):=by
 intro pins s σ H xs us Q I r h
 obtain⟨x,c,m,n,t,p,q,rfl,hc,ty,e1,e2,k⟩:=h
 obtain⟨u,u2,rfl,r1,r2⟩:=vals2 r
 cases r2
 obtain⟨_,its,rv,ob,g1,g2,g3⟩:=(show gj X.prog X.w H s.heap c (.tup [.ty m,.ty n]) from I.hok c _ hc)
 cases rv with
 |cons a1 rv=>
  cases rv with
  |cons a2 rv=>
   cases rv;cases a1;cases a2;exact ah8 I r1 ty (alh e1 e2) ⟨ob,g1,g2,g3⟩ λtk=>⟨.bl (p||q),H,I.tok tk,rfl,k⟩
end L2
namespace L2
open PySem PySem.Spec PyProof.Rows PySem.W
section
variable{N:Nat}{lt:Nat->Nat->Bool}{α β:Type}
def gk(N:Nat)(lt:Nat->Nat->Bool):KasT α->(α->Prop)->Prop
 |.ret a,R=>R a
 |.ask i j k,R=>i<N/\j<N/\gk N lt (k (lt i j)) R
theorem gk.mono:∀{t:KasT α},gk N lt t R->(∀a,R a->S a)->gk N lt t S
 |.ret a,h,f=>f a h
 |.ask i j k,h,f=>⟨h.1,h.2.1,gk.mono h.2.2 f⟩
theorem gk.bind:∀{t:KasT α},gk N lt t (λa=>gk N lt (f a) R)->gk N lt (t.bind f) R
 |.ret a,h=>h
 |.ask i j k,h=>⟨h.1,h.2.1,gk.bind h.2.2⟩
theorem gk.wp(ask:∀i j,i<N->j<N->∀C:Bool->aJ->Prop,C (lt i j) s->cmp i j C s)(q:∀a,R a->Q a s):∀{t:KasT α},gk N lt t R->t.kasWp cmp Q s
 |.ret a,h=>q a h
 |.ask i j k,h=>ask i j h.1 h.2.1 _ (gk.wp ask q h.2.2)
def KP(N:Nat)(p:Array Nat):Prop:=p.toList.Perm (fj N)
theorem KP.ix(h:KP N p)(h0:0<N)(i:Nat):p.getD i 0<N:=by
 by_cases hi:i<p.size
 .have:p.getD i 0∈p.toList:=by simp[ah9,hi]
  exact rT.mp (h.mem_iff.mp this)
 .simpa[ah9,hi] using h0
theorem KP.rev(h:KP N p)(i j:Nat):KP N (kas_rev p i j):=((mirror_perm p i j _).toList).trans h
theorem KP.bub(h:KP N p)(i j:Nat):KP N (bubble p i j):=((bubble_perm p i j).toList).trans h
theorem U7(h:KP N p)(h0:0<N):∀f n,gk N lt (kas_asc p f n) λ_=>True
 |0,n=>trivial
 |f+1,n=>by
  refine⟨h.ix h0 _,h.ix h0 _,?_⟩
  dsimp only;split
  .exact trivial
  .exact U7 h h0 f (n+1)
theorem Lp(h0:0<N):∀f (p:Array Nat) n q,KP N p->gk N lt (kas_desc f p n q) λr=>KP N r.1
 |0,p,n,q,h=>h
 |f+1,p,n,q,h=>by
  refine⟨h.ix h0 _,h.ix h0 _,?_⟩
  dsimp only;split
  .split
   .exact Lp h0 f _ _ _ (h.rev _ _)
   .exact Lp h0 f _ _ _ h
  .refine⟨h.ix h0 _,h.ix h0 _,?_⟩
   dsimp only;split
   .exact h
   .exact Lp h0 f _ _ _ h
theorem abf(h0:0<N)(h:KP N p)(n nrem:Nat):gk N lt (kas_tail3 n nrem p) λr=>KP N r.2:=
 gk.bind (gk.mono (U7 (h.rev 0 n) h0 _ _) λ_ _=>h.rev 0 n)
theorem ZS(h0:0<N)(h:KP N p)(n nrem:Nat):gk N lt (kas_descPart n nrem p) λr=>KP N r.2:=by
 refine gk.bind (gk.mono (Lp h0 _ p _ _ h) λr hr=>?_);split
 .exact abf h0 (KP.rev hr _ _) _ _
 .exact abf h0 hr _ _
theorem ajY(h0:0<N)(h:KP N p)(nrem:Nat):gk N lt (kas_count nrem p) λr=>KP N r.2:=by
 refine gk.bind (gk.mono (U7 h h0 _ _) λn _=>?_);split
 .exact h
 .split
  .refine⟨h.ix h0 _,h.ix h0 _,?_⟩
   dsimp only;split
   .exact h
   .exact ZS h0 (h.rev _ _) _ _
  .exact ZS h0 h _ _
theorem Sy(h0:0<N)(h:KP N p)(k:Nat):∀f l r,gk N lt (kas_place p k f l r) λ_=>True
 |0,l,r=>trivial
 |f+1,l,r=>by
  unfold kas_place;split
  .exact trivial
  .refine⟨h.ix h0 _,h.ix h0 _,?_⟩
   dsimp only;split
   .exact Sy h0 h k f _ _
   .exact Sy h0 h k f _ _
theorem ade(h0:0<N):∀f (p:Array Nat) k,KP N p->gk N lt (kas_bin f p k) (KP N)
 |0,p,k,h=>h
 |f+1,p,k,h=>gk.bind (gk.mono (Sy h0 h k _ _ _) λl _=>ade h0 f _ _ (h.bub _ _))
theorem acg(h0:0<N):gk N lt (kas_sort N) (KP N):=by
 refine gk.bind (gk.mono (ajY h0 (p:=List.toArray (fj N)) (Cd _) N) λr hr=>?_);split
 .exact ade h0 _ _ _ hr
 .exact hr
end
def kLt:Key->Key->Bool
 |.inl i,.inl j=>decide (i<j)
 |.inr x,.inr y=>decide (x.cps.toList<y.cps.toList)
 |_,_=>aL
def jE:List Key->List Key->Bool
 |a::r,b::t=>if a=b then jE r t else kLt a b
 |_,_=>aL
def cJ:Key->Bool
 |.inl _=>ao
 |.inr _=>aL
section
variable{prog:bQ}{w:bK}{A:cV}{E:Value->aJ->Prop}{s:aJ}{Q:Bool->aJ->Prop}
theorem ajZ(ra:RelV (kV a) u)(rb:RelV (kV b) v)(ht:cJ a=cJ b)(h:Q (kLt a b) s):aX (model prog w) A (oneLt' f u v) Q E s:=by
 cases a with
 |inl i=>
  cases b with
  |inr y=>cases ht
  |inl j=>
   obtain⟨t,rfl⟩:=ra
   obtain⟨t',rfl⟩:=rb
   cases f with
   |true=>exact oneLt_int h
   |false=>exact kat_one _ _ (lt_int h)
 |inr x=>
  cases b with
  |inl y=>cases ht
  |inr y=>
   obtain⟨t,rfl⟩:=ra
   obtain⟨t',rfl⟩:=rb
   cases f with
   |true=>exact oneLt_str h
   |false=>exact kat_one _ _ (lt_str h)
theorem ach(ht:cJ a=cJ b):tH (kV a) (kV b)=decide (a=b):=by
 cases a with
 |inl i=>
  cases b with
  |inr y=>cases ht
  |inl j=>show(i==j)=_;rw[oU];simp
 |inr x=>
  cases b with
  |inl y=>cases ht
  |inr y=>show(x==y)=_;rw[oU];simp
theorem K3(a:Key):rB (kV a)=ao:=by cases a<;>rfl
theorem abg:∀{ks js:List Key}{us vs:List Value}{i:Nat},Vals (ks.map kV) us->Vals (js.map kV) vs->ks.map cJ=js.map cJ->Q (jE ks js) s->KatLex prog w A ao aL Q (us.zip vs) i s
 |[],[],_,_,_,ra,rb,_,h=>by
  cases ra;cases rb;exact kat_nil h
 |[],_::_,_,_,_,_,_,e,_=>by cases e
 |_::_,[],_,_,_,_,_,e,_=>by cases e
 |a::ks,b::js,us,vs,i,ra,rb,e,h=>by
  cases ra with
  |cons r1 ra=>
   cases rb with
   |cons r2 rb=>
    have e1:cJ a=cJ b:=(FW e).1;have e2:=(FW e).2;refine kat_cons (U4 r1 r2 (K3 a) (K3 b) prog w _ _ ?_);rw[ach e1];unfold jE at h;by_cases hab:a=b
    .rw[bC hab] at h;rw[dZ hab];exact kat_yes (abg ra rb e2 h)
    .rw[bJ hab] at h;rw[dY hab];exact kat_no (ajZ r1 r2 e1 h)
end
section
variable{prog:bQ}{w:bK}{A:cV}{E:Value->aJ->Prop}{s:aJ}{vs:List Value}{κ:SortKind}{lt:Nat->Nat->Bool}{Rl:List Nat->Prop}
def Kp(a:aq)(h h':bw):Prop:=∀b o,b≠a->h.get? b=aa o->h'.get? b=aa o
theorem aaa(ho:s.heap.get? a=aa (seqObj "list" vs.toArray n))(h64:vs.length<64)(hg:2<=vs.length->gk vs.length lt (kas_sort vs.length) λp=>KP vs.length p/\Rl p.toList)(hsm:vs.length<2->Rl (fj vs.length))
  (hk:2<=vs.length->∀s':aJ,Kp a s.heap s'.heap->∀Q:SortKind->aJ->Prop,Q κ s'->aX (model prog w) A (keyKind' vs.toArray) Q (λ_ _=>False) s')
  (hl:2<=vs.length->∀s':aJ,Kp a s.heap s'.heap->∀i j,i<vs.length->j<vs.length->∀C:Bool->aJ->Prop,C (lt i j) s'->kas_ask prog w A κ vs i j C s')
  (h:∀(p:List Nat)(h':bw)(c:Nat),p.Perm (fj vs.length)->Rl p->Kp a s.heap h'->h'.get? a=aa (seqObj "list" (p.map λi=>vs.getD i nJ).toArray c)->P (.done (.ret .none)) {s with heap:=h'}):
  aX (model prog w) A (mZ.«list.sort» ⟨[.ref a],[]⟩) P E s:=by
 have lta:a<s.heap.objs.size:=cN ho
 obtain⟨e1,ho1⟩:∃e1,(s.heap.update a (nW λ_=>(#[]:Array Value))).get? a=aa (seqObj "list" #[] e1):=⟨_,get?_update_seq ho λ_=>#[]⟩
 have sz:vs.length<=cH:=by rw[jq];lia
 have kp:Kp a s.heap (((s.heap.update a (nW λ_=>(#[]:Array Value))).push (seqObj "tuple" vs.toArray 0)).push (seqObj "list" #[] 0)):=λb o hb e=>
  cR _ (cR _ (((tR s.heap a _).2 b hb).trans e))
 have Il:(((s.heap.update a (nW λ_=>(#[]:Array Value))).push (seqObj "tuple" vs.toArray 0)).push (seqObj "list" #[] 0)).get? a=aa (seqObj "list" #[] e1):=cR _ (cR _ ho1);rw[list_sort_plain];refine aK (listItems_at ho rfl (aK (listUpdate_at ho rfl (aK (seqEpoch_at ho1 rfl (aK (wpAny_newTuple (aK (JC (mX ?_) (nH _))) (by show vs.length<=_;exact sz))))) (by rw[gG];exact sz) (nH _))));show aX (model prog w) A _ P E {s with heap:=((s.heap.update a (nW λ_=>(#[]:Array Value))).push (seqObj "tuple" vs.toArray 0)).push (seqObj "list" #[] 0)};dsimp only;have fin:∀(p:List Nat),p.Perm (fj vs.length)->Rl p->∀out:Array Value,out=(p.map λi=>vs.getD i nJ).toArray->
   P (.done (.ret .none)) {s with heap:=(((s.heap.update a (nW λ_=>(#[]:Array Value))).push (seqObj "tuple" vs.toArray 0)).push (seqObj "list" #[] 0)).update a (nW λ_=>out)}:=λp hp hrl out eo=>by
  subst eo;refine h p _ _ hp hrl (λb o hb e=>((tR _ a _).2 b hb).trans (kp b o hb e)) (get?_update_seq Il _)
 by_cases h2:vs.toArray.size<2
 .rw[bC h2,bC h2];refine aK (bh ?_);rw[StateT.run_pure];refine aK (bh ?_);dsimp only;have hz:(pairsOf vs).size<=cH:=by rw[pairsOf_size];exact sz
  refine aK (seqEpoch_at Il rfl (aK (listUpdate_at Il rfl ?_ (hsz2:=by rw[Array.size_map];show(pairsOf vs).size<=_;lia))));simp only[bne_self_eq_false,qQ,if_false];refine bh (fin (fj vs.length) (Cd _) (hsm (by simpa using h2)) _ ?_);apply Array.toList_inj.mp
  show((vs.toArray.zip vs.toArray).map (·.2)).toList=_
  rw[Array.toList_map,Array.toList_zip,List.map_snd_zip (cz _)];show vs=_;refine BL (by simp) λi h1 h3=>?_
  simp[qY,h1]
 .have h2':2<=vs.length:=by simpa using h2
  rw[bJ h2,bJ h2];refine aK (qz (hk h2' _ kp (λk s'=>k=κ/\s'={s with heap:=((s.heap.update a (nW λ_=>(#[]:Array Value))).push (seqObj "tuple" vs.toArray 0)).push (seqObj "list" #[] 0)}) ⟨rfl,rfl⟩) (λk s0 hk0=>?_) λ_ _ x=>x.elim)
  obtain⟨rfl,rfl⟩:=hk0
  refine aK (qz (kat_run (ks:=vs) (vs:=vs) (Q:=λst' s'=>∃p:Array Nat,(KP vs.length p/\Rl p.toList)/\arrOf st'=p.map (kas_item (vs.toArray.zip vs.toArray))/\failedOf st'=aj/\s'={s with heap:=((s.heap.update a (nW λ_=>(#[]:Array Value))).push (seqObj "tuple" vs.toArray 0)).push (seqObj "list" #[] 0)})
   rfl h2' h64 (G:=λp s'=>(KP vs.length p/\Rl p.toList)/\s'={s with heap:=((s.heap.update a (nW λ_=>(#[]:Array Value))).push (seqObj "tuple" vs.toArray 0)).push (seqObj "list" #[] 0)}) (λp st' s' a1 a2 a3 a4=>⟨p,a4.1,a2,a3,a4.2⟩) (gk.wp (lt:=lt) (hl h2' _ kp) (λp hp=>⟨hp,rfl⟩) (hg h2'))) ?_ λ_ _ e=>e)
  rintro⟨⟨⟩,st'⟩ s' ⟨p,⟨hp,hrl⟩,har,hf,rfl⟩
  dsimp only;have hout:=kat_snds (ks:=vs) (vs:=vs) rfl har;have hps:p.toList.length=vs.length:=by rw[hp.length_eq,mU]
  rw[hout];refine aK (seqEpoch_at Il rfl (aK (listUpdate_at Il rfl ?_ (nH _) (by rw[gG,bz,hps];lia))));rw[hf];simp only[bne_self_eq_false,qQ,if_false];exact bh (fin p.toList hp hrl _ rfl)
theorem ZV(h64:vs.length<64)(hg:2<=vs.length->gk vs.length lt (kas_sort vs.length) λp=>KP vs.length p/\Rl p.toList)(hsm:vs.length<2->Rl (fj vs.length))
  (hc:∀R:List Value->aJ->Prop,(∀us h1 tk,s.heap.objs.size<=h1.objs.size->(∀b o,s.heap.get? b=aa o->h1.get? b=aa o)->us=vs->R us {s with heap:=h1,toks:=tk})->aX (model prog w) A.in1 (collect (.ref r)) R E s)
  (hk:2<=vs.length->∀s':aJ,(∀b o,s.heap.get? b=aa o->s'.heap.get? b=aa o)->∀Q:SortKind->aJ->Prop,Q κ s'->aX (model prog w) A.in1.in1 (keyKind' vs.toArray) Q (λ_ _=>False) s')
  (hl:2<=vs.length->∀s':aJ,(∀b o,s.heap.get? b=aa o->s'.heap.get? b=aa o)->∀i j,i<vs.length->j<vs.length->∀C:Bool->aJ->Prop,C (lt i j) s'->kas_ask prog w A.in1.in1 κ vs i j C s')
  (h:∀(p:List Nat)(D:aq)(h':bw)(c tk:Nat),p.Perm (fj vs.length)->Rl p->s.heap.objs.size<=D->(∀b o,s.heap.get? b=aa o->h'.get? b=aa o)->h'.get? D=aa (seqObj "list" (p.map λi=>vs.getD i nJ).toArray c)->Q (.ref D) {s with heap:=h',toks:=tk}):
  aX (model prog w) A (call (.builtin "sorted") [.ref r]) Q E s:=by
 refine Oo kind_sorted plain_sorted entry_sorted (args_sorted1 _) ?_;unfold mZ.«sorted»;refine aK (m:=Ri "sorted" 1 1 _) (bh (aK (hc _ λus h1 tk hsz kk eu=>?_)));subst eu;refine aK (JC ?_ (by rw[jq];lia));have hoL:(h1.push (seqObj "list" us.toArray 0)).get? h1.objs.size=aa (seqObj "list" us.toArray 0):=iK _ rfl;have ltD:∀b o,s.heap.get? b=aa o->b≠h1.objs.size:=λb o e=>eU (cN (kk b o e))
 have up:∀s':aJ,Kp h1.objs.size (h1.push (seqObj "list" us.toArray 0)) s'.heap->∀b o,s.heap.get? b=aa o->s'.heap.get? b=aa o:=λs' k b o e=>k b o (ltD b o e) (cR _ (kk b o e))
 refine aK (mX (pF slot_list_sort ⟨_,hoL,rfl⟩ entry_list_sort (aaa (κ:=κ) (lt:=lt) (s:={s with heap:=h1.push (seqObj "list" us.toArray 0),toks:=tk}) hoL h64 hg hsm (λh2 s' k=>hk h2 s' (up s' k)) (λh2 s' k=>hl h2 s' (up s' k)) λp h' c hp hrl k e=>⟨_,rfl,?_⟩) (args_list_sort _)));exact bh ⟨_,rfl,h p h1.objs.size h' c tk hp hrl hsz (up {s with heap:=h'} k) e⟩
end
def yR(h:bw)(d:aq)(es:Array DictEntry)(ep:Nat):Prop:=∃o,h.get? d=aa o/\o.ExactDict/\o.data=.dict es ep
section
variable{prog:bQ}{w:bK}{A:cV}{E:Value->aJ->Prop}{s:aJ}{d it:aq}{es:Array DictEntry}{ep i:Nat}
theorem yR.ty(h:yR s.heap d es ep):s.TypeIs (.ref d) "dict":=let ⟨o,ho,hc,_⟩:=h;⟨o,ho,hc.1⟩
theorem aj0(hd:(d==tX)=aL)(hm:yR s.heap d es ep)
  (hQ:Q (.ref s.heap.objs.size) {s with heap:=s.heap.push {cls:=.type "dict_keyiterator",data:=.fields #[.ref d,.int 0 0,.int es.size 0,.int ep 0]}}):aX (model prog w) A (Dz (.ref d)) Q E s:=by
 obtain⟨o,ho,hc,hdat⟩:=id hm
 have hT:=hm.ty;refine Yb hT agA (pF agA hT F.entry_dict_iter ?_ (F.args_dict_iter_1 _));unfold mZ.«dict.__iter__»;refine aK ?_;unfold arj;refine aK (afG hT ?_);show aX _ _ (pure (eV d)) _ _ s
 refine bh ?_;show aX _ _ (afH d >>= _) _ _ s
 unfold afH;rw[bJ (by rw[hd];exact jo)];refine aK (bh (aK (Yc ho hdat (aK (Yv ho hdat ?_)))));refine aK (nF (bh ⟨_,rfl,"dict_keyiterator",_,⟨_,iK _ rfl,rfl⟩,F.slot_dict_keyiterator_next.lookup,?_⟩));simpa[jC] using hQ
theorem aj1(hit:s.heap.IsKeyIter it d i es.size ep)(hm:yR s.heap d es ep)(hlt:i<es.size)
  (hQ:∀h',h'.IsKeyIter it d (i+1) es.size ep->zR it s.heap h'->Q (aa es[i].key) {s with heap:=h'}):aX (model prog w) A (m7 (.ref it)) Q E s:=by
 obtain⟨o,ho,hc,hd⟩:=id hit;obtain⟨od,hod,hcd,hdd⟩:=id hm
 unfold m7;refine aK (FZ (zy (name:=eZ "__next__") hit.typeIs Oi (pF Oi hit.typeIs afh ?_ (afg _))));refine aK (bh ?_);refine aK ?_;refine aK ?_
 first|refine aK (Oh hit.typeIs (bh (aK (zN ho hd ?_))))|refine aK (Ou hit.typeIs (bh (aK (zN ho hd ?_))))
 have own:afi "dict_keyiterator"=aL:=by decide
 simp only[own,qQ,if_false];show aX _ _ (if(eV d==nJ)=ao then _ else _) _ _ s
 rw[bJ (show ¬((eV d==nJ)=ao) from jo)];refine aK (bh (aK (Yc hod hdd ?_)));rw[bJ (by simp)];refine aK (bh (aK (Yv hod hdd ?_)));rw[bJ (by simp)];refine bh ?_;simp only[show ¬((i:Int)<0) from by lia,if_false,zE,nQ hlt];refine aK ?_
 first|refine aK (Oh hit.typeIs (bh (aK (XH hit.typeIs ?_))))|refine aK (Ou hit.typeIs (bh (aK (XH hit.typeIs ?_))))
 show aX _ _ (setField (.ref it) 1 (jC ((i:Int)+1)) >>= _) _ _ s;refine aK (zO ho hd (by simp) ?_);have hit':(s.heap.update it (Y9 (·.setIfInBounds 1 (jC ((i:Int)+1))))).IsKeyIter it d (i+1) es.size ep:=⟨_,zA _ ho (afI (O4 hd _)),(agi ..).trans hc,by rw[O4 hd];simp[jC]⟩
 refine aK (mX ?_);refine aK (XH (s:={s with heap:=s.heap.update it (Y9 (·.setIfInBounds 1 (jC ((i:Int)+1))))}) hit'.typeIs ?_);show aX _ _ (pure es[i].key) _ _ _;exact bh (bh ⟨_,rfl,bh (hQ _ hit' (tR ..))⟩)
theorem ali(hh:A.handled=aj)(hit:s.heap.IsKeyIter it d i es.size ep)(hm:yR s.heap d es ep)(hge:es.size<=i)
  (hQ:∀h',Heap.ExtBut it s.heap h'->Q aj {s with heap:=h'}):aX (model prog w) A (m7 (.ref it)) Q E s:=by
 obtain⟨o,ho,hc,hd⟩:=id hit;obtain⟨od,hod,hcd,hdd⟩:=id hm
 unfold m7;refine aK (FZ (zy (name:=eZ "__next__") hit.typeIs Oi (pF Oi hit.typeIs afh ?_ (afg _))));refine aK (bh ?_);refine aK ?_;refine aK ?_
 first|refine aK (Oh hit.typeIs (bh (aK (zN ho hd ?_))))|refine aK (Ou hit.typeIs (bh (aK (zN ho hd ?_))))
 have own:afi "dict_keyiterator"=aL:=by decide
 simp only[own,qQ,if_false];show aX _ _ (if(eV d==nJ)=ao then _ else _) _ _ s
 rw[bJ (show ¬((eV d==nJ)=ao) from jo)];refine aK (bh (aK (Yc hod hdd ?_)));rw[bJ (by simp)];refine aK (bh (aK (Yv hod hdd ?_)));rw[bJ (by simp)];refine bh ?_;simp only[show ¬((i:Int)<0) from by lia,if_false,zE,XC hge];refine aK ?_
 first|refine aK (Oh hit.typeIs (bh ?_))|refine aK (Ou hit.typeIs (bh ?_))
 show aX _ _ (setField (.ref it) 0 .none >>= _) _ _ s;refine aK (zO ho hd (by simp) ?_);show aX _ _ (newExc (.type "StopIteration") [] >>= _) _ _ _;refine aK ?_;simp only[newExc,newTuple];refine aK (nF ?_ (by size_fits));refine aK (m:=PX _ _) (ZW (a:=nJ) (by first|rfl|(simp only[PX];rfl)) ?_);refine nF ?_ (by size_fits);simp only[raiseNew];refine aK (wpAny_handled ?_);rw[show A.in1.handled=aj from hh];refine aK (bh (wpAny_throw ?_));refine aK (Ym (T:="StopIteration") (b:=ao) ⟨_,iK _ rfl,rfl⟩ isSubtype_stop ?_);exact bh (hQ _ (((tR ..).extBut.push _).push _))
theorem ai0(hh:A.handled=aj)(hne:d≠it):yI prog w A it [it,d] [it] es.size (λi v=>(es[i]?).map (·.key)=aa v) (λi h=>h.IsKeyIter it d i es.size ep/\yR h d es ep) where
 sub:=λb hb=>by simp at hb;simp[hb]
 frame:=λ_ _ _ st hk=>⟨st.1.at λo e=>hk it (by simp) o e,let ⟨o,ho,r⟩:=st.2;⟨o,hk d (by simp) o ho,r⟩⟩
 item:=λi s Q E hi st hQ=>aj1 st.1 st.2 hi λh' hit' hs'=>hQ _ h' s.toks (by simp[hi]) ⟨hit',let ⟨o,ho,r⟩:=st.2;⟨o,(hs'.2 d hne).trans ho,r⟩⟩ λb o hb e=>(hs'.2 b λz=>hb (by simp[z])).trans e
 done:=λs Q E st hQ=>ali hh st.1 st.2 (cz _) λh' he'=>hQ h' s.toks λb o hb e=>he' b o (λz=>hb (by simp[z])) e
 self:=λ_ _ _ _ st hQ=>wpAny_pyIter_keyiter st.1 hQ
theorem alj(lo:(d==tX)=aL):KdlSrc prog w "dict" d d es.size (λi v=>(es[i]?).map (·.key)=aa v) (λh=>yR h d es ep) where
 type:=λ_ hm=>hm.ty
 there:=λ_ hm=>let ⟨_,ho,_⟩:=hm;⟨cN ho,cN ho⟩
 keep:=λ_ _ hm hk=>let ⟨o,ho,r⟩:=hm;⟨o,hk d (.inl rfl) o ho,r⟩
 notList:=by decide
 notTuple:=by decide
 hint:=λ_ _ _ _ hm hq=>kdl_hint_dict hm.ty hq
 iter:=λ_ _ hh hm=>⟨_,_,(λ_ _ hq=>aj0 lo hm hq),ai0 hh (let ⟨_,ho,_⟩:=hm;eU (cN ho)),⟨⟨_,iK _ rfl,rfl,rfl⟩,let ⟨o,ho,r⟩:=hm;⟨o,cR _ ho,r⟩⟩⟩
theorem ZX(K:KdlSrc prog w T r d n P OK)(hh:A.handled=aj)(hok:OK s.heap)(hn:n<=cH)
  (h:∀(h':bw)(tk:Nat)(acc:Array Value),s.heap.objs.size<=h'.objs.size->(∀b o,s.heap.get? b=aa o->h'.get? b=aa o)->ItemsOf P acc n->R acc.toList {s with heap:=h',toks:=tk}):
  aX (model prog w) A (collect (.ref r)) R E s:=by
 have hlt:=K.there _ hok;unfold collect;refine aK (wpAny_runValue (xV entry_proto_collect' ?_));rw[xN afj _];show aX _ A.in1 (newList [] >>= λl=>again (.builtin "list.__iadd__" ⟨[l,.ref r],[]⟩)) _ _ s;refine aK (nF ?_);refine bh ⟨wz Ov _,xV entry_list_iadd' ?_⟩;rw[xN Ov _];have hS:(s.heap.push {cls:=.type "list",data:=.seq ([]:List Value).toArray}).get? s.heap.objs.size=aa {cls:=.type "list",data:=.seq #[]}:=iK _ rfl;show aX _ A.in1 (Oj (.ref s.heap.objs.size) (.ref r) (.ref s.heap.objs.size)) _ _ _;have key:=kdl_extend (A:=A) (s:={s with heap:=s.heap.push {cls:=.type "list",data:=.seq ([]:List Value).toArray}}) (R:=λ(q:sE)(s':aJ)=>∃(h':bw)(tk:Nat)(acc':Array Value)(c':Nat),q=.ok (.ret (.ref s.heap.objs.size))/\s'={s with heap:=h',toks:=tk}/\(∀b o,s.heap.get? b=aa o->h'.get? b=aa o)/\h'.get? s.heap.objs.size=aa {cls:=.type "list",dict:=aj,data:=.seq acc' c',slots:=#[]}/\ItemsOf P acc' n)
  K hh (K.keep _ _ hok λb _ o e=>cR _ e) s.heap.objs.size (zT hlt.1) (zT hlt.2) (.ref s.heap.objs.size) 0 hS (λh' tk acc' c' hk hS' hacc=>⟨h',tk,acc',c',rfl,rfl,λb o e=>hk b o (eU (cN e)) (cR _ e),hS',hacc⟩) hn
 refine qz key (λfin s' x=>?_) λe s' x=>?_
 .cases fin with
  |done f=>
   obtain⟨h',tk,acc',c',e,rfl,hk,hS',hacc⟩:=x
   cases e;show aX _ A (load s.heap.objs.size >>= _) _ _ _
   exact aK (J7 hS' (bh (h h' tk acc' (yc (cN hS')) hk hacc)))
  |again c₁=>
   refine⟨x.1,JL x.2 λq s₂ y=>?_⟩
   obtain⟨h',tk,acc',c',rfl,rfl,hk,hS',hacc⟩:=y
   show aX _ A (load s.heap.objs.size >>= _) _ _ _;exact aK (J7 hS' (bh (h h' tk acc' (yc (cN hS')) hk hacc)))
 .obtain⟨_,_,_,_,e',_⟩:=x;cases e'
end
theorem Ks:∀{us:List Value}{ns:List Str},StrsAre us ns->Vals (ns.map V.str) us
 |_,_,.nil=>.nil
 |_,_,.cons _ t r=>.cons ⟨t,rfl⟩ (Ks r)
section
variable{X:Cx}
theorem agB:iI X (.builtin "sorted") (λxs H Q=>∃(p:aq)(ns:List Int),xs=[.ref p]/\bU X.K H p (ns.map V.int)/\ns.length<64/\∀(l:aq)(ns':List Int),H l=aj->ns'.Perm ns->ns'.Pairwise (·<=·)->Q (.ref l) (upd H l (.lst (ns'.map V.int)))):=by
 intro pins s σ H xs us Q I r h
 obtain⟨p,ns,rfl,hp,h64,q⟩:=h
 obtain⟨u,rfl,ru⟩:=vals1 r
 cases ru
 obtain⟨its,rv,pl,_⟩:=I.list hp
 have hi:IntsAre its ns:=intsAre_of rv;have hl:=rv.length;rw[bz] at hl;refine sorted_ints pl.isList hi (by lia) λout ns' a1 a2 a3=>?_
 obtain⟨e,he⟩:=sortedAll_at s.heap its out
 have hz:ns'.length<=cH:=by rw[a2.length_eq,jq];lia
 exact⟨.ref (s.heap.objs.size+1),_,I.laid (o:=.lst (ns'.map V.int)) (t':=s.toks) (λ_ _=>sortedAll_old) (wA _) ⟨by rw[bz];exact hz,out.toList,e,RC a1,by simpa[seqObj] using he⟩,rfl,q _ ns' (I.hok.fresh (wA _)) a2 a3⟩
theorem agC:iI X (.builtin "sorted") (λxs H Q=>∃(p:aq)(ns:List Str),xs=[.ref p]/\bU X.K H p (ns.map V.str)/\ns.length<64/\∀(l:aq)(ns':List Str),H l=aj->ns'.Perm ns->sortedS ns'=ao->Q (.ref l) (upd H l (.lst (ns'.map V.str)))):=by
 intro pins s σ H xs us Q I r h
 obtain⟨p,ns,rfl,hp,h64,q⟩:=h
 obtain⟨u,rfl,ru⟩:=vals1 r
 cases ru
 obtain⟨its,rv,pl,_⟩:=I.list hp
 have hi:StrsAre its ns:=Ka rv;have hl:=rv.length;rw[bz] at hl;refine sorted_strs pl.isList hi (by lia) λout ns' a1 a2 a3=>?_
 obtain⟨e,he⟩:=sortedAll_at s.heap its out
 have hz:ns'.length<=cH:=by rw[a2.length_eq,jq];lia
 exact⟨.ref (s.heap.objs.size+1),_,I.laid (o:=.lst (ns'.map V.str)) (t':=s.toks) (λ_ _=>sortedAll_old) (wA _) ⟨by rw[bz];exact hz,out.toList,e,Ks a1,by simpa[seqObj] using he⟩,rfl,q _ ns' (I.hok.fresh (wA _)) a2 a3⟩
theorem jD.bR(r:jD k A):A.units+1<jc:=by have:=r.un;lia
abbrev Row:=aq×List Key
def TupAt(h:bw)(r:Row):Prop:=∃its,Vals (r.2.map kV) its/\IsTup h r.1 its.toArray
theorem TupAt.keep(t:TupAt h r)(k:∀b o,h.get? b=aa o->h'.get? b=aa o):TupAt h' r:=by
 obtain⟨its,v,o,e,c⟩:=t
 exact⟨its,v,o,k _ _ e,c⟩
theorem aci:∀{rows:List Row},(∀r∈rows,TupAt h r/\r.2.map cJ=b::sh)->∃fs,KatTups h (rows.map λr=>eV r.1) fs/\fs.length=rows.length/\∀f∈fs,∃k,RelV (kV k) f/\cJ k=b
 |[],_=>⟨[],KatTups.nil,rfl,by simp⟩
 |r::rows,ha=>by
  obtain⟨fs,t,l,g⟩:=aci (rows:=rows) λq hq=>ha q (gh _ hq)
  obtain⟨⟨its,v,o,e,c,n,d⟩,s⟩:=ha r dH
  obtain⟨a,ks⟩:=r
  cases ks with
  |nil=>cases s
  |cons k ks=>
   cases v with
   |@cons _ u _ us v1 v2=>
    refine⟨u::fs,KatTups.cons e c d (by simp) t,by simp[l],λf hf=>?_⟩
    rcases cM.mp hf with rfl|hf
    .exact⟨k,v1,(FW s).1⟩
    .exact g f hf
theorem ai1(r:RelV (kV k) f)(e:cJ k=b):Looks M h (typeOf f) (if b=ao then .type "int" else .type "str"):=by
 subst e;cases k with
 |inl i=>obtain⟨t,rfl⟩:=r;exact Looks.of_pure rfl
 |inr i=>obtain⟨t,rfl⟩:=r;exact Looks.of_pure rfl
theorem SJ(rows:List Row)(hi:i<rows.length):(rows.map λr=>eV r.1).getD i nJ=.ref rows[i].1:=by simp[qY,hi]
def rowAt(rows:List Row)(i:Nat):List Key:=((rows[i]?).map (·.2)).getD []
theorem RG{prog:bQ}{w:bK}{A:cV}{s':aJ}{rows:List Row}{b:Bool}{sh:List Bool}(ha:∀r∈rows,TupAt s'.heap r/\r.2.map cJ=b::sh)(h0:0<rows.length)(Q:SortKind->aJ->Prop)(q:Q (tuples' ao) s'):
  aX (model prog w) A (keyKind' (rows.map λr=>eV r.1).toArray) Q (λ_ _=>False) s':=by
 obtain⟨fs,t,l,g⟩:=aci ha
 refine kat_kind (T:=if b=ao then .type "int" else .type "str") t (by lia) (λv hv=>?_) (by cases b<;>rfl) (by cases b<;>exact q)
 obtain⟨k,r,e⟩:=g v hv
 exact ai1 r e
theorem alk(ha:∀r∈rows,TupAt s'.heap r/\r.2.map cJ=sh)(hi:i<rows.length)(hj:j<rows.length)(C:Bool->aJ->Prop)(q:C (jE (rowAt rows i) (rowAt rows j)) s'):
  kas_ask prog w A (tuples' ao) (rows.map λr=>eV r.1) i j C s':=by
 obtain⟨⟨its,v,o,e,c,n,d⟩,s1⟩:=ha rows[i] (zJ hi)
 obtain⟨⟨its2,v2,o2,e2,c2,n2,d2⟩,s2⟩:=ha rows[j] (zJ hj)
 unfold kas_ask;rw[SJ rows hi,SJ rows hj];have l1:=v.length;have l2:=v2.length;have l3:rows[i].2.length=rows[j].2.length:=by
  have:=congrArg qx (s1.trans s2.symm);simpa using this
 refine kat_lt e d e2 d2 ?_;have ez:decide (its.toArray.size<its2.toArray.size)=aL:=by
  rw[dY];simp only[gG];rw[bz] at l1 l2;lia
 rw[ez];have q':C (jE rows[i].2 rows[j].2) s':=by
  unfold rowAt at q;rw[j7 hi,j7 hj] at q;exact q
 exact abg (by simpa using v) (by simpa using v2) (s1.trans s2.symm) q'
theorem Ku{rows:List Row}{p:List Nat}(h:p.Perm (fj rows.length)):(p.map λi=>rows.getD i (0,[])).Perm rows:=by
 have e:(fj rows.length).map (λi=>rows.getD i (0,[]))=rows:=BL (by simp) λi h1 h2=>by simp[qY,h2]
 exact(h.map _).trans (by rw[e])
theorem RJ{rows:List Row}{p:List Nat}(h:p.Perm (fj rows.length)):(p.map λi=>(rows.map λr=>eV r.1).getD i nJ)=(p.map λi=>rows.getD i (0,[])).map λr=>eV r.1:=by
 rw[gZ];refine xR λi hi=>?_
 have hlt:=rT.mp (h.mem_iff.mp hi);rw[SJ rows hlt];simp[qY,hlt]
theorem acj:∀{rows:List Row}{us:List Value},Vals (rows.map λr=>V.ref r.1) us->us=rows.map λr=>eV r.1
 |[],_,h=>by cases h;rfl
 |r::rows,_,h=>by
  cases h with
  |cons a b=>
   cases a;rw[acj b];rfl
theorem Kv:∀(rows:List Row),Vals (rows.map λr=>V.ref r.1) (rows.map λr=>eV r.1)
 |[]=>.nil
 |r::rows=>.cons rfl (Kv rows)
end
section
variable{K:aQ}{T:iT}{J:It}{n:Nat}{vs:Nat->List V}{G:Hp->Prop}{ts:TT}{em:TM}{fs:St}{H0 H1:Hp}{D:aq}{done:Hp->Prop}
end
theorem aj2(A:cV)(s:aJ)(ra:RelV (kV a) u)(rb:RelV (kV b) v)(ht:cJ a=cJ b):Z5 A s u v (decide (a=b)):=by
 rw[<-ach ht];exact U4 ra rb (K3 a) (K3 b)
theorem abh(A:cV)(s:aJ)(ra:RelV (kV a) u)(rb:RelV (kV b) v)(ht:cJ a=cJ b)(prog:bQ)(w:bK)(E:Value->aJ->Prop)(Q:Value->aJ->Prop)(h:Q (.bool (kLt a b)) s):
  aX (model prog w) A (Gg .Lt u v) Q E s:=by
 cases a with
 |inl i=>
  cases b with
  |inr y=>cases ht
  |inl j=>
   obtain⟨t,rfl⟩:=ra
   obtain⟨t',rfl⟩:=rb
   exact(lt_int h:aX (model prog w) A (gq .Lt _ _) Q E s)
 |inr x=>
  cases b with
  |inl y=>cases ht
  |inr y=>
   obtain⟨t,rfl⟩:=ra
   obtain⟨t',rfl⟩:=rb
   exact(lt_str h:aX (model prog w) A (gq .Lt _ _) Q E s)
section
open PySem.SeqAt
open PySem.AutoSeq1 (wpAny_loadPart')
open PySem.MeetsSeq PySem.MeetsSeq2 PySem.MeetsSeq3
theorem ag6(l b:aq)(items items2:Array Value)(n n2:Nat)(dd dd2:Option aq)(sl sl2:Array (Option Value))(ns ms:List Key)(hi:Vals (ns.map kV) items.toList)(hj:Vals (ms.map kV) items2.toList)(hty:ns.map cJ=ms.map cJ):
  Meets (mZ.«tuple.__lt__» ⟨[.ref l,.ref b],[]⟩)
   (λ_ R s=>s.heap.get? l=aa {cls:=.type "tuple",dict:=dd,data:=.seq items n,slots:=sl}/\s.heap.get? b=aa {cls:=.type "tuple",dict:=dd2,data:=.seq items2 n2,slots:=sl2}/\R (.ok (.ret (.bool (jE ns ms)))) s):=
 .of_wp λprog w A R s h=>by
  obtain⟨hp,g,d,tk,os⟩:=s;obtain⟨hl,hb,h⟩:=h
  have f2:=AutoSeq1.sub_tuple_tuple;have z0:ns.length=ms.length:=by have:=congrArg qx hty;simpa using this
  have z1:items.size=ns.length:=by have:=hi.length;rw[bz] at this;simpa using this.symm
  have z2:items2.size=ms.length:=by have:=hj.length;rw[bz] at this;simpa using this.symm
  wp_walk using wpAny_loadPart' hl,wpAny_loadPart' hb,wpAny_forIn_list _ (λrest b s'=>b.1=aj/\s'=⟨hp,g,d,tk,os⟩/\∃(vs ws:List Value)(ns' ms':List Key),rest=vs.zip ws/\
   Vals (ns'.map kV) vs/\Vals (ms'.map kV) ws/\ns'.map cJ=ms'.map cJ/\R (.ok (.ret (.bool (jE ns' ms')))) ⟨hp,g,d,tk,os⟩) _
  case turn=>
   rintro⟨y,x⟩ rest b s' ⟨hb',rfl,vs,ws,ns',ms',hz,NB,hwi,hlen,hR⟩
   cases ns' with
   |nil=>cases NB;rw[List.zip_nil_left] at hz;cases hz
   |cons a ns'=>
    cases ms' with
    |nil=>cases hlen
    |cons c ms'=>
     cases NB with
     |cons r1 aek=>
      cases hwi with
      |cons r2 ael=>
       rw[X4] at hz;injection hz with hyx hrest
       injection hyx with hy hx
       subst hy hx;have t1:cJ a=cJ c:=(FW hlen).1;have t2:=(FW hlen).2;unfold jE at hR;refine aK (aj2 A.in1 ⟨hp,g,d,tk,os⟩ r1 r2 t1 prog w _ _ ?_);by_cases hac:a=c
       .rw[bC hac] at hR;rw[dZ hac];wp_walk
        exact⟨rfl,rfl,_,_,_,_,hrest,aek,ael,t2,hR⟩
       .rw[bJ hac] at hR;rw[dY hac];have hri:=abh A.in1 ⟨hp,g,d,tk,os⟩ r1 r2 t1 prog w;wp_walk using hri
        exact⟨_,rfl,by simpa using hR⟩
  case fin=>
   rintro⟨b1,b2⟩ s' ⟨hb',rfl,vs,ws,ns',ms',hz,NB,hwi,hlen,hR⟩
   simp only at hb';subst hb';have hv:jE ns' ms'=decide (items.size<items2.size):=by
    rw[dY (by lia)];cases ns' with
    |nil=>unfold jE;rfl
    |cons a ns'=>
     cases ms' with
     |nil=>cases hlen
     |cons c ms'=>
      cases NB with
      |cons r1 aek=>
       cases hwi with
       |cons r2 ael=>
        rw[X4] at hz;cases hz
   rw[hv] at hR;wp_walk
   exact⟨_,rfl,by simpa[aqZ] using hR⟩
  case h=>
   exact⟨rfl,rfl,items.toList,items2.toList,ns,ms,rfl,hi,hj,hty,h⟩
end
theorem aab(hl:IsTup s.heap l items)(hb:IsTup s.heap b items2)(hi:Vals (ns.map kV) items.toList)(hj:Vals (ms.map kV) items2.toList)(hty:ns.map cJ=ms.map cJ)
  (hu:A.units<jc)(h:Q (.bool (jE ns ms)) s):aX (model prog w) A (gq .Lt (.ref l) (.ref b)) Q E s:=by
 obtain⟨⟨cls,dd,data,sl⟩,ho,hc,n,hd⟩:=id hl
 obtain⟨⟨cls2,dd2,data2,sl2⟩,ho2,hc2,n2,hd2⟩:=id hb
 simp only at hc hd hc2 hd2;subst hc hd hc2 hd2;exact richCompare_meets_room (op:=.Lt) ⟨_,ho,rfl⟩ ⟨_,ho2,rfl⟩ PySem.F.slot_tuple_lt PySem.F.entry_tuple_lt (PySem.F.args_tuple_lt_2 _ _) (ag6 l b items items2 n n2 dd dd2 sl sl2 ns ms hi hj hty)
  ⟨ho,ho2,show uV (jE ns ms)≠Value.notImplemented/\Q (.bool (jE ns ms)) s from⟨(λx=>nomatch x),h⟩⟩ hu
mutual
def RX(H:Hp):aC->V->Prop
 |.none,v=>v=.non
 |.bool b,v=>v=.bl b
 |.int i,v=>v=.int i
 |.str x,v=>v=.str x
 |.list ds,v=>∃a vs,v=.ref a/\H a=aa (.lst vs)/\oO H ds vs
 |.tuple ds,v=>∃a vs,v=.ref a/\H a=aa (.tup vs)/\oO H ds vs
 |.dict _,_=>False
def oO(H:Hp):List aC->List V->Prop
 |[],vs=>vs=[]
 |d::ds,vs=>∃v r,vs=v::r/\RX H d v/\oO H ds r
end
mutual
theorem RX.same(s:bW H H'):∀{d:aC}{v:V},RX H d v->RX H' d v
 |.none,_,h=>h
 |.bool _,_,h=>h
 |.int _,_,h=>h
 |.str _,_,h=>h
 |.list ds,_,h=>by
  obtain⟨a,vs,e,q,r⟩:=h
  exact⟨a,vs,e,s _ _ q,oO.same s r⟩
 |.tuple ds,_,h=>by
  obtain⟨a,vs,e,q,r⟩:=h
  exact⟨a,vs,e,s _ _ q,oO.same s r⟩
theorem oO.same(s:bW H H'):∀{ds:List aC}{vs:List V},oO H ds vs->oO H' ds vs
 |[],_,h=>h
 |d::ds,vs,h=>by
  obtain⟨v,r,e,q,t⟩:=h
  exact⟨v,r,e,RX.same s q,oO.same s t⟩
end
mutual
theorem RX.rd{K:aQ}{H:Hp}:∀{d:aC}{v:V},RX H d v->RD K H d v
 |.none,_,h=>h
 |.bool _,_,h=>h
 |.int _,_,h=>h
 |.str _,_,h=>h
 |.list ds,_,h=>by
  obtain⟨a,vs,e,q,r⟩:=h
  exact⟨a,vs,e,bU.of q,oO.rd r⟩
 |.tuple ds,_,h=>by
  obtain⟨a,vs,e,q,r⟩:=h
  exact⟨a,vs,e,dD.of q,oO.rd r⟩
theorem oO.rd{K:aQ}{H:Hp}:∀{ds:List aC}{vs:List V},oO H ds vs->qg K H ds vs
 |[],_,h=>h
 |d::ds,vs,h=>by
  obtain⟨v,r,e,q,t⟩:=h
  exact⟨v,r,e,RX.rd q,oO.rd t⟩
end
def Im:aC->Value
 |.none=>.type "NoneType"
 |.bool _=>.type "bool"
 |.int _=>.type "int"
 |.str _=>.type "str"
 |.list _=>.type "list"
 |.tuple _=>.type "tuple"
 |.dict _=>.type "dict"
theorem RX.ty{K:aQ}{H:Hp}{d:aC}{v:V}(h:RX H d v):oK K H v (Im d):=by
 cases d with
 |none=>cases(show v=.non from h);exact .non
 |bool b=>cases(show v=.bl b from h);exact .bl b
 |int i=>cases(show v=.int i from h);exact .int i
 |str x=>cases(show v=.str x from h);exact .str x
 |list ds=>obtain⟨a,vs,rfl,e,_⟩:=h;exact .lst e
 |tuple ds=>obtain⟨a,vs,rfl,e,_⟩:=h;exact .tup e
 |dict ds=>exact(show False from h).elim
section
variable{X:Cx}
theorem aia(hu:X.A.units<jc):dB X (gq .Lt) (λx y H Q=>∃a b ks js,x=.ref a/\y=.ref b/\H a=aa (.tup (ks.map kV))/\H b=aa (.tup (js.map kV))/\ks.map cJ=js.map cJ/\Q (.bl (jE ks js)) H):=by
 intro pins s σ H x y v u Q I rx ry h
 obtain⟨a,b,ks,js,rfl,rfl,ha,hb,ht,q⟩:=h
 cases rx;cases ry
 obtain⟨_,its,r1,p1⟩:=(show gj X.prog X.w H s.heap a (.tup (ks.map kV)) from I.hok a _ ha)
 obtain⟨_,its2,r2,p2⟩:=(show gj X.prog X.w H s.heap b (.tup (js.map kV)) from I.hok b _ hb)
 exact aab p1 p2 (by simpa using r1) (by simpa using r2) ht hu (gW I q rfl)
theorem Kc(hu:X.A.units<jc):dB X (gq .Lt) (λx y H Q=>(∃a b,x=kV a/\y=kV b/\cJ a=cJ b/\Q (.bl (kLt a b)) H)\/∃a b ks js,x=.ref a/\y=.ref b/\H a=aa (.tup (ks.map kV))/\H b=aa (.tup (js.map kV))/\ks.map cJ=js.map cJ/\Q (.bl (jE ks js)) H):=by
 refine dB.or ?_ (aia hu);intro pins s σ H x y v u Q I rx ry h
 obtain⟨a,b,rfl,rfl,ht,q⟩:=h
 exact abh X.A s rx ry ht _ _ _ _ (gW I q rfl)
end
structure Ord(lt:Nat->Nat->Bool):Prop where
 aem:∀a b,lt a b=ao->lt b a=aL
 trans:∀a b c,lt b a=aL->lt c b=aL->lt c a=aL
section
variable{N:Nat}{lt:Nat->Nat->Bool}(O:Ord lt)
abbrev at0(p:Array Nat)(i:Nat):Nat:=p.getD i 0
def Up(lt:Nat->Nat->Bool)(p:Array Nat)(n:Nat):Prop:=∀i j,i<j->j<n->lt (at0 p j) (at0 p i)=aL
def Dn(lt:Nat->Nat->Bool)(p:Array Nat)(n:Nat):Prop:=∀i j,i<j->j<n->lt (at0 p i) (at0 p j)=aL
theorem U8(p:Array Nat)(i:Nat):at0 p i=(p[i]?).getD 0:=uM
theorem adf(hj:j<=p.size)(k:Nat):at0 (kas_rev p i j) k=if i<=k/\k<j then at0 p (i+j-1-k) else at0 p k:=by
 rw[U8,U8,U8];unfold kas_rev;rw[getElem?_mirror_all hj];split<;>rfl
theorem KP.size(h:KP N p):p.size=N:=by
 have:=h.length_eq;rw[mU] at this;simpa using this
include O
theorem Up.succ(h:Up lt p n)(hn:1<=n)(hs:lt (at0 p n) (at0 p (n-1))=aL):Up lt p (n+1):=λi j hij hj=>by
 by_cases e:j<n
 .exact h i j hij e
 .have ej:j=n:=by lia
  subst ej;by_cases ei:i=j-1
  .rw[ei];exact hs
  .exact O.trans _ _ _ (h i (j-1) (by lia) (by lia)) hs
theorem Dn.succ(h:Dn lt p n)(hn:1<=n)(hs:lt (at0 p (n-1)) (at0 p n)=aL):Dn lt p (n+1):=λi j hij hj=>by
 by_cases e:j<n
 .exact h i j hij e
 .have ej:j=n:=by lia
  subst ej;by_cases ei:i=j-1
  .rw[ei];exact hs
  .exact O.trans _ _ _ hs (h i (j-1) (by lia) (by lia))
theorem Dn.turn(h:Dn lt p n)(hn:n<=p.size):Up lt (kas_rev p 0 n) n:=λa b hab hb=>by
 rw[adf hn,adf hn,bC ⟨by lia,by lia⟩,bC ⟨by lia,by lia⟩];exact h _ _ (by lia) (by lia)
end
theorem alm(h:kLt a b=ao):kLt b a=aL:=by
 cases a with
 |inl i=>
  cases b with
  |inr y=>cases h
  |inl j=>have:=of_decide_eq_true h;exact dY (by lia)
 |inr x=>
  cases b with
  |inl y=>cases h
  |inr y=>exact KeyOrd.klt_asymm (O:=strKind.toKeyOrd) (a:=x.cps.toList) (b:=y.cps.toList) h
theorem amY(t1:cJ a=cJ b)(t2:cJ b=cJ c)(h:kLt a c=ao):kLt a b=ao\/kLt b c=ao:=by
 cases a with
 |inl i=>
  cases b with
  |inr y=>cases t1
  |inl j=>
   cases c with
   |inr y=>cases t2
   |inl k=>
    have h1:=of_decide_eq_true h;by_cases h2:i<j
    .exact .inl (dZ h2)
    .exact .inr (dZ (by lia))
 |inr x=>
  cases b with
  |inl y=>cases t1
  |inr y=>
   cases c with
   |inl k=>cases t2
   |inr z=>exact strKind.negTrans x.cps.toList y.cps.toList z.cps.toList h
theorem str_of_list{x y:Str}(h:x.cps.toList=y.cps.toList):x=y:=by
 cases x;cases y;simp at h;simp[h]
theorem amZ(t:cJ a=cJ b)(h1:kLt a b=aL)(h2:kLt b a=aL):a=b:=by
 cases a with
 |inl i=>
  cases b with
  |inr y=>cases t
  |inl j=>
   have g1:=of_decide_eq_false h1;have g2:=of_decide_eq_false h2;have:i=j:=by lia
   rw[this]
 |inr x=>
  cases b with
  |inl y=>cases t
  |inr y=>
   have:=strKind.total x.cps.toList y.cps.toList h1 h2;rw[str_of_list this]
def wR(rows:List Row)(i:Nat):List Key:=(rows.getD i (rows.headD (0,[]))).2
def m8(rows:List Row)(i j:Nat):Bool:=jE (wR rows i) (wR rows j)
def runK{α:Type}(lt:Nat->Nat->Bool):KasT α->α
 |.ret a=>a
 |.ask i j k=>runK lt (k (lt i j))
theorem gk.run:∀{t:KasT α},gk N lt t R->gk N lt t (λa=>R a/\a=runK lt t)/\R (runK lt t)
 |.ret a,h=>⟨⟨h,rfl⟩,h⟩
 |.ask i j k,h=>let r:=gk.run h.2.2;⟨⟨h.1,h.2.1,r.1⟩,r.2⟩
def sX(ks:List (List Key)):List Nat:=if ks.length<2 then fj ks.length else(runK (λi j=>jE (ks.getD i (ks.headD [])) (ks.getD j (ks.headD []))) (kas_sort ks.length)).toList
def uB(ks:List (List Key)):List (List Key):=(sX ks).map λi=>ks.getD i (ks.headD [])
theorem ai2(ks:List (List Key)):(sX ks).Perm (fj ks.length):=by
 unfold sX;split
 .exact Cd _
 .exact(gk.run (acg (lt:=λi j=>jE (ks.getD i (ks.headD [])) (ks.getD j (ks.headD []))) (by lia))).2
theorem ai3(ks:List (List Key)):(uB ks).Perm ks:=by
 have:=(ai2 ks).map λi=>ks.getD i (ks.headD [])
 refine this.trans (agO ?_);refine BL (by simp) λi h1 h2=>?_
 simp[h2]
theorem K4(rows:List Row)(i:Nat):wR rows i=(rows.map (·.2)).getD i ((rows.map (·.2)).headD []):=by
 unfold wR;cases h:rows[i]? with
 |none=>cases rows<;>simp_all [qY]
 |some r=>simp[qY,h]
theorem RK(hn:n=rows.length)(h2:2<=n):gk n (m8 rows) (kas_sort n) λp=>KP n p/\p.toList=sX (rows.map (·.2)):=by
 subst hn;have e:m8 rows=λi j=>jE ((rows.map (·.2)).getD i ((rows.map (·.2)).headD [])) ((rows.map (·.2)).getD j ((rows.map (·.2)).headD [])):=by
  funext i j;rw[m8,K4,K4]
 refine(gk.run (acg (lt:=m8 rows) (N:=rows.length) (by lia))).1.mono λp hp=>⟨hp.1,?_⟩
 unfold sX;rw[bJ (by rw[bz];lia),hp.2,e,bz]
theorem Rj{rows:List Row}{n:Nat}(hn:n=rows.length)(h:n<2):fj n=sX (rows.map (·.2)):=by
 subst hn;unfold sX;rw[bC (by rw[bz];exact h),bz]
theorem T8{rows:List Row}{p:List Nat}(h:p.Perm (fj rows.length))(hr:p=sX (rows.map (·.2))):(p.map λi=>rows.getD i (0,[])).map (·.2)=uB (rows.map (·.2)):=by
 unfold uB;rw[<-hr,gZ];refine xR λi hi=>?_
 have hlt:=rT.mp (h.mem_iff.mp hi);simp[qY,hlt]
section
variable{X:Cx}
theorem SM(ha:∀r∈rows,TupAt s'.heap r/\r.2.map cJ=sh)(hi:i<rows.length)(hj:j<rows.length)(C:Bool->aJ->Prop)(q:C (m8 rows i j) s'):
  kas_ask prog w A (tuples' ao) (rows.map λr=>eV r.1) i j C s':=by
 refine alk ha hi hj C ?_;have e1:wR rows i=rowAt rows i:=by simp[wR,rowAt,qY,hi]
 have e2:wR rows j=rowAt rows j:=by simp[wR,rowAt,qY,hj]
 unfold m8 at q;rw[e1,e2] at q;exact q
theorem agj:iI X (.builtin "sorted") (λxs H Q=>∃(p:aq)(rows:List Row)(b:Bool)(sh:List Bool),xs=[.ref p]/\bU X.K H p (rows.map λr=>V.ref r.1)/\rows.length<64/\(∀r∈rows,H r.1=aa (.tup (r.2.map kV))/\r.2.map cJ=b::sh)/\
  ∀(l:aq)(rows':List Row),H l=aj->rows'.Perm rows->rows'.map (·.2)=uB (rows.map (·.2))->Q (.ref l) (upd H l (.lst (rows'.map λr=>V.ref r.1)))):=by
 intro pins s σ H xs us Q I r h
 obtain⟨p,rows,b,sh,rfl,hp,h64,ha,q⟩:=h
 obtain⟨u,rfl,ru⟩:=vals1 r
 cases ru
 obtain⟨its,rv,pl,_⟩:=I.list hp
 have e0:=acj rv;subst e0;have tu:∀r∈rows,TupAt s.heap r/\r.2.map cJ=b::sh:=λr hr=>by
  obtain⟨_,its,v,t⟩:=(show gj X.prog X.w H s.heap r.1 (.tup (r.2.map kV)) from I.hok r.1 _ (ha r hr).1)
  exact⟨⟨its,v,t⟩,(ha r hr).2⟩
 refine ZV (κ:=tuples' ao) (lt:=m8 rows) (vs:=rows.map λr=>eV r.1) (Rl:=λp=>p=sX (rows.map (·.2))) (by simpa using h64) (λh2=>RK (by rw[bz]) h2) (λh2=>Rj (by rw[bz]) h2) (λR hR=>?_) (λh2 s' k Q' q'=>RG (λr hr=>⟨(tu r hr).1.keep k,(tu r hr).2⟩) (by rw[bz] at h2;lia) Q' q')
  (λh2 s' k i j hi hj C q'=>SM (sh:=b::sh) (λr hr=>⟨(tu r hr).1.keep k,(tu r hr).2⟩) (by simpa using hi) (by simpa using hj) C q') λp D h' c tk hp' hrl hD k e=>?_
 .refine collect_list pl.isList (hR _ _ s.toks ?_ (λb o e=>?_) rfl)
  .rw[Heap.size_update,size_push'];lia
  .have hlt:b≠s.heap.objs.size:=eU (cN e);rw[Heap.get?_update_ne _ _ _ _ hlt];exact cR _ e
 .rw[bz] at hp';rw[RJ hp'] at e
  refine⟨.ref D,_,I.laid (o:=.lst ((p.map λi=>rows.getD i (0,[])).map λr=>V.ref r.1)) k hD ⟨?_,_,c,Kv _,by simpa[seqObj] using e⟩,rfl,q D _ (I.hok.fresh hD) (Ku hp') (T8 hp' hrl)⟩
  rw[bz,bz,hp'.length_eq,mU,jq];lia
theorem Yw(hc:X.calm=ao):iI X (.builtin "sorted") (λxs H Q=>∃(d:aq)(kvs:List (List Key×V))(b:Bool)(sh:List Bool),xs=[.ref d]/\H d=aa (.dT kvs)/\kvs.length<64/\(∀kv∈kvs,kv.1.map cJ=b::sh)/\
  ∀(l:aq)(rows:List Row),H l=aj->(rows.map (·.2)).Perm (kvs.map (·.1))->rows.map (·.2)=uB (kvs.map (·.1))->(∀r∈rows,H r.1=aa (.tup (r.2.map kV)))->Q (.ref l) (upd H l (.lst (rows.map λr=>V.ref r.1)))):=by
 intro pins s σ H xs us Q I r h
 obtain⟨d,kvs,b,sh,rfl,hd,h64,ha,q⟩:=h
 obtain⟨u,rfl,ru⟩:=vals1 r
 cases ru
 obtain⟨z,lo,ys,rel,o,es,ep,g1,g2,g3,g4,g5,g6⟩:=adP I.hok hd
 have raw:yR s.heap d es ep:=⟨o,g1,g2,g3⟩
 obtain⟨rows,r1,r2,r3⟩:∃rows:List Row,rows.map (·.2)=kvs.map (·.1)/\(∀r∈rows,H r.1=aa (.tup (r.2.map kV)))/\es.toList.map (·.key)=rows.map λr=>eV r.1:=by
  clear g5 g6 h64 ha q z hd;rw[g4];clear g4 raw g3;induction rel with
  |nil=>exact⟨[],rfl,by simp,rfl⟩
  |@cons p q ps qs h t ih=>
   obtain⟨rows,a1,a2,a3⟩:=ih
   refine⟨(q.2.1,p.1)::rows,by simp[a1],λr hr=>?_,?_⟩
   .rcases cM.mp hr with rfl|hr
    .exact h.2.1
    .exact a2 r hr
   .rw[cO,cO,a3];rfl
 have hlen:rows.length=kvs.length:=by
  have:=congrArg qx r1;simpa using this
 have hes:es.size=rows.length:=by
  have:=congrArg qx r3;simpa using this
 have tu:∀r∈rows,TupAt s.heap r/\r.2.map cJ=b::sh:=λr hr=>by
  obtain⟨_,its,v,t⟩:=(show gj X.prog X.w H s.heap r.1 (.tup (r.2.map kV)) from I.hok r.1 _ (r2 r hr))
  have:r.2∈kvs.map (·.1):=by rw[<-r1];exact gQ.mpr ⟨r,hr,rfl⟩
  obtain⟨kv,hk,e⟩:=gQ.mp this
  exact⟨⟨its,v,t⟩,by rw[<-e];exact ha kv hk⟩
 refine ZV (κ:=tuples' ao) (lt:=m8 rows) (vs:=rows.map λr=>eV r.1) (Rl:=λp=>p=sX (rows.map (·.2))) (by rw[bz];lia) (λh2=>RK (by rw[bz]) h2) (λh2=>Rj (by rw[bz]) h2) (λR hR=>?_) (λh2 s' k Q' q'=>RG (λr hr=>⟨(tu r hr).1.keep k,(tu r hr).2⟩) (by rw[bz] at h2;lia) Q' q')
  (λh2 s' k i j hi hj C q'=>SM (sh:=b::sh) (λr hr=>⟨(tu r hr).1.keep k,(tu r hr).2⟩) (by simpa using hi) (by simpa using hj) C q') λp D h' c tk hp' hrl hD k e=>?_
 .refine ZX (alj (es:=es) (ep:=ep) lo) (I.ok.hd hc) raw (by rw[jq];lia) λh' tk acc hsz kk hacc=>hR _ h' tk hsz kk ?_
  refine Yd λi=>?_
  by_cases hi:i<es.size
  .have e1:acc.size=es.size:=hacc.1;have:=hacc.2 i (acc[i]'(by lia)) (by simp[e1,hi]);rw[Fj,nQ (by lia)];rw[<-this,<-r3,iG,Fj]
  .have e1:acc.size=es.size:=hacc.1;rw[Je (by simp;lia),Je (by simp;lia)]
 .rw[bz] at hp';rw[RJ hp'] at e
  refine⟨.ref D,_,I.laid (o:=.lst ((p.map λi=>rows.getD i (0,[])).map λr=>V.ref r.1)) k hD ⟨?_,_,c,Kv _,by simpa[seqObj] using e⟩,rfl,q D _ (I.hok.fresh hD) (((Ku hp').map _).trans (by rw[r1])) ((T8 hp' hrl).trans (by rw[r1])) λr hr=>r2 r ((Ku hp').mem_iff.mp hr)⟩
  rw[bz,bz,hp'.length_eq,mU,jq];lia
end
abbrev xm:=List (Option aC)
def uv(H:Hp)(Γ:xm)(σ:St):Prop:=σ.length=Γ.length/\∀(i:Nat)(d:aC),Γ[i]?=aa (aa d)->∃v,σ[i]?=aa (aa v)/\RX H d v
theorem uv.same(h:uv H Γ σ)(s:bW H H'):uv H' Γ σ:=⟨h.1,λi d e=>let ⟨v,a,b⟩:=h.2 i d e;⟨v,a,b.same s⟩⟩
theorem uv.set(h:uv H Γ σ)(hv:RX H d v):uv H (Γ.set i (aa d)) (σ.set i (aa v)):=by
 refine⟨by rw[xU,xU];exact h.1,λj e he=>?_⟩
 by_cases hj:i=j
 .subst hj;rw[Fq] at he;simp only[if_true] at he;split at he
  .rename_i hl;cases he
   refine⟨v,?_,hv⟩
   rw[Fq];simp only[if_true];rw[bC (by rw[h.1];exact hl)]
  .cases he
 .rw[xM hj] at he;rw[xM hj];exact h.2 j e he
def er(Z:List aq)(H:Hp):Hp:=λb=>if b∈Z then aj else H b
theorem jr(h:er Z H b=aa o):H b=aa o:=by
 unfold er at h;split at h
 .cases h
 .exact h
theorem Ed(Z:List aq)(H:Hp):bW (er Z H) H:=λb o h=>jr h
theorem T9(s:bW H H'):bW (er Z H) (er Z H'):=λb o h=>by
 unfold er at h⊢;split at h
 .cases h
 .rename_i n;rw[bJ n];exact s _ _ h
theorem G5(H:Hp):er [] H=H:=by
 funext b;simp[er]
def Mj(t:TE)(Γ:xm)(d:aC):Prop:=∀Z σ H (Q:VK),(∀b,b∈Z->H b≠aj)->uv (er Z H) Γ σ->(∀v H',bW H H'->RX (er Z H') d v->Q v H')->t σ H Q
def ack(t:TA)(Γ:xm)(ds:List aC):Prop:=∀Z σ H (Q:List V->Hp->Prop),(∀b,b∈Z->H b≠aj)->uv (er Z H) Γ σ->(∀vs H',bW H H'->oO (er Z H') ds vs->Q vs H')->t σ H Q
section
variable{Γ:xm}{K:aQ}
theorem Mj.run(h:Mj t Γ d)(e:uv H Γ σ)(q:∀v H',bW H H'->RX H' d v->Q v H'):t σ H Q:=
 h [] σ H Q (λ_ m=>by cases m) (by rw[G5];exact e) λv H' s r=>q v H' s (by rw[G5] at r;exact r)
end
end L2
namespace HT
open PySem PySem.Spec PyProof.Rows
section
variable{prog:bQ}{w:bK}{A:cV}{E:Value->aJ->Prop}{s:aJ}
theorem afU{t sl:aq}{items:Array Value}{vl vu:Value}{lo hi:Option Int}{Q:Value->aJ->Prop}(ht:IsTup s.heap t items)(hs:s.heap.IsSliceOf sl vl vu .none)(pl:vm vl lo)(pu:vm vu hi)
  (hw:cP items.size 0 lo=0/\cP items.size items.size hi=items.size)(h:Q (.ref t) s):aX (model prog w) A (wK (.ref t) (.ref sl)) Q E s:=by
 obtain⟨os,hos,hcs,hds⟩:=id hs
 have hTs:s.TypeIs (.ref sl) "slice":=⟨os,hos,hcs⟩
 unfold wK
 try with_reducible refine mX ?_
 first|refine aK (bh ?_)|skip
 refine aK (agh ht.typeIs (by decide) ?_);refine aK (zy (name:=eZ "__getitem__") ht.typeIs Og
  (pF Og ht.typeIs entry_tuple_getitem ?_ (args_tuple_getitem _ _)))
 show aX _ _ (afp (.ref t) >>= _) _ _ s;refine aK (tupleItemsOf_ ht ?_);refine aK (Cv hTs ?_);rw[bC (by decide)];refine aK (Yk hs pl pu ?_);have hyes:((((cP items.size 0 lo:Nat):Int)==0&&(1:Int)==1&&(cP items.size items.size hi-cP items.size 0 lo)==items.size)=ao):=by
  rw[hw.1,hw.2];simp
 show aX _ _ (if(((cP items.size 0 lo:Nat):Int)==0&&(1:Int)==1&&(cP items.size items.size hi-cP items.size 0 lo)==items.size)=ao then _ else _) _ _ s;rw[bC hyes];unfold aq3;refine aK (aK (Cv ht.typeIs (bh ?_)));rw[bC (by decide)];refine aK (yf ?_);exact bh ⟨_,rfl,bh h⟩
theorem adg:∀(l:List Nat),(∀m,m∈l->f m=aa (g m))->l.filterMap f=l.map g
 |[],_=>rfl
 |a::l,h=>by
  rw[List.filterMap_cons_some (h a (dH ..)),cO,adg l λm hm=>h m (gh _ hm)]
theorem ai4(xs:Array Value):((fj xs.size).filterMap λ(m:Nat)=>xs[(((xs.size:Nat):Int)-1+(m:Int)*(-1)).toNat]?).toArray=xs.toList.reverse.toArray:=by
 congr 1;refine Yd λi=>?_
 have e:∀m,m∈fj xs.size->(λ(m:Nat)=>xs[(((xs.size:Nat):Int)-1+(m:Int)*(-1)).toNat]?) m=aa ((λm=>xs.toList.reverse.getD m .none) m):=by
  intro m hm;have hm':m<xs.size:=rT.mp hm;have e1:(((xs.size:Nat):Int)-1+(m:Int)*(-1)).toNat=xs.size-1-m:=by lia
  show xs[(((xs.size:Nat):Int)-1+(m:Int)*(-1)).toNat]?=_;rw[e1];have hl:xs.size-1-m<xs.size:=by lia
  simp[qY,hm']
 have e3:List.filterMap (λ(m:Nat)=>xs[(((xs.size:Nat):Int)-1+(m:Int)*(-1)).toNat]?) (fj xs.size)=(fj xs.size).map (λm=>xs.toList.reverse.getD m .none):=adg _ e;rw[e3];by_cases h:i<xs.size
 .simp[qY,h]
 .have h2:¬i<xs.toList.length:=by simpa using h
  simp[h]
end
end HT
namespace L2
open PySem PySem.Spec PyProof.Rows PySem.W
section
variable{X:Cx}
def ao3(K:aQ):V->Option Int->Option Int->Hp->VK->Prop:=λx lo hi H Q=>∃a xs,x=.ref a/\dD K H a xs/\(uz xs lo hi=xs->Q (.ref a) H)/\∀p,H p=aj->Q (.ref p) (upd H p (.tup (uz xs lo hi)))
theorem aln:xG X (ao3 X.K):=by
 intro pins s σ H x v vl vu lo hi sl Q I rx hs pl pu h
 obtain⟨a,xs,rfl,hx,q1,q2⟩:=h
 by_cases hw:HT.cP xs.length 0 lo=0/\HT.cP xs.length xs.length hi=xs.length
 .cases rx
  obtain⟨its,r,ht,hz⟩:=I.tuple hx
  have hlen:its.toArray.size=xs.length:=by rw[gG];exact r.length.symm
  refine⟨"tuple",_,PyProof.Rows.slot_tuple_getitem.lookup,ht.typeIs,?_⟩
  refine HT.afU ht hs pl pu (by rw[hlen];exact hw) ?_
  refine⟨.ref a,H,I,rfl,q1 ?_⟩
  unfold uz;rw[hw.1,hw.2];simp
 .exact amJ pins s σ H _ v vl vu lo hi sl Q I rx hs pl pu ⟨a,xs,rfl,hx,hw,q2⟩
end
end L2
namespace HT
open PySem PySem.Spec PyProof.Rows
open Sem (wp)
open Builtin
end HT
namespace L2
open PySem PySem.Spec PyProof.Rows PySem.W
section
variable{X:Cx}
end
section
variable{Γ:xm}{K:aQ}
end
section
variable{Γ:xm}{K:aQ}
end
section
variable{Γ:xm}{K:aQ}
end
section
variable{X:Cx}
theorem aib(hu:X.A.units+64<jc):dB X (gq .NotEq) (λx y H Q=>∃d e,RX H d x/\RX H e y/\je d=ao/\je e=ao/\Q (.bl (!PyData.eqv d e)) H):=by
 intro pins s σ H x y v u Q I rx ry h
 obtain⟨d,e,hd,he,h1,h2,q⟩:=h
 obtain⟨as,ra⟩:=RD.reads I (hd.rd (K:=X.K)) rx
 obtain⟨bs,rb⟩:=RD.reads I (he.rd (K:=X.K)) ry
 exact ne_dataH ra rb h1 h2 hu ⟨.bl _,H,I,rfl,q⟩
end
section
variable{Γ:xm}{K:aQ}
def am0(t:TE)(Γ:xm)(d:aC):Prop:=∀σ H (Q:VK),uv H Γ σ->(∀v H',bW H H'->RX H' d v->Q v H')->t σ H Q
theorem Mj.r(h:Mj t Γ d):am0 t Γ d:=λσ H Q e q=>h.run e q
theorem ack.run(h:ack t Γ ds)(e:uv H Γ σ)(q:∀vs H',bW H H'->oO H' ds vs->Q vs H'):t σ H Q:=
 h [] σ H Q (λ_ m=>by cases m) (by rw[G5];exact e) λv H' s r=>q v H' s (by rw[G5] at r;exact r)
end
theorem Lq{xs:Array Nat}(h:xs.toList.Pairwise (·<·)){i k d:Nat}(hik:i<k)(hk:k<xs.size):xs.getD i d<xs.getD k d:=by
 have h1:=Jd.mp h i k (by simpa using Cw hik hk) (by simpa using hk) hik;have hi:i<xs.size:=Cw hik hk;rw[uM,uM,nQ hk,nQ hi];simpa using h1
theorem SN{xs:Array Nat}{j:Nat}(h:xs.toList.Pairwise (·<·)):∀f lo hi,lo<=hi->hi<=xs.size->hi-lo<=f->(∀i,i<lo->xs.getD i j<j)->(∀i,hi<=i->i<xs.size->j<=xs.getD i j)->
  Jo xs j f lo hi<=xs.size/\(∀i,i<Jo xs j f lo hi->xs.getD i j<j)/\∀i,Jo xs j f lo hi<=i->i<xs.size->j<=xs.getD i j
 |0,lo,hi,h1,h2,h3,h4,h5=>by
  unfold Jo
  exact⟨by lia,h4,λi a b=>h5 i (by lia) b⟩
 |f+1,lo,hi,h1,h2,h3,h4,h5=>by
  unfold Jo;by_cases hlt:lo<hi
  .rw[bC hlt];dsimp only;by_cases hm:xs.getD ((lo+hi) / 2) j<j
   .rw[bC hm];refine SN h f _ _ (by lia) h2 (by lia) (λi hi'=>?_) h5;by_cases e:i=(lo+hi) / 2
    .rw[e];exact hm
    .exact Cw (Lq h (by lia) (by lia)) hm
   .rw[bJ hm];refine SN h f _ _ (by lia) (by lia) (by lia) h4 (λi hi' hs=>?_);by_cases e:i=(lo+hi) / 2
    .rw[e];lia
    .have:=Lq (d:=j) h (show(lo+hi) / 2<i by lia) hs;lia
  .rw[bJ hlt]
   exact⟨by lia,h4,λi a b=>h5 i (by lia) b⟩
theorem RL(j:Nat)(h:xs.toList.Pairwise (·<·)):j9 xs j<=xs.size/\(∀i,i<j9 xs j->xs.getD i j<j)/\∀i,j9 xs j<=i->i<xs.size->j<=xs.getD i j:=
 SN h xs.size 0 xs.size (nH _) (cz _) (by lia) (λi hi=>by lia) (λi a b=>by lia)
theorem acn(h:xs.toList.Pairwise (·<·)):j9 xs 0=0:=by
 obtain⟨_,b,_⟩:=RL 0 h
 cases e:j9 xs 0 with
 |zero=>rfl
 |succ n=>have:=b 0 (by lia);lia
theorem aac{xs:Array Nat}(h:xs.toList.Pairwise (·<·)){i:Nat}(hi:i<xs.size):j9 xs (xs[i]+1)=i+1:=by
 obtain⟨a,b,c⟩:=RL (xs[i]+1) h
 have e:∀k d,(hk:k<xs.size)->xs.getD k d=xs[k]:=λk d hk=>by rw[uM,nQ hk];rfl
 have mono:∀p q,(hp:p<xs.size)->(hq:q<xs.size)->p<q->xs[p]<xs[q]:=λp q hp hq pq=>by
  have:=Lq (d:=0) h pq hq
  rwa [e p 0 hp,e q 0 hq] at this
 by_cases h1:j9 xs (xs[i]+1)<=i
 .have:=c i h1 hi;rw[e i _ hi] at this;lia
 .by_cases h2:j9 xs (xs[i]+1)=i+1
  .exact h2
  .have hs:i+1<xs.size:=by lia
   have:=b (i+1) (by lia);rw[e _ _ hs] at this;have:=mono i (i+1) hi hs (by lia);lia
structure kZ(b:Bool)(t:wC):Prop where
 led:t.led=b
 WL:t.dummies=#[]
 WM:t.place.toList.Pairwise (·<·)
theorem kZ.standIn(h:kZ b t)(n:Nat):kZ b (t.standIn n):=⟨h.led,rfl,by simpa[SetTable.standIn] using Ox⟩
theorem kZ.orStandIn(h:kZ b t)(n:Nat):kZ b (t.orStandIn n):=by
 unfold SetTable.orStandIn;split
 .exact h
 .exact h.standIn n
theorem has_none(j:Nat):ahr #[] j=aL:=rfl
theorem aad(hd:t.dummies=#[])(f:Nat->Int)(h:Int):∀fuel (p:SetTable.Probe) j d,p.dummy=aj->Ye t f h fuel p=aa (.empty j d)->d=aj/\t.slot j=.empty
 |0,p,j,d,_,e=>by simp[Ye] at e
 |fuel+1,p,j,d,hp,e=>by
  unfold Ye at e;have adv:(t.advance p).dummy=aj:=by
   unfold SetTable.advance;split<;>exact hp
  cases hs:t.slot p.j with
  |empty=>
   rw[hs] at e;simp only[O9,arz] at e
   exact⟨by rw[<-e.2];exact hp,by rw[<-e.1];exact hs⟩
  |dummy=>
   unfold ag7 at hs;rw[hd] at hs;simp only[has_none] at hs;split at hs
   .cases hs
   .simp at hs
  |live i=>
   rw[hs] at e;simp only at e;split at e
   .cases e
   .exact aad hd f h fuel _ j d adv e
theorem aic{xs:Array Nat}{j:Nat}(h:xs.toList.Pairwise (·<·))(hn:xs[j9 xs j]?≠aa j):(SetTable.insertAt xs (j9 xs j) j).toList.Pairwise (·<·):=by
 obtain⟨a,b,c⟩:=RL j h
 rw[SetTable.toList_insertAt];have h':=h;rw[<-List.take_append_drop (j9 xs j) xs.toList,XN] at h'
 obtain⟨h1,h2,h3⟩:=h'
 have e:∀k d,(hk:k<xs.size)->xs.getD k d=xs.toList[k]'(by simpa using hk):=λk d hk=>by rw[uM,nQ hk];simp
 have lo:∀x,x∈xs.toList.take (j9 xs j)->x<j:=λx hx=>by
  obtain⟨i,hi,rfl⟩:=xQ hx
  have hi':i<j9 xs j:=by simp at hi;lia
  have:=b i hi';rw[e i j (by lia)] at this;rw[agk];exact this
 have hi:∀x,x∈xs.toList.drop (j9 xs j)->j<x:=λx hx=>by
  obtain⟨i,hi,rfl⟩:=xQ hx
  have hs:j9 xs j+i<xs.size:=by simp at hi;lia
  have h0:=c (j9 xs j) (cz _) (by lia);have ne:xs.getD (j9 xs j) j≠j:=λz=>hn (by
   have hb:j9 xs j<xs.size:=by lia
   rw[uM,nQ hb] at z;rw[nQ hb];simpa using z)
  rw[List.getElem_drop,<-e _ j hs];by_cases z:i=0
  .subst z;simp only[Zq];lia
  .have:=Lq (d:=j) h (show j9 xs j<j9 xs j+i by lia) hs;lia
 rw[XN]
 refine⟨h1,rR.mpr ⟨hi,h2⟩,λx hx y hy=>?_⟩
 rcases cM.mp hy with rfl|hy
 .exact lo x hx
 .exact h3 x hx y hy
theorem kZ.layNew(h:kZ b t)(es:Array (Int×Value))(hs:Int)(x:Value):kZ b (layNew t es hs x).2.1:=by
 unfold PySem.layNew;cases hf:t.freeSlot hs with
 |none=>exact h.standIn _
 |some q=>
  obtain⟨slot,wd⟩:=q
  have free:t.slot slot=.empty:=by
   unfold SetTable.freeSlot at hf;split at hf
   .rename_i j d hp
    obtain⟨rfl,hj⟩:=aad h.WL _ _ _ _ _ _ rfl hp
    simp only[O9,ag8] at hf;rw[<-hf.1];exact hj
   .cases hf
  have hn:t.place[j9 t.place slot]?≠aa slot:=λz=>by
   unfold ag7 at free;simp[z] at free
  show kZ b ((t.put slot).1.orStandIn _);refine kZ.orStandIn (t:=(t.put slot).1) ⟨h.led,?_,aic h.WM hn⟩ _
  show(if ahr t.dummies slot then _ else t.dummies)=#[]
  rw[h.WL];rfl
theorem kZ.relayAll(h:kZ b t)(es:Array (Int×Value))(n:Nat):kZ b (relayAll t es n).2.1:=by
 unfold Jw;split
 .rename_i t' order hr;dsimp only;split
  .unfold SetTable.relaid SetTable.laid at hr;cases ho:SetTable.layClean (SetTable.sizeAbove n-1) (es.map (·.1)) with
   |none=>simp[ho] at hr
   |some owner=>
    simp only[ho,Option.bind_eq_bind,ir,Option.pure_def,O9,ag8] at hr;rw[<-hr.1]
    refine⟨h.led,rfl,?_⟩
    simp only[List.map_filterMap];refine arG _ (λx y hxy=>?_) Ox;intro u hu v hv;simp only[Bu] at hu hv
    obtain⟨p,⟨_,_,rfl⟩,rfl⟩:=hu
    obtain⟨q,⟨_,_,rfl⟩,rfl⟩:=hv
    exact hxy
  .exact h.standIn _
 .exact h.standIn _
theorem kZ.plain(h:kZ b t)(v:Bool):kZ b {t with plain:=v}:=⟨h.led,h.WL,h.WM⟩
theorem kZ.fresh(b:Bool):kZ b (.fresh 0 0 b):=⟨rfl,rfl,.nil⟩
end L2
namespace L2
open PySem PySem.Spec PySem.W
section
variable{prog:bQ}{w:bK}{T:Type}[DecidableEq T](knd:xX prog w T)
def bt(w:bK):Bool:=!(w.params.followText "set-order")
inductive lZ:List (Int×Value)->List T->Prop
 |nil:lZ [] []
 |cons {e:Int×Value} {k:T} {es:List (Int×Value)} {ks:List T}:(knd.is k e.2=ao/\e.1=knd.hash k/\e.2.scannable=ao)->lZ es ks->lZ (e::es) (k::ks)
def pU(h:bw)(a:aq)(ks:List T):Prop:=∃o es ep t,h.get? a=aa o/\o.ExactSet/\o.data=.set es ep t/\(∃ks',lZ knd es.toList ks'/\ks'.Perm ks)/\es.size<rW/\t.fits es.size=ao/\kZ (bt w) t
def nC(ks:List T)(k:T):List T:=if k∈ks then ks else ks++[k]
variable{knd}
theorem lZ.elems(h:lZ knd es ks):ElemsOf knd es:=by
 induction h with
 |nil=>intro e he;cases he
 |cons a _ ih=>
  intro e he;rcases cM.mp he with rfl|he
  .exact⟨⟨_,a.1,a.2.1⟩,a.2.2⟩
  .exact ih e he
theorem lZ.len(h:lZ knd es ks):es.length=ks.length:=by
 induction h with
 |nil=>rfl
 |cons _ _ ih=>simp[ih]
theorem lZ.perm(p:es'.Perm es):∀{ks:List T},lZ knd es ks->∃ks',lZ knd es' ks'/\ks'.Perm ks:=by
 induction p with
 |nil=>intro ks h;exact⟨ks,h,.refl _⟩
 |cons x _ ih=>
  intro ks h;cases h with
  |cons a r=>
   obtain⟨ks',h1,h2⟩:=ih r
   exact⟨_::ks',.cons a h1,h2.cons _⟩
 |swap x y l=>
  intro ks h;cases h with
  |cons a r=>
   cases r with
   |cons b r=>exact⟨_::_::_,.cons b (.cons a r),.swap ..⟩
 |trans _ _ ih1 ih2=>
  intro ks h
  obtain⟨k2,h1,p1⟩:=ih2 h
  obtain⟨k3,h2,p2⟩:=ih1 h1
  exact⟨k3,h2,p2.trans p1⟩
theorem lZ.push(h:lZ knd es ks)(hk:knd.is k x=ao)(hx:x.scannable=ao):lZ knd (es++[(knd.hash k,x)]) (ks++[k]):=by
 induction h with
 |nil=>exact .cons ⟨hk,rfl,hx⟩ .nil
 |cons a _ ih=>exact .cons a ih
theorem lZ.mem(h:lZ knd es ks)(hm:x∈es)(hp:knd.is k x.2=ao):k∈ks:=by
 induction h with
 |nil=>cases hm
 |cons a _ ih=>
  rcases cM.mp hm with rfl|hm
  .cases knd.inj _ _ _ hp a.1;exact dH ..
  .exact gh _ (ih hm)
theorem lZ.none(h:lZ knd es ks)(e:es.findIdx? (λe=>knd.is k e.2)=.none):k∉ks:=by
 have e':=List.findIdx?_eq_none_iff.mp e;clear e;induction h with
 |nil=>intro h;cases h
 |cons a _ ih=>
  intro hm;rcases cM.mp hm with rfl|hm
  .have:=e' _ (dH ..);rw[a.1] at this;cases this
  .exact ih (λx hx=>e' x (gh _ hx)) hm
variable{A:cV}{E:Value->aJ->Prop}{s:aJ}
theorem aco{h:bw}{a:aq}{o:Obj}{es es':Array (Int×Value)}{ep:Nat}{t t':wC}{ks:List T}(ho:h.get? a=aa o)(ex:o.ExactSet)(hd:o.data=.set es ep t)(e:∃ks',lZ knd es'.toList ks'/\ks'.Perm ks)
  (hb:es'.size<rW)(hf:t'.fits es'.size=ao)(tb:kZ (bt w) t'):
  ∃o',(h.update a (Rk es' t')).get? a=aa o'/\o'.ExactSet/\o'.data=.set es' (ep+1) t'/\pU knd (h.update a (Rk es' t')) a ks:=by
 have g:=zA (Rk es' t') ho (by rw[putSet_of es' t' hd];rfl);rw[putSet_of es' t' hd] at g
 exact⟨_,g,ex,rfl,_,es',ep+1,t',g,ex,rfl,e,hb,hf,tb⟩
theorem alo{a:aq}{k:T}{x:Value}{ks:List T}{Q:Bool->aJ->Prop}(hk:knd.is k x=ao)(hx:x.scannable=ao)(hS:pU knd s.heap a ks)(room:ks.length+1<rW)
  (h:∀b h',zR a s.heap h'->pU knd h' a (nC ks k)->Q b {s with heap:=h'}):aX (model prog w) A (setAddHashed a x (knd.hash k)) Q E s:=by
 obtain⟨o,es,ep,t,ho,ex,hd,⟨k0,ek,pk⟩,hb,hf,tb⟩:=hS
 have sz:es.size=ks.length:=by rw[<-nD,ek.len,pk.length_eq]
 have el:=ek.elems;have mono:∀{u:Unit->aJ->Prop}{s1:aJ}(g:Bool),u () s1->∀r:Sem Unit,(r=rule "set.scan.the-table-gave-way"\/r=pure ())->aX (model prog w) A r u E s1:=λg hu r hr=>by
  rcases hr with rfl|rfl
  .exact yf hu
  .exact bh hu
 unfold setAddHashed setAddHashedIn;refine mX (aK (Ft ho hd hf ?_));simp only[byScan_of hx hb el,if_true];unfold setAddByScan;refine aK (aK (yf (aK (wpAny_setScan_of hk ho hd hf el ?_))));cases hr:es.toList.findIdx? (λe=>knd.is k e.2) with
 |some j=>
  obtain⟨hj,hp,_⟩:=List.findIdx?_eq_some_iff_getElem.mp hr
  have hm:k∈ks:=pk.mem_iff.mp (ek.mem (zJ hj) hp);refine bh (bh (h _ s.heap (Yg a s.heap) ?_));rw[nC,bC hm]
  exact⟨o,es,ep,t,ho,ex,hd,⟨k0,ek,pk⟩,hb,hf,tb⟩
 |none=>
  have hm:k∉ks:=λz=>ek.none hr (pk.mem_iff.mpr z)
  have pn:=layNew_perm t es (knd.hash k) x;have fn:=layNew_fits t es (knd.hash k) x;have tn:=tb.layNew es (knd.hash k) x;dsimp only;generalize layNew t es (knd.hash k) x=L at pn fn tn⊢
  obtain⟨es1,t1,wd,gv⟩:=L
  dsimp only at pn fn tn⊢;rw[agl] at pn
  obtain⟨k1,e1,p1⟩:=(ek.push hk hx).perm pn
  have ak:nC ks k=ks++[k]:=by rw[nC,bJ hm]
  have q1:∃ks',lZ knd es1.toList ks'/\ks'.Perm (nC ks k):=⟨k1,e1,by rw[ak];exact p1.trans (pk.append_right _)⟩
  have zc:es1.size=es.size+1:=by rw[<-nD,pn.length_eq,dM,nD];rfl
  have b1:es1.size<rW:=by lia
  refine aK (mono gv ?_ _ (by cases gv<;>first|exact .inl rfl|exact .inr rfl));have tail:∀t2:wC,t2.fits es1.size=ao->kZ (bt w) t2->aX (model prog w) A (do
    storeSet a es1 t2
    if(!wd&&t2.tooFull)=ao then do
      (match(Jw t2 es1 (Cg es1.size)).2.2 with|true=>rule "set.scan.the-table-gave-way" |false=>pure ())
      storeSet a (Jw t2 es1 (Cg es1.size)).1 (Jw t2 es1 (Cg es1.size)).2.1
      pure (aa ao)
     else pure (aa ao)) (λr s'=>aX (model prog w) A (match r with|some added=>pure added|none=>setAddHashedIn a x (knd.hash k) 99999) Q E s') E s:=λt2 f2 tb2=>by
   obtain⟨o1,g1,ex1,d1,S1⟩:=aco (knd:=knd) ho ex hd q1 b1 f2 tb2
   refine aK (agm ho hd ?_ (Yh b1));have Ao:=tR s.heap a (Rk es1 t2);split
   .have pr:=relayAll_perm t2 es1 (Cg es1.size);have fr:=relayAll_fits t2 es1 (Cg es1.size);have tr:=tb2.relayAll es1 (Cg es1.size);generalize Jw t2 es1 (Cg es1.size)=L2 at pr fr tr⊢
    obtain⟨es2,t3,gv2⟩:=L2
    dsimp only at pr fr tr⊢
    obtain⟨k2,e2,p2⟩:=q1
    obtain⟨k3,e3,p3⟩:=e2.perm pr
    have sz2:es2.size=es1.size:=by rw[<-nD,pr.length_eq,nD]
    have b2:es2.size<rW:=by lia
    refine aK (mono gv2 ?_ _ (by cases gv2<;>first|exact .inl rfl|exact .inr rfl));refine aK (agm g1 d1 ?_ (Yh b2))
    obtain⟨_,_,_,_,S2⟩:=aco (knd:=knd) g1 ex1 d1 ⟨k3,e3,p3.trans p2⟩ b2 fr tr
    exact bh (bh (h _ _ (Ao.trans (tR ..)) S2))
   .exact bh (bh (h _ _ Ao S1))
  split
  .refine aK ?_;rw[hashByValue_scannable 8 hx];refine bh ?_;by_cases hv:plainKind x=ao
   .simp only[hv,if_true];exact tail t1 fn tn
   .simp only[hv,qQ,if_false];exact tail _ (SetTable.fits_plain_off fn) (tn.plain aL)
  .refine aK (bh ?_);simp only[if_true];exact tail t1 fn tn
end
section
variable{T:Type}[DecidableEq T]
def dedup(ks:List T):List T:=ks.foldl nC []
theorem aid(ks:List T)(k:T):dedup (ks++[k])=nC (dedup ks) k:=by simp[dedup,List.foldl_append]
theorem aj3{ks:List T}{k x:T}:x∈nC ks k↔x∈ks\/x=k:=by
 unfold nC;split
 .rename_i h
  exact⟨.inl,λz=>z.elim id λe=>e▸h⟩
 .simp
theorem YJ{x:T}:∀(ks as:List T),x∈ks.foldl nC as↔x∈as\/x∈ks
 |[],as=>by simp
 |k::ks,as=>by rw[Js,YJ,aj3,cM,or_assoc]
theorem ai5{ks:List T}{x:T}:x∈dedup ks↔x∈ks:=by
 rw[dedup,YJ];simp
theorem aie{ks:List T}{k:T}(h:ks.Nodup):(nC ks k).Nodup:=by
 unfold nC;split
 .exact h
 .rename_i hk;exact lO.mpr ⟨h,by simp,λa ha b hb=>by rw[j8] at hb;rintro rfl;exact hk (hb▸ha)⟩
theorem Yn:∀(ks as:List T),as.Nodup->(ks.foldl nC as).Nodup
 |[],_,h=>h
 |k::ks,_,h=>Yn ks _ (aie h)
theorem ahR(ks:List T):(dedup ks).Nodup:=Yn ks [] .nil
theorem aj4(ks:List T)(k:T):(nC ks k).length<=ks.length+1:=by
 unfold nC;split<;>simp
theorem YK:∀(ks as:List T),(ks.foldl nC as).length<=as.length+ks.length
 |[],_=>by simp
 |k::ks,as=>by
  have h1:=YK ks (nC as k);have h2:=aj4 as k;simp only[Js,dw];lia
theorem aaC(ks:List T):(dedup ks).length<=ks.length:=by simpa[dedup] using YK ks []
end
section
variable{prog:bQ}{w:bK}{T:Type}[DecidableEq T]{knd:xX prog w T}{A:cV}{E:Value->aJ->Prop}{s:aJ}
theorem pU.at(H:pU knd h a ks)(e:∀o,h.get? a=aa o->h'.get? a=aa o):pU knd h' a ks:=
 let ⟨o,es,ep,t,ho,r⟩:=H
 ⟨o,es,ep,t,e o ho,r⟩
theorem pU.lt(H:pU knd h a ks):a<h.objs.size:=let ⟨_,_,_,_,ho,_⟩:=H;cN ho
theorem pU.ty(H:pU knd s.heap a ks):s.TypeIs (.ref a) "set":=let ⟨o,_,_,_,ho,ex,_⟩:=H;⟨o,ho,ex.1⟩
end
section
variable{prog:bQ}{w:bK}{T:Type}[DecidableEq T]{knd:xX prog w T}{A:cV}{E:Value->aJ->Prop}{s:aJ}
def sY(w:bK):Obj:={cls:=.type "set",dict:=aj,data:=.set #[] 0 (.fresh 0 0 (bt w))}
theorem am1(g:h.get? a=aa (sY w)):pU knd h a []:=⟨_,#[],0,_,g,⟨rfl,rfl,rfl⟩,rfl,⟨[],.nil,.refl _⟩,by decide,rfl,kZ.fresh _⟩
end
theorem abi:Manifest.owners.lookup (String.ofList "rotareti_tes".toList.reverse)=aa Manifest.sig_set_iterator:=by kernel_rfl
theorem ud:Slot "set_iterator" "__next__" "set_iterator.__next__":=.of (owner:="set_iterator") (n:="__next__") (by rw[typeLookup_type,afJ];kernel_rfl) (by decide +kernel) (by decide +kernel) (by decide +kernel) (by first|exact .inl (by decide +kernel)|exact .inr (by decide +kernel)) (by rw[YL];kernel_rfl)
theorem acp:Slot "set_iterator" "__iter__" "set_iterator.__iter__":=.of (owner:="set_iterator") (n:="__iter__") (by rw[typeLookup_type,afJ];kernel_rfl) (by decide +kernel) (by decide +kernel) (by decide +kernel) (by first|exact .inl (by decide +kernel)|exact .inr (by decide +kernel)) (by rw[YL];kernel_rfl)
theorem Kw:K5 table "set_iterator.__next__"=aa mZ.«set_iterator.__next__»:=agD (by kernel_rfl)
theorem ai6:K5 table "set_iterator.__iter__"=aa mZ.«dict_keyiterator.__iter__»:=entryFor_alias (id':="dict_keyiterator.__iter__") (by kernel_rfl) rfl (by decide +kernel) (by kernel_rfl)
theorem aif:K5 table "set.__iter__"=aa mZ.«frozenset.__iter__»:=entryFor_alias (id':="frozenset.__iter__") (by kernel_rfl) rfl (by decide +kernel) (by kernel_rfl)
theorem Ky(a:Value):G6 "set_iterator.__next__" ⟨[a],[]⟩:=by
 unfold G6;rw[signature?_of (id:="set_iterator.__next__") (n:="__txen__".toList) (o:="rotareti_tes".toList) (by kernel_rfl) abi];kernel_rfl
theorem ai7(a:Value):G6 "set_iterator.__iter__" ⟨[a],[]⟩:=by
 unfold G6;rw[signature?_of (id:="set_iterator.__iter__") (n:="__reti__".toList) (o:="rotareti_tes".toList) (by kernel_rfl) abi];kernel_rfl
section
variable{prog:bQ}{w:bK}{A:cV}{E:Value->aJ->Prop}{s:aJ}{it S:aq}{es:Array (Int×Value)}{ep i n:Nat}{t:wC}{first:Value}
def oN(b:Bool)(h:bw)(a:aq)(es:Array (Int×Value))(ep:Nat)(t:wC):Prop:=∃o,h.get? a=aa o/\o.ExactSet/\o.data=.set es ep t/\t.fits es.size=ao/\kZ b t
theorem oN.at(H:oN b h a es ep t)(e:∀o,h.get? a=aa o->h'.get? a=aa o):oN b h' a es ep t:=let ⟨o,ho,r⟩:=H;⟨o,e o ho,r⟩
def mR(h:bw)(it S:aq)(first:Value)(i n ep:Nat):Prop:=∃o,h.get? it=aa o/\o.cls=.type "set_iterator"/\o.data=.fields #[first,jC i,.ref S,jC n,jC ep]
theorem mR.at(H:mR h it S first i n ep)(e:∀o,h.get? it=aa o->h'.get? it=aa o):mR h' it S first i n ep:=let ⟨o,ho,r⟩:=H;⟨o,e o ho,r⟩
theorem mR.ty(H:mR s.heap it S first i n ep):s.TypeIs (.ref it) "set_iterator":=let ⟨o,ho,c,_⟩:=H;⟨o,ho,c⟩
theorem mR.set{h:bw}{j:Nat}{x:Value}{vs:Array Value}{o:Obj}(ho:h.get? it=aa o)(hc:o.cls=.type "set_iterator")(hd:o.data=.fields vs):
  ∃o',(h.update it (Y9 (·.setIfInBounds j x))).get? it=aa o'/\o'.cls=.type "set_iterator"/\o'.data=.fields (vs.setIfInBounds j x):=
 ⟨_,zA _ ho (afI (O4 hd _)),(agi ..).trans hc,by rw[O4 hd]⟩
theorem Ua(hit:mR s.heap it S first i n ep)(h:Q (.ref it) s):aX (model prog w) A (Dz (.ref it)) Q E s:=by
 refine Yb hit.ty acp (pF acp hit.ty ai6 (show aX _ _ (ret (.ref it)) _ _ s from ?_) (ai7 _));exact bh ⟨_,rfl,"set_iterator",_,hit.ty,ud.lookup,h⟩
theorem acq{Q:Option Value->aJ->Prop}{slot:Nat}{R:Option (Value×Nat)}(hit:mR s.heap it S (jC slot) i n ep)(hs:oN (bt w) s.heap S es ep t)(hn:n=es.size)(ne:S≠it)
  (nx:∀{B:cV}{E':Value->aJ->Prop}{C:Option (Value×Nat)->aJ->Prop},C R s->aX (model prog w) B (Gz S slot i ep) C E' s){x:Value}{nxt:Nat}(hR:R=aa (x,nxt))
  (h:∀h',mR h' it S (jC nxt) (i+1) n ep->zR it s.heap h'->Q (aa x) {s with heap:=h'}):aX (model prog w) A (m7 (.ref it)) Q E s:=by
 obtain⟨o,ho,hc,hd⟩:=id hit
 obtain⟨os,hos,exs,hds,hf,tb⟩:=id hs
 unfold m7;refine aK (FZ (zy (name:=eZ "__next__") hit.ty ud (pF ud hit.ty Kw ?_ (Ky _))));unfold mZ.«set_iterator.__next__»;refine aK (bh (aK (zN ho hd ?_)));dsimp only[jC];refine aK (Jh hos hds hf ?_);subst hn;subst hR;rw[bJ (by simp)];refine aK (nx ?_);dsimp only;refine aK (zO ho hd (by simp) ?_)
 obtain⟨o1,g1,c1,d1⟩:=mR.set (j:=0) (x:=.int nxt 0) ho hc hd
 refine aK (zO g1 d1 (by simp) ?_)
 obtain⟨o2,g2,c2,d2⟩:=mR.set (j:=1) (x:=.int (i+1) 0) g1 c1 d1
 refine bh ⟨_,rfl,bh (h _ ⟨o2,g2,c2,?_⟩ ((tR ..).trans (tR ..)))⟩;rw[d2];simp[jC]
theorem acr(hh:A.handled=aj)(h:∀h',(∀b o,s'.heap.get? b=aa o->h'.get? b=aa o)->Q aj {s' with heap:=h'}):
  aX (model prog w) A.in1 (do let e <-newExc (.type "StopIteration") [];(raiseNew e:Sem Fin)) (λfin s1=>∃v,fin=Fin.done (Flow.ret v)/\aX (model prog w) A (pure (aa v)) Q E s1)
   (λe s1=>aX (model prog w) A (do if(<-isInstance e (Gh "StopIteration"))=ao then pure aj else throw e) Q E s1) s':=by
 refine aK ?_;simp only[newExc,newTuple];refine aK (nF ?_ (by size_fits));refine aK (m:=PX _ _) (ZW (a:=nJ) (by first|rfl|(simp only[PX];rfl)) ?_);refine nF ?_ (by size_fits);simp only[raiseNew];refine aK (wpAny_handled ?_);rw[show A.in1.handled=aj from hh];refine aK (bh (wpAny_throw ?_));refine aK (Ym (T:="StopIteration") (b:=ao) ⟨_,iK _ rfl,rfl⟩ isSubtype_stop ?_);exact bh (h _ λb o e=>cR _ (cR _ e))
theorem adh{Q:Option Value->aJ->Prop}{slot:Nat}(hh:A.handled=aj)(hit:mR s.heap it S (jC slot) i n ep)(hs:oN (bt w) s.heap S es ep t)(hn:n=es.size)
  (nx:∀{B:cV}{E':Value->aJ->Prop}{C:Option (Value×Nat)->aJ->Prop},C aj s->aX (model prog w) B (Gz S slot i ep) C E' s)
  (h:∀h',(∀b o,b≠it->s.heap.get? b=aa o->h'.get? b=aa o)->Q aj {s with heap:=h'}):aX (model prog w) A (m7 (.ref it)) Q E s:=by
 obtain⟨o,ho,hc,hd⟩:=id hit
 obtain⟨os,hos,exs,hds,hf,tb⟩:=id hs
 unfold m7;refine aK (FZ (zy (name:=eZ "__next__") hit.ty ud (pF ud hit.ty Kw ?_ (Ky _))));unfold mZ.«set_iterator.__next__»;refine aK (bh (aK (zN ho hd ?_)));dsimp only[jC];refine aK (Jh hos hds hf ?_);subst hn;rw[bJ (by simp)];refine aK (nx ?_);dsimp only;refine aK (zO ho hd (by simp) ?_);exact acr hh λh' kk=>h h' λb o hb e=>kk b o (((tR ..).2 b hb).trans e)
end
section
variable{prog:bQ}{w:bK}{A:cV}{E:Value->aJ->Prop}{s:aJ}{it S:aq}{es:Array (Int×Value)}{ep i n:Nat}{t:wC}{first:Value}
theorem Lr(h:Q (!bt w) s):aX (model prog w) A aae Q E s:=by
 unfold aae;refine aK (Pg (bh ?_));have h':Q (w.params.followText "set-order") s:=by simpa[bt] using h
 exact h'
theorem Rm:∀{l:List α}{j:Nat}(h:j<l.length),(l[j]::l.eraseIdx j).Perm l
 |[],j,h=>by cases h
 |a::l,0,h=>.refl _
 |a::l,j+1,h=>by
  have:=Rm (l:=l) (j:=j) (by simpa using h);simp only[List.getElem_cons_succ,List.eraseIdx_cons_succ]
  exact(P0 ..).trans (this.cons a)
theorem aaD(hs:oN (bt w) s.heap S es ep t)(hb:bt w=ao)(nd:(!t.plain&&decide (es.size>1))=aL)
  (h:C (match es[j9 t.place slot]?,t.place[j9 t.place slot]? with|some (_,x),some j=>aa (x,j+1)|_,_=>aj) s):aX (model prog w) A (Gz S slot i ep) C E s:=by
 obtain⟨o,ho,ex,hd,hf,tb⟩:=hs
 unfold Gz;refine aK (Ft ho hd hf ?_);refine aK (Lr ?_);rw[hb];simp only[Ga,qQ,if_false];refine Py (λz=>?_) (λ_=>?_)
 .have z':(!t.plain&&decide (es.size>1))=ao:=z;rw[nd] at z';cases z'
 refine aK (show aX _ _ (if(!t.led&&!es.isEmpty)=ao then _ else _) _ _ _ from ?_);rw[tb.led,hb];simp only[Ga,wg,qQ,if_false];exact bh (bh h)
theorem aaE(hs:oN (bt w) s.heap S es ep t)(hb:bt w=aL)
  (h:C (((zY (w.params.setOrder S ep) es)[i]?).map λe=>(e.2,slot)) s):aX (model prog w) A (Gz S slot i ep) C E s:=by
 obtain⟨o,ho,ex,hd,hf,tb⟩:=hs
 unfold Gz;refine aK (Ft ho hd hf ?_);refine aK (Lr ?_);rw[hb];simp only[uR,if_true,bne_self_eq_false,qQ,if_false];refine aK ?_;unfold setWalk;refine aK (Ft ho hd hf ?_);refine aK (Lr ?_);rw[hb];simp only[uR,if_true];refine aK (Pg (bh ?_));exact bh h
theorem acs(f:Nat->Nat):∀(m k:Nat)(left:List α)(out:Array α),left.length=m->(Zr f m k left out).toList.Perm (out.toList++left)
 |0,k,left,out,h=>by
  unfold Zr;rw[afu.mp h];simp
 |m+1,k,left,out,h=>by
  unfold Zr;have hl:f k%left.length<left.length:=Nat.mod_lt _ (by lia);rw[j7 hl];dsimp only
  refine(acs f m (k+1) _ _ (by rw[afP];simp[hl];lia)).trans ?_
  rw[agl,mF];refine afK _ ?_;exact Rm hl
theorem RM(f:Nat->Nat)(xs:Array α):(zY f xs).toList.Perm xs.toList:=by
 have:=acs f xs.size 0 xs.toList #[] (by simp);simpa[zY] using this
theorem aj5(hm:m≠0)(h:∀j d,j<m->Q j {s with drawn:=d}):aX (model prog w) A (choose src m) Q E s:=λΓ p _=>⟨hm,h _ _ (Nat.mod_lt _ (Nat.pos_of_ne_zero hm))⟩
theorem abj:∀(m:Nat)(xs:List α)(s:aJ)(Q:List α->aJ->Prop),xs.length=m->(∀ys d,ys.Perm xs->Q ys {s with drawn:=d})->aX (model prog w) A (drawOrder m xs) Q E s
 |0,xs,s,Q,hl,h=>by
  unfold drawOrder;rw[afu.mp hl] at h;exact bh (h [] s.drawn (.refl _))
 |m+1,[],s,Q,hl,h=>by cases hl
 |m+1,x::xs,s,Q,hl,h=>by
  unfold drawOrder;refine aK (aj5 (by simp) λj d hj=>?_);rw[j7 hj];dsimp only;refine aK (abj m _ _ _ (by rw[afP,bC hj];simpa using hl) λys d' hp=>?_);exact bh (h _ d' ((hp.cons _).trans (Rm hj)))
end
section
variable{prog:bQ}{w:bK}{A:cV}{E:Value->aJ->Prop}{s:aJ}{it S pl:aq}{es:Array (Int×Value)}{ep i n:Nat}{t:wC}{ps:List Nat}
def Fb(h:bw)(pl:aq)(ps:List Nat):Prop:=∃o c,h.get? pl=aa o/\o.data=.seq (ps.map λk:Nat=>jC k).toArray c
theorem Fb.at(H:Fb h pl ps)(e:∀o,h.get? pl=aa o->h'.get? pl=aa o):Fb h' pl ps:=let ⟨o,c,ho,r⟩:=H;⟨o,c,e o ho,r⟩
theorem alp(hit:mR s.heap it S (.ref pl) i n ep)(hs:oN (bt w) s.heap S es ep t)(hp:Fb s.heap pl ps)(hn:n=es.size)(hk:ps[i]?=aa k)(he:es[k]?=aa e)
  (h:∀h',mR h' it S (.ref pl) (i+1) n ep->zR it s.heap h'->Q (aa e.2) {s with heap:=h'}):aX (model prog w) A (m7 (.ref it)) Q E s:=by
 obtain⟨o,ho,hc,hd⟩:=id hit
 obtain⟨os,hos,exs,hds,hf,tb⟩:=id hs
 obtain⟨op,cp,hop,hdp⟩:=hp
 unfold m7;refine aK (FZ (zy (name:=eZ "__next__") hit.ty ud (pF ud hit.ty Kw ?_ (Ky _))));unfold mZ.«set_iterator.__next__»;refine aK (bh (aK (zN ho hd ?_)));dsimp only[jC];refine aK (Jh hos hds hf ?_);subst hn;rw[bJ (by simp)];refine aK (Fw hop hdp ?_);dsimp only;rw[show((ps.map λk:Nat=>jC k).toArray)[((i:Int)).toNat]?=aa (.int (k:Int) 0) by simp[hk,jC]];dsimp only;refine aK ?_;unfold setNextDrawn;refine aK (Ft hos hds hf ?_);simp only[zE,bne_self_eq_false,qQ,if_false,he];refine bh (aK (zO ho hd (by simp) ?_))
 obtain⟨o1,g1,c1,d1⟩:=mR.set (j:=1) (x:=.int (i+1) 0) ho hc hd
 refine bh ⟨_,rfl,bh (h _ ⟨o1,g1,c1,?_⟩ (tR ..))⟩;rw[d1];simp[jC]
theorem am2(hh:A.handled=aj)(hit:mR s.heap it S (.ref pl) i n ep)(hs:oN (bt w) s.heap S es ep t)(hp:Fb s.heap pl ps)(hn:n=es.size)(hk:ps.length<=i)
  (h:∀h',(∀b o,b≠it->s.heap.get? b=aa o->h'.get? b=aa o)->Q aj {s with heap:=h'}):aX (model prog w) A (m7 (.ref it)) Q E s:=by
 obtain⟨o,ho,hc,hd⟩:=id hit
 obtain⟨os,hos,exs,hds,hf,tb⟩:=id hs
 obtain⟨op,cp,hop,hdp⟩:=hp
 unfold m7;refine aK (FZ (zy (name:=eZ "__next__") hit.ty ud (pF ud hit.ty Kw ?_ (Ky _))));unfold mZ.«set_iterator.__next__»;refine aK (bh (aK (zN ho hd ?_)));dsimp only[jC];refine aK (Jh hos hds hf ?_);subst hn;rw[bJ (by simp)];refine aK (Fw hop hdp ?_);dsimp only;rw[show((ps.map λk:Nat=>jC k).toArray)[((i:Int)).toNat]?=aj by simp[hk]];dsimp only;refine aK (zO ho hd (by simp) ?_)
 obtain⟨o1,g1,c1,d1⟩:=mR.set (j:=0) (x:=.int 0 0) ho hc hd
 refine aK (zO g1 d1 (by simp) ?_);exact acr hh λh' kk=>h h' λb o hb e=>kk b o ((((tR ..).trans (tR ..)).2 b hb).trans e)
theorem ai8(hh:A.handled=aj)(ne:S≠it)(hb:bt w=ao)(nd:(!t.plain&&decide (es.size>1))=aL)(hz:t.place.size=es.size)(rs:t.place.toList.Pairwise (·<·)):
  yI prog w A it [it,S] [it] es.size (λi v=>(es.toList.map (·.2))[i]?=aa v) (λi h=>mR h it S (jC (if i=0 then 0 else t.place.getD (i-1) 0+1:Nat)) i es.size ep/\oN (bt w) h S es ep t) where
 sub:=λb hb=>by simp at hb;simp[hb]
 frame:=λ_ _ _ st hk=>⟨st.1.at λo e=>hk it (by simp) o e,st.2.at λo e=>hk S (by simp) o e⟩
 item:=λi s Q E hi st hQ=>by
  have hp:i<t.place.size:=by lia
  have bl:j9 t.place (if i=0 then 0 else t.place.getD (i-1) 0+1)=i:=by
   by_cases z:i=0
   .subst z;exact acn rs
   .rw[bJ z];have h1:i-1<t.place.size:=by lia
    have:=aac rs h1;rw[uM,nQ h1,Jp,this];lia
  refine acq (R:=aa (es[i].2,t.place[i]+1)) st.1 st.2 rfl ne (λc=>aaD st.2 hb nd ?_) rfl λh' hit' same=>hQ _ h' s.toks (by simp[hi]) ⟨?_,st.2.at λo e=>(same.2 S ne).trans e⟩ λb o hb e=>(same.2 b λz=>hb (by simp[z])).trans e
  .rw[bl,nQ hi,nQ hp];exact c
  .have e1:(if i+1=0 then 0 else t.place.getD (i+1-1) 0+1)=t.place[i]+1:=by
    rw[bJ (by lia),Nat.add_sub_cancel,uM,nQ hp,Jp]
   rw[e1];exact hit'
 done:=λs Q E st hQ=>by
  have bl:j9 t.place (if es.size=0 then 0 else t.place.getD (es.size-1) 0+1)=es.size:=by
   by_cases z:es.size=0
   .rw[bC z,z];exact acn rs
   .rw[bJ z];have h1:es.size-1<t.place.size:=by lia
    have:=aac rs h1;rw[uM,nQ h1,Jp,this];lia
  refine adh hh st.1 st.2 rfl (λc=>aaD st.2 hb nd ?_) λh' kk=>hQ h' s.toks λb o hb e=>kk b o (λz=>hb (by simp[z])) e
  rw[bl,XC (cz _)];exact c
 self:=λ_ _ _ _ st hQ=>Ua st.1 hQ
theorem ai9(hh:A.handled=aj)(ne:S≠it)(hb:bt w=aL):
  yI prog w A it [it,S] [it] es.size (λi v=>((zY (w.params.setOrder S ep) es).toList.map (·.2))[i]?=aa v) (λi h=>mR h it S (jC (0:Nat)) i es.size ep/\oN (bt w) h S es ep t) where
 sub:=λb hb=>by simp at hb;simp[hb]
 frame:=λ_ _ _ st hk=>⟨st.1.at λo e=>hk it (by simp) o e,st.2.at λo e=>hk S (by simp) o e⟩
 item:=λi s Q E hi st hQ=>by
  have hl:(zY (w.params.setOrder S ep) es).size=es.size:=by rw[<-nD,(RM _ es).length_eq,nD]
  have hp:i<(zY (w.params.setOrder S ep) es).size:=by lia
  refine acq (R:=aa ((zY (w.params.setOrder S ep) es)[i].2,0)) st.1 st.2 rfl ne (λc=>aaE st.2 hb ?_) rfl λh' hit' same=>hQ _ h' s.toks (by simp[hp]) ⟨hit',st.2.at λo e=>(same.2 S ne).trans e⟩ λb o hb e=>(same.2 b λz=>hb (by simp[z])).trans e
  rw[nQ hp];exact c
 done:=λs Q E st hQ=>by
  have hl:(zY (w.params.setOrder S ep) es).size=es.size:=by rw[<-nD,(RM _ es).length_eq,nD]
  refine adh hh st.1 st.2 rfl (λc=>aaE st.2 hb ?_) λh' kk=>hQ h' s.toks λb o hb e=>kk b o (λz=>hb (by simp[z])) e
  rw[XC (by lia)];exact c
 self:=λ_ _ _ _ st hQ=>Ua st.1 hQ
theorem aih(hh:A.handled=aj)(ne:S≠it)(np:pl≠it)(pp:ps.Perm (fj es.size)):
  yI prog w A it [it,S,pl] [it] es.size (λi v=>(ps.map λk=>(es.getD k (0,.none)).2)[i]?=aa v) (λi h=>mR h it S (.ref pl) i es.size ep/\oN (bt w) h S es ep t/\Fb h pl ps) where
 sub:=λb hb=>by simp at hb;simp[hb]
 frame:=λ_ _ _ st hk=>⟨st.1.at λo e=>hk it (by simp) o e,st.2.1.at λo e=>hk S (by simp) o e,st.2.2.at λo e=>hk pl (by simp) o e⟩
 item:=λi s Q E hi st hQ=>by
  have hl:ps.length=es.size:=by rw[pp.length_eq,mU]
  have hp:i<ps.length:=by lia
  have hk:ps[i]<es.size:=rT.mp (pp.mem_iff.mp (zJ hp));refine alp (k:=ps[i]) (e:=es[ps[i]]) st.1 st.2.1 st.2.2 rfl (j7 hp) (nQ hk) λh' hit' same=>hQ _ h' s.toks ?_ ⟨hit',st.2.1.at λo e=>(same.2 S ne).trans e,st.2.2.at λo e=>(same.2 pl np).trans e⟩ λb o hb e=>(same.2 b λz=>hb (by simp[z])).trans e
  rw[iG,j7 hp,mW,uM,nQ hk];rfl
 done:=λs Q E st hQ=>by
  have hl:ps.length=es.size:=by rw[pp.length_eq,mU]
  exact am2 hh st.1 st.2.1 st.2.2 rfl (by lia) λh' kk=>hQ h' s.toks λb o hb e=>kk b o (λz=>hb (by simp[z])) e
 self:=λ_ _ _ _ st hQ=>Ua st.1 hQ
end
section
variable{prog:bQ}{w:bK}{A:cV}{E:Value->aJ->Prop}{s:aJ}{S:aq}{es:Array (Int×Value)}{ep:Nat}{t:wC}
theorem aja(hs:oN (bt w) s.heap S es ep t)(h:Q (bt w&&(!t.plain&&decide (es.size>1))) s):aX (model prog w) A (setDrawn S) Q E s:=by
 obtain⟨os,hos,exs,hds,hf,tb⟩:=id hs
 unfold setDrawn;refine aK (Ft hos hds hf ?_);refine aK (Lr (bh ?_));rw[Bool.not_not];exact h
theorem aj6(hh:A.handled=aj)(hs:oN (bt w) s.heap S es ep t)(hb:es.size<rW)
  (h:∀(I:aq)(h1:bw)(d:Al)(fp:List aq)(out:List Value)(St:Nat->bw->Prop),yI prog w A I fp [I] es.size (λi v=>out[i]?=aa v) St->St 0 h1->out.Perm (es.toList.map (·.2))->(∀b o,s.heap.get? b=aa o->h1.get? b=aa o)->s.heap.objs.size<=I->
   (∀b∈fp,b=S\/s.heap.objs.size<=b)->Q (.ref I) {s with heap:=h1,drawn:=d}):aX (model prog w) A (Dz (.ref S)) Q E s:=by
 obtain⟨os,hos,exs,hds,hf,tb⟩:=id hs
 have hT:s.TypeIs (.ref S) "set":=⟨os,hos,exs.1⟩
 have lt:S<s.heap.objs.size:=cN hos;have hz:t.place.size=es.size:=by
  have:=hf;simp only[SetTable.fits,jX,beq_iff_eq] at this;exact this.1
 refine Yb hT agP (pF agP hT aif ?_ (F.args_set_iter_1 _));unfold mZ.«frozenset.__iter__» arH arA;refine aK (aK (bh (bh ?_)));refine aK (aK (Jh hos hds hf (bh ?_)));refine aK (aja hs ?_);by_cases hd:(bt w&&(!t.plain&&decide (es.size>1)))=ao
 .rw[bC hd];refine aK (abj _ _ _ _ (mU ..) λps d pp=>?_);have pl:ps.length=es.size:=by rw[pp.length_eq,mU]
  unfold newTuple;refine aK (nF ?_ (show(List.map (λi:Nat=>jC i) ps).toArray.size<=cH by rw[gG,bz,pl,jq];unfold rW at hb;lia));have g1:(s.heap.push {cls:=.type "tuple",data:=.seq (ps.map λk:Nat=>jC k).toArray}).get? S=aa os:=cR _ hos;refine aK (agn (s:={s with heap:=s.heap.push _,drawn:=d}) g1 hds hf ?_);refine aK ?_;unfold newFields;refine nF ?_;refine bh ⟨_,rfl,"set_iterator",_,⟨_,iK _ rfl,rfl⟩,ud.lookup,?_⟩;have zc:(s.heap.push {cls:=.type "tuple",data:=.seq (ps.map λk:Nat=>jC k).toArray}).objs.size=s.heap.objs.size+1:=zM ..;refine h _ _ d [_,S,s.heap.objs.size] _ _ (aih (ep:=ep) (t:=t) hh ?_ ?_ pp) ⟨⟨_,iK _ rfl,rfl,rfl⟩,⟨os,cR _ g1,exs,hds,hf,tb⟩,⟨_,0,cR _ (iK _ rfl),rfl⟩⟩ ?_ (λb o e=>cR _ (cR _ e)) ?_ ?_
  .rw[zc];exact eU (zF lt)
  .rw[zc];exact eU (Yo _)
  .have e2:(fj es.size).map (λk=>(es.getD k (0,nJ)).2)=es.toList.map (·.2):=by
    refine BL (by simp) λj h1 h2=>?_
    have hj:j<es.size:=by simpa using h1
    simp[uM,nQ hj]
   rw[<-e2];exact pp.map _
  .rw[zc];exact wA _
  .intro b hb';simp only[cM,mV,or_false] at hb';rcases hb' with rfl|rfl|rfl
   .right;rw[zc];exact wA _
   .exact .inl rfl
   .exact .inr (cz _)
 .rw[bJ hd];refine aK (bh ?_);refine aK (agn hos hds hf ?_);refine aK ?_;unfold newFields;refine nF ?_;refine bh ⟨_,rfl,"set_iterator",_,⟨_,iK _ rfl,rfl⟩,ud.lookup,?_⟩;have aen:∀b,b∈[s.heap.objs.size,S]->b=S\/s.heap.objs.size<=b:=λb hb'=>by
   simp only[cM,mV,or_false] at hb';rcases hb' with rfl|rfl
   .exact .inr (cz _)
   .exact .inl rfl
  cases hbt:bt w with
  |true=>
   rw[hbt] at hd;have nd:(!t.plain&&decide (es.size>1))=aL:=by simpa using hd
   exact h _ _ s.drawn [_,S] _ _ (ai8 (ep:=ep) hh (eU lt) hbt nd hz tb.WM) ⟨⟨_,iK _ rfl,rfl,rfl⟩,⟨os,cR _ hos,exs,hds,hf,tb⟩⟩ (.refl _) (λb o e=>cR _ e) (cz _) aen
  |false=>
   exact h _ _ s.drawn [_,S] _ _ (ai9 (ep:=ep) (t:=t) hh (eU lt) hbt) ⟨⟨_,iK _ rfl,rfl,rfl⟩,⟨os,cR _ hos,exs,hds,hf,tb⟩⟩ ((RM _ es).map _) (λb o e=>cR _ e) (cz _) aen
end
end L2
namespace L2
open PySem PySem.Spec PySem.W PyProof.Rows
section
variable{prog:bQ}{w:bK}{A:cV}{E:Value->aJ->Prop}{s:aJ}{S:aq}{es:Array (Int×Value)}{ep:Nat}{t:wC}
theorem aj7(hT:s.TypeIs (.ref S) "set")(h:Q aL s):aX (model prog w) A (afk (.ref S)) Q E s:=by
 unfold afk;refine aK (wpAny_specialOf hT PySem.F.slot_set_len.lookup ?_);generalize hid:("set.__len__":String)=nm
 wp_delta
 rw[show splitId nm=aa ("set","__len__") by subst hid;decide +kernel];subst hid;refine aK (Ym (T:="set") (b:=ao) hT (by rw[YL];kernel_rfl) ?_);refine Py (λz=>absurd z (by decide)) λ_=>Py (λ_=>?_) λz=>absurd (by decide +kernel) z
 exact aK (Cv hT (bh h))
theorem ajb{out:List Value}{acc:Array Value}(h:ItemsOf (λi v=>out[i]?=aa v) acc out.length):acc=out.toArray:=by
 refine Array.ext (by simpa using h.1) λj h1 h2=>?_
 have this:out[j]?=aa acc[j]:=h.2 j acc[j] (nQ h1);have hj:j<out.length:=by simpa using h2
 rw[j7 hj] at this;simpa using(gH this).symm
theorem aii{R:sE->aJ->Prop}(hh:A.handled=aj)(hs:oN (bt w) s.heap S es ep t)(hb:es.size<rW){L:aq}(ne:L≠S){c0:Nat}(hL:s.heap.get? L=aa {cls:=.type "list",data:=.seq #[] c0})(res:Value)
  (hR:∀(h':bw)(d:Al)(tk:Nat)(us:List Value)(c':Nat),us.Perm (es.toList.map (·.2))->(∀b o,b≠L->s.heap.get? b=aa o->h'.get? b=aa o)->h'.get? L=aa {cls:=.type "list",dict:=aj,data:=.seq us.toArray c',slots:=#[]}->
   R (.ok (.ret res)) {s with heap:=h',drawn:=d,toks:=tk}):
  aX (model prog w) A.in1 (Oj (.ref L) (.ref S) res) (λfin s'=>match fin with|.done f=>R (.ok f) s'|.again c'=>c'.quiet=ao/\mJ (model prog w) A c' R s') (λe s'=>R (.error e) s') s:=by
 obtain⟨os,hos,exs,hds,hf,tb⟩:=id hs
 have hT:s.TypeIs (.ref S) "set":=⟨os,hos,exs.1⟩
 have ltL:L<s.heap.objs.size:=cN hL;unfold Oj;refine aK (Cv hT ?_);rw[show(Xv (.ref L) (.ref S)||Gh "set"==Gh "list"||Gh "set"==Gh "tuple")=aL by
  rw[show Xv (.ref L) (.ref S)=aL by simp[Xv,ne]];decide]
 simp only[qQ,if_false];refine aK (aj6 (A:=A.in1) hh hs hb λI h1 d fp out St W st pm kp geI okf=>?_);have lo:out.length=es.size:=by rw[pm.length_eq,bz,nD]
 have bZ:L∉fp:=λz=>(okf L z).elim ne λz'=>absurd ltL (Rh.mpr z')
 have run:∀(h2:bw)(c1 tk:Nat),St 0 h2->(∀b o,b≠L->s.heap.get? b=aa o->h2.get? b=aa o)->h2.get? L=aa {cls:=.type "list",data:=.seq #[] c1}->
   mJ (model prog w) A (.builtin "list.extend.loop" ⟨[.ref L,.ref I,res],[]⟩) R {s with heap:=h2,drawn:=d,toks:=tk}:=λh2 c1 tk st2 k2 g2=>by
  refine codeAny_extend_loopS W.toS (Yh hb) L bZ res es.size 0 _ #[] c1 rfl (nH _) st2 g2 (ItemsOf.nil _) λs3 acc c3 mv g3 io=>?_
  rw[<-lo] at io;have ea:=ajb io;subst ea;rw[Moved.eq_with mv];refine hR s3.heap d s3.toks out c3 pm (λb o nb e=>mv.heap b o (λz=>?_) (k2 b o nb e)) g3;rcases cM.mp z with z|z
  .exact nb z
  .exact absurd (cN e) (by rw[j8.mp z];exact Rh.mpr geI)
 have gL:=kp L _ hL;have gS:Shared.TypeIs {s with heap:=h1,drawn:=d} (.ref S) "set":=⟨os,kp S _ hos,exs.1⟩
 refine aK (mX (aj7 gS ?_));refine Py (λ_=>?_) λ_=>bh ⟨wz afq _,run h1 c0 s.toks st (λb o _ e=>kp b o e) gL⟩
 refine aK (yf (aK (show aX _ _ (RN L (·.push .none) >>= λ_=>RN L (·.pop)) _ _ _ from ?_)));refine aK (Jt gL rfl ?_);have u2:=zA (nW (·.push nJ)) gL rfl;refine Jt (hz:=by seq_fits) u2 rfl ?_;have u3:=zA (nW (·.pop)) u2 rfl;have far:∀b o,b≠L->h1.get? b=aa o->((h1.update L (nW (·.push nJ))).update L (nW (·.pop))).get? b=aa o:=λb o nb e=>
  (uN _ _ (kI nb)).trans ((uN _ _ (kI nb)).trans e)
 exact bh ⟨wz afq _,run _ _ s.toks (W.frame 0 _ _ st λb hb' o e=>far b o (λz=>bZ (z▸hb')) e) (λb o nb e=>far b o nb (kp b o e)) u3⟩
theorem ahS(hh:A.handled=aj)(hs:oN (bt w) s.heap S es ep t)(hb:es.size<rW)
  (h:∀(h':bw)(d:Al)(tk:Nat)(us:List Value),us.Perm (es.toList.map (·.2))->s.heap.objs.size<=h'.objs.size->(∀b o,s.heap.get? b=aa o->h'.get? b=aa o)->R us {s with heap:=h',drawn:=d,toks:=tk}):
  aX (model prog w) A (collect (.ref S)) R E s:=by
 have ltS:S<s.heap.objs.size:=let ⟨_,e,_⟩:=hs;cN e
 unfold collect;refine aK (wpAny_runValue (xV entry_proto_collect' ?_));rw[xN afj _];show aX _ A.in1 (newList [] >>= λl=>again (.builtin "list.__iadd__" ⟨[l,.ref S],[]⟩)) _ _ s;refine aK (nF (bh ⟨wz Ov _,xV entry_list_iadd' ?_⟩));rw[xN Ov _];have g0:(s.heap.push {cls:=.type "list",data:=.seq ([]:List Value).toArray}).get? s.heap.objs.size=aa {cls:=.type "list",data:=.seq #[]}:=iK _ rfl;show aX _ A.in1 (Oj (.ref s.heap.objs.size) (.ref S) (.ref s.heap.objs.size)) _ _ _;have key:=aii (prog:=prog) (A:=A) (s:={s with heap:=s.heap.push {cls:=.type "list",data:=.seq ([]:List Value).toArray}})
  (R:=λ(q:sE)(s':aJ)=>∃(h':bw)(d:Al)(tk:Nat)(us:List Value)(c':Nat),q=.ok (.ret (.ref s.heap.objs.size))/\s'={s with heap:=h',drawn:=d,toks:=tk}/\us.Perm (es.toList.map (·.2))/\(∀b o,s.heap.get? b=aa o->h'.get? b=aa o)/\h'.get? s.heap.objs.size=aa {cls:=.type "list",dict:=aj,data:=.seq us.toArray c',slots:=#[]})
  hh (hs.at λo e=>cR _ e) hb (zT ltS) g0 (.ref s.heap.objs.size) (λh' d tk us c' pm kk g=>⟨h',d,tk,us,c',rfl,rfl,pm,λb o e=>kk b o (eU (cN e)) (cR _ e),g⟩)
 refine qz key (λfin s' x=>?_) λe s' x=>?_
 .cases fin with
  |done f=>
   obtain⟨h',d,tk,us,c',e,rfl,pm,kk,g⟩:=x
   cases e;show aX _ A (load s.heap.objs.size >>= _) _ _ _;exact aK (J7 g (bh (h h' d tk us pm (yc (cN g)) kk)))
  |again c1=>
   refine⟨x.1,JL x.2 λq s2 y=>?_⟩
   obtain⟨h',d,tk,us,c',rfl,rfl,pm,kk,g⟩:=y
   show aX _ A (load s.heap.objs.size >>= _) _ _ _;exact aK (J7 g (bh (h h' d tk us pm (yc (cN g)) kk)))
 .obtain⟨_,_,_,_,_,e',_⟩:=x
  cases e'
end
section
variable{prog:bQ}{w:bK}{A:cV}{E:Value->aJ->Prop}{s:aJ}{S:aq}{es:Array (Int×Value)}{ep:Nat}{t:wC}
theorem aij{Ok:List Value->Prop}{Q:Value->aJ->Prop}(hh:A.handled=aj)(hs:oN (bt w) s.heap S es ep t)(few:es.size<64)
  (srt:∀us:List Value,us.Perm (es.toList.map (·.2))->∀(B:cV)(s1:aJ)(a:aq)(n:Nat)(P:Fin->aJ->Prop)(E':Value->aJ->Prop),s1.heap.get? a=aa (seqObj "list" us.toArray n)->
   (∀out:Array Value,Ok out.toList->P (.done (.ret .none)) {s1 with heap:=sortedHeap s1.heap a us out})->aX (model prog w) B (mZ.«list.sort» ⟨[.ref a],[]⟩) P E' s1)
  (h:∀(D:aq)(h':bw)(d:Al)(tk c:Nat)(out:Array Value),Ok out.toList->s.heap.objs.size<=D->(∀b o,s.heap.get? b=aa o->h'.get? b=aa o)->h'.get? D=aa (seqObj "list" out c)->Q (.ref D) {s with heap:=h',drawn:=d,toks:=tk}):
  aX (model prog w) A (call (.builtin "sorted") [.ref S]) Q E s:=by
 refine Oo kind_sorted plain_sorted entry_sorted (args_sorted1 _) ?_;unfold mZ.«sorted»;refine aK (m:=Ri "sorted" 1 1 _) (bh (aK (ahS (A:=A.in1) hh hs (by unfold rW;lia) λh1 d tk us pm ge kk=>?_)));have lu:us.length=es.size:=by rw[pm.length_eq,bz,nD]
 refine aK (JC ?_ (by rw[jq];lia));have gL:(h1.push (seqObj "list" us.toArray 0)).get? h1.objs.size=aa (seqObj "list" us.toArray 0):=iK _ rfl;refine aK (mX (pF slot_list_sort ⟨_,gL,rfl⟩ entry_list_sort (srt us pm _ {s with heap:=h1.push (seqObj "list" us.toArray 0),drawn:=d,toks:=tk} _ 0 _ _ gL λout ok=>⟨_,rfl,?_⟩) (args_list_sort _)))
 obtain⟨c,gD⟩:=sortedHeap_at (out:=out) gL
 refine bh ⟨_,rfl,h h1.objs.size _ d tk c out ok ge (λb o e=>?_) gD⟩;have lb:b<h1.objs.size:=cN (kk b o e)
 show(sortedHeap (h1.push (seqObj "list" us.toArray 0)) h1.objs.size us out).get? b=aa o
 rw[sortedHeap_old (eU lb) (by rw[zM];exact zF lb)];exact cR _ (kk b o e)
end
theorem Inv.drew(d:Al)(I:Inv X pins σ H s):Inv X pins σ H {s with drawn:=d}:=
 I.call (g':=s.gens) (t':=s.toks) (d':=d) (ch:=[]) (Un.kept λ_ _ e=>e) (I.hok.kept λ_ _ e=>e) I.bare (λ_ z=>nomatch z)
section
variable{X:Cx}{T:Type}[DecidableEq T]{knd:xX X.prog X.w T}{l:Expr}{tl:TE}{p1 p2 pos1 pos2:Pos}
end
section
variable{prog:bQ}{w:bK}
theorem aj8(h:lZ (JD prog w) es ks):(es.map (·.2)).map strOf=ks/\∀v,v∈es.map (·.2)->∃x t,v=.str x t:=by
 induction h with
 |nil=>exact⟨rfl,λv hv=>by cases hv⟩
 |@cons e k es ks a _ ih=>
  obtain⟨t,ht⟩:=afR (show Y0 k e.2=ao from a.1)
  refine⟨by rw[cO,cO,ih.1,ht];rfl,λv hv=>?_⟩
  rcases cM.mp hv with rfl|hv
  .exact⟨k,t,ht⟩
  .exact ih.2 v hv
end
section
variable{X:Cx}{l:Expr}{tl:TE}{p1 p2 pos1 pos2:Pos}
end
section
variable{prog:bQ}{w:bK}{A:cV}{E:Value->aJ->Prop}{s:aJ}{R:sE->aJ->Prop}{I S:aq}{fp wr:List aq}{n:Nat}{Pv:Nat->Value->Prop}{St:Nat->bw->Prop}{bt:Nat->Nat->Bool}
def an5(v:Value)(c:Nat):Obj:={cls:=.type "list",dict:=aj,data:=.seq #[v,v] c,slots:=#[]}
end
section
variable{prog:bQ}{w:bK}{A:cV}{E:Value->aJ->Prop}{s:aJ}
theorem ahs{id:String}{b:mZ}{as:List Value}{kw:List (Str×Value)}{Q:Value->aJ->Prop}(hk:builtinKind id=aj)(hp:plainId id=ao)(hb:K5 table id=aa b)(ha:G6 id ⟨as,kw⟩)
  (hc:aX (model prog w) A.in1 (b ⟨as,kw⟩) (λfin s'=>match fin with
   |.done f=>(match(Except.ok f:sE) with|.ok (.ret v)=>Q v s'|.ok _=>False|.error e=>E e s')
   |.again c'=>c'.quiet=ao/\mJ (model prog w) A c' (λr s'=>match r with|.ok (.ret v)=>Q v s'|.ok _=>False|.error e=>E e s') s') E s):aX (model prog w) A (call (.builtin id) as kw) Q E s:=by
 refine wpAny_call (codeAny_call_builtin hp hb ?_);simp only[checkBuiltinCall,hk];cases hg:Manifest.signature? id with
 |none=>exact bh hc
 |some sg=>
  simp only[G6,hg] at ha;show aX _ A.in1 (agS id sg ⟨as,kw⟩) _ _ s;rw[show agS id sg ⟨as,kw⟩=pure () from ha];exact bh hc
end
section
variable{X:Cx}{l de:Expr}{tl td:TE}{p pos kp:Pos}
end
end L2
namespace L2
open PySem PySem.Spec PyProof.Rows PySem.W
def dm:aC->Option Key
 |.int i=>aa (.inl i)
 |.str x=>aa (.inr x)
 |_=>aj
def keysOf:List aC->Option (List Key)
 |[]=>aa []
 |d::r=>match dm d,keysOf r with
  |some k,some t=>aa (k::t)
  |_,_=>aj
def sI:aC->Option (List Key)
 |.tuple ds=>keysOf ds
 |_=>aj
def cW{κ:Type}(f:aC->Option κ):List (aC×aC)->Option (List κ)
 |[]=>aa []
 |p::r=>match f p.1,cW f r with
  |some k,some t=>aa (k::t)
  |_,_=>aj
def zf(H:Hp)(a:aq)(kvs:List (aC×aC))(vs:List V):Prop:=
 (∃ks,cW dm kvs=aa ks/\H a=aa (.dK (ks.zip vs)))\/∃ks,(kvs≠[]/\cW sI kvs=aa ks)/\H a=aa (.dT (ks.zip vs))
mutual
def RZ(H:Hp):aC->V->Prop
 |.none,v=>v=.non
 |.bool b,v=>v=.bl b
 |.int i,v=>v=.int i
 |.str x,v=>v=.str x
 |.list ds,v=>∃a vs,v=.ref a/\H a=aa (.lst vs)/\cU H ds vs
 |.tuple ds,v=>∃a vs,v=.ref a/\H a=aa (.tup vs)/\cU H ds vs
 |.dict kvs,v=>∃a vs,v=.ref a/\zf H a kvs vs/\ju H kvs vs
def cU(H:Hp):List aC->List V->Prop
 |[],vs=>vs=[]
 |d::ds,vs=>∃v r,vs=v::r/\RZ H d v/\cU H ds r
def ju(H:Hp):List (aC×aC)->List V->Prop
 |[],vs=>vs=[]
 |p::r,vs=>∃v t,vs=v::t/\RZp H p v/\ju H r t
def RZp(H:Hp):aC×aC->V->Prop
 |(_,d),v=>RZ H d v
end
theorem zf.same(s:bW H H')(h:zf H a kvs vs):zf H' a kvs vs:=by
 rcases h with⟨ks,e,h⟩|⟨ks,e,h⟩
 .exact .inl ⟨ks,e,s _ _ h⟩
 .exact .inr ⟨ks,e,s _ _ h⟩
mutual
theorem RZ.same(s:bW H H'):∀{d:aC}{v:V},RZ H d v->RZ H' d v
 |.none,_,h=>h
 |.bool _,_,h=>h
 |.int _,_,h=>h
 |.str _,_,h=>h
 |.list ds,_,h=>by
  obtain⟨a,vs,e,q,r⟩:=h
  exact⟨a,vs,e,s _ _ q,cU.same s r⟩
 |.tuple ds,_,h=>by
  obtain⟨a,vs,e,q,r⟩:=h
  exact⟨a,vs,e,s _ _ q,cU.same s r⟩
 |.dict kvs,_,h=>by
  obtain⟨a,vs,e,q,r⟩:=h
  exact⟨a,vs,e,q.same s,ju.same s r⟩
theorem cU.same(s:bW H H'):∀{ds:List aC}{vs:List V},cU H ds vs->cU H' ds vs
 |[],_,h=>h
 |d::ds,vs,h=>by
  obtain⟨v,r,e,q,t⟩:=h
  exact⟨v,r,e,RZ.same s q,cU.same s t⟩
theorem ju.same(s:bW H H'):∀{kvs:List (aC×aC)}{vs:List V},ju H kvs vs->ju H' kvs vs
 |[],_,h=>h
 |(k,d)::ds,vs,h=>by
  obtain⟨v,r,e,q,t⟩:=h
  exact⟨v,r,e,RZ.same s q,ju.same s t⟩
end
theorem jA:∀{ds:List aC}{vs:List V},cU H ds vs->vs.length=ds.length
 |[],_,h=>by cases(show _=[] from h);rfl
 |e::ds,vs,h=>by
  obtain⟨u,r,e1,q,s⟩:=h
  subst e1;rw[dw,dw,jA s]
theorem Dp:∀{ds:List (aC×aC)}{vs:List V},ju H ds vs->vs.length=ds.length
 |[],_,h=>by cases(show _=[] from h);rfl
 |e::ds,vs,h=>by
  obtain⟨u,r,e1,q,s⟩:=h
  subst e1;rw[dw,dw,Dp s]
theorem wN:∀{ds:List aC}{vs:List V}{i:Nat}{d:aC},cU H ds vs->ds[i]?=aa d->∃v,vs[i]?=aa v/\RZ H d v
 |[],_,_,_,_,e=>by simp at e
 |x::ds,vs,i,d,h,e=>by
  obtain⟨u,r,e1,q,s⟩:=h
  subst e1;cases i with
  |zero=>cases e;exact⟨u,rfl,q⟩
  |succ i=>
   obtain⟨v,e2,h2⟩:=wN (i:=i) s (by simpa using e)
   exact⟨v,by simpa using e2,h2⟩
theorem yu:∀{ds es:List aC}{vs ws:List V},cU H ds vs->cU H es ws->cU H (ds++es) (vs++ws)
 |[],_,_,_,h,g=>by cases(show _=[] from h);exact g
 |d::ds,_,_,_,h,g=>by
  obtain⟨u,r,e1,q,s⟩:=h
  subst e1
  exact⟨u,_,rfl,q,yu s g⟩
theorem abk:∀{ds:List aC}{vs:List V}(n:Nat),cU H ds vs->cU H (ds.take n) (vs.take n)
 |_,_,0,_=>by rw[agT,agT];rfl
 |[],_,n+1,h=>by cases(show _=[] from h);rfl
 |d::ds,_,n+1,h=>by
  obtain⟨u,r,e1,q,s⟩:=h
  subst e1
  exact⟨u,_,rfl,q,abk n s⟩
theorem abl:∀{ds:List aC}{vs:List V}(n:Nat),cU H ds vs->cU H (ds.drop n) (vs.drop n)
 |_,_,0,h=>h
 |[],_,n+1,h=>by cases(show _=[] from h);rfl
 |d::ds,_,n+1,h=>by
  obtain⟨u,r,e1,q,s⟩:=h
  subst e1;exact abl n s
theorem acu(hv:RZ H d v):∀{ds:List aC}{vs:List V}(i:Nat),cU H ds vs->cU H (ds.set i d) (vs.set i v)
 |[],_,_,h=>by cases(show _=[] from h);rfl
 |x::ds,_,i,h=>by
  obtain⟨u,r,e1,q,s⟩:=h
  subst e1;cases i with
  |zero=>exact⟨v,r,rfl,hv,s⟩
  |succ i=>exact⟨u,_,rfl,q,acu hv i s⟩
def lD:aC->Bool
 |.none=>ao
 |.bool _=>ao
 |.int _=>ao
 |.str _=>ao
 |_=>aL
def toV:aC->V
 |.none=>.non
 |.bool b=>.bl b
 |.int i=>.int i
 |.str x=>.str x
 |_=>.non
theorem alq(f:lD d=ao)(h:RZ H d v):v=toV d:=by
 cases d<;>first|exact h|cases f
theorem alr(f:lD d=ao):RZ H d (toV d):=by
 cases d<;>first|rfl|cases f
theorem SQ:∀{ds:List aC}{vs:List V},ds.all lD=ao->cU H ds vs->vs=ds.map toV
 |[],_,_,h=>h
 |d::ds,vs,f,h=>by
  obtain⟨u,r,e1,q,s⟩:=h
  rw[Qh,jX] at f;rw[e1,alq f.1 q,SQ f.2 s];rfl
theorem aj9(ns:List Int):cU H (ns.map dN) (ns.map V.int):=by
 induction ns with
 |nil=>rfl
 |cons n r ih=>exact⟨_,_,rfl,rfl,ih⟩
theorem SX(ns:List Str):cU H (ns.map fB) (ns.map V.str):=by
 induction ns with
 |nil=>rfl
 |cons n r ih=>exact⟨_,_,rfl,rfl,ih⟩
mutual
def mj:aC->Bool
 |.list _=>aL
 |.tuple ds=>iR ds
 |.dict _=>aL
 |_=>ao
def iR:List aC->Bool
 |[]=>ao
 |d::r=>mj d&&iR r
end
mutual
theorem RZ.mj(t:∀a vs,H a=aa (.tup vs)->H' a=aa (.tup vs)):∀{d:aC}{v:V},mj d=ao->RZ H d v->RZ H' d v
 |.none,_,_,h=>h
 |.bool _,_,_,h=>h
 |.int _,_,_,h=>h
 |.str _,_,_,h=>h
 |.list ds,_,n,h=>nomatch n
 |.tuple ds,_,n,h=>by
  obtain⟨a,vs,e,q,r⟩:=h
  exact⟨a,vs,e,t _ _ q,cU.mj t n r⟩
 |.dict _,_,n,_=>nomatch n
theorem cU.mj(t:∀a vs,H a=aa (.tup vs)->H' a=aa (.tup vs)):∀{ds:List aC}{vs:List V},iR ds=ao->cU H ds vs->cU H' ds vs
 |[],_,_,h=>h
 |d::ds,vs,n,h=>by
  obtain⟨v,r,e,q,w⟩:=h
  have n':L2.mj d=ao/\iR ds=ao:=by rw[iR,jX] at n;exact n
  exact⟨v,r,e,RZ.mj t n'.1 q,cU.mj t n'.2 w⟩
end
mutual
def lg:aC->Bool
 |.list ds=>sZ ds
 |.tuple ds=>sZ ds
 |.dict _=>aL
 |_=>ao
def sZ:List aC->Bool
 |[]=>ao
 |d::r=>lg d&&sZ r
end
mutual
theorem RZ.rx:∀{d:aC}{v:V},lg d=ao->RZ H d v->RX H d v
 |.none,_,_,h=>h
 |.bool _,_,_,h=>h
 |.int _,_,_,h=>h
 |.str _,_,_,h=>h
 |.list ds,_,n,h=>by
  obtain⟨a,vs,e,q,r⟩:=h
  exact⟨a,vs,e,q,cU.rx n r⟩
 |.tuple ds,_,n,h=>by
  obtain⟨a,vs,e,q,r⟩:=h
  exact⟨a,vs,e,q,cU.rx n r⟩
 |.dict _,_,n,_=>nomatch n
theorem cU.rx:∀{ds:List aC}{vs:List V},sZ ds=ao->cU H ds vs->oO H ds vs
 |[],_,_,h=>h
 |d::ds,vs,n,h=>by
  obtain⟨v,r,e,q,t⟩:=h
  have n':lg d=ao/\sZ ds=ao:=by rw[sZ,jX] at n;exact n
  exact⟨v,r,e,RZ.rx n'.1 q,cU.rx n'.2 t⟩
end
inductive Vl where
 |im (d:aC)
 |ow (d:aC)
 |ce (n:Nat)
 |sc (ns:List Int)
abbrev En:=List (Option Vl)
abbrev Ce:=List (List Int)
def own1:Option Vl->Option V->List aq
 |some (.ow _),some (.ref a)=>[a]
 |_,_=>[]
def cg:En->St->List aq
 |x::e,v::s=>own1 x v++cg e s
 |_,_=>[]
theorem nZ:∀{env:En}{σ:St},a∈cg env σ↔∃(i:Nat)(d:aC),env[i]?=aa (aa (Vl.ow d))/\σ[i]?=aa (aa (V.ref a))
 |[],σ=>by
  constructor
  .intro h;simp[cg] at h
  .rintro⟨i,d,e,_⟩;simp at e
 |x::e,[]=>by
  constructor
  .intro h;simp[cg] at h
  .rintro⟨i,d,_,e⟩;simp at e
 |x::e,v::s=>by
  rw[cg,dR,nZ (env:=e) (σ:=s)];constructor
  .rintro(h|⟨i,d,h1,h2⟩)
   .unfold own1 at h;split at h
    .rw[j8] at h;subst h
     exact⟨0,_,rfl,rfl⟩
    .simp at h
   .exact⟨i+1,d,by simpa using h1,by simpa using h2⟩
  .rintro⟨i,d,h1,h2⟩
   cases i with
   |zero=>
    simp at h1 h2;subst h1 h2;exact .inl (j8.mpr rfl)
   |succ i=>exact .inr ⟨i,d,by simpa using h1,by simpa using h2⟩
theorem GC:∀{env:En}{σ:St}{i j:Nat}{d e:aC},(cg env σ).Nodup->env[i]?=aa (aa (Vl.ow d))->σ[i]?=aa (aa (V.ref a))->env[j]?=aa (aa (Vl.ow e))->σ[j]?=aa (aa (V.ref a))->i=j
 |[],_,i,_,_,_,_,h,_,_,_=>by simp at h
 |_::_,[],i,_,_,_,_,_,h,_,_=>by simp at h
 |x::en,v::s,i,j,d,e,nd,h1,h2,h3,h4=>by
  rw[cg,lO] at nd;cases i with
  |zero=>
   cases j with
   |zero=>rfl
   |succ j=>
    simp at h1 h2;subst h1 h2;have:a∈cg en s:=nZ.mpr ⟨j,e,by simpa using h3,by simpa using h4⟩;exact absurd rfl (nd.2.2 a (j8.mpr rfl) a this)
  |succ i=>
   cases j with
   |zero=>
    simp at h3 h4;subst h3 h4;have:a∈cg en s:=nZ.mpr ⟨i,d,by simpa using h1,by simpa using h2⟩;exact absurd rfl (nd.2.2 a (j8.mpr rfl) a this)
   |succ j=>rw[GC (i:=i) (j:=j) nd.2.1 (by simpa using h1) (by simpa using h2) (by simpa using h3) (by simpa using h4)]
def WN(x y:Option Vl):Prop:=y=x\/∃d,x=aa (.ow d)/\y=aa (.im d)
def Fz:En->En->Prop
 |[],[]=>True
 |x::r,y::t=>WN x y/\Fz r t
 |_,_=>False
theorem Fz.refl:∀e:En,Fz e e
 |[]=>trivial
 |x::r=>⟨.inl rfl,Fz.refl r⟩
theorem Fz.trans:∀{a b c:En},Fz a b->Fz b c->Fz a c
 |[],[],[],_,_=>trivial
 |x::r,y::t,z::w,h,g=>by
  refine⟨?_,Fz.trans h.2 g.2⟩
  rcases h.1 with e|⟨d,e1,e2⟩
  .rw[<-e];exact g.1
  .rcases g.1 with e|⟨d',e3,e4⟩
   .exact .inr ⟨d,e1,e.trans e2⟩
   .rw[e2] at e3;cases e3
 |[],[],_::_,_,g=>nomatch g
 |[],_::_,_,h,_=>nomatch h
 |_::_,[],_,h,_=>nomatch h
 |_::_,_::_,[],_,g=>nomatch g
theorem Fz.len:∀{a b:En},Fz a b->b.length=a.length
 |[],[],_=>rfl
 |_::_,_::_,h=>by rw[dw,dw,Fz.len h.2]
 |[],_::_,h=>nomatch h
 |_::_,[],h=>nomatch h
theorem Fz.at:∀{a b:En}{i:Nat}{y:Vl},Fz a b->b[i]?=aa (aa y)->a[i]?=aa (aa y)\/∃d,a[i]?=aa (aa (.ow d))/\y=.im d
 |[],[],i,y,_,e=>by simp at e
 |x::r,z::t,0,y,h,e=>by
  simp at e;rcases h.1 with q|⟨d,q1,q2⟩
  .left;rw[<-q,e];rfl
  .right;rw[e] at q2;cases q2;exact⟨d,by rw[q1];rfl,rfl⟩
 |x::r,z::t,i+1,y,h,e=>by
  simpa using Fz.at (i:=i) h.2 (by simpa using e)
 |[],_::_,_,_,h,_=>nomatch h
 |_::_,[],_,_,h,_=>nomatch h
theorem als(h:WN x y)(v:Option V):Zt (own1 y v) (own1 x v):=by
 rcases h with e|⟨d,e1,e2⟩
 .rw[e];exact By _
 .rw[e2];exact List.nil_sublist _
theorem Fz.own:∀{a b:En}{σ:St},Fz a b->Zt (cg b σ) (cg a σ)
 |[],[],σ,_=>by cases σ<;>exact By _
 |x::r,y::t,[],h=>By _
 |x::r,y::t,v::s,h=>by
  rw[cg,cg];exact Ji (als h.1 v) (Fz.own h.2)
 |[],_::_,_,h=>nomatch h
 |_::_,[],_,h=>nomatch h
abbrev bG(Z Θ:List aq)(env:En)(σ:St):List aq:=Z++(Θ++cg env σ)
def mO(E H:Hp)(a:aq):aC->Prop
 |.list ds=>∃vs,H a=aa (.lst vs)/\cU E ds vs
 |.dict kvs=>∃vs,zf H a kvs vs/\ju E kvs vs
 |_=>False
theorem mO.same(s:bW E E')(h:∀o,H a=aa o->H' a=aa o)(r:mO E H a d):mO E' H' a d:=by
 cases d<;>first|exact r.elim|skip
 .obtain⟨vs,e,q⟩:=r
  exact⟨vs,h _ e,q.same s⟩
 .obtain⟨vs,e,q⟩:=r
  refine⟨vs,?_,q.same s⟩
  rcases e with⟨ks,k,e⟩|⟨ks,k,e⟩
  .exact .inl ⟨ks,k,h _ e⟩
  .exact .inr ⟨ks,k,h _ e⟩
theorem mO.rz(h:∀o,H a=aa o->E a=aa o)(r:mO E H a d):RZ E d (.ref a):=by
 cases d<;>first|exact r.elim|skip
 .obtain⟨vs,e,q⟩:=r
  exact⟨a,vs,rfl,h _ e,q⟩
 .obtain⟨vs,e,q⟩:=r
  refine⟨a,vs,rfl,?_,q⟩
  rcases e with⟨ks,k,e⟩|⟨ks,k,e⟩
  .exact .inl ⟨ks,k,h _ e⟩
  .exact .inr ⟨ks,k,h _ e⟩
structure bu(Θ:List aq)(H H':Hp):Prop where
 keep:∀a o,H a=aa o->a∉Θ->H' a=aa o
 dom:∀a,H a≠aj->H' a≠aj
theorem bu.refl(Θ:List aq)(H:Hp):bu Θ H H:=⟨λ_ _ e _=>e,λ_ e=>e⟩
theorem bu.trans(a:bu Θ H H1)(b:bu Θ H1 H2):bu Θ H H2:=⟨λc o e n=>b.keep _ _ (a.keep _ _ e n) n,λc e=>b.dom _ (a.dom _ e)⟩
theorem bu.none(k:bu Θ H H')(h:H' a=aj):H a=aj:=by
 cases e:H a with
 |none=>rfl
 |some o=>exact absurd h (k.dom a (by rw[e];exact xT _))
theorem bu.of(s:bW H H'):bu Θ H H':=⟨λa o e _=>s _ _ e,λa h=>by
 cases e:H a with
 |none=>exact absurd e h
 |some o=>rw[s _ _ e];exact xT _⟩
theorem bu.upd(h:H p=pI):bu Θ H (L2.upd H p o):=bu.of (bW.upd h)
theorem m9(k:bu Θ H H')(ht:∀a∈Θ,a∈Z)(hz:∀a,a∈Z'->a∈Z\/H a=aj):bW (er Z H) (er Z' H'):=λb o h=>by
 unfold er at h⊢;split at h
 .cases h
 .rename_i n;rw[bJ,k.keep _ _ h (λm=>n (ht b m))];intro m;rcases hz b m with q|q
  .exact n q
  .rw[q] at h;cases h
def Es(K:aQ)(E H:Hp)(Θ:List aq):Vl->V->Prop
 |.im d,v=>RZ E d v
 |.ow d,v=>∃a,v=.ref a/\mO E H a d
 |.ce n,v=>∃a,v=.ref a/\Θ[n]?=aa a
 |.sc ns,v=>∃a,v=.ref a/\bU K E a (ns.map V.int)
def NT(o:Option HO):Prop:=∃u,o=aa u/\∀vs,u≠.tup vs
theorem NT.ne(h:NT o):o≠aj:=by
 obtain⟨u,rfl,_⟩:=h
 exact xT _
theorem mO.nt(r:mO E H a d):NT (H a):=by
 cases d<;>first|exact r.elim|skip
 .obtain⟨vs,e,q⟩:=r
  exact⟨_,e,λ_ z=>nomatch z⟩
 .obtain⟨vs,e,q⟩:=r
  rcases e with⟨ks,k,e⟩|⟨ks,k,e⟩
  .exact⟨_,e,λ_ z=>nomatch z⟩
  .exact⟨_,e,λ_ z=>nomatch z⟩
theorem mO.there(r:mO E H a d):H a≠aj:=r.nt.ne
structure qG(Θ:List aq)(C:Ce)(H:Hp):Prop where
 len:C.length=Θ.length
 at_:∀(n:Nat)(a:aq)(ns:List Int),Θ[n]?=aa a->C[n]?=aa ns->H a=aa (.lst (ns.map V.int))
structure Sm(K:aQ)(Z Θ:List aq)(env:En)(C:Ce)(σ:St)(H:Hp):Prop where
 len:σ.length=env.length
 nd:(bG Z Θ env σ).Nodup
 dom:∀a∈Z,NT (H a)
 slot:∀(i:Nat)(x:Vl),env[i]?=aa (aa x)->∃v,σ[i]?=aa (aa v)/\Es K (er (bG Z Θ env σ) H) H Θ x v
 cell:qG Θ C H
theorem qG.dom(c:qG Θ C H):∀a∈Θ,NT (H a):=λa m=>by
 obtain⟨n,hn,e⟩:=xQ m
 have e1:Θ[n]?=aa a:=by rw[j7 hn,e]
 have h2:n<C.length:=by rw[c.len];exact hn
 exact⟨_,c.at_ n a C[n] e1 (j7 h2),λ_ z=>nomatch z⟩
section
variable{K:aQ}{Z Θ:List aq}{env env':En}{C C':Ce}{σ:St}{H H':Hp}
theorem Sm.NK(S:Sm K Z Θ env C σ H):∀a∈bG Z Θ env σ,NT (H a):=λa m=>by
 rcases dR.mp m with m|m
 .exact S.dom a m
 .rcases dR.mp m with m|m
  .exact S.cell.dom a m
  .obtain⟨i,d,e1,e2⟩:=nZ.mp m
   obtain⟨v,e3,b,e4,r⟩:=S.slot i _ e1
   rw[e2] at e3;cases e3;cases e4;exact r.nt
theorem Sm.Ba(S:Sm K Z Θ env C σ H):∀a∈bG Z Θ env σ,H a≠aj:=λa m=>(S.NK a m).ne
theorem Sm.tL(S:Sm K Z Θ env C σ H):∀a∈Θ,a∈bG Z Θ env σ:=λa m=>gn _ (jd _ m)
theorem Es.same(s:bW E E')(h:∀d a,x=.ow d->v=.ref a->∀o,H a=aa o->H' a=aa o)(r:Es K E H Θ x v):Es K E' H' Θ x v:=by
 cases x with
 |im d=>exact RZ.same s r
 |ow d=>obtain⟨a,e,q⟩:=r;exact⟨a,e,q.same s (h d a rfl e)⟩
 |ce n=>exact r
 |sc ns=>obtain⟨a,e,q⟩:=r;exact⟨a,e,s.seq q⟩
theorem Sm.pM(S:Sm K Z Θ env C σ H)(m:a∈cg env σ):a∉Z/\a∉Θ:=by
 have h:=S.nd;rw[lO] at h
 obtain⟨_,h2,h3⟩:=h
 rw[lO] at h2
 refine⟨λz=>h3 a z a (gn _ m) rfl,λz=>h2.2.2 a z a m rfl⟩
theorem Sm.go(S:Sm K Z Θ env C σ H)(k:bu Θ H H')(c:qG Θ C' H'):Sm K Z Θ env C' σ H' where
 len:=S.len
 nd:=S.nd
 dom:=λa m=>by
  obtain⟨u,e,n⟩:=S.dom a m
  have h:=S.nd;rw[lO] at h
  exact⟨u,k.keep _ _ e λz=>h.2.2 a m a (jd _ z) rfl,n⟩
 slot:=λi x e=>by
  obtain⟨v,e1,r⟩:=S.slot i x e
  refine⟨v,e1,r.same (m9 k S.tL λa m=>.inl m) λd a ex ev o ho=>k.keep _ _ ho ?_⟩
  subst ex ev
  exact(S.pM (nZ.mpr ⟨i,d,e,e1⟩)).2
 cell:=c
theorem Sm.fz(S:Sm K Z Θ env C σ H)(f:Fz env env'):Sm K Z Θ env' C σ H:=by
 have sub:Zt (bG Z Θ env' σ) (bG Z Θ env σ):=Ji (By _) (Ji (By _) f.own);have sm:bW (er (bG Z Θ env σ) H) (er (bG Z Θ env' σ) H):=m9 (bu.refl [] H) (λ_ m=>nomatch m) λa m=>.inl (sub.subset m)
 refine⟨by rw[f.len];exact S.len,sub.nodup S.nd,S.dom,λi x e0=>?_,S.cell⟩
 rcases f.at e0 with e|⟨d,e,ex⟩
 .obtain⟨v,e1,r⟩:=S.slot i x e
  exact⟨v,e1,r.same sm λ_ _ _ _ _ ho=>ho⟩
 .subst ex
  obtain⟨v,e1,a,ev,r⟩:=S.slot i _ e
  subst ev
  refine⟨_,e1,mO.rz (H:=H) (λo ho=>?_) (r.same sm λ_ ho=>ho)⟩
  unfold er;rw[bJ]
  .exact ho
  .intro m;have hm:a∈cg env σ:=nZ.mpr ⟨i,d,e,e1⟩;rcases dR.mp m with m|m
   .exact(S.pM hm).1 m
   .rcases dR.mp m with m|m
    .exact(S.pM hm).2 m
    .obtain⟨j,d',e3,e4⟩:=nZ.mp m
     have nd:=S.nd;rw[lO] at nd;have nd2:=nd.2.1;rw[lO] at nd2;rcases f.at e3 with e5|⟨_,_,e5⟩
     .have:=GC nd2.2.1 e e1 e5 e4;subst this;rw[e0] at e3;cases e3
     .cases e5
end
section
variable{K:aQ}{Z Θ:List aq}{env env':En}{C C':Ce}{σ:St}{H H':Hp}{a p:aq}
theorem Sm.pop(S:Sm K (a::Z) Θ env C σ H):Sm K Z Θ env C σ H:=by
 have sm:bW (er (bG (a::Z) Θ env σ) H) (er (bG Z Θ env σ) H):=m9 (bu.refl [] H) (λ_ m=>nomatch m) λb m=>.inl (gh _ m)
 exact⟨S.len,(jL.mp S.nd).2,λb m=>S.dom b (gh _ m),λi x e=>let ⟨v,e1,r⟩:=S.slot i x e;⟨v,e1,r.same sm λ_ _ _ _ _ h=>h⟩,S.cell⟩
theorem Sm.push(S:Sm K Z Θ env C σ H)(hp:H p=aj)(o:HO)(ho:∀vs,o≠.tup vs):Sm K (p::Z) Θ env C σ (upd H p o):=by
 have k:bu Θ H (upd H p o):=bu.upd hp;have sm:bW (er (bG Z Θ env σ) H) (er (bG (p::Z) Θ env σ) (upd H p o)):=m9 k S.tL λb m=>by
  rcases cM.mp m with rfl|m
  .exact .inr hp
  .exact .inl m
 have c:qG Θ C (upd H p o):=⟨S.cell.len,λn b ns e1 e2=>by
  have:=S.cell.at_ n b ns e1 e2;rw[di (qW this hp)];exact this⟩
 refine⟨S.len,jL.mpr ⟨λm=>S.Ba p m hp,S.nd⟩,λb m=>?_,λi x e=>?_,c⟩
 .rcases cM.mp m with rfl|m
  .exact⟨o,fG,ho⟩
  .obtain⟨u,e,n⟩:=S.dom b m
   exact⟨u,by rw[di (qW e hp)];exact e,n⟩
 .obtain⟨v,e1,r⟩:=S.slot i x e
  refine⟨v,e1,r.same sm λd b ex ev o' ho=>?_⟩
  rw[di (qW ho hp)];exact ho
theorem Sm.Ao(S:Sm K Z Θ env C σ H)(s:bW H H'):Sm K Z Θ env C σ H':=
 S.go (bu.of s) ⟨S.cell.len,λn b ns e1 e2=>s _ _ (S.cell.at_ n b ns e1 e2)⟩
def Res(K:aQ)(Z Θ:List aq)(env:En)(C:Ce)(σ:St)(H H':Hp):Vl->V->Prop
 |.im d,v=>Sm K Z Θ env C σ H'/\RZ (er (bG Z Θ env σ) H') d v
 |.ow d,v=>∃a,v=.ref a/\H a=aj/\Sm K (a::Z) Θ env C σ H'/\mO (er (bG (a::Z) Θ env σ) H') H' a d
 |.ce n,v=>Sm K Z Θ env C σ H'/\∃a,v=.ref a/\Θ[n]?=aa a
 |.sc ns,v=>Sm K Z Θ env C σ H'/\∃a,v=.ref a/\bU K (er (bG Z Θ env σ) H') a (ns.map V.int)
def Br(E T:Hp):aC->V->Prop
 |.list ds,v=>∃a vs,v=.ref a/\T a=aa (.lst vs)/\cU E ds vs
 |.dict kvs,v=>∃a vs,v=.ref a/\zf T a kvs vs/\ju E kvs vs
 |d,v=>RZ E d v
theorem Br.same(s:bW E E')(t:bW T T')(h:Br E T d v):Br E' T' d v:=by
 cases d<;>first|exact RZ.same s h|skip
 .obtain⟨a,vs,e,q,r⟩:=h
  exact⟨a,vs,e,t _ _ q,r.same s⟩
 .obtain⟨a,vs,e,q,r⟩:=h
  exact⟨a,vs,e,q.same t,r.same s⟩
theorem RZ.bor(t:bW E T)(h:RZ E d v):Br E T d v:=by
 cases d<;>first|exact h|skip
 .obtain⟨a,vs,e,q,r⟩:=h
  exact⟨a,vs,e,t _ _ q,r⟩
 .obtain⟨a,vs,e,q,r⟩:=h
  exact⟨a,vs,e,q.same t,r⟩
abbrev gK(Z Θ:List aq)(env:En)(σ:St)(H:Hp)(d:aC)(v:V):Prop:=Br (er (bG Z Θ env σ) H) (er Θ H) d v
theorem vo(h:∀a,a∈Z'->a∈Z):bW (er Z H) (er Z' H):=m9 (bu.refl [] H) (λ_ m=>nomatch m) λb m=>.inl (h b m)
theorem adQ:bW (er (bG Z Θ env σ) H) (er Θ H):=vo λa m=>gn _ (jd _ m)
theorem Fz.sub(f:Fz env env'):∀a,a∈bG Z Θ env' σ->a∈bG Z Θ env σ:=λa m=>
 (Ji (By _) (Ji (By _) f.own)).subset m
theorem VF(S:Sm K Z Θ env C σ H)(k:bu Θ H H')(f:Fz env env'):bW (er (bG Z Θ env σ) H) (er (bG Z Θ env' σ) H'):=m9 k S.tL λa m=>.inl (f.sub a m)
theorem adi(k:bu Θ H H'):bW (er Θ H) (er Θ H'):=m9 k (λ_ m=>m) λa m=>.inl m
theorem gK.go(h:gK Z Θ env σ H d v)(S:Sm K Z Θ env C σ H)(k:bu Θ H H')(f:Fz env env'):gK Z Θ env' σ H' d v:=Br.same (VF S k f) (adi k) h
def dat:Vl->Option aC
 |.im d=>aa d
 |.ow d=>aa d
 |.ce _=>aj
 |.sc _=>aj
theorem Res.sm(h:Res K Z Θ env C σ H H' r v):Sm K Z Θ env C σ H':=by
 cases r with
 |im d=>exact h.1
 |ow d=>obtain⟨a,_,_,S,_⟩:=h;exact S.pop
 |ce n=>exact h.1
 |sc ns=>exact h.1
theorem Res.bor(h:Res K Z Θ env C σ H H' r v)(e:dat r=aa d):gK Z Θ env σ H' d v:=by
 cases r with
 |im d'=>cases e;exact RZ.bor adQ h.2
 |ow d'=>
  cases e
  obtain⟨a,rfl,_,S,r⟩:=h
  have na:a∉Θ:=λm=>(jL.mp S.nd).1 (gn _ (jd _ m))
  have sm:bW (er (bG (a::Z) Θ env σ) H') (er (bG Z Θ env σ) H'):=vo λb m=>gh _ m
  have ha:∀o,H' a=aa o->er Θ H' a=aa o:=λo ho=>by unfold er;rw[bJ na];exact ho
  cases d<;>first|exact r.elim|skip
  .obtain⟨vs,e,q⟩:=r
   exact⟨a,vs,rfl,ha _ e,q.same sm⟩
  .obtain⟨vs,e,q⟩:=r
   refine⟨a,vs,rfl,?_,q.same sm⟩
   rcases e with⟨ks,k,e⟩|⟨ks,k,e⟩
   .exact .inl ⟨ks,k,ha _ e⟩
   .exact .inr ⟨ks,k,ha _ e⟩
 |ce n=>cases e
 |sc ns=>cases e
def still:Vl->Vl
 |.ow d=>.im d
 |r=>r
theorem Res.still(h:Res K Z Θ env C σ H H' r v):Res K Z Θ env C σ H H' (still r) v:=by
 cases r with
 |ow d=>
  obtain⟨a,rfl,hn,S,r⟩:=h
  refine⟨S.pop,mO.rz (H:=H') (λo ho=>?_) (r.same (vo λb m=>gh _ m) λ_ h=>h)⟩
  unfold er;rw[bJ (show ¬a∈bG Z Θ env σ from(jL.mp S.nd).1)];exact ho
 |im d=>exact h
 |ce n=>exact h
 |sc ns=>exact h
theorem Res.from(h:Res K Z Θ env C σ H H' r v)(k:bu Θ H0 H):Res K Z Θ env C σ H0 H' r v:=by
 cases r with
 |ow d=>
  obtain⟨a,e,hn,S,r⟩:=h
  exact⟨a,e,k.none hn,S,r⟩
 |im d=>exact h
 |ce n=>exact h
 |sc ns=>exact h
theorem DG(S:Sm K Z Θ env C σ H)(h:H a=aa (.tup vs)):er (bG Z Θ env σ) H a=aa (.tup vs):=by
 unfold er;rw[bJ]
 .exact h
 .intro m
  obtain⟨u,e,n⟩:=S.NK a m
  rw[h] at e;exact n vs (gH e).symm
def rst(r:Vl)(env env':En):En:=match r with
 |.im d=>if mj d then env else env'
 |_=>env'
theorem Res.rst(S:Sm K Z Θ env C σ H)(k:bu Θ H H')(h:Res K Z Θ env' C' σ H H' r v):Res K Z Θ (rst r env env') C' σ H H' r v:=by
 cases r with
 |im d=>
  by_cases f:L2.mj d=ao
  .have:L2.rst (.im d) env env'=env:=bC f;rw[this];have S':=S.go k h.1.cell
   exact⟨S',h.2.mj (λa vs e=>DG S' (jr e)) f⟩
  .have:L2.rst (.im d) env env'=env':=bJ f;rw[this];exact h
 |ow d=>exact h
 |ce n=>exact h
 |sc ns=>exact h
theorem Fz.rst(r:Vl)(f:Fz env env'):Fz env (rst r env env'):=by
 cases r with
 |im d=>
  show Fz env (if L2.mj d then env else env');split
  .exact Fz.refl _
  .exact f
 |ow d=>exact f
 |ce n=>exact f
 |sc ns=>exact f
theorem jN(S:Sm K Z Θ env C σ H)(f:lD d=ao)(hv:v=toV d):Res K Z Θ env C σ H H (.im d) v:=⟨S,by rw[hv];exact alr f⟩
theorem pL(S:Sm K Z Θ env C σ H)(r:cU (er (bG Z Θ env σ) H) ds vs)(hp:H p=aj):Res K Z Θ env C σ H (upd H p (.lst vs)) (.ow (.list ds)) (.ref p):=by
 refine⟨p,rfl,hp,S.push hp _ (λ_ z=>nomatch z),vs,fG,r.same (m9 (bu.upd (Θ:=Θ) hp) S.tL λb m=>?_)⟩
 rcases cM.mp m with rfl|m
 .exact .inr hp
 .exact .inl m
theorem acv(S:Sm K Z Θ env C σ H)(ho:∀vs,o≠.tup vs)(d:zf (upd H p o) p kvs vs)(r:ju (er (bG Z Θ env σ) H) kvs vs)(hp:H p=aj):Res K Z Θ env C σ H (upd H p o) (.ow (.dict kvs)) (.ref p):=by
 refine⟨p,rfl,hp,S.push hp _ ho,vs,d,r.same (m9 (bu.upd (Θ:=Θ) hp) S.tL λb m=>?_)⟩
 rcases cM.mp m with rfl|m
 .exact .inr hp
 .exact .inl m
theorem Ls(S:Sm K Z Θ env C σ H)(r:cU (er (bG Z Θ env σ) H) ds vs)(hp:H p=aj):Res K Z Θ env C σ H (upd H p (.tup vs)) (.im (.tuple ds)) (.ref p):=by
 have S':=S.Ao (bW.upd (o:=.tup vs) hp)
 refine⟨S',p,vs,rfl,?_,r.same (m9 (bu.upd (Θ:=Θ) hp) S.tL λb m=>.inl m)⟩
 unfold er;rw[bJ (λm=>S.Ba p m hp),fG]
end
theorem hide{P:Prop}(h:∀G:Prop,(P->G)->G):P:=h P id
inductive aeo{α β:Type}(o:Option α)(g:α->Option β)(y:β):Prop
 |mk (x:α) (h1:o=aa x) (h2:g x=aa y):aeo o g y
theorem jZ(h:o.bind g=aa y):aeo o g y:=by
 cases o with
 |none=>cases h
 |some x=>exact⟨x,rfl,h⟩
def uF:Vl->Option aC
 |.im y=>aa y
 |_=>aj
theorem G7(h:uF x=aa y):x=.im y:=by
 cases x<;>cases h;rfl
def M9:aC->Option Str
 |.str z=>aa z
 |_=>aj
theorem alu(h:M9 d=aa z):d=.str z:=by
 cases d<;>cases h;rfl
def intD:aC->Option Int
 |.int k=>aa k
 |_=>aj
theorem Lw(h:intD d=aa k):d=.int k:=by
 cases d<;>cases h;rfl
abbrev FE:=En->Ce->Option (Vl×En×Ce)
abbrev FB:=En->Ce->Option (aC×En×Ce)
abbrev FT:=En->Ce->Option (Bool×Ce)
abbrev zg:=En->Ce->Option (List aC×En×Ce)
abbrev FA:=En->Ce->Option (List Vl×En×Ce)
inductive tE(K:aQ)(f:FE)(σ:St)(H:Hp)(Q:VK):Prop
 |mk (Z Θ:List aq) (env:En) (C:Ce) (r:Vl) (env':En) (C':Ce) (S:Sm K Z Θ env C σ H) (hf:f env C=aa (r,env',C')) (q:∀v H',bu Θ H H'->Fz env env'->Res K Z Θ env' C' σ H H' r v->Q v H'):tE K f σ H Q
inductive fW(K:aQ)(f:FB)(σ:St)(H:Hp)(Q:VK):Prop
 |mk (Z Θ:List aq) (env:En) (C:Ce) (d:aC) (env':En) (C':Ce) (S:Sm K Z Θ env C σ H) (hf:f env C=aa (d,env',C')) (q:∀v H',bu Θ H H'->Fz env env'->Sm K Z Θ env' C' σ H'->gK Z Θ env' σ H' d v->Q v H'):fW K f σ H Q
inductive gF(K:aQ)(f:FT)(σ:St)(H:Hp)(Q:Bool->Hp->Prop):Prop
 |mk (Z Θ:List aq) (env:En) (C:Ce) (b:Bool) (C':Ce) (S:Sm K Z Θ env C σ H) (hf:f env C=aa (b,C')) (q:∀H',bu Θ H H'->Sm K Z Θ env C' σ H'->Q b H'):gF K f σ H Q
inductive Bb(E T:Hp):List aC->List V->Prop
 |nil:Bb E T [] []
 |cons {d:aC} {v:V} {ds:List aC} {vs:List V}:Br E T d v->Bb E T ds vs->Bb E T (d::ds) (v::vs)
abbrev Mz(Z Θ:List aq)(env:En)(σ:St)(H:Hp)(ds:List aC)(vs:List V):Prop:=Bb (er (bG Z Θ env σ) H) (er Θ H) ds vs
inductive xJ(K:aQ)(f:zg)(σ:St)(H:Hp)(Q:List V->Hp->Prop):Prop
 |mk (Z Θ:List aq) (env:En) (C:Ce) (ds:List aC) (env':En) (C':Ce) (S:Sm K Z Θ env C σ H) (hf:f env C=aa (ds,env',C')) (q:∀vs H',bu Θ H H'->Fz env env'->Sm K Z Θ env' C' σ H'->Mz Z Θ env' σ H' ds vs->Q vs H'):xJ K f σ H Q
theorem PE.weak(h:PE X e t)(w:∀σ H Q,t' σ H Q->t σ H Q):PE X e t':=λpins s σ H Q I q=>h pins s σ H Q I (w σ H Q q)
theorem PT.weak(h:PT X e t)(w:∀σ H Q,t' σ H Q->t σ H Q):PT X e t':=λpins s σ H Q I q=>h pins s σ H Q I (w σ H Q q)
theorem PA.weak(h:PA X e t)(w:∀σ H Q,t' σ H Q->t σ H Q):PA X e t':=λp pins s σ H Q I q=>h p pins s σ H Q I (w σ H Q q)
theorem PS.weak(h:PS X e t)(w:∀D σ H,t' D σ H->t D σ H):PS X e t':=λpins s σ H D I q=>h pins s σ H D I (w D σ H q)
theorem j4.weak(h:j4 X e t)(w:∀D σ H,t' D σ H->t D σ H):j4 X e t':=λpins s σ H D I q=>h pins s σ H D I (w D σ H q)
theorem PW.weak(h:PW X e t)(w:∀σ H Q,t' σ H Q->t σ H Q):PW X e t':=λwh pins s σ H Q I q=>h wh pins s σ H Q I (w σ H Q q)
def aM(i:Nat):FE:=λenv C=>match env[i]? with
 |some (some (.im d))=>aa (.im d,env,C)
 |some (some (.ow d))=>aa (.im d,env.set i (aa (.im d)),C)
 |some (some (.ce n))=>aa (.ce n,env,C)
 |some (some (.sc ns))=>aa (.sc ns,env,C)
 |_=>aj
def aH(i:Nat):FB:=λenv C=>match env[i]? with
 |some (some x)=>(dat x).map λd=>(d,env,C)
 |_=>aj
def aN(d:aC):FE:=λenv C=>aa (.im d,env,C)
def az(f:FE):FB:=λenv C=>match f env C with
 |some (r,e',C')=>(dat r).map λd=>(d,e',C')
 |none=>aj
theorem adk:∀{env:En}{i:Nat}{d:aC},env[i]?=aa (aa (.ow d))->Fz env (env.set i (aa (.im d)))
 |[],i,d,e=>by simp at e
 |x::r,0,d,e=>by simp at e;subst e;exact⟨.inr ⟨d,rfl,rfl⟩,Fz.refl r⟩
 |x::r,i+1,d,e=>⟨.inl rfl,adk (by simpa using e)⟩
section
variable{X:Cx}{e:Expr}{i:Nat}
theorem aU(h:PE X e (rF i)):PE X e (tE X.K (aM i)):=h.weak λσ H Q aW=>by
 obtain⟨Z,Θ,env,C,r,env',C',S,hf,q⟩:=aW
 unfold aM at hf;split at hf;all_goals first|(rename_i d hd;cases hf)|cases hf
 .obtain⟨v,e1,r⟩:=S.slot i _ hd
  exact⟨v,e1,q v H (bu.refl _ _) (Fz.refl _) ⟨S,r⟩⟩
 .have f:=adk hd
  obtain⟨v,e1,r⟩:=S.slot i _ hd
  have S':=S.fz f
  refine⟨v,e1,q v H (bu.refl _ _) f ⟨S',?_⟩⟩
  have hi:i<env.length:=by
   have:=jW.mp hd;exact this.1
  obtain⟨v',e2,r'⟩:=S'.slot i (.im d) (by rw[Fq,bC rfl,bC hi])
  rw[e1] at e2;cases e2;exact r'
 .obtain⟨v,e1,r⟩:=S.slot i _ hd
  exact⟨v,e1,q v H (bu.refl _ _) (Fz.refl _) ⟨S,r⟩⟩
 .obtain⟨v,e1,r⟩:=S.slot i _ hd
  exact⟨v,e1,q v H (bu.refl _ _) (Fz.refl _) ⟨S,r⟩⟩
theorem aO(h:PE X e (rF i)):PE X e (fW X.K (aH i)):=h.weak λσ H Q aW=>by
 obtain⟨Z,Θ,env,C,d,env',C',S,hf,q⟩:=aW
 unfold aH at hf;split at hf
 .rename_i x hx
  obtain⟨v,e1,r⟩:=S.slot i _ hx
  have ex:dat x=aa d/\env=env'/\C=C':=by
   cases hd:dat x with
   |none=>rw[hd] at hf;cases hf
   |some d'=>rw[hd] at hf;cases hf;exact⟨rfl,rfl,rfl⟩
  obtain⟨ex,rfl,rfl⟩:=ex
  refine⟨v,e1,q v H (bu.refl _ _) (Fz.refl _) S ?_⟩
  cases x with
  |im d'=>cases ex;exact RZ.bor adQ r
  |ow d'=>
   cases ex
   obtain⟨a,rfl,r⟩:=r
   have na:=(S.pM (nZ.mpr ⟨i,_,hx,e1⟩)).2;have ha:∀o,H a=aa o->er Θ H a=aa o:=λo ho=>by unfold er;rw[bJ na];exact ho
   cases d<;>first|exact r.elim|skip
   .obtain⟨vs,e,q⟩:=r
    exact⟨a,vs,rfl,ha _ e,q⟩
   .obtain⟨vs,e,q⟩:=r
    refine⟨a,vs,rfl,?_,q⟩
    rcases e with⟨ks,k,e⟩|⟨ks,k,e⟩
    .exact .inl ⟨ks,k,ha _ e⟩
    .exact .inr ⟨ks,k,ha _ e⟩
  |ce n=>cases ex
  |sc ns=>cases ex
 .cases hf
theorem aV(h:PE X e (tC v))(f:lD d=ao:=by rfl)(hv:v=toV d:=by rfl):PE X e (tE X.K (aN d)):=h.weak λσ H Q aW=>by
 obtain⟨Z,Θ,env,C,r,env',C',S,hf,q⟩:=aW
 cases hf;exact q v H (bu.refl _ _) (Fz.refl _) (jN S f hv)
theorem aG(h:PE X e (tE X.K f)):PE X e (fW X.K (az f)):=h.weak λσ H Q aW=>by
 obtain⟨Z,Θ,env,C,d,env',C',S,hf,q⟩:=aW
 unfold az at hf;split at hf
 .rename_i r e' C1 hr;cases hd:dat r with
  |none=>rw[hd] at hf;cases hf
  |some d'=>
   rw[hd] at hf;cases hf
   exact⟨Z,Θ,env,C,r,env',C',S,hr,λv H' k f R=>q v H' k f R.sm (R.bor hd)⟩
 .cases hf
end
def gM:Nat:=1000000
theorem u5(h:n<=gM):n<=cH:=by rw[jq];unfold gM at h;lia
def ie(K:aQ)(r:R2)(op:aC->aC->Option Vl):Prop:=
 ∀(Z Θ:List aq)(env:En)(C:Ce)(σ:St)(H:Hp)(x y:V)(dx dy:aC)(res:Vl),Sm K Z Θ env C σ H->gK Z Θ env σ H dx x->gK Z Θ env σ H dy y->op dx dy=aa res->
  ∀Q:VK,(∀v H',bu Θ H H'->Res K Z Θ env C σ H H' res v->Q v H')->r x y H Q
def aP(op:aC->aC->Option Vl)(fa fb:FB):FE:=λenv C=>match fa env C with
 |some (x,e1,C1)=>match fb e1 C1 with
  |some (y,e2,C2)=>match op x y with
   |some r=>aa (r,rst r env e2,C2)
   |none=>aj
  |none=>aj
 |none=>aj
theorem K6{K:aQ}{r:R2}{op:aC->aC->Option Vl}(L:ie K r op){fa fb:FB}:∀σ H Q,tE K (aP op fa fb) σ H Q->Ih r (fW K fa) (fW K fb) σ H Q:=by
 rintro σ H Q ⟨Z,Θ,env,C,res,env',C',S,hf,q⟩;unfold aP at hf;split at hf
 .rename_i x e1 C1 h1;split at hf
  .rename_i y e2 C2 h2;split at hf
   .rename_i r0 h3;cases hf
    refine⟨Z,Θ,env,C,x,e1,C1,S,h1,λv H1 k1 f1 S1 b1=>⟨Z,Θ,e1,C1,y,e2,C',S1,h2,λu H2 k2 f2 S2 b2=>?_⟩⟩
    refine L Z Θ e2 C' σ H2 v u x y res S2 (b1.go S1 k2 f2) b2 h3 Q λz H3 k3 R=>?_
    have k:=(k1.trans k2).trans k3;exact q z H3 k ((f1.trans f2).rst res) ((R.from (k1.trans k2)).rst S k)
   .cases hf
  .cases hf
 .cases hf
section
variable{X:Cx}{a b:Expr}{fa fb:FB}{pos:Pos}{r:R2}{op:aC->aC->Option Vl}
theorem bY(ho:dB X (qZ o) r)(L:ie X.K r op)(ha:PE X a (fW X.K fa))(hb:PE X b (fW X.K fb)):PE X (.BinOp a o b pos) (tE X.K (aP op fa fb)):=(anP ho ha hb).weak (K6 L)
theorem oh(ho:dB X (gq o) r)(L:ie X.K r op)(ha:PE X a (fW X.K fa))(hb:PE X b (fW X.K fb))(hm:FP o b=aL):PE X (.Compare a [o] [b] pos) (tE X.K (aP op fa fb)):=(akY ho ha hb hm).weak (K6 L)
theorem cD(ho:tG X r)(L:ie X.K r op)(ha:PE X a (fW X.K fa))(hb:PE X b (fW X.K fb))(hs:Ln b):PE X (.Subscript a b pos) (tE X.K (aP op fa fb)):=(Vz ho ha hb hs).weak (K6 L)
end
theorem ie.or{K:aQ}{r r':R2}{op op':aC->aC->Option Vl}(h:ie K r op)(h':ie K r' op'):ie K (λx y H Q=>r x y H Q\/r' x y H Q) (λx y=>match op x y with|some z=>aa z|none=>op' x y):=by
 intro Z Θ env C σ H x y dx dy res S bx fQ e Q q;cases h1:op dx dy with
 |some z=>
  simp only[h1] at e;cases e;exact .inl (h Z Θ env C σ H x y dx dy _ S bx fQ h1 Q q)
 |none=>
  simp only[h1] at e;exact .inr (h' Z Θ env C σ H x y dx dy res S bx fQ e Q q)
section
variable{K:aQ}{Z Θ:List aq}{env:En}{C:Ce}{σ:St}{H:Hp}{x:V}
theorem gK.int(h:gK Z Θ env σ H (.int i) x):x=.int i:=h
theorem gK.str(h:gK Z Θ env σ H (.str i) x):x=.str i:=h
theorem gK.tup(h:gK Z Θ env σ H (.tuple ds) x):∃a vs,x=.ref a/\H a=aa (.tup vs)/\cU (er (bG Z Θ env σ) H) ds vs:=by
 obtain⟨a,vs,e,q,r⟩:=h
 exact⟨a,vs,e,jr q,r⟩
theorem gK.lst(h:gK Z Θ env σ H (.list ds) x):∃a vs,x=.ref a/\H a=aa (.lst vs)/\cU (er (bG Z Θ env σ) H) ds vs:=by
 obtain⟨a,vs,e,q,r⟩:=h
 exact⟨a,vs,e,jr q,r⟩
theorem gK.dct(h:gK Z Θ env σ H (.dict kvs) x):∃a vs,x=.ref a/\zf H a kvs vs/\ju (er (bG Z Θ env σ) H) kvs vs:=by
 obtain⟨a,vs,e,q,r⟩:=h
 exact⟨a,vs,e,q.same (Ed _ _),r⟩
theorem gK.flat(f:lD d=ao)(h:gK Z Θ env σ H d x):x=toV d:=by
 cases d<;>first|exact h|cases f
theorem gK.rx(n:lg d=ao)(h:gK Z Θ env σ H d x):RX H d x:=by
 cases d<;>first|exact h|skip
 .obtain⟨a,vs,e,q,r⟩:=h
  exact⟨a,vs,e,jr q,(r.same (Ed _ _)).rx n⟩
 .obtain⟨a,vs,e,q,r⟩:=h
  exact⟨a,vs,e,jr q,(r.same (Ed _ _)).rx n⟩
 .cases n
end
section
variable{X:Cx}
def cu:aC->aC->Option Vl
 |.int i,.int j=>aa (.im (.int (i+j)))
 |.str x,.str y=>if x.length+y.length<=gM then aa (.im (.str (x++y))) else aj
 |.list xs,.list ys=>if xs.length+ys.length<=gM then aa (.ow (.list (xs++ys))) else aj
 |.tuple xs,.tuple ys=>if xs.isEmpty then aa (.im (.tuple ys)) else if xs.length+ys.length<=gM then aa (.im (.tuple (xs++ys))) else aj
 |_,_=>aj
def adR(K:aQ):R2:=λx y H Q=>∃a b ys,x=.ref a/\y=.ref b/\dD K H a []/\dD K H b ys/\Q (.ref b) H
theorem alv:dB X (qZ .Add) (adR X.K):=by
 intro pins s σ H x y v u Q I rx ry h
 obtain⟨a,b,ys,rfl,rfl,ha,hb,q⟩:=h
 cases rx;cases ry
 obtain⟨its,r1,p1,_⟩:=I.tuple ha
 obtain⟨its2,r2,p2,_⟩:=I.tuple hb
 obtain⟨⟨cls,dd,data,sl⟩,ho,hc,n,hd⟩:=id p1
 obtain⟨⟨cls2,dd2,data2,sl2⟩,ho2,hc2,n2,hd2⟩:=id p2
 simp only at hc hd hc2 hd2;subst hc hd hc2 hd2;exact Zj ⟨_,ho,rfl⟩ ⟨_,ho2,rfl⟩ Yj Y4 Xz Xx (Xr _ _)
  (tuple_addW0 a b its.toArray its2.toArray n n2 dd dd2 sl sl2 (by cases r1;rfl)) ⟨ho,ho2,⟨.ref b,H,I,rfl,q⟩⟩
def adS(K:aQ):R2:=λx y H Q=>(((rN λi j=>.int (i+j)) x y H Q\/∃i j,x=.str i/\y=.str j/\i.length+j.length<=cH/\Q (.str (i++j)) H)\/aei x y H Q)\/adR K x y H Q\/adM K x y H Q
theorem dU:dB X (qZ .Add) (adS X.K):=((amB.or ah2).or amQ).or (alv.or ak5)
theorem dX{K:aQ}:ie K (adS K) cu:=by
 intro Z Θ env C σ H x y dx dy res S bx fQ e Q q;unfold cu at e;split at e
 .cases e;cases bx.int;cases fQ.int;exact .inl (.inl (.inl ⟨_,_,rfl,rfl,q _ _ (bu.refl _ _) (jN S rfl rfl)⟩))
 .split at e
  .rename_i hl;cases e;cases bx.str;cases fQ.str;exact .inl (.inl (.inr ⟨_,_,rfl,rfl,u5 hl,q _ _ (bu.refl _ _) (jN S rfl rfl)⟩))
  .cases e
 .split at e
  .rename_i hl;cases e
   obtain⟨a,vs,rfl,ha,r1⟩:=bx.lst
   obtain⟨b,ws,rfl,hb,r2⟩:=fQ.lst
   exact .inl (.inr ⟨a,b,vs,ws,rfl,rfl,ha,hb,by rw[jA r1,jA r2];exact u5 hl,λp hp=>q _ _ (bu.upd hp) (pL S (yu r1 r2) hp)⟩)
  .cases e
 .split at e
  .rename_i xs ys he;cases e;have:xs=[]:=List.isEmpty_iff.mp he;subst this;have by2:=fQ
   obtain⟨a,vs,rfl,ha,r1⟩:=bx.tup
   obtain⟨b,ws,rfl,hb,r2⟩:=fQ.tup
   cases(show vs=[] from r1)
   exact .inr (.inl ⟨a,b,ws,rfl,rfl,dD.of ha,dD.of hb,q _ _ (bu.refl _ _) ⟨S,by2⟩⟩)
  split at e
  .rename_i xs ys he hl;cases e
   obtain⟨a,vs,rfl,ha,r1⟩:=bx.tup
   obtain⟨b,ws,rfl,hb,r2⟩:=fQ.tup
   have l1:=jA r1;have l2:=jA r2;have hv:vs≠[]:=λz=>by
    subst z;cases xs with
    |nil=>exact he rfl
    |cons _ _=>cases l1
   refine .inr (.inr ⟨a,b,vs,ws,rfl,rfl,dD.of ha,dD.of hb,hv,by rw[l1,l2];exact u5 hl,λz=>?_,λ_ p hp=>q _ _ (bu.upd hp) (Ls S (yu r1 r2) hp)⟩);subst z;have:ys=[]:=List.eq_nil_of_length_eq_zero l2.symm;subst this;rw[lq] at q;refine q _ _ (bu.refl _ _) ⟨S,?_⟩;exact bx
  .cases e
 .cases e
def yJ:aC->aC->Option Vl
 |.int i,.int j=>aa (.im (.int (i-j)))
 |_,_=>aj
theorem Ub{K:aQ}{g:Int->Int->V}{op:aC->aC->Option Vl}(h:∀dx dy res,op dx dy=aa res->∃i j d,dx=.int i/\dy=.int j/\res=.im d/\lD d=ao/\g i j=toV d):ie K (rN g) op:=by
 intro Z Θ env C σ H x y dx dy res S bx fQ e Q q
 obtain⟨i,j,d,rfl,rfl,rfl,f,hv⟩:=h _ _ _ e
 cases bx.int;cases fQ.int
 exact⟨_,_,rfl,rfl,q _ _ (bu.refl _ _) (jN S f hv)⟩
theorem Ml{K:aQ}{Cn:Int->Int->Prop}{g:Int->Int->V}{op:aC->aC->Option Vl}(h:∀dx dy res,op dx dy=aa res->∃i j d,dx=.int i/\dy=.int j/\res=.im d/\lD d=ao/\g i j=toV d/\Cn i j):ie K (rI Cn g) op:=by
 intro Z Θ env C σ H x y dx dy res S bx fQ e Q q
 obtain⟨i,j,d,rfl,rfl,rfl,f,hv,c⟩:=h _ _ _ e
 cases bx.int;cases fQ.int
 exact⟨_,_,rfl,rfl,c,q _ _ (bu.refl _ _) (jN S f hv)⟩
theorem G8{K:aQ}:ie K (rN λi j=>.int (i-j)) yJ:=Ub λdx dy res e=>by
 unfold yJ at e;split at e<;>cases e
 exact⟨_,_,_,rfl,rfl,rfl,rfl,rfl⟩
def lW:aC->aC->Option Vl
 |.int i,.int j=>if 0<j then aa (.im (.int (i%j))) else aj
 |_,_=>aj
theorem ug{K:aQ}:ie K (rI (λ_ j=>0<j) λi j=>.int (i%j)) lW:=Ml λdx dy res e=>by
 unfold lW at e;split at e
 .split at e
  .rename_i h;cases e;exact⟨_,_,_,rfl,rfl,rfl,rfl,rfl,h⟩
  .cases e
 .cases e
def yC:aC->aC->Option Vl
 |.int i,.int j=>if 0<j/\j<1073741824 then aa (.im (.int (i / j))) else aj
 |_,_=>aj
theorem Uc{K:aQ}:ie K (rI aed λi j=>.int (i / j)) yC:=Ml λdx dy res e=>by
 unfold yC at e;split at e
 .split at e
  .rename_i h;cases e;exact⟨_,_,_,rfl,rfl,rfl,rfl,rfl,h⟩
  .cases e
 .cases e
def yK:aC->aC->Option Vl
 |.int i,.int j=>if 0<=j/\j<=1000000/\i.natAbs<2^64 then aa (.im (.int (i^j.toNat))) else aj
 |_,_=>aj
theorem U9{K:aQ}:ie K (rI aee λi j=>.int (i^j.toNat)) yK:=Ml λdx dy res e=>by
 unfold yK at e;split at e
 .split at e
  .rename_i h;cases e;exact⟨_,_,_,rfl,rfl,rfl,rfl,rfl,h⟩
  .cases e
 .cases e
def lF:aC->aC->Option Vl
 |.int i,.int j=>if(-(2^64)<i/\i<2^64)\/(-(2^64)<j/\j<2^64) then aa (.im (.int (i*j))) else aj
 |_,_=>aj
theorem sG{K:aQ}:ie K (rI M8 λi j=>.int (i*j)) lF:=Ml λdx dy res e=>by
 unfold lF at e;split at e
 .split at e
  .rename_i h;cases e;exact⟨_,_,_,rfl,rfl,rfl,rfl,rfl,h⟩
  .cases e
 .cases e
end
section
variable{X:Cx}
def vQ:aC->aC->Option Bool
 |.int i,.int j=>aa (i==j)
 |.str x,.str y=>aa (x==y)
 |.bool a,.bool b=>aa (a==b)
 |d,e=>if lg d&&lg e&&(je d&&je e) then aa (yg d e) else aj
def iD(d e:aC):Option Vl:=(vQ d e).map λb=>.im (.bool b)
def ji(d e:aC):Option Vl:=(vQ d e).map λb=>.im (.bool (!b))
theorem aik(hu:X.A.units+64<jc):dB X (gq .Eq) (λx y H Q=>∃d e,RX H d x/\RX H e y/\je d=ao/\je e=ao/\Q (.bl (yg d e)) H):=by
 intro pins s σ H x y v u Q I rx ry h
 obtain⟨d,e,hd,he,h1,h2,q⟩:=h
 obtain⟨as,ra⟩:=RD.reads I (hd.rd (K:=X.K)) rx
 obtain⟨bs,rb⟩:=RD.reads I (he.rd (K:=X.K)) ry
 exact PySem.SeqAt.compareEq_shaped ra rb h1 h2 hu ⟨.bl _,H,I,rfl,q⟩
def aep:R2:=λx y H Q=>rEq x y H Q\/∃d e,RX H d x/\RX H e y/\je d=ao/\je e=ao/\Q (.bl (yg d e)) H
def aeq:R2:=λx y H Q=>rNe x y H Q\/∃d e,RX H d x/\RX H e y/\je d=ao/\je e=ao/\Q (.bl (!PyData.eqv d e)) H
theorem ou(hu:X.A.units+64<jc):dB X (gq .Eq) aep:=anR.or (aik hu)
theorem vp(hu:X.A.units+64<jc):dB X (gq .NotEq) aeq:=anS.or (aib hu)
theorem aaF(h:vQ d e=aa b):(lD d=ao/\lD e=ao/\V9 (toV d) (toV e)=ao/\b=decide (toV d=toV e))\/(lg d=ao/\lg e=ao/\je d=ao/\je e=ao/\b=yg d e):=by
 unfold vQ at h;split at h
 .cases h;exact .inl ⟨rfl,rfl,rfl,TY.symm⟩
 .cases h;exact .inl ⟨rfl,rfl,rfl,T3.symm⟩
 .cases h;exact .inl ⟨rfl,rfl,rfl,UW.symm⟩
 .split at h
  .rename_i q;cases h;rw[jX,jX,jX] at q;exact .inr ⟨q.1.1,q.1.2,q.2.1,q.2.2,rfl⟩
  .cases h
theorem oF{K:aQ}:ie K aep iD:=by
 intro Z Θ env C σ H x y dx dy res S bx fQ e Q q;unfold iD at e;cases h:vQ dx dy with
 |none=>rw[h] at e;cases e
 |some b=>
  rw[h] at e;cases e;have fin:=q (.bl b) H (bu.refl _ _) (jN S rfl rfl);rcases aaF h with⟨f1,f2,sc,eb⟩|⟨n1,n2,s1,s2,eb⟩
  .rw[bx.flat f1,fQ.flat f2];rw[eb] at fin;exact .inl ⟨sc,fin⟩
  .rw[eb] at fin;exact .inr ⟨dx,dy,bx.rx n1,fQ.rx n2,s1,s2,fin⟩
theorem vD{K:aQ}:ie K aeq ji:=by
 intro Z Θ env C σ H x y dx dy res S bx fQ e Q q;unfold ji at e;cases h:vQ dx dy with
 |none=>rw[h] at e;cases e
 |some b=>
  rw[h] at e;cases e;have fin:=q (.bl (!b)) H (bu.refl _ _) (jN S rfl rfl);rcases aaF h with⟨f1,f2,sc,eb⟩|⟨n1,n2,s1,s2,eb⟩
  .rw[bx.flat f1,fQ.flat f2];rw[eb] at fin;exact .inl ⟨sc,fin⟩
  .rw[eb] at fin;exact .inr ⟨dx,dy,bx.rx n1,fQ.rx n2,s1,s2,fin⟩
def strLt(x y:Str):Bool:=decide (x.cps.toList<y.cps.toList)
def adT(xs ys:List aC):Option Bool:=match keysOf xs,keysOf ys with
 |some ks,some js=>if ks.map cJ=js.map cJ then aa (jE ks js) else aj
 |_,_=>aj
def vL:aC->aC->Option Vl
 |.int i,.int j=>aa (.im (.bool (decide (i<j))))
 |.str x,.str y=>aa (.im (.bool (strLt x y)))
 |.tuple xs,.tuple ys=>(adT xs ys).map λb=>.im (.bool b)
 |_,_=>aj
theorem CW:∀{ds:List aC}{ks:List Key}{vs:List V},keysOf ds=aa ks->cU E ds vs->vs=ks.map kV
 |[],ks,vs,h,r=>by cases h;exact r
 |d::ds,ks,vs,h,r=>by
  unfold keysOf at h;split at h
  .rename_i k t h1 h2;cases h
   obtain⟨u,w,e1,q,s⟩:=r
   rw[e1,CW h2 s];have:u=kV k:=by
    cases d<;>first|(cases h1;exact q)|cases h1
   rw[this];rfl
  .cases h
def ao4:R2:=λx y H Q=>(∃a b,x=kV a/\y=kV b/\cJ a=cJ b/\Q (.bl (kLt a b)) H)\/∃a b ks js,x=.ref a/\y=.ref b/\H a=aa (.tup (ks.map kV))/\H b=aa (.tup (js.map kV))/\ks.map cJ=js.map cJ/\Q (.bl (jE ks js)) H
theorem MF{K:aQ}:ie K ao4 vL:=by
 intro Z Θ env C σ H x y dx dy res S bx fQ e Q q;unfold vL at e;split at e
 .cases e;cases bx.int;cases fQ.int;exact .inl ⟨.inl _,.inl _,rfl,rfl,rfl,q _ _ (bu.refl _ _) (jN S rfl rfl)⟩
 .cases e;cases bx.str;cases fQ.str;exact .inl ⟨.inr _,.inr _,rfl,rfl,rfl,q _ _ (bu.refl _ _) (jN S rfl rfl)⟩
 .rename_i xs ys;unfold adT at e;split at e
  .rename_i ks js h1 h2;split at e
   .rename_i ht;cases e
    obtain⟨a,vs,rfl,ha,r1⟩:=bx.tup
    obtain⟨b,ws,rfl,hb,r2⟩:=fQ.tup
    rw[CW h1 r1] at ha;rw[CW h2 r2] at hb;exact .inr ⟨a,b,ks,js,rfl,rfl,ha,hb,ht,q _ _ (bu.refl _ _) (jN S rfl rfl)⟩
   .cases e
  .cases e
 .cases e
def rG:aC->aC->Option Vl
 |.int i,.int j=>aa (.im (.bool (decide (i<=j))))
 |.str x,.str y=>aa (.im (.bool (!strLt y x)))
 |_,_=>aj
def aer:R2:=λx y H Q=>(rN λi j=>.bl (decide (i<=j))) x y H Q\/∃i j,x=.str i/\y=.str j/\Q (.bl (!(decide (j.cps.toList<i.cps.toList)))) H
theorem DK:dB X (gq .LtE) aer:=anT.or aiZ
theorem Ef{K:aQ}:ie K aer rG:=by
 intro Z Θ env C σ H x y dx dy res S bx fQ e Q q;unfold rG at e;split at e
 .cases e;cases bx.int;cases fQ.int;exact .inl ⟨_,_,rfl,rfl,q _ _ (bu.refl _ _) (jN S rfl rfl)⟩
 .cases e;cases bx.str;cases fQ.str;exact .inr ⟨_,_,rfl,rfl,q _ _ (bu.refl _ _) (jN S rfl rfl)⟩
 .cases e
def xq:aC->aC->Option Vl
 |.int i,.int j=>aa (.im (.bool (decide (j<i))))
 |_,_=>aj
def Nb:aC->aC->Option Vl
 |.int i,.int j=>aa (.im (.bool (decide (j<=i))))
 |_,_=>aj
theorem Hl{K:aQ}:ie K (rN λi j=>.bl (decide (j<i))) xq:=Ub λdx dy res e=>by
 unfold xq at e;split at e<;>cases e
 exact⟨_,_,_,rfl,rfl,rfl,rfl,rfl⟩
theorem an6{K:aQ}:ie K (rN λi j=>.bl (decide (j<=i))) Nb:=Ub λdx dy res e=>by
 unfold Nb at e;split at e<;>cases e
 exact⟨_,_,_,rfl,rfl,rfl,rfl,rfl⟩
def isNone:aC->Bool
 |.none=>ao
 |_=>aL
def VG(d e:aC):Option Vl:=if isNone e then aa (.im (.bool (isNone d))) else aj
def DN(d e:aC):Option Vl:=if isNone e then aa (.im (.bool (!isNone d))) else aj
theorem K7(h:gK Z Θ env σ H d x):decide (x=V.non)=isNone d:=by
 cases d<;>first
  |(cases(show x=_ from h);rfl)
  |(obtain⟨a,vs,e,_⟩:=h;subst e;rfl)
theorem am3{K:aQ}:ie K (λx y H Q=>y=.non/\Q (.bl (decide (x=.non))) H) VG:=by
 intro Z Θ env C σ H x y dx dy res S bx fQ e Q q;unfold VG at e;split at e
 .rename_i hn;cases e;have hy:y=.non:=of_decide_eq_true ((K7 fQ).trans hn)
  exact⟨hy,by rw[K7 bx];exact q _ _ (bu.refl _ _) (jN S rfl rfl)⟩
 .cases e
theorem alw{K:aQ}:ie K (λx y H Q=>y=.non/\Q (.bl (!decide (x=.non))) H) DN:=by
 intro Z Θ env C σ H x y dx dy res S bx fQ e Q q;unfold DN at e;split at e
 .rename_i hn;cases e;have hy:y=.non:=of_decide_eq_true ((K7 fQ).trans hn)
  exact⟨hy,by rw[K7 bx];exact q _ _ (bu.refl _ _) (jN S rfl rfl)⟩
 .cases e
end
section
variable{X:Cx}{pins:List (aq×Obj)}{σ:St}{H:Hp}{s:aJ}{a b:aq}
theorem Inv.NP(I:Inv X pins σ H s)(h:H a=aa (.dK [])):Inv X pins σ (upd H a (.dT [])) s:=by
 obtain⟨z,hm,vs,r,o,es,ep,h1,h2,h3,h4,h5,h6⟩:=I.hok a _ h
 cases r;have e0:es.toList=[]:=by
  cases hh:es.toList with
  |nil=>rfl
  |cons x xs=>rw[hh] at h5;cases h5
 have:=z9 (t':=s.toks) (ob:=.dT []) I (by rw[h];trivial) (Yg a s.heap) ⟨_,h1⟩ ⟨nH _,hm,[],.nil,o,es,ep,h1,h2,h3,e0,pH⟩;exact this
theorem Inv.WQ(I:Inv X pins σ (upd H a (.dT [])) s)(h:H a=aa (.dK [])):Inv X pins σ H s:=by
 obtain⟨z,hm,xs,r,o,es,ep,h1,h2,h3,h4,h5⟩:=I.hok a _ fG
 cases r;have e0:es=#[]:=by
  cases es;simp at h4;rw[h4]
 subst e0;have:=z9 (t':=s.toks) (ob:=.dK []) I (by rw[fG];trivial) (Yg a s.heap) ⟨_,h1⟩ (G3 (nH _) hm .nil ⟨o,#[],ep,h1,h2,h3,λi hi=>absurd hi (by simp),.nil,pH⟩);rw[ab4] at this;have e:upd H a (.dK [])=H:=by
  funext b;by_cases hb:b=a
  .subst hb;rw[fG,h]
  .exact di hb
 rw[e] at this;exact this
end
def uG(H:Hp)(a:aq)(y:V)(r:Option V):Prop:=pB H a y r\/(H a=aa (.dK [])/\(∃(b:aq)(ks:List Key),y=.ref b/\H b=aa (.tup (ks.map kV)))/\r=aj)
section
variable{X:Cx}{pins:List (aq×Obj)}{σ:St}{H:Hp}{s:aJ}{a:aq}{y v:V}{u r:Value}{o:Option V}{A:cV}{E:Value->aJ->Prop}
theorem uG.re(ha:H a=aa (.dK [])){b:aq}{ks:List Key}(hb:H b=aa (.tup (ks.map kV))):pB (upd H a (.dT [])) a (.ref b) aj:=by
 have:(upd H a (.dT [])) b=aa (.tup (ks.map kV)):=by rw[di (Vt hb ha (λz=>nomatch z))];exact hb
 exact pB.t (kvs:=[]) (k:=ks) fG this
theorem an7(hu:A.units+1<jc)(I:Inv X pins σ H s)(g:uG H a y o)(ry:RelV y u)(h:∀s',Inv X pins σ H s'->Q (.bool o.isSome) s'):aX (model X.prog X.w) A (gq .In u (.ref a)) Q E s:=by
 rcases g with g|⟨ha,⟨b,ks,rfl,hb⟩,rfl⟩
 .exact aej hu I g ry h
 .exact aej hu (I.NP ha) (uG.re ha hb) ry λs' I'=>h s' (I'.WQ ha)
theorem aka(hu:A.units+1<jc)(I:Inv X pins σ H s)(g:uG H a y o)(ry:RelV y u)(h:∀s',Inv X pins σ H s'->Q (.bool (!o.isSome)) s'):aX (model X.prog X.w) A (gq .NotIn u (.ref a)) Q E s:=by
 rcases g with g|⟨ha,⟨b,ks,rfl,hb⟩,rfl⟩
 .exact ace hu I g ry h
 .exact ace hu (I.NP ha) (uG.re ha hb) ry λs' I'=>h s' (I'.WQ ha)
theorem am4(hu:X.A.units+1<jc):dB X (gq .In) (λy x H Q=>∃a o,x=.ref a/\uG H a y o/\Q (.bl o.isSome) H):=by
 intro pins s σ H x y v u Q I rx ry h
 obtain⟨a,o,rfl,g,q⟩:=h
 cases ry;exact an7 hu I g rx λs' I'=>⟨.bl _,H,I',rfl,q⟩
theorem ajc(hu:X.A.units+1<jc):dB X (gq .NotIn) (λy x H Q=>∃a o,x=.ref a/\uG H a y o/\Q (.bl (!o.isSome)) H):=by
 intro pins s σ H x y v u Q I rx ry h
 obtain⟨a,o,rfl,g,q⟩:=h
 cases ry;exact aka hu I g rx λs' I'=>⟨.bl _,H,I',rfl,q⟩
theorem alx(hu:X.A.units+1<jc):tG X (λx y H Q=>∃a v,x=.ref a/\pB H a y (aa v)/\Q v H):=by
 intro value slice pins s σ H x y v u Q I rx ry h hs
 obtain⟨a,z,rfl,g,q⟩:=h
 cases rx;have hT:=ahN I g;have h2:aX (model X.prog X.w) X.A (wK (.ref a) u) (EP X pins σ Q) X.xe s:=aiS hu I g ry λw' s' I' r'=>⟨z,H,I',r',q⟩
 unfold subscriptTail;refine aK ?_;rw[getitemInPython_of_ne hT.not_modules];refine aK (wpAny_specialOf hT PySem.F.slot_dict_getitem.lookup ?_);have fin:aX (model X.prog X.w) X.A (ZR slice aL (.ref a) u) (λr s₃=>aX (model X.prog X.w) X.A (letTemporaryGo value (.ref a) r >>= λ_=>pure r) (EP X pins σ Q) X.xe s₃) X.xe s:=by
  rw[hs];exact wpAny_operating (qz h2 (λr s₃ h₃=>aK (wpAny_letTemporaryGo (bh h₃))) λ_ _ x=>x)
 first
  |exact bh (aK fin)
  |exact aK (bh (aK fin))
  |exact aK fin
end
def pN{κ:Type}[DecidableEq κ](f:aC->Option κ)(k:κ):List (aC×aC)->Option aC
 |[]=>aj
 |p::r=>if f p.1=aa k then aa p.2 else pN f k r
def qJ(kvs:List (aC×aC))(d:aC):Option (Option aC):=match dm d with
 |some k=>if(cW dm kvs).isSome then aa (pN dm k kvs) else aj
 |none=>match sI d with
  |some ks=>if(cW sI kvs).isSome then aa (pN sI ks kvs) else aj
  |none=>aj
theorem S7[DecidableEq κ]:∀{kvs:List (aC×aC)}{ks:List κ}{vs:List V},cW f kvs=aa ks->ju E kvs vs->
  (∃d v,pN f k kvs=aa d/\pA (ks.zip vs) k=aa v/\RZ E d v)\/(pN f k kvs=aj/\pA (ks.zip vs) k=aj)
 |[],ks,vs,h,r=>by
  cases h
  cases(show vs=[] from r)
  exact .inr ⟨rfl,rfl⟩
 |(p,d)::kvs,ks,vs,h,r=>by
  unfold cW at h;split at h
  .rename_i k' t h1 h2;cases h
   obtain⟨v,w,rfl,q,s⟩:=r
   by_cases e:k'=k
   .subst e;refine .inl ⟨d,v,?_,?_,q⟩
    .unfold pN;rw[bC h1]
    .exact KZ (p:=(k',v)) rfl
   .have e1:pN f k ((p,d)::kvs)=pN f k kvs:=by
     show(if f p=aa k then aa d else pN f k kvs)=_
     rw[bJ];intro z;rw[h1] at z;exact e (gH z)
    have e2:pA ((k'::t).zip (v::w)) k=pA (t.zip w) k:=K1 (p:=(k',v)) e;rw[e1,e2];exact S7 h2 s
  .cases h
theorem wF:∀{kvs:List (aC×aC)}{ks:List κ},cW f kvs=aa ks->ks.length=kvs.length
 |[],ks,h=>by cases h;rfl
 |p::kvs,ks,h=>by
  unfold cW at h;split at h
  .rename_i k' t h1 h2;cases h;rw[dw,dw,wF h2]
  .cases h
theorem adl(h:dm d=aa k)(r:RZ E d v):v=kV k:=by
 cases d<;>first|(cases h;exact r)|cases h
theorem adm(h:dm d=aa k)(g:sI d=aa ks):False:=by
 cases d<;>first|(cases h;done)|(cases g;done)
section
variable{K:aQ}{Z Θ:List aq}{env:En}{C:Ce}{σ:St}{H:Hp}{x y:V}
theorem yo(h:cW dm kvs=aa ks)(g:cW sI kvs=aa js):kvs=[]:=by
 cases kvs with
 |nil=>rfl
 |cons p r=>
  unfold cW at h g;split at h
  .rename_i h1 h2;split at g
   .rename_i h3 h4
    exact(adm h1 h3).elim
   .cases g
  .cases h
theorem gK.get(h:gK Z Θ env σ H (.dict kvs) x)(hy:gK Z Θ env σ H d y)(e:qJ kvs d=aa o):
  ∃a r,x=.ref a/\uG H a y r/\((∃v,r=aa v/\∃d',o=aa d'/\RZ (er (bG Z Θ env σ) H) d' v/\pB H a y (aa v))\/(r=aj/\o=aj)):=by
 obtain⟨a,vs,rfl,dt,rd⟩:=h.dct
 unfold qJ at e;split at e
 .rename_i k hk;split at e
  .rename_i hs;cases e;have yk:y=kV k:=by
    cases d<;>first|(cases hk;exact hy)|cases hk
   have dk:∃ks,cW dm kvs=aa ks/\H a=aa (.dK (ks.zip vs)):=by
    rcases dt with h|⟨ks,⟨ne,h2⟩,_⟩
    .exact h
    .obtain⟨ks',h1⟩:=zx.mp hs
     exact absurd (yo h1 h2) ne
   obtain⟨ks,h1,ha⟩:=dk
   have g:=pB.k (k:=k) ha;rw[<-yk] at g;rcases S7 (k:=k) h1 rd with⟨d',v,e1,e2,r⟩|⟨e1,e2⟩
   .rw[e2] at g
    exact⟨a,aa v,rfl,.inl g,.inl ⟨v,rfl,d',e1,r,g⟩⟩
   .rw[e2] at g
    exact⟨a,aj,rfl,.inl g,.inr ⟨rfl,e1⟩⟩
  .cases e
 .split at e
  .rename_i ks hks;split at e
   .rename_i hs;cases e
    obtain⟨b,hb,rfl⟩:∃b,H b=aa (.tup (ks.map kV))/\y=.ref b:=by
     cases d<;>first|cases hks|skip
     obtain⟨b,ws,rfl,hb,r⟩:=hy.tup
     rw[CW hks r] at hb
     exact⟨b,hb,rfl⟩
    rcases dt with⟨js,h1,ha⟩|⟨js,⟨ne,h1⟩,ha⟩
    .obtain⟨js',h2⟩:=zx.mp hs
     have:=yo h1 h2;subst this;cases h1
     exact⟨a,aj,rfl,.inr ⟨ha,⟨b,ks,rfl,hb⟩,rfl⟩,.inr ⟨rfl,rfl⟩⟩
    .have g:=pB.t (k:=ks) ha hb;rcases S7 (k:=ks) h1 rd with⟨d',v,e1,e2,r⟩|⟨e1,e2⟩
     .rw[e2] at g
      exact⟨a,aa v,rfl,.inl g,.inl ⟨v,rfl,d',e1,r,g⟩⟩
     .rw[e2] at g
      exact⟨a,aj,rfl,.inl g,.inr ⟨rfl,e1⟩⟩
   .cases e
  .cases e
end
def inD(d:aC)(ds:List aC):Bool:=ds.any λe=>tH (toV e) (toV d)
def inB(d:aC):aC->Option Bool
 |.list ds=>if lD d&&ds.all lD then aa (inD d ds) else aj
 |.tuple ds=>if lD d&&ds.all lD then aa (inD d ds) else aj
 |.dict kvs=>(qJ kvs d).map (·.isSome)
 |_=>aj
def jF(d e:aC):Option Vl:=(inB d e).map λb=>.im (.bool b)
def qC(d e:aC):Option Vl:=(inB d e).map λb=>.im (.bool (!b))
def aes(K:aQ):R2:=λx y H Q=>Nx K aL x y H Q\/∃a o,y=.ref a/\uG H a x o/\Q (.bl o.isSome) H
def acw(K:aQ):R2:=λx y H Q=>Nx K ao x y H Q\/∃a o,y=.ref a/\uG H a x o/\Q (.bl (!o.isSome)) H
theorem uh(hu:X.A.units+1<jc):dB X (gq .In) (aes X.K):=aiQ.or (am4 hu)
theorem CZ(hu:X.A.units+1<jc):dB X (gq .NotIn) (acw X.K):=ahm.or (ajc hu)
theorem RP(f:lD d=ao):rB (toV d)=ao:=by
 cases d<;>first|rfl|cases f
theorem adU:inV (toV d) (ds.map toV)=inD d ds:=by
 unfold inV inD;rw[Qv];rfl
theorem acy{ds:List aC}(f:ds.all lD=ao):(ds.map toV).all rB=ao:=by
 rw[List.all_map,qw];intro d hd;exact RP (qw.mp f d hd)
theorem abm{K:aQ}{Z Θ:List aq}{env:En}{σ:St}{H:Hp}{x y:V}{dx dy:aC}{b:Bool}(bx:gK Z Θ env σ H dx x)(fQ:gK Z Θ env σ H dy y)(e:inB dx dy=aa b):
  (∃p xs,y=.ref p/\(bU K H p xs\/dD K H p xs)/\rB x=ao/\xs.all rB=ao/\inV x xs=b)\/∃a o,y=.ref a/\uG H a x o/\o.isSome=b:=by
 unfold inB at e;split at e
 .split at e
  .rename_i ds hf;rw[jX] at hf;cases e
   obtain⟨a,vs,rfl,ha,r⟩:=fQ.lst
   rw[SQ hf.2 r] at ha;rw[bx.flat hf.1];exact .inl ⟨a,_,rfl,.inl (bU.of ha),RP hf.1,acy hf.2,adU⟩
  .cases e
 .split at e
  .rename_i ds hf;rw[jX] at hf;cases e
   obtain⟨a,vs,rfl,ha,r⟩:=fQ.tup
   rw[SQ hf.2 r] at ha;rw[bx.flat hf.1];exact .inl ⟨a,_,rfl,.inr (dD.of ha),RP hf.1,acy hf.2,adU⟩
  .cases e
 .rename_i kvs;cases hl:qJ kvs dx with
  |none=>rw[hl] at e;cases e
  |some o=>
   rw[hl] at e;cases e
   obtain⟨a,r,rfl,g,q⟩:=fQ.get bx hl
   refine .inr ⟨a,r,rfl,g,?_⟩;rcases q with⟨v,rfl,d',rfl,_⟩|⟨rfl,rfl⟩<;>rfl
 .cases e
theorem uw{K:aQ}:ie K (aes K) jF:=by
 intro Z Θ env C σ H x y dx dy res S bx fQ e Q q;unfold jF at e;cases h:inB dx dy with
 |none=>rw[h] at e;cases e
 |some b=>
  rw[h] at e;cases e;have fin:=q (.bl b) H (bu.refl _ _) (jN S rfl rfl);rcases abm (K:=K) bx fQ h with⟨p,xs,e1,e2,e3,e4,e5⟩|⟨a,o,e1,e2,e3⟩
  .rw[<-e5] at fin;exact .inl ⟨p,xs,e1,e2,e3,e4,fin⟩
  .rw[<-e3] at fin;exact .inr ⟨a,o,e1,e2,fin⟩
theorem Di{K:aQ}:ie K (acw K) qC:=by
 intro Z Θ env C σ H x y dx dy res S bx fQ e Q q;unfold qC at e;cases h:inB dx dy with
 |none=>rw[h] at e;cases e
 |some b=>
  rw[h] at e;cases e;have fin:=q (.bl (!b)) H (bu.refl _ _) (jN S rfl rfl);rcases abm (K:=K) bx fQ h with⟨p,xs,e1,e2,e3,e4,e5⟩|⟨a,o,e1,e2,e3⟩
  .rw[<-e5] at fin;exact .inl ⟨p,xs,e1,e2,e3,e4,fin⟩
  .rw[<-e3] at fin;exact .inr ⟨a,o,e1,e2,fin⟩
def vR:aC->aC->Option aC
 |.list ds,.int i=>fK ds i
 |.tuple ds,.int i=>fK ds i
 |.str z,.int i=>if z.length<=gM then(fK z.cps.toList i).map λc=>.str ⟨#[c]⟩ else aj
 |.dict kvs,d=>match qJ kvs d with
  |some (some e)=>aa e
  |_=>aj
 |_,_=>aj
def bI(d e:aC):Option Vl:=(vR d e).map .im
def aet(K:aQ):R2:=λx y H Q=>rIx K x y H Q\/∃a v,x=.ref a/\pB H a y (aa v)/\Q v H
theorem cB(hu:X.A.units+1<jc):tG X (aet X.K):=amM.or (alx hu)
theorem acz(r:cU E ds vs)(e:fK ds i=aa d):∃v,fK vs i=aa v/\RZ E d v:=by
 unfold fK at e⊢;rw[jA r];cases h:qb ds.length i with
 |none=>rw[h] at e;cases e
 |some j=>
  rw[h] at e;exact wN r e
theorem cF{K:aQ}:ie K (aet K) bI:=by
 intro Z Θ env C σ H x y dx dy res S bx fQ e Q q;unfold bI at e;cases h:vR dx dy with
 |none=>rw[h] at e;cases e
 |some d=>
  rw[h] at e;cases e;unfold vR at h;split at h
  .obtain⟨a,vs,rfl,ha,r⟩:=bx.lst
   cases fQ.int
   obtain⟨v,e1,r1⟩:=acz r h
   exact .inl (.inl ⟨a,vs,_,v,rfl,rfl,bU.of ha,e1,q _ _ (bu.refl _ _) ⟨S,r1⟩⟩)
  .obtain⟨a,vs,rfl,ha,r⟩:=bx.tup
   cases fQ.int
   obtain⟨v,e1,r1⟩:=acz r h
   exact .inl (.inr (.inl ⟨a,vs,_,v,rfl,rfl,dD.of ha,e1,q _ _ (bu.refl _ _) ⟨S,r1⟩⟩))
  .split at h
   .rename_i z i hz;cases bx.str;cases fQ.int;cases hc:fK z.cps.toList i with
    |none=>rw[hc] at h;cases h
    |some c=>
     rw[hc] at h;cases h;exact .inl (.inr (.inr ⟨z,i,c,rfl,rfl,u5 hz,hc,q _ _ (bu.refl _ _) (jN S rfl rfl)⟩))
   .cases h
  .split at h
   .rename_i kvs e' hl;cases h
    obtain⟨a,r,rfl,g,hq⟩:=bx.get fQ hl
    rcases hq with⟨v,rfl,d',e1,r1,g1⟩|⟨_,e1⟩
    .cases e1;exact .inr ⟨a,v,rfl,g1,q _ _ (bu.refl _ _) ⟨S,r1⟩⟩
    .cases e1
   .cases h
  .cases h
def HJ:aC->Option Bool
 |.none=>aa aL
 |.bool b=>aa b
 |.int i=>aa (i != 0)
 |.str x=>if x.length<=gM then aa ((x.length:Int) != 0) else aj
 |.list ds=>aa (!ds.isEmpty)
 |.tuple ds=>aa (!ds.isEmpty)
 |.dict kvs=>if(cW dm kvs).isSome then aa (!kvs.isEmpty) else aj
def j0(f:FB):FT:=λenv C=>match f env C with
 |some (d,_,C')=>match HJ d with
  |some b=>aa (b,C')
  |none=>aj
 |none=>aj
def c7(f:FE):FT:=λenv C=>match f env C with
 |some (.im (.bool b),_,C')=>aa (b,C')
 |_=>aj
def o7(f:FT):FT:=λenv C=>match f env C with
 |some (b,C')=>aa (!b,C')
 |none=>aj
def ni(f g:FT):FT:=λenv C=>match f env C with
 |some (true,C')=>g env C'
 |some (false,C')=>aa (aL,C')
 |none=>aj
def lK(f g:FT):FT:=λenv C=>match f env C with
 |some (true,C')=>aa (ao,C')
 |some (false,C')=>g env C'
 |none=>aj
theorem am5{K:aQ}{Z Θ:List aq}{env:En}{σ:St}{H:Hp}{x:V}{d:aC}{b:Bool}(h:gK Z Θ env σ H d x)(e:HJ d=aa b):Wa K x H b:=by
 cases d with
 |none=>cases e;cases(show x=_ from h);rfl
 |bool c=>cases e;cases(show x=_ from h);rfl
 |int i=>cases e;cases(show x=_ from h);rfl
 |str z=>
  simp only[HJ] at e;split at e
  .rename_i hz;cases e;cases(show x=_ from h);exact⟨u5 hz,rfl⟩
  .cases e
 |list ds=>
  cases e
  obtain⟨a,vs,rfl,ha,r⟩:=h.lst
  refine .inl ⟨vs,bU.of ha,?_⟩;have:=jA r;cases ds<;>cases vs<;>first|rfl|cases this
 |tuple ds=>
  cases e
  obtain⟨a,vs,rfl,ha,r⟩:=h.tup
  refine .inr (.inl ⟨vs,dD.of ha,?_⟩);have:=jA r;cases ds<;>cases vs<;>first|rfl|cases this
 |dict kvs=>
  simp only[HJ] at e;split at e
  .rename_i hs;cases e
   obtain⟨a,vs,rfl,da,r⟩:=h.dct
   rcases da with⟨ks,h1,ha⟩|⟨ks,⟨ne,h2⟩,ha⟩
   .refine .inr (.inr ⟨_,ha,?_⟩);have l1:=wF h1;have l2:=Dp r;cases kvs<;>cases ks<;>cases vs<;>first|rfl|cases l1|cases l2
   .obtain⟨ks',h1⟩:=zx.mp hs
    exact absurd (yo h1 h2) ne
  .cases e
section
variable{X:Cx}{a b:Expr}{pos:Pos}
theorem lU(h:PE X a (fW X.K f))(he:∀whole,isTrue a X.env whole=(do let v <-whole;vd a.pos;sr [v] (truthy v)):=by intro _;rfl):PT X a (gF X.K (j0 f)):=
 (ajL h he).weak λσ H Q aW=>by
  obtain⟨Z,Θ,env,C,b,C',S,hf,q⟩:=aW
  unfold j0 at hf;split at hf
  .rename_i d e1 C1 h1;split at hf
   .rename_i b' hb;cases hf
    exact⟨Z,Θ,env,C,d,e1,C',S,h1,λv H' k f S' bo=>⟨b,am5 bo hb,q H' k (S.go k S'.cell)⟩⟩
   .cases hf
  .cases hf
theorem abn{K:aQ}{t:TE}{f:FE}(w:∀σ H Q,tE K f σ H Q->t σ H Q):∀σ H Q,gF K (c7 f) σ H Q->Vx t σ H Q:=by
 rintro σ H Q ⟨Z,Θ,env,C,b,C',S,hf,q⟩;unfold c7 at hf;split at hf
 .rename_i b' e1 C1 h1;cases hf;refine w _ _ _ ⟨Z,Θ,env,C,.im (.bool b),e1,C',S,h1,λv H' k f R=>?_⟩
  obtain⟨S',r⟩:=R
  exact⟨b,r,q H' k (S.go k S'.cell)⟩
 .cases hf
theorem gb(ho:dB X (gq o) r)(L:ie X.K r op)(ha:PE X a (fW X.K fa))(hb:PE X b (fW X.K fb))(hm:FP o b=aL):
  PT X (.Compare a [o] [b] pos) (gF X.K (c7 (aP op fa fb))):=(akZ ho ha hb hm).weak (abn (K6 L))
theorem um(h:PT X a (gF X.K f)):PT X (.UnaryOp .Not a pos) (gF X.K (o7 f)):=(ams h).weak λσ H Q aW=>by
 obtain⟨Z,Θ,env,C,b,C',S,hf,q⟩:=aW
 unfold o7 at hf;split at hf
 .rename_i b' C1 h1;cases hf
  exact⟨Z,Θ,env,C,b',C',S,h1,q⟩
 .cases hf
theorem akb{K:aQ}{f g:FT}:∀σ H Q,gF K (ni f g) σ H Q->ad9 (gF K f) (gF K g) σ H Q:=by
 rintro σ H Q ⟨Z,Θ,env,C,b,C',S,hf,q⟩;unfold ni at hf;split at hf
 .rename_i C1 h1
  exact⟨Z,Θ,env,C,ao,C1,S,h1,λH1 k1 S1=>xj ⟨Z,Θ,env,C1,b,C',S1,hf,λH2 k2 S2=>q H2 (k1.trans k2) S2⟩⟩
 .rename_i C1 h1;cases hf
  exact⟨Z,Θ,env,C,aL,C',S,h1,λH1 k1 S1=>w6 (q H1 k1 S1)⟩
 .cases hf
theorem aly{K:aQ}{f g:FT}:∀σ H Q,gF K (lK f g) σ H Q->tOr (gF K f) (gF K g) σ H Q:=by
 rintro σ H Q ⟨Z,Θ,env,C,b,C',S,hf,q⟩;unfold lK at hf;split at hf
 .rename_i C1 h1;cases hf
  exact⟨Z,Θ,env,C,ao,C',S,h1,λH1 k1 S1=>xj (q H1 k1 S1)⟩
 .rename_i C1 h1
  exact⟨Z,Θ,env,C,aL,C1,S,h1,λH1 k1 S1=>w6 ⟨Z,Θ,env,C1,b,C',S1,hf,λH2 k2 S2=>q H2 (k1.trans k2) S2⟩⟩
 .cases hf
variable{rest:List Expr}
theorem Aa(h:PT X a (gF X.K f)):PW X (.BoolOp .And [a] pos) (gF X.K f):=pw_and1 h
theorem vq(h:PT X a (gF X.K f)):PW X (.BoolOp .Or [a] pos) (gF X.K f):=pw_or1 h
theorem uo(h:PT X a (gF X.K f))(hb:PW X (.BoolOp .And (b::rest) pos) (gF X.K g)):PW X (.BoolOp .And (a::b::rest) pos) (gF X.K (ni f g)):=(pw_and h hb).weak akb
theorem pO(h:PT X a (gF X.K f))(hb:PW X (.BoolOp .Or (b::rest) pos) (gF X.K g)):PW X (.BoolOp .Or (a::b::rest) pos) (gF X.K (lK f g)):=(pw_or h hb).weak aly
end
def yS(op op':aC->aC->Option Vl)(fa fb fc:FB):FE:=λenv C=>match fa env C with
 |some (x,e1,C1)=>match fb e1 C1 with
  |some (y,e2,C2)=>match op x y with
   |some (.im (.bool true))=>match fc e2 C2 with
    |some (z,e3,C3)=>match op' y z with
     |some (.im (.bool b))=>aa (.im (.bool b),env,C3)
     |_=>aj
    |none=>aj
   |some (.im (.bool false))=>aa (.im (.bool aL),env,C2)
   |_=>aj
  |none=>aj
 |none=>aj
theorem abo{K:aQ}{r r':R2}{op op':aC->aC->Option Vl}(L:ie K r op)(L':ie K r' op'){fa fb fc:FB}:∀σ H Q,tE K (yS op op' fa fb fc) σ H Q->U0 r r' (fW K fa) (fW K fb) (fW K fc) σ H Q:=by
 rintro σ H Q ⟨Z,Θ,env,C,res,env',C',S,hf,q⟩;unfold yS at hf;split at hf
 .rename_i x e1 C1 h1;split at hf
  .rename_i y e2 C2 h2
   refine⟨Z,Θ,env,C,x,e1,C1,S,h1,λv H1 k1 f1 S1 b1=>⟨Z,Θ,e1,C1,y,e2,C2,S1,h2,λu H2 k2 f2 S2 b2=>?_⟩⟩
   split at hf
   .rename_i h3;split at hf
    .rename_i z e3 C3 h4;split at hf
     .rename_i b h5;cases hf;refine L Z Θ e2 C2 σ H2 v u x y _ S2 (b1.go S1 k2 f2) b2 h3 _ λw H3 k3 R=>⟨ao,R.2,xj ⟨Z,Θ,e2,C2,z,e3,C',R.1,h4,λw2 H4 k4 f4 S4 b4=>?_⟩⟩
      refine L' Z Θ e3 C' σ H4 u w2 y z _ S4 ((b2.go S2 k3 (Fz.refl _)).go R.1 k4 f4) b4 h5 Q λw3 H5 k5 R5=>?_
      have k:=(((k1.trans k2).trans k3).trans k4).trans k5;exact q w3 H5 k (Fz.refl _) ⟨S.go k R5.1.cell,R5.2⟩
     .cases hf
    .cases hf
   .rename_i h3;cases hf;refine L Z Θ e2 C' σ H2 v u x y _ S2 (b1.go S1 k2 f2) b2 h3 _ λw H3 k3 R=>⟨aL,R.2,w6 ?_⟩
    have k:=(k1.trans k2).trans k3;exact q _ H3 k (Fz.refl _) ⟨S.go k R.1.cell,rfl⟩
   .cases hf
  .cases hf
 .cases hf
section
variable{X:Cx}{a b c:Expr}{pos:Pos}{r r':R2}{o o':CmpOp}{op op':aC->aC->Option Vl}{fa fb fc:FB}
theorem am6(ho:dB X (gq o) r)(L:ie X.K r op)(ho':dB X (gq o') r')(L':ie X.K r' op')(ha:PE X a (fW X.K fa))(hb:PE X b (fW X.K fb))(hc:PE X c (fW X.K fc))
  (hm:Rw [o,o'] [b,c]=aL:=by with_unfolding_all rfl):PE X (.Compare a [o,o'] [b,c] pos) (tE X.K (yS op op' fa fb fc)):=(ajJ ho ho' ha hb hc hm).weak (abo L L')
theorem am7(ho:dB X (gq o) r)(L:ie X.K r op)(ho':dB X (gq o') r')(L':ie X.K r' op')(ha:PE X a (fW X.K fa))(hb:PE X b (fW X.K fb))(hc:PE X c (fW X.K fc))
  (hm:Rw [o,o'] [b,c]=aL:=by with_unfolding_all rfl):PT X (.Compare a [o,o'] [b,c] pos) (gF X.K (c7 (yS op op' fa fb fc))):=(ajK ho ho' ha hb hc hm).weak (abn (abo L L'))
end
def pP(f g:FE):FE:=λenv C=>match f env C with
 |some (.im (.bool true),_,C')=>g env C'
 |some (.im (.bool false),_,C')=>aa (.im (.bool aL),env,C')
 |_=>aj
def Et(f g:FE):FE:=λenv C=>match f env C with
 |some (.im (.bool true),_,C')=>aa (.im (.bool ao),env,C')
 |some (.im (.bool false),_,C')=>g env C'
 |_=>aj
def Ho(f:FE):FE:=λenv C=>match f env C with
 |some (.im (.bool b),_,C')=>aa (.im (.bool (!b)),env,C')
 |_=>aj
def Bc(c:FT)(f g:FE):FE:=λenv C=>match c env C with
 |some (true,C')=>f env C'
 |some (false,C')=>g env C'
 |none=>aj
def vM(f:FB):FE:=λenv C=>match f env C with
 |some (.int i,_,C')=>aa (.im (.int (-i)),env,C')
 |_=>aj
section
variable{X:Cx}{a b c:Expr}{pos:Pos}{rest:List Expr}
theorem yD{o}(h:PE X a (tE X.K f)):PE X (.BoolOp o [a] pos) (tE X.K f):=amt h
theorem yE(ha:PE X a (tE X.K f))(hb:PE X (.BoolOp .And (b::rest) pos) (tE X.K g)):PE X (.BoolOp .And (a::b::rest) pos) (tE X.K (pP f g)):=(amu ha hb).weak λσ H Q aW=>by
 obtain⟨Z,Θ,env,C,r,env',C',S,hf,q⟩:=aW
 unfold pP at hf;split at hf
 .rename_i e1 C1 h1
  refine⟨Z,Θ,env,C,_,e1,C1,S,h1,λv H1 k1 f1 R1=>⟨ao,R1.2,xj ⟨Z,Θ,env,C1,r,env',C',S.go k1 R1.1.cell,hf,λw H2 k2 f2 R2=>q w H2 (k1.trans k2) f2 (R2.from k1)⟩⟩⟩
 .rename_i e1 C1 h1;cases hf
  exact⟨Z,Θ,env,C,_,e1,C',S,h1,λv H1 k1 f1 R1=>⟨aL,R1.2,w6 (q _ H1 k1 (Fz.refl _) ⟨S.go k1 R1.1.cell,rfl⟩)⟩⟩
 .cases hf
theorem an8(ha:PE X a (tE X.K f))(hb:PE X (.BoolOp .Or (b::rest) pos) (tE X.K g)):PE X (.BoolOp .Or (a::b::rest) pos) (tE X.K (Et f g)):=(anI ha hb).weak λσ H Q aW=>by
 obtain⟨Z,Θ,env,C,r,env',C',S,hf,q⟩:=aW
 unfold Et at hf;split at hf
 .rename_i e1 C1 h1;cases hf
  exact⟨Z,Θ,env,C,_,e1,C',S,h1,λv H1 k1 f1 R1=>⟨ao,R1.2,xj (q _ H1 k1 (Fz.refl _) ⟨S.go k1 R1.1.cell,rfl⟩)⟩⟩
 .rename_i e1 C1 h1
  refine⟨Z,Θ,env,C,_,e1,C1,S,h1,λv H1 k1 f1 R1=>⟨aL,R1.2,w6 ⟨Z,Θ,env,C1,r,env',C',S.go k1 R1.1.cell,hf,λw H2 k2 f2 R2=>q w H2 (k1.trans k2) f2 (R2.from k1)⟩⟩⟩
 .cases hf
theorem adn(ha:PE X a (tE X.K f)):PE X (.UnaryOp .Not a pos) (tE X.K (Ho f)):=(amv ha).weak λσ H Q aW=>by
 obtain⟨Z,Θ,env,C,r,env',C',S,hf,q⟩:=aW
 unfold Ho at hf;split at hf
 .rename_i b e1 C1 h1;cases hf
  exact⟨Z,Θ,env,C,_,e1,C',S,h1,λv H1 k1 f1 R1=>⟨b,R1.2,q _ H1 k1 (Fz.refl _) ⟨S.go k1 R1.1.cell,rfl⟩⟩⟩
 .cases hf
theorem adV(hc:PT X c (gF X.K t))(ha:PE X a (tE X.K f))(hb:PE X b (tE X.K g)):PE X (.IfExp c a b pos) (tE X.K (Bc t f g)):=(ajG hc ha hb).weak λσ H Q aW=>by
 obtain⟨Z,Θ,env,C,r,env',C',S,hf,q⟩:=aW
 unfold Bc at hf;split at hf
 .rename_i C1 h1
  exact⟨Z,Θ,env,C,ao,C1,S,h1,λH1 k1 S1=>xj ⟨Z,Θ,env,C1,r,env',C',S1,hf,λw H2 k2 f2 R2=>q w H2 (k1.trans k2) f2 (R2.from k1)⟩⟩
 .rename_i C1 h1
  exact⟨Z,Θ,env,C,aL,C1,S,h1,λH1 k1 S1=>w6 ⟨Z,Θ,env,C1,r,env',C',S1,hf,λw H2 k2 f2 R2=>q w H2 (k1.trans k2) f2 (R2.from k1)⟩⟩
 .cases hf
theorem DP(ha:PE X a (fW X.K f)):PE X (.UnaryOp .USub a pos) (tE X.K (vM f)):=(anQ amC ha).weak λσ H Q aW=>by
 obtain⟨Z,Θ,env,C,r,env',C',S,hf,q⟩:=aW
 unfold vM at hf;split at hf
 .rename_i i e1 C1 h1;cases hf
  exact⟨Z,Θ,env,C,_,e1,C',S,h1,λv H1 k1 f1 S1 b1=>⟨i,b1,q _ H1 k1 (Fz.refl _) ⟨S.go k1 S1.cell,rfl⟩⟩⟩
 .cases hf
end
def wU(K:aQ)(E:Hp)(Θ:List aq):Vl->V->Prop
 |.im d,v=>RZ E d v
 |.ow _,_=>False
 |.ce n,v=>∃a,v=.ref a/\Θ[n]?=aa a
 |.sc ns,v=>∃a,v=.ref a/\bU K E a (ns.map V.int)
inductive sH(K:aQ)(E:Hp)(Θ:List aq):List Vl->List V->Prop
 |nil:sH K E Θ [] []
 |cons {x:Vl} {v:V} {xs:List Vl} {vs:List V}:wU K E Θ x v->sH K E Θ xs vs->sH K E Θ (x::xs) (v::vs)
theorem wU.same{K:aQ}{E E':Hp}{Θ:List aq}(s:bW E E'){x:Vl}{v:V}(h:wU K E Θ x v):wU K E' Θ x v:=by
 cases x with
 |im d=>exact RZ.same s h
 |ow d=>exact h
 |ce n=>exact h
 |sc ns=>obtain⟨a,e,q⟩:=h;exact⟨a,e,s.seq q⟩
theorem sH.same{K:aQ}{E E':Hp}{Θ:List aq}(s:bW E E'){xs:List Vl}{vs:List V}(h:sH K E Θ xs vs):sH K E' Θ xs vs:=by
 induction h with
 |nil=>exact .nil
 |cons a _ ih=>exact .cons (a.same s) ih
inductive zj(K:aQ)(f:FA)(σ:St)(H:Hp)(Q:List V->Hp->Prop):Prop
 |mk (Z Θ:List aq) (env:En) (C:Ce) (xs:List Vl) (env':En) (C':Ce) (S:Sm K Z Θ env C σ H) (hf:f env C=aa (xs,env',C')) (q:∀vs H',bu Θ H H'->Fz env env'->Sm K Z Θ env' C' σ H'->sH K (er (bG Z Θ env' σ) H') Θ xs vs->Q vs H'):zj K f σ H Q
def aR:FA:=λenv C=>aa ([],env,C)
def au(f:FE)(g:FA):FA:=λenv C=>match f env C with
 |some (r,e1,C1)=>match g e1 C1 with
  |some (xs,e2,C2)=>aa (still r::xs,e2,C2)
  |none=>aj
 |none=>aj
def eN:zg:=λenv C=>aa ([],env,C)
def cZ(f:FB)(g:zg):zg:=λenv C=>match f env C with
 |some (d,e1,C1)=>match g e1 C1 with
  |some (ds,e2,C2)=>aa (d::ds,e2,C2)
  |none=>aj
 |none=>aj
theorem Res.arg{K:aQ}{Z Θ:List aq}{env:En}{C:Ce}{σ:St}{H H':Hp}{r:Vl}{v:V}(h:Res K Z Θ env C σ H H' r v):Sm K Z Θ env C σ H'/\wU K (er (bG Z Θ env σ) H') Θ (L2.still r) v:=by
 have g:=h.still;cases r with
 |im d=>exact g
 |ow d=>exact g
 |ce n=>exact g
 |sc ns=>exact g
theorem Bb.same(s:bW E E')(t:bW T T')(h:Bb E T ds vs):Bb E' T' ds vs:=by
 induction h with
 |nil=>exact .nil
 |cons a _ ih=>exact .cons (a.same s t) ih
section
variable{X:Cx}{e:Expr}{es:List Expr}{pos:Pos}
theorem aZ:PA X [] (zj X.K aR):=rA.weak λσ H Q aW=>by
 obtain⟨Z,Θ,env,C,xs,env',C',S,hf,q⟩:=aW
 cases hf;exact q [] H (bu.refl _ _) (Fz.refl _) S .nil
theorem aD{f:FE}{g:FA}(h:PE X e (tE X.K f))(hr:PA X es (zj X.K g))(hs:bO (e::es) X.env=(aL,eval e X.env)::bO es X.env:=by rfl):PA X (e::es) (zj X.K (au f g)):=(oX h hr hs).weak λσ H Q aW=>by
 obtain⟨Z,Θ,env,C,xs,env',C',S,hf,q⟩:=aW
 unfold au at hf;split at hf
 .rename_i r e1 C1 h1;split at hf
  .rename_i ys e2 C2 h2;cases hf
   refine⟨Z,Θ,env,C,r,e1,C1,S,h1,λv H1 k1 f1 R1=>?_⟩
   obtain⟨S1,a1⟩:=R1.arg
   exact⟨Z,Θ,e1,C1,ys,env',C',S1,h2,λvs H2 k2 f2 S2 a2=>q _ H2 (k1.trans k2) (f1.trans f2) S2 (.cons (a1.same (VF S1 k2 f2)) a2)⟩
  .cases hf
 .cases hf
theorem fO:PA X [] (xJ X.K eN):=rA.weak λσ H Q aW=>by
 obtain⟨Z,Θ,env,C,xs,env',C',S,hf,q⟩:=aW
 cases hf;exact q [] H (bu.refl _ _) (Fz.refl _) S .nil
theorem dG(h:PE X e (fW X.K f))(hr:PA X es (xJ X.K g))(hs:bO (e::es) X.env=(aL,eval e X.env)::bO es X.env:=by rfl):PA X (e::es) (xJ X.K (cZ f g)):=(oX h hr hs).weak λσ H Q aW=>by
 obtain⟨Z,Θ,env,C,xs,env',C',S,hf,q⟩:=aW
 unfold cZ at hf;split at hf
 .rename_i d e1 C1 h1;split at hf
  .rename_i ys e2 C2 h2;cases hf
   exact⟨Z,Θ,env,C,d,e1,C1,S,h1,λv H1 k1 f1 S1 b1=>⟨Z,Θ,e1,C1,ys,env',C',S1,h2,λvs H2 k2 f2 S2 b2=>q _ H2 (k1.trans k2) (f1.trans f2) S2 (.cons (b1.go S1 k2 f2) b2)⟩⟩
  .cases hf
 .cases hf
end
def Eg:List Vl->Option (List aC)
 |[]=>aa []
 |.im d::r=>match Eg r with
  |some ds=>aa (d::ds)
  |none=>aj
 |_=>aj
theorem S8{K:aQ}{E:Hp}{Θ:List aq}:∀{xs:List Vl}{ds:List aC}{vs:List V},Eg xs=aa ds->sH K E Θ xs vs->cU E ds vs
 |[],ds,vs,h,a=>by cases h;cases a;rfl
 |.im d::r,ds,vs,h,a=>by
  unfold Eg at h;split at h
  .rename_i t ht;cases h;cases a with
   |cons a1 a2=>exact⟨_,_,rfl,a1,S8 ht a2⟩
  .cases h
 |.ow _::r,ds,vs,h,a=>by cases h
 |.ce _::r,ds,vs,h,a=>by cases h
 |.sc _::r,ds,vs,h,a=>by cases h
def dj(g:FA):FE:=λenv C=>match g env C with
 |some (xs,e',C')=>match Eg xs with
  |some ds=>if ds.length<=gM then aa (.ow (.list ds),e',C') else aj
  |none=>aj
 |none=>aj
def fV(g:FA):FE:=λenv C=>match g env C with
 |some (xs,e',C')=>match Eg xs with
  |some ds=>if ds.length<=gM then aa (.im (.tuple ds),e',C') else aj
  |none=>aj
 |none=>aj
section
variable{X:Cx}{e:Expr}{es:List Expr}{pos:Pos}
theorem fH{g:FA}(h:PA X es (zj X.K g)):PE X (.List es pos) (tE X.K (dj g)):=(amF h).weak λσ H Q aW=>by
 obtain⟨Z,Θ,env,C,r,env',C',S,hf,q⟩:=aW
 unfold dj at hf;split at hf
 .rename_i xs e1 C1 h1;split at hf
  .rename_i ds hd;split at hf
   .rename_i hl;cases hf
    refine⟨Z,Θ,env,C,xs,env',C',S,h1,λvs H1 k1 f1 S1 a1=>?_⟩
    have r:=S8 hd a1
    exact⟨by rw[jA r];exact u5 hl,λp hp=>q _ _ (k1.trans (bu.upd hp)) f1 ((pL S1 r hp).from k1)⟩
   .cases hf
  .cases hf
 .cases hf
theorem jg{x1}{g:FA}(h:PA X es (zj X.K g)):PE X (.Tuple es x1 pos) (tE X.K (fV g)):=(U3 h).weak λσ H Q aW=>by
 obtain⟨Z,Θ,env,C,r,env',C',S,hf,q⟩:=aW
 unfold fV at hf;split at hf
 .rename_i xs e1 C1 h1;split at hf
  .rename_i ds hd;split at hf
   .rename_i hl;cases hf
    refine⟨Z,Θ,env,C,xs,env',C',S,h1,λvs H1 k1 f1 S1 a1=>?_⟩
    have r:=S8 hd a1
    exact⟨by rw[jA r];exact u5 hl,λp hp=>q _ _ (k1.trans (bu.upd hp)) f1 ((Ls S1 r hp).from k1)⟩
   .cases hf
  .cases hf
 .cases hf
def Va:FE:=λenv C=>aa (.ow (.dict []),env,C)
theorem akc:PE X (.Dict [] [] pos) (tE X.K Va):=ajQ.weak λσ H Q aW=>by
 obtain⟨Z,Θ,env,C,r,env',C',S,hf,q⟩:=aW
 cases hf;exact λp hp=>q _ _ (bu.upd hp) (Fz.refl _) (acv (vs:=[]) S (λ_ z=>nomatch z) (.inl ⟨[],rfl,fG⟩) rfl hp)
end
def mC(K:aQ)(r:List V->Hp->VK->Prop)(op:List aC->Option Vl):Prop:=
 ∀(Z Θ:List aq)(env:En)(C:Ce)(σ:St)(H:Hp)(xs:List V)(ds:List aC)(res:Vl),Sm K Z Θ env C σ H->Mz Z Θ env σ H ds xs->op ds=aa res->
  ∀Q:VK,(∀v H',bu Θ H H'->Res K Z Θ env C σ H H' res v->Q v H')->r xs H Q
def eY(op:List aC->Option Vl)(g:zg):FE:=λenv C=>match g env C with
 |some (ds,e',C')=>match op ds with
  |some r=>aa (r,rst r env e',C')
  |none=>aj
 |none=>aj
theorem abp{K:aQ}{r:List V->Hp->VK->Prop}{op:List aC->Option Vl}(L:mC K r op){g:zg}:∀σ H Q,tE K (eY op g) σ H Q->Wv r (xJ K g) σ H Q:=by
 rintro σ H Q ⟨Z,Θ,env,C,res,env',C',S,hf,q⟩;unfold eY at hf;split at hf
 .rename_i ds e1 C1 h1;split at hf
  .rename_i r0 h2;cases hf
   refine⟨Z,Θ,env,C,ds,e1,C',S,h1,λvs H1 k1 f1 S1 b1=>L Z Θ e1 C' σ H1 vs ds res S1 b1 h2 Q λz H2 k2 R=>?_⟩
   exact q z H2 (k1.trans k2) (f1.rst res) ((R.from k1).rst S (k1.trans k2))
  .cases hf
 .cases hf
section
variable{X:Cx}{x:Str}{p pos:Pos}{e:Expr}{es:List Expr}{g:zg}{id T:String}{r:List V->Hp->VK->Prop}{op:List aC->Option Vl}
theorem iM(hc:iI X (.builtin id) r)(L:mC X.K r op)(hg:Gl X x)(hm:X.mg x=aj)(hv:uU x=aa (.builtin id))(ha:PA X (e::es) (xJ X.K g))(hn:x≠"__name__":=by decide)(hdb:(x==("__debug__":Str))=aL:=by decide)
  (he:bO (e::es) X.env=(aL,eval e X.env)::bO es X.env:=by rfl)(hpl:(iu pos (bO es X.env)).any (·.1)=aL:=by rfl):PE X (.Call (.Name x p) (e::es) [] pos) (tE X.K (eY op g)):=(KY hc hg hm hv ha hn hdb he hpl).weak (abp L)
theorem wG(hc:iI X (.type T) r)(L:mC X.K r op)(hg:Gl X x)(hm:X.mg x=aj)(hv:uU x=aa (.type T))(ha:PA X (e::es) (xJ X.K g))(hn:x≠"__name__":=by decide)(hdb:(x==("__debug__":Str))=aL:=by decide)
  (he:bO (e::es) X.env=(aL,eval e X.env)::bO es X.env:=by rfl)(hpl:(iu pos (bO es X.env)).any (·.1)=aL:=by rfl):PE X (.Call (.Name x p) (e::es) [] pos) (tE X.K (eY op g)):=(aiP hc hg hm hv ha hn hdb he hpl).weak (abp L)
end
abbrev FN:=List Vl->Ce->Option (Vl×Ce)
def spT(K:aQ)(f:FN):Sp:=λvs H Q _=>∃Z Θ C xs r C',Sm K Z Θ [] C [] H/\sH K (er (bG Z Θ [] []) H) Θ xs vs/\f xs C=aa (r,C')/\
 ∀v H',bu Θ H H'->Res K Z Θ [] C' [] H H' r v->Q v H'
def bH(f:FN)(g:FA):FE:=λenv C=>match g env C with
 |some (xs,e',C1)=>match f xs C1 with
  |some (r,C2)=>aa (r,rst r env e',C2)
  |none=>aj
 |none=>aj
theorem uq(h:∀a,a∈P↔a∈P'):er P H=er P' H:=by
 funext b;unfold er;by_cases hb:b∈P
 .rw[bC hb,bC ((h b).mp hb)]
 .rw[bJ hb,bJ (λz=>hb ((h b).mpr z))]
theorem Ud(a:aq):a∈bG (Z++cg env σ) Θ [] []↔a∈bG Z Θ env σ:=by
 simp only[bG,cg,dR,lq];constructor
 .rintro((h|h)|h)
  .exact .inl h
  .exact .inr (.inr h)
  .exact .inr (.inl h)
 .rintro(h|h|h)
  .exact .inl (.inl h)
  .exact .inr h
  .exact .inl (.inr h)
section
variable{K:aQ}{Z Θ:List aq}{env:En}{C C':Ce}{σ:St}{H H':Hp}{a:aq}
theorem Sm.Aq(S:Sm K Z Θ env C σ H)(ha:H a=aj)(k:bu Θ H H')(h':NT (H' a))(c:qG Θ C' H'):Sm K (a::Z) Θ env C' σ H':=by
 have sm:bW (er (bG Z Θ env σ) H) (er (bG (a::Z) Θ env σ) H'):=m9 k S.tL λb m=>by
  rcases cM.mp m with rfl|m
  .exact .inr ha
  .exact .inl m
 refine⟨S.len,jL.mpr ⟨λm=>S.Ba a m ha,S.nd⟩,λb m=>?_,λi x e=>?_,c⟩
 .rcases cM.mp m with rfl|m
  .exact h'
  .obtain⟨u,e,n⟩:=S.dom b m
   exact⟨u,k.keep _ _ e λz=>by
    have h:=S.nd;rw[lO] at h;exact h.2.2 b m b (jd _ z) rfl,n⟩
 .obtain⟨v,e1,r⟩:=S.slot i x e
  refine⟨v,e1,r.same sm λd b ex ev o' ho=>k.keep _ _ ho ?_⟩
  subst ex ev
  exact(S.pM (nZ.mpr ⟨i,d,e,e1⟩)).2
theorem Sm.bare(S:Sm K Z Θ env C σ H):Sm K (Z++cg env σ) Θ [] C [] H:=by
 refine⟨rfl,?_,λb m=>?_,λi x e=>by simp at e,S.cell⟩
 .have h:=S.nd
  show((Z++cg env σ)++(Θ++[])).Nodup
  rw[lq,mF];have p:(Z++(Θ++cg env σ)).Perm (Z++(cg env σ++Θ)):=afK Z List.perm_append_comm;exact p.nodup h
 .rcases dR.mp m with m|m
  .exact S.dom b m
  .exact S.NK b (gn _ (gn _ m))
theorem Res.back(S:Sm K Z Θ env C σ H)(k:bu Θ H H')(h:Res K (Z++cg env σ) Θ [] C' [] H H' r v):Res K Z Θ env C' σ H H' r v:=by
 have e1:er (bG (Z++cg env σ) Θ [] []) H'=er (bG Z Θ env σ) H':=uq Ud;cases r with
 |im d=>
  obtain⟨S',r⟩:=h
  rw[e1] at r
  exact⟨S.go k S'.cell,r⟩
 |ow d=>
  obtain⟨a,rfl,hn,S',r⟩:=h
  have e2:er (bG (a::(Z++cg env σ)) Θ [] []) H'=er (bG (a::Z) Θ env σ) H':=uq λb=>by
   show b∈a::bG (Z++cg env σ) Θ [] []↔b∈a::bG Z Θ env σ;rw[cM,cM,Ud]
  rw[e2] at r
  exact⟨a,rfl,hn,S.Aq hn k (S'.dom a dH) S'.cell,r⟩
 |ce n=>exact⟨S.go k h.1.cell,h.2⟩
 |sc ns=>
  obtain⟨S',a,rfl,q⟩:=h
  rw[e1] at q
  exact⟨S.go k S'.cell,a,rfl,q⟩
end
section
variable{X:Cx}{x:Str}{k:Nat}{ps:List Str}{p pos:Pos}{e:Expr}{es:List Expr}{f:FN}{g:FA}
theorem akd{K:aQ}:∀σ H Q,tE K (bH f g) σ H Q->Vy (spT K f) [] E0 (zj K g) σ H Q:=by
 rintro σ H Q ⟨Z,Θ,env,C,res,env',C',S,hf,q⟩;unfold bH at hf;split at hf
 .rename_i xs e1 C1 h1;split at hf
  .rename_i r C2 h2;cases hf
   refine⟨Z,Θ,env,C,xs,e1,C1,S,h1,λvs H1 k1 f1 S1 a1=>?_⟩
   show spT K f (vs++[]) H1 Q E0;rw[lq];have e2:er (bG (Z++cg e1 σ) Θ [] []) H1=er (bG Z Θ e1 σ) H1:=uq Ud;rw[<-e2] at a1
   exact⟨Z++cg e1 σ,Θ,C1,xs,res,C',S1.bare,a1,h2,λv H2 k2 R=>q v H2 (k1.trans k2) (f1.rst res) (((R.back S1 k2).from k1).rst S (k1.trans k2))⟩
  .cases hf
 .cases hf
theorem bT(F:dg X.prog X.w X.K X.mg X.base x k ps (spT X.K f))(hr:jD k X.A)(hg:Gl X x)(ha:PA X (e::es) (zj X.K g))(hdb:(x==("__debug__":Str))=aL:=by decide)
  (he:bO (e::es) X.env=(aL,eval e X.env)::bO es X.env:=by rfl)(hpl:(iu pos (bO es X.env)).any (·.1)=aL:=by rfl):PE X (.Call (.Name x p) (e::es) [] pos) (tE X.K (bH f g)):=(an4 F hr hg ha hdb he hpl).weak akd
end
theorem RQ:∀{env:En}{σ:St},(∀(i j:Nat)(d e:aC)(a:aq),env[i]?=aa (aa (Vl.ow d))->σ[i]?=aa (aa (V.ref a))->env[j]?=aa (aa (Vl.ow e))->σ[j]?=aa (aa (V.ref a))->i=j)->(cg env σ).Nodup
 |[],σ,_=>by cases σ<;>exact pH
 |_::_,[],_=>pH
 |x::en,v::s,h=>by
  rw[cg,lO]
  refine⟨?_,RQ λi j d e a h1 h2 h3 h4=>?_,λa ha b hb e=>?_⟩
  .unfold own1;split
   .exact jL.mpr ⟨by simp,pH⟩
   .exact pH
  .have:=h (i+1) (j+1) d e a (by simpa using h1) (by simpa using h2) (by simpa using h3) (by simpa using h4);lia
  .subst e;unfold own1 at ha;split at ha
   .rw[j8] at ha;subst ha
    obtain⟨j,d,h1,h2⟩:=nZ.mp hb
    have:=h 0 (j+1) _ d a rfl rfl (by simpa using h1) (by simpa using h2);lia
   .simp at ha
theorem get_set{α:Type}{l:List α}{i j:Nat}{x y:α}(h:(l.set i x)[j]?=aa y):(j=i/\y=x/\i<l.length)\/(j≠i/\l[j]?=aa y):=by
 by_cases e:i=j
 .subst e;rw[Fq,bC rfl] at h;split at h
  .rename_i hl;cases h;exact .inl ⟨rfl,rfl,hl⟩
  .cases h
 .rw[xM e] at h;exact .inr ⟨λz=>e z.symm,h⟩
theorem acA{α:Type}{l:List α}{i:Nat}{x:α}(h:i<l.length):(l.set i x)[i]?=aa x:=by
 rw[Fq,bC rfl,bC h]
theorem yw{env:En}{σ:St}{i:Nat}{x:Vl}{v:V}{a:aq}(h:a∈cg (env.set i (aa x)) (σ.set i (aa v))):a∈cg env σ\/(∃d,x=.ow d)/\v=.ref a:=by
 obtain⟨j,d,h1,h2⟩:=nZ.mp h
 rcases get_set h1 with⟨rfl,e,_⟩|⟨n,h1⟩
 .rcases get_set h2 with⟨_,e2,_⟩|⟨n,_⟩
  .cases e;cases e2;exact .inr ⟨⟨d,rfl⟩,rfl⟩
  .exact absurd rfl n
 .rcases get_set h2 with⟨e,_,_⟩|⟨_,h2⟩
  .exact absurd e n
  .exact .inl (nZ.mpr ⟨j,d,h1,h2⟩)
section
variable{K:aQ}{Z Θ:List aq}{env:En}{C:Ce}{σ:St}{H:Hp}{a:aq}{i:Nat}{v:V}
theorem Sm.fL(S:Sm K Z Θ env C σ H):Z.Nodup/\Θ.Nodup/\(cg env σ).Nodup/\(∀b∈Z,b∉Θ):=by
 have h:=S.nd;rw[lO,lO] at h
 obtain⟨h1,⟨h2,h3,_⟩,h4⟩:=h
 exact⟨h1,h2,h3,λb m m'=>h4 b m b (jd _ m') rfl⟩
theorem Bs(h1:Z.Nodup)(h2:Θ.Nodup)(h3:O.Nodup)(h4:∀b∈Z,b∉Θ)(h5:∀b∈O,b∉Z/\b∉Θ):(Z++(Θ++O)).Nodup:=by
 rw[lO,lO]
 refine⟨h1,⟨h2,h3,λb m c m' e=>?_⟩,λb m c m' e=>?_⟩
 .subst e;exact(h5 b m').2 m
 .subst e;rcases dR.mp m' with m'|m'
  .exact h4 b m m'
  .exact(h5 b m').1 m
theorem Sm.Bd(S:Sm K Z Θ env C σ H){x:Vl}(hx:∀d,x≠.ow d)(r:Es K (er (bG Z Θ env σ) H) H Θ x v):Sm K Z Θ (env.set i (aa x)) C (σ.set i (aa v)) H:=by
 have sub:∀b,b∈cg (env.set i (aa x)) (σ.set i (aa v))->b∈cg env σ:=λb m=>by
  rcases yw m with m|⟨⟨d,e⟩,_⟩
  .exact m
  .exact absurd e (hx d)
 have fL:=S.fL;have sm:bW (er (bG Z Θ env σ) H) (er (bG Z Θ (env.set i (aa x)) (σ.set i (aa v))) H):=vo λb m=>by
  rcases dR.mp m with m|m
  .exact jd _ m
  .rcases dR.mp m with m|m
   .exact gn _ (jd _ m)
   .exact gn _ (gn _ (sub b m))
 refine⟨by rw[xU,xU];exact S.len,?_,S.dom,λj y e=>?_,S.cell⟩
 .refine Bs fL.1 fL.2.1 (RQ λp q d e b h1 h2 h3 h4=>?_) fL.2.2.2 λb m=>S.pM (sub b m)
  rcases get_set h1 with⟨rfl,e1,_⟩|⟨n1,h1⟩
  .cases e1;exact absurd rfl (hx d)
  .rcases get_set h3 with⟨rfl,e1,_⟩|⟨n2,h3⟩
   .cases e1;exact absurd rfl (hx e)
   .rcases get_set h2 with⟨e2,_,_⟩|⟨_,h2⟩
    .exact absurd e2 n1
    .rcases get_set h4 with⟨e4,_,_⟩|⟨_,h4⟩
     .exact absurd e4 n2
     .exact GC fL.2.2.1 h1 h2 h3 h4
 .rcases get_set e with⟨rfl,e1,hl⟩|⟨n,e⟩
  .cases e1
   exact⟨v,acA (by rw[S.len];exact hl),r.same sm λd b ex _=>absurd ex (hx d)⟩
  .obtain⟨u,e1,r1⟩:=S.slot j y e
   exact⟨u,by rw[xM (kI n)];exact e1,r1.same sm λ_ _ _ _ _ h=>h⟩
theorem Sm.aeu(S:Sm K (a::Z) Θ env C σ H){d:aC}(r:mO (er (bG (a::Z) Θ env σ) H) H a d):Sm K Z Θ (env.set i (aa (.ow d))) C (σ.set i (aa (.ref a))) H:=by
 have sub:∀b,b∈cg (env.set i (aa (.ow d))) (σ.set i (aa (.ref a)))->b∈cg env σ\/b=a:=λb m=>by
  rcases yw m with m|⟨_,e⟩
  .exact .inl m
  .cases e;exact .inr rfl
 have fL:=S.fL;have Io:=jL.mp fL.1;have sm:bW (er (bG (a::Z) Θ env σ) H) (er (bG Z Θ (env.set i (aa (.ow d))) (σ.set i (aa (.ref a)))) H):=vo λb m=>by
  rcases dR.mp m with m|m
  .exact jd _ (gh _ m)
  .rcases dR.mp m with m|m
   .exact gn _ (jd _ m)
   .rcases sub b m with m|rfl
    .exact gn _ (gn _ m)
    .exact jd _ dH
 have aev:a∉cg env σ:=λm=>(S.pM m).1 dH
 refine⟨by rw[xU,xU];exact S.len,?_,λb m=>S.dom b (gh _ m),λj y e=>?_,S.cell⟩
 .refine Bs Io.2 fL.2.1 (RQ λp q d1 e b h1 h2 h3 h4=>?_) (λb m=>fL.2.2.2 b (gh _ m)) λb m=>?_
  .rcases get_set h1 with⟨rfl,e1,_⟩|⟨n1,h1⟩
   .rcases get_set h3 with⟨e3,_,_⟩|⟨n2,h3⟩
    .exact e3.symm
    .rcases get_set h2 with⟨_,e2,_⟩|⟨n,_⟩
     .cases e2;rcases get_set h4 with⟨e4,_,_⟩|⟨_,h4⟩
      .exact e4.symm
      .exact absurd (nZ.mpr ⟨q,e,h3,h4⟩) aev
     .exact absurd rfl n
   .rcases get_set h2 with⟨e2,_,_⟩|⟨_,h2'⟩
    .exact absurd e2 n1
    .have mp:=nZ.mpr ⟨p,d1,h1,h2'⟩;rcases get_set h3 with⟨rfl,e3,_⟩|⟨n2,h3⟩
     .rcases get_set h4 with⟨_,e4,_⟩|⟨n,_⟩
      .cases e4;exact absurd mp aev
      .exact absurd rfl n
     .rcases get_set h4 with⟨e4,_,_⟩|⟨_,h4⟩
      .exact absurd e4 n2
      .exact GC fL.2.2.1 h1 h2' h3 h4
  .rcases sub b m with m|rfl
   .obtain⟨p,q⟩:=S.pM m
    exact⟨λz=>p (gh _ z),q⟩
   .exact⟨Io.1,fL.2.2.2 b dH⟩
 .rcases get_set e with⟨rfl,e1,hl⟩|⟨n,e⟩
  .cases e1
   exact⟨_,acA (by rw[S.len];exact hl),a,rfl,r.same sm λ_ h=>h⟩
  .obtain⟨u,e1,r1⟩:=S.slot j y e
   exact⟨u,by rw[xM (kI n)];exact e1,r1.same sm λ_ _ _ _ _ h=>h⟩
theorem Res.set(h:Res K Z Θ env C σ H0 H r v):Sm K Z Θ (env.set i (aa r)) C (σ.set i (aa v)) H:=by
 cases r with
 |im d=>exact h.1.Bd (λ_ e=>nomatch e) h.2
 |ow d=>obtain⟨a,rfl,_,S,r⟩:=h;exact S.aeu r
 |ce n=>exact h.1.Bd (λ_ e=>nomatch e) h.2
 |sc ns=>exact h.1.Bd (λ_ e=>nomatch e) h.2
end
inductive Fl where
 |nx|rt (r:Vl)|bk|ct
abbrev FS:=En->Ce->Option (Fl×En×Ce)
structure mD(Θ Θ':List aq)(H:Hp):Prop where
 ex:∃Δ,Θ'=Θ++Δ/\∀a∈Δ,H a=aj
theorem mD.refl(Θ:List aq)(H:Hp):mD Θ Θ H:=⟨[],by rw[lq],λ_ m=>nomatch m⟩
structure fX(K:aQ)(Z Θ:List aq)(env:En)(σ:St)(H:Hp)(Θ':List aq)(env':En)(C':Ce)(σ':St)(H':Hp):Prop where
 th:mD Θ Θ' H
 kp:bu (Θ++cg env σ) H H'
 own:∀a∈cg env' σ',a∈cg env σ\/H a=aj
 sm:Sm K Z Θ' env' C' σ' H'
def MJ(K:aQ)(Z Θ:List aq)(C:Ce)(own:List aq)(H H':Hp):Vl->V->Prop
 |.im d,v=>Sm K Z Θ [] C [] H'/\RZ (er (bG Z Θ [] []) H') d v
 |.ow d,v=>∃a,v=.ref a/\(a∈own\/H a=aj)/\Sm K (a::Z) Θ [] C [] H'/\mO (er (bG (a::Z) Θ [] []) H') H' a d
 |.ce n,v=>Sm K Z Θ [] C [] H'/\∃a,v=.ref a/\Θ[n]?=aa a
 |.sc ns,v=>Sm K Z Θ [] C [] H'/\∃a,v=.ref a/\bU K (er (bG Z Θ [] []) H') a (ns.map V.int)
structure WR(K:aQ)(Z Θ:List aq)(env:En)(σ:St)(H:Hp)(Θ':List aq)(C':Ce)(r:Vl)(v:V)(H':Hp):Prop where
 th:mD Θ Θ' H
 kp:bu (Θ++cg env σ) H H'
 ok:MJ K Z Θ' C' (cg env σ) H H' r v
def Nf(K:aQ)(Z Θ:List aq)(env:En)(σ:St)(H:Hp)(env':En)(C':Ce)(D:Ends):Fl->Prop
 |.nx=>∀Θ' σ' H',fX K Z Θ env σ H Θ' env' C' σ' H'->D.nx σ' H'
 |.bk=>∀Θ' σ' H',fX K Z Θ env σ H Θ' env' C' σ' H'->D.bk σ' H'
 |.ct=>∀Θ' σ' H',fX K Z Θ env σ H Θ' env' C' σ' H'->D.ct σ' H'
 |.rt r=>∀Θ' v H',WR K Z Θ env σ H Θ' C' r v H'->D.rt v H'
inductive tS(K:aQ)(f:FS)(D:Ends)(σ:St)(H:Hp):Prop
 |mk (Z Θ:List aq) (env:En) (C:Ce) (fl:Fl) (env':En) (C':Ce) (S:Sm K Z Θ env C σ H) (hf:f env C=aa (fl,env',C')) (q:Nf K Z Θ env σ H env' C' D fl):tS K f D σ H
section
variable{K:aQ}{Z Θ Θ1 Θ2:List aq}{env e1 e2:En}{C C1 C2:Ce}{σ σ1 σ2:St}{H H1 H2:Hp}
theorem mD.trans(h:mD Θ Θ1 H)(k:∀a,H a≠aj->H1 a≠aj)(g:mD Θ1 Θ2 H1):mD Θ Θ2 H:=by
 obtain⟨Δ,e,n⟩:=h.ex
 obtain⟨Δ',e',n'⟩:=g.ex
 refine⟨Δ++Δ',by rw[e',e,mF],λa m=>?_⟩
 rcases dR.mp m with m|m
 .exact n a m
 .cases h:H a with
  |none=>rfl
  |some o=>exact absurd (n' a m) (k a (by rw[h];exact xT _))
theorem abq(th:mD Θ Θ1 H)(k1:bu (Θ++cg env σ) H H1)(ow:∀a∈cg e1 σ1,a∈cg env σ\/H a=aj)(k2:bu (Θ1++cg e1 σ1) H1 H2):bu (Θ++cg env σ) H H2:=by
 refine⟨λa o e n=>k2.keep a o (k1.keep a o e n) λm=>n ?_,λa e=>k2.dom a (k1.dom a e)⟩
 have hn:H a≠aj:=by rw[e];exact xT _
 rcases dR.mp m with m|m
 .obtain⟨Δ,e',n'⟩:=th.ex
  rw[e'] at m;rcases dR.mp m with m|m
  .exact jd _ m
  .exact absurd (n' a m) hn
 .rcases ow a m with m|m
  .exact gn _ m
  .exact absurd m hn
theorem fX.trans(p:fX K Z Θ env σ H Θ1 e1 C1 σ1 H1)(q:fX K Z Θ1 e1 σ1 H1 Θ2 e2 C2 σ2 H2):fX K Z Θ env σ H Θ2 e2 C2 σ2 H2 where
 th:=p.th.trans p.kp.dom q.th
 kp:=abq p.th p.kp p.own q.kp
 own:=λa m=>by
  rcases q.own a m with m|m
  .exact p.own a m
  .exact .inr (p.kp.none m)
 sm:=q.sm
theorem fX.ret(p:fX K Z Θ env σ H Θ1 e1 C1 σ1 H1)(q:WR K Z Θ1 e1 σ1 H1 Θ2 C2 r v H2):WR K Z Θ env σ H Θ2 C2 r v H2 where
 th:=p.th.trans p.kp.dom q.th
 kp:=abq p.th p.kp p.own q.kp
 ok:=by
  have h:=q.ok;cases r with
  |im d=>exact h
  |ow d=>
   obtain⟨a,e,m,S,r⟩:=h
   refine⟨a,e,?_,S,r⟩
   rcases m with m|m
   .exact p.own a m
   .exact .inr (p.kp.none m)
  |ce n=>exact h
  |sc ns=>exact h
theorem Nf.trans(p:fX K Z Θ env σ H Θ1 e1 C1 σ1 H1)(h:Nf K Z Θ env σ H e2 C2 D fl):Nf K Z Θ1 e1 σ1 H1 e2 C2 D fl:=by
 cases fl with
 |nx=>exact λΘ' σ' H' q=>h Θ' σ' H' (p.trans q)
 |bk=>exact λΘ' σ' H' q=>h Θ' σ' H' (p.trans q)
 |ct=>exact λΘ' σ' H' q=>h Θ' σ' H' (p.trans q)
 |rt r=>exact λΘ' v H' q=>h Θ' v H' (p.ret q)
theorem wL(k:bu Θ H H1):bu (Θ++O) H H1:=⟨λa o e n=>k.keep a o e λm=>n (jd _ m),k.dom⟩
theorem fX.tM(k:bu Θ H H1)(f:Fz env e1)(S:Sm K Z Θ e1 C1 σ H1):fX K Z Θ env σ H Θ e1 C1 σ H1:=
 ⟨mD.refl _ _,wL k,λa m=>.inl (f.own.subset m),S⟩
end
def iC:FS:=λenv C=>aa (.nx,env,C)
def bD(f g:FS):FS:=λenv C=>match f env C with
 |some (.nx,e1,C1)=>g e1 C1
 |r=>r
def gY(c:FT)(f g:FS):FS:=λenv C=>match c env C with
 |some (true,C1)=>f env C1
 |some (false,C1)=>g env C1
 |none=>aj
def eO(f:FE):FS:=λenv C=>match f env C with
 |some (r,e1,C1)=>aa (.rt r,e1,C1)
 |none=>aj
def pQ(i:Nat):FS:=λenv C=>match env[i]? with
 |some (some x)=>aa (.rt x,env,C)
 |_=>aj
def cQ(i:Nat)(f:FE):FS:=λenv C=>match f env C with
 |some (r,e1,C1)=>aa (.nx,e1.set i (aa r),C1)
 |none=>aj
section
variable{X:Cx}{st:dz}{rest:List dz}{pos:Pos}
theorem fX.same{K:aQ}{Z Θ:List aq}{env:En}{C:Ce}{σ:St}{H:Hp}(S:Sm K Z Θ env C σ H):fX K Z Θ env σ H Θ env C σ H:=fX.tM (bu.refl _ _) (Fz.refl _) S
theorem jO:j4 X [] (tS X.K iC):=akV.weak λD σ H aW=>by
 obtain⟨Z,Θ,env,C,fl,env',C',S,hf,q⟩:=aW
 cases hf;exact q Θ σ H (fX.same S)
theorem cC(h:PS X st (tS X.K f)):j4 X [st] (tS X.K f):=akW h
theorem ake{K:aQ}{f g:FS}:∀D σ H,tS K (bD f g) D σ H->aea (tS K f) (tS K g) D σ H:=by
 rintro D σ H ⟨Z,Θ,env,C,fl,env',C',S,hf,q⟩;unfold bD at hf;split at hf
 .rename_i e1 C1 h1
  exact⟨Z,Θ,env,C,.nx,e1,C1,S,h1,λΘ1 σ1 H1 p=>⟨Z,Θ1,e1,C1,fl,env',C',p.sm,hf,q.trans p⟩⟩
 .rename_i hne
  refine⟨Z,Θ,env,C,fl,env',C',S,hf,?_⟩
  cases fl with
  |nx=>exact absurd hf (hne _ _)
  |bk=>exact q
  |ct=>exact q
  |rt r=>exact q
theorem bM(h:PS X st (tS X.K f))(hr:j4 X rest (tS X.K g)):j4 X (st::rest) (tS X.K (bD f g)):=(ajH h hr).weak ake
theorem jP(hc:PT X c (gF X.K t))(ha:j4 X a (tS X.K f))(hb:j4 X b (tS X.K g)):PS X (.If c a b pos) (tS X.K (gY t f g)):=(anL hc ha hb).weak λD σ H aW=>by
 obtain⟨Z,Θ,env,C,fl,env',C',S,hf,q⟩:=aW
 unfold gY at hf;split at hf
 .rename_i C1 h1
  exact⟨Z,Θ,env,C,ao,C1,S,h1,λH1 k1 S1=>xj ⟨Z,Θ,env,C1,fl,env',C',S1,hf,q.trans (fX.tM k1 (Fz.refl _) S1)⟩⟩
 .rename_i C1 h1
  exact⟨Z,Θ,env,C,aL,C1,S,h1,λH1 k1 S1=>w6 ⟨Z,Θ,env,C1,fl,env',C',S1,hf,q.trans (fX.tM k1 (Fz.refl _) S1)⟩⟩
 .cases hf
theorem Sm.none{K:aQ}{Z Θ:List aq}{env:En}{C:Ce}{σ:St}{H:Hp}(S:Sm K Z Θ env C σ H):Sm K Z Θ [] C [] H:=by
 have fL:=S.fL
 exact⟨rfl,Bs fL.1 fL.2.1 pH fL.2.2.2 (λ_ m=>nomatch m),S.dom,λi x e=>by simp at e,S.cell⟩
theorem Gp:bW (er (bG Z Θ env σ) H) (er (bG Z Θ [] []) H):=vo λb m=>by
 rcases dR.mp m with m|m
 .exact jd _ m
 .rcases dR.mp m with m|m
  .exact gn _ (jd _ m)
  .nomatch m
theorem Res.ret{K:aQ}{Z Θ:List aq}{env:En}{C:Ce}{σ:St}{H H':Hp}{O:List aq}{r:Vl}{v:V}(h:Res K Z Θ env C σ H H' r v):MJ K Z Θ C O H H' r v:=by
 cases r with
 |im d=>exact⟨h.1.none,h.2.same Gp⟩
 |ow d=>obtain⟨a,e,n,S,r⟩:=h;exact⟨a,e,.inr n,S.none,r.same Gp λ_ h=>h⟩
 |ce n=>exact⟨h.1.none,h.2⟩
 |sc ns=>obtain⟨S,a,e,q⟩:=h;exact⟨S.none,a,e,Gp.seq q⟩
theorem fY(h:PE X e (tE X.K f)):PS X (.Return (aa e) pos) (tS X.K (eO f)):=(ac3 h).weak λD σ H aW=>by
 obtain⟨Z,Θ,env,C,fl,env',C',S,hf,q⟩:=aW
 unfold eO at hf;split at hf
 .rename_i r e1 C1 h1;cases hf
  exact⟨Z,Θ,env,C,r,env',C',S,h1,λv H1 k f R=>q Θ v H1 ⟨mD.refl _ _,wL k,R.ret⟩⟩
 .cases hf
theorem ue(h:PE X e (rF i)):PS X (.Return (aa e) pos) (tS X.K (pQ i)):=(ac3 h).weak λD σ H aW=>by
 obtain⟨Z,Θ,env,C,fl,env',C',S,hf,q⟩:=aW
 unfold pQ at hf;split at hf
 .rename_i x hx;cases hf
  obtain⟨v,e1,r⟩:=S.slot i x hx
  refine⟨v,e1,q Θ v H ⟨mD.refl _ _,bu.refl _ _,?_⟩⟩
  cases x with
  |im d=>exact⟨S.none,RZ.same Gp r⟩
  |ow d=>
   obtain⟨a,rfl,r⟩:=r
   have m:a∈cg env σ:=nZ.mpr ⟨i,d,hx,e1⟩;have sm:bW (er (bG Z Θ env σ) H) (er (bG (a::Z) Θ [] []) H):=vo λb mb=>by
    rcases dR.mp mb with mb|mb
    .rcases cM.mp mb with rfl|mb
     .exact gn _ (gn _ m)
     .exact jd _ mb
    .rcases dR.mp mb with mb|mb
     .exact gn _ (jd _ mb)
     .nomatch mb
   have fL:=S.fL
   refine⟨a,rfl,.inl m,⟨rfl,Bs (jL.mpr ⟨(S.pM m).1,fL.1⟩) fL.2.1 pH (λb mb=>?_) (λ_ m=>nomatch m),λb mb=>?_,λi x e=>by simp at e,S.cell⟩,r.same sm λ_ h=>h⟩
   .rcases cM.mp mb with rfl|mb
    .exact(S.pM m).2
    .exact fL.2.2.2 b mb
   .rcases cM.mp mb with rfl|mb
    .exact r.nt
    .exact S.dom b mb
  |ce n=>exact⟨S.none,r⟩
  |sc ns=>obtain⟨a,e,q⟩:=r;exact⟨S.none,a,e,Gp.seq q⟩
 .cases hf
theorem S9{K:aQ}{i:Nat}{t:TE}{f:FE}(w:∀σ H Q,tE K f σ H Q->t σ H Q):∀D σ H,tS K (cQ i f) D σ H->Ep t (yF i) D σ H:=by
 rintro D σ H ⟨Z,Θ,env,C,fl,env',C',S,hf,q⟩;unfold cQ at hf;split at hf
 .rename_i r e1 C1 h1;cases hf;refine w _ _ _ ⟨Z,Θ,env,C,r,e1,C',S,h1,λv H1 k f R=>q Θ _ H1 ⟨mD.refl _ _,wL k,λa m=>?_,R.set⟩⟩;rcases yw m with m|⟨⟨d,e⟩,e2⟩
  .exact .inl (f.own.subset m)
  .subst e
   obtain⟨b,e3,n,_⟩:=R
   rw[e2] at e3;cases e3;exact .inr n
 .cases hf
theorem eX(hN:X.N.Nodup)(hi:X.N[i]?=aa x)(hx:Loc X.env.scope x)(he:PE X e (tE X.K f))(hs:uY e (aa (.Name x pos')) pos.line X.env=pure aL:=by rfl)(hf:X.fn x=ao\/X.env.scope.names.lookup x=aa .local:=by first|exact .inl rfl|exact .inr rfl|assumption):
  PS X (.Assign [.Name x pos'] e pos) (tS X.K (cQ i f)):=(ac4 hN hi hx he hs hf).weak (S9 λ_ _ _ h=>h)
end
abbrev FG:=aC->En->Option En
abbrev Ip:=List aC->En->Option En
def Fd(K:aQ)(g:TG)(fg:FG):Prop:=∀(Z Θ:List aq)(env:En)(C:Ce)(σ:St)(H:Hp)(v:V)(d:aC)(env':En),Sm K Z Θ env C σ H->RZ (er (bG Z Θ env σ) H) d v->fg d env=aa env'->
 ∀Q:St->Hp->Prop,(∀σ',Sm K Z Θ env' C σ' H->(∀a∈cg env' σ',a∈cg env σ)->Q σ' H)->g v σ H Q
def Ng(K:aQ)(g:xF)(fg:Ip):Prop:=∀(Z Θ:List aq)(env:En)(C:Ce)(σ:St)(H:Hp)(vs:List V)(ds:List aC)(env':En),Sm K Z Θ env C σ H->cU (er (bG Z Θ env σ) H) ds vs->fg ds env=aa env'->
 ∀Q:St->Hp->Prop,(∀σ',Sm K Z Θ env' C σ' H->(∀a∈cg env' σ',a∈cg env σ)->Q σ' H)->g vs σ H Q
def dF(i:Nat):FG:=λd env=>aa (env.set i (aa (.im d)))
def vG:Ip:=λds env=>match ds with
 |[]=>aa env
 |_=>aj
def mK(g:FG)(u:Ip):Ip:=λds env=>match ds with
 |d::r=>match g d env with
  |some e1=>u r e1
  |none=>aj
 |[]=>aj
def vU(n:Nat)(u:Ip):FG:=λd env=>match d with
 |.tuple ds=>if ds.length=n then u ds env else aj
 |_=>aj
theorem ado(h:∀a∈cg e1 σ1,a∈cg env σ):bW (er (bG Z Θ env σ) H) (er (bG Z Θ e1 σ1) H):=vo λb m=>by
 rcases dR.mp m with m|m
 .exact jd _ m
 .rcases dR.mp m with m|m
  .exact gn _ (jd _ m)
  .exact gn _ (gn _ (h b m))
section
variable{K:aQ}
theorem jB:Fd K (yF i) (dF i):=by
 intro Z Θ env C σ H v d env' S r e Q q;cases e;refine q _ (S.Bd (λ_ z=>nomatch z) r) λa m=>?_
 rcases yw m with m|⟨⟨_,z⟩,_⟩
 .exact m
 .cases z
theorem Dq:Ng K V5 vG:=by
 intro Z Θ env C σ H vs ds env' S r e Q q;unfold vG at e;split at e
 .cases e
  exact⟨r,q _ S λ_ m=>m⟩
 .cases e
theorem pJ(h:Fd K g fg)(hu:Ng K u fu):Ng K (Vv g u) (mK fg fu):=by
 intro Z Θ env C σ H vs ds env' S r e Q q;unfold mK at e;split at e
 .rename_i d r'
  obtain⟨v,ws,rfl,r1,r2⟩:=r
  split at e
  .rename_i e1 h1
   refine⟨v,ws,rfl,h Z Θ env C σ H v d e1 S r1 h1 _ λσ1 S1 o1=>?_⟩
   exact hu Z Θ e1 C σ1 H ws r' env' S1 (r2.same (ado o1)) e Q λσ2 S2 o2=>q σ2 S2 λa m=>o1 a (o2 a m)
  .cases e
 .cases e
theorem DQ(hu:Ng K u fu):Fd K (V6 K n u) (vU n fu):=by
 intro Z Θ env C σ H v d env' S r e Q q;unfold vU at e;split at e
 .rename_i ds;split at e
  .rename_i hl
   obtain⟨a,vs,rfl,ha,r⟩:=r
   exact⟨a,vs,rfl,dD.of (jr ha),(jA r).trans hl,hu Z Θ env C σ H vs ds env' S r e Q q⟩
  .cases e
 .cases e
end
def Be(f:FE)(g:FG):FS:=λenv C=>match f env C with
 |some (r,e1,C1)=>match still r with
  |.im d=>match g d e1 with
   |some e2=>aa (.nx,e2,C1)
   |none=>aj
  |_=>aj
 |none=>aj
theorem Res.sJ{K:aQ}{Z Θ:List aq}{env:En}{C:Ce}{σ:St}{H H':Hp}{r:Vl}{v:V}{d:aC}(h:Res K Z Θ env C σ H H' r v)(e:L2.still r=.im d):Sm K Z Θ env C σ H'/\RZ (er (bG Z Θ env σ) H') d v:=by
 have g:=h.still;rw[e] at g;exact g
section
variable{X:Cx}{pos:Pos}
theorem Mm{tg e:Expr}{f:FE}{g:TG}{fg:FG}(he:PE X e (tE X.K f))(hg:PG X tg g)(L:Fd X.K g fg)(hs:zP [tg] e pos.line X.env=pure aL:=by rfl)(hw:zQ [tg] e X.env=pure aj:=by rfl)(h1:(uW [tg] X.env).map (·.2)=[assign tg X.env]:=by rfl):
  PS X (.Assign [tg] e pos) (tS X.K (Be f fg)):=(UL he hg hs hw h1).weak λD σ H aW=>by
 obtain⟨Z,Θ,env,C,fl,env',C',S,hf,q⟩:=aW
 unfold Be at hf;split at hf
 .rename_i r e1 C1 h1;split at hf
  .rename_i d hd;split at hf
   .rename_i e2 h2;cases hf
    refine⟨Z,Θ,env,C,r,e1,C',S,h1,λv H1 k f R=>?_⟩
    obtain⟨S1,r1⟩:=R.sJ hd
    exact L Z Θ e1 C' σ H1 v d env' S1 r1 h2 D.nx λσ' S' o=>q Θ σ' H1 ⟨mD.refl _ _,wL k,λa m=>.inl (f.own.subset (o a m)),S'⟩
   .cases hf
  .cases hf
 .cases hf
end
inductive pR(K:aQ)(E H:Hp)(Θ:List aq):List aq->List Vl->List V->Prop
 |nil:pR K E H Θ [] [] []
 |cons {as:List aq} {x:Vl} {v:V} {xs:List Vl} {vs:List V}:wU K E Θ x v->pR K E H Θ as xs vs->pR K E H Θ as (x::xs) (v::vs)
 |own {as:List aq} {a:aq} {d:aC} {xs:List Vl} {vs:List V}:mO E H a d->pR K E H Θ as xs vs->pR K E H Θ (as++[a]) (.ow d::xs) (.ref a::vs)
theorem pR.same{K:aQ}{E E' H:Hp}{Θ as:List aq}{xs:List Vl}{vs:List V}(s:bW E E')(h:pR K E H Θ as xs vs):pR K E' H Θ as xs vs:=by
 induction h with
 |nil=>exact .nil
 |cons a _ ih=>exact .cons (a.same s) ih
 |own r _ ih=>exact .own (r.same s λ_ h=>h) ih
theorem pR.heap{K:aQ}{E H H':Hp}{Θ as:List aq}{xs:List Vl}{vs:List V}(s:bW H H')(h:pR K E H Θ as xs vs):pR K E H' Θ as xs vs:=by
 induction h with
 |nil=>exact .nil
 |cons a _ ih=>exact .cons a ih
 |own r _ ih=>exact .own (r.same (bW.refl _) λo ho=>s _ _ ho) ih
inductive zm(K:aQ)(f:FA)(σ:St)(H:Hp)(Q:List V->Hp->Prop):Prop
 |mk (Z Θ:List aq) (env:En) (C:Ce) (xs:List Vl) (env':En) (C':Ce) (S:Sm K Z Θ env C σ H) (hf:f env C=aa (xs,env',C')) (q:∀vs as H',bu Θ H H'->Fz env env'->(∀a∈as,H a=aj)->Sm K (as++Z) Θ env' C' σ H'->pR K (er (bG (as++Z) Θ env' σ) H') H' Θ as xs vs->Q vs H'):zm K f σ H Q
def fJ(f:FE)(g:FA):FA:=λenv C=>match f env C with
 |some (r,e1,C1)=>match g e1 C1 with
  |some (xs,e2,C2)=>aa (r::xs,e2,C2)
  |none=>aj
 |none=>aj
section
variable{K:aQ}{Z Z' Θ:List aq}{env:En}{C:Ce}{σ:St}{H:Hp}
theorem kE:a∈bG Z Θ env σ↔a∈Z\/a∈Θ\/a∈cg env σ:=by rw[dR,dR]
theorem Sm.perm(S:Sm K Z Θ env C σ H)(p:Z.Perm Z'):Sm K Z' Θ env C σ H:=by
 have e:er (bG Z Θ env σ) H=er (bG Z' Θ env σ) H:=uq λa=>by rw[kE,kE,p.mem_iff]
 refine⟨S.len,(List.Perm.append_right _ p).nodup S.nd,λa m=>S.dom a (p.mem_iff.mpr m),λi x h=>?_,S.cell⟩
 rw[<-e];exact S.slot i x h
end
section
variable{X:Cx}{e:Expr}{es:List Expr}{pos:Pos}
theorem oZ:PA X [] (zm X.K aR):=rA.weak λσ H Q aW=>by
 obtain⟨Z,Θ,env,C,xs,env',C',S,hf,q⟩:=aW
 cases hf;exact q [] [] H (bu.refl _ _) (Fz.refl _) (λ_ m=>nomatch m) S .nil
theorem gU(h:PE X e (tE X.K f))(hr:PA X es (zm X.K g))(hs:bO (e::es) X.env=(aL,eval e X.env)::bO es X.env:=by rfl):PA X (e::es) (zm X.K (fJ f g)):=(oX h hr hs).weak λσ H Q aW=>by
 obtain⟨Z,Θ,env,C,xs,env',C',S,hf,q⟩:=aW
 unfold fJ at hf;split at hf
 .rename_i r e1 C1 h1;split at hf
  .rename_i ys e2 C2 h2;cases hf
   refine⟨Z,Θ,env,C,r,e1,C1,S,h1,λv H1 k1 f1 R1=>?_⟩
   have plain:∀{x:Vl},Sm X.K Z Θ e1 C1 σ H1->wU X.K (er (bG Z Θ e1 σ) H1) Θ x v->r=x->zm X.K g σ H1 λxs H2=>Q (v::xs) H2:=λ{x} S1 a1 ex=>by
    subst ex
    refine⟨Z,Θ,e1,C1,ys,env',C',S1,h2,λvs as H2 k2 f2 n2 S2 a2=>q _ as H2 (k1.trans k2) (f1.trans f2) (λa m=>k1.none (n2 a m)) S2 (.cons (a1.same (m9 k2 S1.tL λa m=>?_)) a2)⟩
    rcases dR.mp m with m|m
    .rcases dR.mp m with m|m
     .exact .inr (n2 a m)
     .exact .inl (jd _ m)
    .exact .inl (f2.sub (Z:=Z) a (gn _ m))
   cases r with
   |im d=>exact plain (x:=.im d) R1.1 R1.2 rfl
   |ce n=>exact plain (x:=.ce n) R1.1 R1.2 rfl
   |sc ns=>exact plain (x:=.sc ns) R1.1 R1.2 rfl
   |ow d=>
    obtain⟨a,rfl,hn,S1,r1⟩:=R1
    refine⟨a::Z,Θ,e1,C1,ys,env',C',S1,h2,λvs as H2 k2 f2 n2 S2 a2=>?_⟩
    have ez:as++a::Z=(as++[a])++Z:=by rw[mF];rfl
    rw[ez] at S2 a2;have na:a∉Θ:=λm=>(S1.fL.2.2.2 a dH) m
    refine q _ (as++[a]) H2 (k1.trans k2) (f1.trans f2) (λb m=>?_) S2 (.own (r1.same (m9 k2 S1.tL λb m=>?_) λo ho=>k2.keep _ _ ho na) a2)
    .rcases dR.mp m with m|m
     .exact k1.none (n2 b m)
     .rw[j8.mp m];exact hn
    .rcases dR.mp m with m|m
     .rcases dR.mp m with m|m
      .rcases dR.mp m with m|m
       .exact .inr (n2 b m)
       .rw[j8.mp m];exact .inl dH
      .exact .inl (jd _ (gh _ m))
     .exact .inl (f2.sub (Z:=a::Z) b (gn _ m))
  .cases hf
 .cases hf
end
def setM{α:Type}:List Nat->List α->List (Option α)->List (Option α)
 |i::is,x::xs,e=>setM is xs (e.set i (aa x))
 |_,_,e=>e
theorem Ue{K:aQ}{Z Θ:List aq}{C:Ce}{H:Hp}{E:Hp}:∀{as:List aq}{xs:List Vl}{vs:List V},pR K E H Θ as xs vs->∀{is:List Nat}{env:En}{σ:St},is.length=xs.length->bW E (er (bG (as++Z) Θ env σ) H)->Sm K (as++Z) Θ env C σ H->
  Sm K Z Θ (setM is xs env) C (setM is vs σ) H/\∀a∈cg (setM is xs env) (setM is vs σ),a∈cg env σ\/a∈as:=by
 intro as xs vs h;induction h with
 |nil=>
  intro is env σ hl _ S;cases is with
  |nil=>exact⟨S,λa m=>.inl m⟩
  |cons _ _=>cases hl
 |@cons as x v xs vs a1 _ ih=>
  intro is env σ hl sm S;cases is with
  |nil=>cases hl
  |cons i is=>
   have hx:∀d,x≠.ow d:=λd z=>by subst z;exact a1
   have sl:Es K (er (bG (as++Z) Θ env σ) H) H Θ x v:=by
    have a2:=a1.same sm;cases x with
    |im d=>exact a2
    |ow d=>exact absurd rfl (hx d)
    |ce n=>exact a2
    |sc ns=>exact a2
   have S1:Sm K (as++Z) Θ (env.set i (aa x)) C (σ.set i (aa v)) H:=S.Bd hx sl;have o1:∀b∈cg (env.set i (aa x)) (σ.set i (aa v)),b∈cg env σ:=λb m=>by
    rcases yw m with m|⟨⟨d,z⟩,_⟩
    .exact m
    .exact absurd z (hx d)
   obtain⟨S2,o2⟩:=ih (is:=is) (by simpa using hl) (sm.trans (ado o1)) S1
   refine⟨S2,λb m=>?_⟩
   rcases o2 b m with m|m
   .exact .inl (o1 b m)
   .exact .inr m
 |@own as a d xs vs r _ ih=>
  intro is env σ hl sm S;cases is with
  |nil=>cases hl
  |cons i is=>
   have pm:((as++[a])++Z).Perm (a::(as++Z)):=by
    rw[mF];exact List.perm_middle
   have S0:=S.perm pm;have ee:er (bG ((as++[a])++Z) Θ env σ) H=er (bG (a::(as++Z)) Θ env σ) H:=uq λb=>by rw[kE,kE,pm.mem_iff]
   rw[ee] at sm;have S1:Sm K (as++Z) Θ (env.set i (aa (.ow d))) C (σ.set i (aa (.ref a))) H:=S0.aeu (r.same sm λ_ h=>h);have o1:∀b∈cg (env.set i (aa (.ow d))) (σ.set i (aa (.ref a))),b∈cg env σ\/b=a:=λb m=>by
    rcases yw m with m|⟨_,z⟩
    .exact .inl m
    .cases z;exact .inr rfl
   obtain⟨S2,o2⟩:=ih (is:=is) (by simpa using hl) (sm.trans (vo λb m=>by
    rcases dR.mp m with m|m
    .exact jd _ (gh _ m)
    .rcases dR.mp m with m|m
     .exact gn _ (jd _ m)
     .rcases o1 b m with m|rfl
      .exact gn _ (gn _ m)
      .exact jd _ dH)) S1
   refine⟨S2,λb m=>?_⟩
   rcases o2 b m with m|m
   .rcases o1 b m with m|rfl
    .exact .inl m
    .exact .inr (gn _ (j8.mpr rfl))
   .exact .inr (jd _ m)
theorem Lx{K:aQ}{E H:Hp}{Θ as:List aq}{xs:List Vl}{vs:List V}(h:pR K E H Θ as xs vs):vs.length=xs.length:=by
 induction h with
 |nil=>rfl
 |cons _ _ ih=>rw[dw,dw,ih]
 |own _ _ ih=>rw[dw,dw,ih]
def jQ(is:List Nat)(g:FA):FS:=λenv C=>match g env C with
 |some (xs,e1,C1)=>if is.length=xs.length/\xs.length<=gM then aa (.nx,setM is xs e1,C1) else aj
 |none=>aj
def WT(is:List Nat):xF:=match is with
 |[]=>V5
 |i::r=>Vv (yF i) (WT r)
theorem acB:∀{is:List Nat}{vs:List V}{σ:St}{H:Hp}{Q:St->Hp->Prop},is.length=vs.length->Q (setM is vs σ) H->WT is vs σ H Q
 |[],[],σ,H,Q,_,q=>⟨rfl,q⟩
 |i::is,v::vs,σ,H,Q,h,q=>⟨v,vs,rfl,acB (by simpa using h) q⟩
 |[],_::_,_,_,_,h,_=>by cases h
 |_::_,[],_,_,_,h,_=>by cases h
section
variable{X:Cx}{pos:Pos}
theorem vz{i j:Nat}{x y:Str}{a b:Expr}{g:FA}{px py pt:Pos}{kt k2 pZ}(hc:X.calm=ao)(hN:X.N.Nodup)(hi:X.N[i]?=aa x)(hj:X.N[j]?=aa y)(hij:i≠j)
  (hx:X.env.scope.names.lookup x=aa .local)(hy:X.env.scope.names.lookup y=aa .local)(ha:PA X [a,b] (zm X.K g))
  (hw:zQ [.Tuple [.Name x px,.Name y py] kt pt] (.Tuple [a,b] k2 pZ) X.env=pure (aa [x,y]))
  (hs:zP [.Tuple [.Name x px,.Name y py] kt pt] (.Tuple [a,b] k2 pZ) pos.line X.env=pure aL:=by rfl):
  PS X (.Assign [.Tuple [.Name x px,.Name y py] kt pt] (.Tuple [a,b] k2 pZ) pos) (tS X.K (jQ [i,j] g)):=(amx hc hN hi hj hij hx hy ha hw hs).weak λD σ H aW=>by
 obtain⟨Z,Θ,env,C,fl,env',C',S,hf,q⟩:=aW
 unfold jQ at hf;split at hf
 .rename_i xs e1 C1 h1;split at hf
  .rename_i hl;cases hf
   refine⟨Z,Θ,env,C,xs,e1,C',S,h1,λvs as H1 k1 f1 n1 S1 a1=>?_⟩
   have l2:=Lx a1
   obtain⟨S2,o2⟩:=Ue a1 hl.1 (bW.refl _) S1
   have e2:∃v w,vs=[v,w]:=by
    have:vs.length=2:=by rw[l2,<-hl.1];rfl
    match vs,this with
    |[v,w],_=>exact⟨v,w,rfl⟩
   obtain⟨v,w,rfl⟩:=e2
   refine⟨v,w,rfl,q Θ _ H1 ⟨mD.refl _ _,wL k1,λb m=>?_,S2⟩⟩
   rcases o2 b m with m|m
   .exact .inl (f1.own.subset m)
   .exact .inr (n1 b m)
  .cases hf
 .cases hf
theorem Ly{tg:Expr}{es:List Expr}{g:FA}{is:List Nat}{n:Nat}{x1 pt}(ha:PA X es (zm X.K g))(hg:PG X tg (V6 X.K n (WT is)))(hn:n=is.length:=by rfl)
  (hs:zP [tg] (.Tuple es x1 pt) pos.line X.env=pure aL:=by rfl)(hw:zQ [tg] (.Tuple es x1 pt) X.env=pure aj:=by rfl)(h1:(uW [tg] X.env).map (·.2)=[assign tg X.env]:=by rfl):
  PS X (.Assign [tg] (.Tuple es x1 pt) pos) (tS X.K (jQ is g)):=(UL (U3 ha) hg hs hw h1).weak λD σ H aW=>by
 obtain⟨Z,Θ,env,C,fl,env',C',S,hf,q⟩:=aW
 unfold jQ at hf;split at hf
 .rename_i xs e1 C1 h1;split at hf
  .rename_i hl;cases hf
   refine⟨Z,Θ,env,C,xs,e1,C',S,h1,λvs as H1 k1 f1 n1 S1 a1=>⟨by rw[Lx a1];exact u5 hl.2,λp hp=>?_⟩⟩
   have l2:=Lx a1
   refine⟨p,vs,rfl,dD.of fG,by rw[l2,hn,hl.1],acB (by rw[hl.1,l2]) ?_⟩
   have kp:bu Θ H1 (upd H1 p (.tup vs)):=bu.upd hp;have S1':=S1.Ao (bW.upd (o:=.tup vs) hp);have a1':pR X.K (er (bG (as++Z) Θ e1 σ) H1) (upd H1 p (.tup vs)) Θ as xs vs:=a1.heap λb o ho=>by rw[di (qW ho hp)];exact ho
   obtain⟨S2,o2⟩:=Ue a1' hl.1 (m9 kp S1.tL λb m=>.inl m) S1'
   refine q Θ _ _ ⟨mD.refl _ _,wL (k1.trans kp),λb m=>?_,S2⟩;rcases o2 b m with m|m
   .exact .inl (f1.own.subset m)
   .exact .inr (n1 b m)
  .cases hf
 .cases hf
end
theorem Tc:∀{env:En}{σ:St}{i:Nat}{d d':aC},env[i]?=aa (aa (.ow d))->cg (env.set i (aa (.ow d'))) σ=cg env σ
 |[],σ,i,d,d',h=>by simp at h
 |x::e,[],i,d,d',h=>by cases i<;>rfl
 |x::e,v::s,0,d,d',h=>by
  simp at h;subst h;show own1 (aa (.ow d')) v++cg e s=own1 (aa (.ow d)) v++cg e s;rcases v with _|v
  .rfl
  .cases v<;>rfl
 |x::e,v::s,i+1,d,d',h=>by
  show own1 x v++cg (e.set i (aa (.ow d'))) s=own1 x v++cg e s;rw[Tc (by simpa using h)]
section
variable{K:aQ}{Z Θ:List aq}{env:En}{C:Ce}{σ:St}{H:Hp}{a:aq}{i:Nat}{d d':aC}{o:HO}
theorem Mp(h:a∈P):er P (upd H a o)=er P H:=by
 funext b;unfold er;by_cases hb:b=a
 .subst hb;rw[bC h,bC h]
 .rw[di hb]
theorem Sm.write(S:Sm K Z Θ env C σ H)(e1:env[i]?=aa (aa (.ow d)))(e2:σ[i]?=aa (aa (.ref a)))(r:mO (er (bG Z Θ env σ) H) (upd H a o) a d'):fX K Z Θ env σ H Θ (env.set i (aa (.ow d'))) C σ (upd H a o):=by
 have m:a∈cg env σ:=nZ.mpr ⟨i,d,e1,e2⟩;have no:=S.pM m;have eo:cg (env.set i (aa (.ow d'))) σ=cg env σ:=Tc e1;have mp:a∈bG Z Θ env σ:=gn _ (gn _ m);have ep:bG Z Θ (env.set i (aa (.ow d'))) σ=bG Z Θ env σ:=by show _++(_++_)=_;rw[eo]
 refine⟨mD.refl _ _,⟨λb u hb n=>?_,λb hb=>?_⟩,λb mb=>.inl (by rw[eo] at mb;exact mb),⟨by rw[xU];exact S.len,by rw[ep];exact S.nd,λb mb=>?_,λj y ej=>?_,⟨S.cell.len,λn b ns h1 h2=>?_⟩⟩⟩
 .rw[di (λz=>n (gn _ (by rw[z];exact m)))];exact hb
 .by_cases z:b=a
  .subst z;rw[fG];exact xT _
  .rw[di z];exact hb
 .rw[di (λz=>no.1 (by rw[<-z];exact mb))];exact S.dom b mb
 .rw[ep,Mp mp];rcases get_set ej with⟨rfl,ex,hl⟩|⟨n,ej⟩
  .cases ex
   exact⟨_,e2,a,rfl,r⟩
  .obtain⟨v,e3,r3⟩:=S.slot j y ej
   refine⟨v,e3,r3.same (bW.refl _) λd2 b ex ev u hu=>?_⟩
   subst ex ev;rw[di]
   .exact hu
   .intro z;subst z;exact n (GC S.fL.2.2.1 ej e3 e1 e2)
 .rw[di (λz=>no.2 (by rw[<-z];exact qm h1))];exact S.cell.at_ n b ns h1 h2
end
def o8:Option (Option Vl)->Bool
 |some (some (.ow (.list _)))=>ao
 |_=>aL
def lG(i:Nat)(f:FE):FS:=λenv C=>if o8 env[i]? then match f env C with
  |some (r,e1,C1)=>match still r,e1[i]? with
   |.im d,some (some (.ow (.list ds)))=>if ds.length<gM then aa (.nx,e1.set i (aa (.ow (.list (ds++[d])))),C1) else aj
   |_,_=>aj
  |none=>aj
 else aj
theorem abr(h:o8 x=ao):∃ds,x=aa (aa (.ow (.list ds))):=by
 unfold o8 at h;split at h
 .exact⟨_,rfl⟩
 .cases h
section
variable{X:Cx}{pos:Pos}
theorem wO(ho:PE X o (rF i))(he:PE X e (tE X.K f))
  (hs0:uY (.Call (.Attribute o "append" apos) [e] [] cpos) aj pos.line X.env=pure aL:=by rfl)
  (hbase:wu o "append" X.env (eval o X.env)=eval o X.env:=by rfl)
  (hfew:((iu cpos (bO [e] X.env)).all (λx=>!x.1)&&(z6 cpos (zV [] X.env)).all (λx=>x.1.isSome)
   &&decide (([e]:List Expr).length+([]:List oY).length+(if([]:List oY).isEmpty then 0 else 1)<30))=ao:=by rfl)
  (hline:(apos.endLine==cpos.line)=ao:=by rfl)(hs:bO [e] X.env=(aL,eval e X.env)::bO [] X.env:=by rfl)(hplain:(iu cpos (bO [] X.env)).any (·.1)=aL:=by rfl):
  PS X (.Expr (.Call (.Attribute o "append" apos) [e] [] cpos) pos) (tS X.K (lG i f)):=
 (TV (Hi Ow XX aft (uD.r RB) ho (oX he rA hs) hbase hfew hline hs hplain) hs0).weak λD σ H aW=>by
  obtain⟨Z,Θ,env,C,fl,env',C',S,hf,q⟩:=aW
  unfold lG at hf;split at hf
  .rename_i h0
   obtain⟨ds0,h0⟩:=abr h0
   obtain⟨v0,rP,a,rfl,EY,ha0,r0⟩:=S.slot i _ h0
   split at hf
   .rename_i r e1 C1 h1;split at hf
    .rename_i d ds hd hi;split at hf
     .rename_i hl;cases hf
      refine⟨_,rP,.inl ⟨rfl,EY,bU.of ha0⟩,Z,Θ,env,C,r,e1,C',S,h1,λv H1 k f R=>?_⟩
      obtain⟨S1,r1⟩:=R.sJ hd
      obtain⟨v1,ev1,a1,WW,vs,ha1,r2⟩:=S1.slot i _ hi
      subst WW;rw[rP] at ev1;cases ev1
      refine⟨a,vs,v,rfl,rfl,ha1,by rw[jA r2,jq];unfold gM at hl;lia,?_⟩
      have w:fX X.K Z Θ e1 σ H1 Θ (e1.set i (aa (.ow (.list (ds++[d]))))) C' σ (upd H1 a (.lst (vs++[v]))):=S1.write hi rP ⟨_,fG,yu r2 ⟨v,[],rfl,r1,rfl⟩⟩;exact q Θ σ _ ((fX.tM k f S1).trans w)
     .cases hf
    .cases hf
   .cases hf
  .cases hf
def pW{κ:Type}[DecidableEq κ](f:aC->Option κ)(k:κ)(dk d:aC)(kvs:List (aC×aC)):List (aC×aC):=
 if(kvs.any λp=>decide (f p.1=aa k))=ao then kvs.map (λp=>if f p.1=aa k then(p.1,d) else p) else kvs++[(dk,d)]
def putD(kvs:List (aC×aC))(dk d:aC):Option (List (aC×aC)):=match dm dk with
 |some k=>if(cW dm kvs).isSome then aa (pW dm k dk d kvs) else aj
 |none=>match sI dk with
  |some ks=>if(cW sI kvs).isSome then aa (pW sI ks dk d kvs) else aj
  |none=>aj
theorem acC[DecidableEq κ]:∀{kvs:List (aC×aC)}{ks:List κ}{vs:List V},cW f kvs=aa ks->ju E kvs vs->(kvs.any λp=>decide (f p.1=aa k))=((ks.zip vs).any λkv=>decide (kv.1=k))
 |[],ks,vs,h,r=>by
  cases h
  cases(show vs=[] from r)
  rfl
 |(p,d)::kvs,ks,vs,h,r=>by
  unfold cW at h;split at h
  .rename_i k' t h1 h2;cases h
   obtain⟨v,w,rfl,q,s⟩:=r
   show(decide (f p=aa k)||_)=(decide (k'=k)||_)
   rw[acC h2 s,h1];congr 1;rw[oU,decide_eq_true_iff,decide_eq_true_iff]
   exact⟨λe=>gH e,λe=>by rw[e]⟩
  .cases h
theorem acD[DecidableEq κ](hv:RZ E d v):∀{kvs:List (aC×aC)}{ks:List κ}{vs:List V},cW f kvs=aa ks->ju E kvs vs->
  ∃vs',cW f (kvs.map λp=>if f p.1=aa k then(p.1,d) else p)=aa ks/\ju E (kvs.map λp=>if f p.1=aa k then(p.1,d) else p) vs'/\ks.zip vs'=(ks.zip vs).map λkv=>if kv.1=k then(kv.1,v) else kv
 |[],ks,vs,h,r=>by
  cases h
  exact⟨[],rfl,rfl,rfl⟩
 |(p,e)::kvs,ks,vs,h,r=>by
  unfold cW at h;split at h
  .rename_i k' t h1 h2;cases h
   obtain⟨u,w,rfl,q,s⟩:=r
   obtain⟨vs',g1,g2,g3⟩:=acD (k:=k) hv h2 s
   have h1':f p=aa k':=h1;by_cases ek:k'=k
   .subst ek
    refine⟨v::vs',?_,?_,?_⟩
    .rw[cO];show cW f ((if f p=aa k' then(p,d) else(p,e))::_)=_;rw[bC h1'];unfold cW;rw[g1];simp only[h1']
    .rw[cO];show ju E ((if f p=aa k' then(p,d) else(p,e))::_) _;rw[bC h1']
     exact⟨v,vs',rfl,hv,g2⟩
    .show(k',v)::t.zip vs'=(if k'=k' then(k',v) else(k',u))::_
     rw[bC rfl,g3];rfl
   .have ne:¬f p=aa k:=λz=>ek (gH (h1'.symm.trans z))
    refine⟨u::vs',?_,?_,?_⟩
    .rw[cO];show cW f ((if f p=aa k then(p,d) else(p,e))::_)=_;rw[bJ ne];unfold cW;rw[g1];simp only[h1']
    .rw[cO];show ju E ((if f p=aa k then(p,d) else(p,e))::_) _;rw[bJ ne]
     exact⟨u,vs',rfl,q,g2⟩
    .show(k',u)::t.zip vs'=(if k'=k then(k',v) else(k',u))::_
     rw[bJ ek,g3];rfl
  .cases h
theorem abt{κ:Type}{f:aC->Option κ}{k:κ}{E:Hp}{dk d:aC}{v:V}(hk:f dk=aa k)(hv:RZ E d v):∀{kvs:List (aC×aC)}{ks:List κ}{vs:List V},cW f kvs=aa ks->ju E kvs vs->
  cW f (kvs++[(dk,d)])=aa (ks++[k])/\ju E (kvs++[(dk,d)]) (vs++[v])/\(ks++[k]).zip (vs++[v])=ks.zip vs++[(k,v)]
 |[],ks,vs,h,r=>by
  cases h
  cases(show vs=[] from r)
  refine⟨?_,⟨v,[],rfl,hv,rfl⟩,rfl⟩
  show cW f [(dk,d)]=_;unfold cW cW;simp only[hk];rfl
 |(p,e)::kvs,ks,vs,h,r=>by
  unfold cW at h;split at h
  .rename_i k' t h1 h2;cases h
   obtain⟨u,w,rfl,q,s⟩:=r
   obtain⟨g1,g2,g3⟩:=abt hk hv h2 s
   refine⟨?_,⟨u,_,rfl,q,g2⟩,?_⟩
   .show cW f ((p,e)::(kvs++[(dk,d)]))=_;unfold cW;rw[g1];simp only[show f p=aa k' from h1];rfl
   .show(k',u)::(t++[k]).zip (w++[v])=_
    rw[g3];rfl
  .cases h
theorem Lz{κ:Type}[DecidableEq κ]{f:aC->Option κ}{k:κ}{E:Hp}{dk d:aC}{v:V}(hk:f dk=aa k)(hv:RZ E d v){kvs:List (aC×aC)}{ks:List κ}{vs:List V}(h:cW f kvs=aa ks)(r:ju E kvs vs):
  ∃ks' vs',cW f (pW f k dk d kvs)=aa ks'/\ju E (pW f k dk d kvs) vs'/\ks'.zip vs'=putK (ks.zip vs) k v:=by
 unfold pW putK;rw[acC h r];split
 .obtain⟨vs',g1,g2,g3⟩:=acD (k:=k) hv h r
  exact⟨ks,vs',g1,g2,g3⟩
 .obtain⟨g1,g2,g3⟩:=abt hk hv h r
  exact⟨_,_,g1,g2,g3⟩
theorem set_dict(hu:X.A.units+1<jc):wZ X (λo i v H Q=>∃a H',o=.ref a/\uA H a i v H'/\Q H'):=by
 intro pins s σ H o i v ov iv u Q I ro ri rv h
 obtain⟨a,H',rfl,g,q⟩:=h
 cases ro;exact aaB hu I g ri rv λs' I'=>⟨H',I',q⟩
theorem ajd(hu:X.A.units+1<jc):wZ X (λo i v H Q=>∃(a b:aq)(ks:List Key),o=.ref a/\H a=aa (.dK [])/\i=.ref b/\H b=aa (.tup (ks.map kV))/\Q (upd H a (.dT [(ks,v)]))):=by
 intro pins s σ H o i v ov iv u Q I ro ri rv h
 obtain⟨a,b,ks,rfl,ha,rfl,hb,q⟩:=h
 cases ro;have hb':(upd H a (.dT [])) b=aa (.tup (ks.map kV)):=by rw[di (Vt hb ha (λz=>nomatch z))];exact hb
 refine aaB hu (I.NP ha) (uA.t (kvs:=[]) (k:=ks) (v:=v) fG hb' (by rw[jq];decide)) ri rv λs' I'=>⟨_,I',?_⟩
 rw[ab4];exact q
theorem wZ.or(h:wZ X t)(h':wZ X t'):wZ X (λo i v H Q=>t o i v H Q\/t' o i v H Q):=by
 intro pins s σ H o i v ov iv u Q I ro ri rv q;rcases q with q|q
 .exact h pins s σ H o i v ov iv u Q I ro ri rv q
 .exact h' pins s σ H o i v ov iv u Q I ro ri rv q
theorem alz(hu:X.A.units+1<jc):wZ X (λo i v H Q=>(VB o i v H Q\/∃a H',o=.ref a/\uA H a i v H'/\Q H')\/∃(a b:aq)(ks:List Key),o=.ref a/\H a=aa (.dK [])/\i=.ref b/\H b=aa (.tup (ks.map kV))/\Q (upd H a (.dT [(ks,v)]))):=
 (set_list.or (set_dict hu)).or (ajd hu)
def wV:Option (Option Vl)->Bool
 |some (some _)=>ao
 |_=>aL
theorem alA(h:wV x=ao):∃y,x=aa (aa y):=by
 unfold wV at h;split at h
 .exact⟨_,rfl⟩
 .cases h
def Eu(i:Nat)(d dk:aC)(e:En)(C:Ce):Option Vl->Option (Fl×En×Ce)
 |some (.ow (.list ds))=>(intD dk).bind λz=>(qb ds.length z).bind λj=>aa (.nx,e.set i (aa (.ow (.list (ds.set j d)))),C)
 |some (.ow (.dict kvs))=>(putD kvs dk d).bind λkvs'=>bif decide (kvs.length<gM) then aa (.nx,e.set i (aa (.ow (.dict kvs'))),C) else aj
 |some (.ce n)=>(intD dk).bind λz=>(intD d).bind λy=>(C[n]?).bind λns=>(qb ns.length z).bind λj=>aa (.nx,e,C.set n (ns.set j y))
 |_=>aj
def vN(i:Nat)(fk:FB)(fe:FE):FS:=λenv C=>(fe env C).bind λp=>(uF (still p.1)).bind λd=>(fk p.2.1 p.2.2).bind λk=>bif wV p.2.1[i]? then(k.2.1[i]?).bind (Eu i d k.1 k.2.1 k.2.2) else aj
def Hq(o i v:V)(H:Hp)(Q:Hp->Prop):Prop:=(VB o i v H Q\/∃a H',o=.ref a/\uA H a i v H'/\Q H')\/∃(a b:aq)(ks:List Key),o=.ref a/\H a=aa (.dK [])/\i=.ref b/\H b=aa (.tup (ks.map kV))/\Q (upd H a (.dT [(ks,v)]))
section
variable{K:aQ}{Z Θ:List aq}{e2:En}{C2:Ce}{σ:St}{H2:Hp}{i:Nat}{d dk:aC}{v w:V}{a:aq}{R:Hp->Prop}{p:Fl×En×Ce}
theorem akf(S2:Sm K Z Θ e2 C2 σ H2)(eu:σ[i]?=aa (aa (.ref a)))(hi:e2[i]?=aa (aa (.ow (.list ds))))(rt:mO (er (bG Z Θ e2 σ) H2) H2 a (.list ds))(r2:RZ (er (bG Z Θ e2 σ) H2) d v)(b2:gK Z Θ e2 σ H2 dk w)(hf:Eu i d dk e2 C2 (aa (.ow (.list ds)))=aa p):
  p.1=.nx/\((∀Hx,fX K Z Θ e2 σ H2 Θ p.2.1 p.2.2 σ Hx->R Hx)->Hq (.ref a) w v H2 R):=by
 obtain⟨z,hz,hf⟩:=jZ hf
 obtain⟨j,hj,hf⟩:=jZ hf
 cases hf;have hz:=Lw hz;subst hz
 obtain⟨vs,ha,r3⟩:=rt
 have b2:w=.int z:=b2;subst b2
 exact⟨rfl,λq=>.inl (.inl ⟨a,vs,z,j,rfl,rfl,ha,by rw[jA r3];exact hj,q _ (S2.write hi eu ⟨_,fG,acu r2 j r3⟩)⟩)⟩
theorem acE(kvs:List (aC×aC)):pW sI WX dk d kvs≠[]:=λz=>by
 unfold pW at z;split at z
 .rename_i hz;cases kvs with
  |nil=>cases hz
  |cons _ _=>cases z
 .cases kvs<;>cases z
theorem akg{kvs:List (aC×aC)}(S2:Sm K Z Θ e2 C2 σ H2)(eu:σ[i]?=aa (aa (.ref a)))(hi:e2[i]?=aa (aa (.ow (.dict kvs))))(rt:mO (er (bG Z Θ e2 σ) H2) H2 a (.dict kvs))(r2:RZ (er (bG Z Θ e2 σ) H2) d v)(b2:gK Z Θ e2 σ H2 dk w)(hf:Eu i d dk e2 C2 (aa (.ow (.dict kvs)))=aa p):
  p.1=.nx/\((∀Hx,fX K Z Θ e2 σ H2 Θ p.2.1 p.2.2 σ Hx->R Hx)->Hq (.ref a) w v H2 R):=by
 refine hide λGG gg=>?_
 obtain⟨kvs',hp,hf⟩:=jZ hf
 cases hl:decide (kvs.length<gM) with
 |false=>rw[hl] at hf;cases hf
 |true=>
 rw[hl] at hf;cases hf;have hl:=of_decide_eq_true hl;have hl':∀{κ:Type}(ks:List κ)(vs:List V),ks.length=kvs.length->(ks.zip vs).length<cH:=λks vs e=>by
  rw[Ju,jq,e];unfold gM at hl;lia
 obtain⟨vs,da,r3⟩:=rt
 unfold putD at hp;split at hp
 .rename_i k hk;split at hp
  case isFalse=>cases hp
  rename_i hs';cases hp;have wk:w=kV k:=by
   cases dk<;>first|(cases hk;exact b2)|cases hk
  rcases da with⟨ks,g1,ha⟩|⟨ks,⟨ne,g2⟩,ha⟩
  .obtain⟨ks',vs',g3,g4,g5⟩:=Lz hk r2 g1 r3
   subst wk;exact gg ⟨rfl,λq=>.inl (.inr ⟨a,_,rfl,uA.k (k:=k) (v:=v) ha (hl' ks vs (wF g1)),q _ (S2.write hi eu ⟨vs',.inl ⟨ks',g3,by rw[g5];exact fG⟩,g4⟩)⟩)⟩
  .obtain⟨ao5,g1⟩:=zx.mp hs'
   exact absurd (yo g1 g2) ne
 .split at hp
  case h_2=>cases hp
  rename_i WX hks;split at hp
  case isFalse=>cases hp
  rename_i hs';cases hp
  obtain⟨b,hb,rfl⟩:∃b,H2 b=aa (.tup (WX.map kV))/\w=.ref b:=by
   cases dk<;>first|cases hks|skip
   obtain⟨b,ws,rfl,hb,rr⟩:=b2.tup
   rw[CW hks rr] at hb
   exact⟨b,hb,rfl⟩
  rcases da with⟨ks,g1,ha⟩|⟨ks,⟨ne,g1⟩,ha⟩
  .obtain⟨ao5,g2⟩:=zx.mp hs'
   have e0:=yo g1 g2;subst e0;cases g1;have e0:vs=[]:=r3;subst e0
   obtain⟨ks',vs',g3,g4,g5⟩:=Lz (kvs:=[]) (vs:=[]) (ks:=[]) hks r2 rfl rfl
   exact gg ⟨rfl,λq=>.inr ⟨a,b,WX,rfl,ha,rfl,hb,q _ (S2.write hi eu ⟨vs',.inr ⟨ks',⟨acE [],g3⟩,by rw[g5];exact fG⟩,g4⟩)⟩⟩
  .obtain⟨ks',vs',g3,g4,g5⟩:=Lz hks r2 g1 r3
   exact gg ⟨rfl,λq=>.inl (.inr ⟨a,_,rfl,uA.t ha hb (hl' ks vs (wF g1)),q _ (S2.write hi eu ⟨vs',.inr ⟨ks',⟨acE kvs,g3⟩,by rw[g5];exact fG⟩,g4⟩)⟩)⟩
theorem akh(S2:Sm K Z Θ e2 C2 σ H2)(hth:Θ[n]?=aa a)(r2:RZ (er (bG Z Θ e2 σ) H2) d v)(b2:gK Z Θ e2 σ H2 dk w)(hf:Eu i d dk e2 C2 (aa (.ce n))=aa p):
  p.1=.nx/\((∀Hx,fX K Z Θ e2 σ H2 Θ p.2.1 p.2.2 σ Hx->R Hx)->Hq (.ref a) w v H2 R):=by
 refine hide λGG gg=>?_
 obtain⟨z,hz,hf⟩:=jZ hf
 obtain⟨y,hy,hf⟩:=jZ hf
 obtain⟨ns,hns,hf⟩:=jZ hf
 obtain⟨j,hj,hf⟩:=jZ hf
 cases hf;have hz:=Lw hz;have hy:=Lw hy;subst hz hy;have b2:w=.int z:=b2;have ev:v=.int y:=r2;subst ev b2;have ha:=S2.cell.at_ n a ns hth hns;have am:a∈Θ:=qm hth;refine gg ⟨rfl,λq=>.inl (.inl ⟨a,_,z,j,rfl,rfl,ha,by rw[bz];exact hj,q _ ?_⟩)⟩;have kc:bu Θ H2 (upd H2 a (.lst ((ns.map V.int).set j (.int y)))):=⟨λb o hb nb=>by rw[di (λzz=>nb (by rw[zz];exact am))];exact hb,λb hb=>by
  by_cases zz:b=a
  .subst zz;rw[fG];exact xT _
  .rw[di zz];exact hb⟩
 refine fX.tM kc (Fz.refl _) (S2.go kc ⟨by rw[xU];exact S2.cell.len,λm b ms h5 h6=>?_⟩);rcases get_set h6 with⟨rfl,e6,_⟩|⟨nm,h6⟩
 .rw[hth] at h5;cases h5;cases e6;rw[fG,List.map_set]
 .rw[di]
  .exact S2.cell.at_ m b ms h5 h6
  .intro zz;subst zz
   obtain⟨l1,l1'⟩:=jW.mp h5
   obtain⟨l2,NQ⟩:=jW.mp hth
   rcases ago m n with hlt|heq|hgt
   .exact Jd.mp S2.fL.2.1 m n l1 l2 hlt (l1'.trans NQ.symm)
   .exact nm heq
   .exact Jd.mp S2.fL.2.1 n m l2 l1 hgt (NQ.trans l1'.symm)
theorem alB(S2:Sm K Z Θ e2 C2 σ H2)(eu:σ[i]?=aa (aa u))(hi:e2[i]?=aa s)(r2:RZ (er (bG Z Θ e2 σ) H2) d v)(b2:gK Z Θ e2 σ H2 dk w)(hf:Eu i d dk e2 C2 s=aa p):
  p.1=.nx/\((∀Hx,fX K Z Θ e2 σ H2 Θ p.2.1 p.2.2 σ Hx->R Hx)->Hq u w v H2 R):=by
 cases s with
 |none=>cases hf
 |some s=>
 obtain⟨u',eu',sl⟩:=S2.slot i _ hi
 rw[eu] at eu';cases eu';cases s with
 |im _=>cases hf
 |sc _=>cases hf
 |ce n=>
  obtain⟨a,rfl,hth⟩:=sl
  exact akh S2 hth r2 b2 hf
 |ow x=>
  obtain⟨a,rfl,rt⟩:=sl
  cases x<;>first|exact akf S2 eu hi rt r2 b2 hf|exact akg S2 eu hi rt r2 b2 hf|cases hf
end
theorem Mq(hu:X.A.units+1<jc)(ho:PE X o (rF i))(hk:PE X k (fW X.K fk))(he:PE X e (tE X.K fe))
  (ha:∀v,assign (.Subscript o k p) X.env v=(do
   let ov <-sr [v] (eval o X.env)
   let iv <-sr [v,ov] (eval k X.env)
   vd p
   sr [v,ov,iv] (setItem ov iv v)
   release [v,ov,iv] []):=by intro _;rfl)
  (hs:zP [.Subscript o k p] e pos.line X.env=pure aL:=by rfl)(hw:zQ [.Subscript o k p] e X.env=pure aj:=by rfl)(h1:(uW [.Subscript o k p] X.env).map (·.2)=[assign (.Subscript o k p) X.env]:=by rfl):
  PS X (.Assign [.Subscript o k p] e pos) (tS X.K (vN i fk fe)):=(UL he (amw (t:=Hq) ho hk (alz hu) ha) hs hw h1).weak λD σ H aW=>by
 obtain⟨Z,Θ,env,C,fl,env',C',S,hf,q⟩:=aW
 obtain⟨p,h1,hf⟩:=jZ hf
 obtain⟨d,hd,hf⟩:=jZ hf
 obtain⟨kp,h2,hf⟩:=jZ hf
 cases h3:wV p.2.1[i]? with
 |false=>rw[h3] at hf;cases hf
 |true=>
 rw[h3] at hf
 obtain⟨s,hi,hf⟩:=jZ hf
 obtain⟨y3,h3⟩:=alA h3
 refine⟨Z,Θ,env,C,p.1,p.2.1,p.2.2,S,h1,λv H1 k1 f1 R1=>?_⟩
 obtain⟨S1,r1⟩:=R1.sJ (G7 hd)
 obtain⟨u,eu,_⟩:=S1.slot i _ h3
 refine⟨u,eu,Z,Θ,p.2.1,p.2.2,kp.1,kp.2.1,kp.2.2,S1,h2,λw H2 k2 f2 S2 b2=>?_⟩
 obtain⟨e0,go⟩:=alB (R:=λHx=>D.nx σ Hx) S2 eu hi (r1.same (VF S1 k2 f2)) b2 hf
 have e0:fl=.nx:=e0;subst e0;exact go λHx st=>q Θ σ _ ((fX.tM (k1.trans k2) (f1.trans f2) S2).trans st)
end
def intsOf:List aC->Option (List Int)
 |[]=>aa []
 |.int i::r=>match intsOf r with
  |some t=>aa (i::t)
  |none=>aj
 |_=>aj
theorem Td:∀{ds:List aC}{ns:List Int}{vs:List V},intsOf ds=aa ns->cU E ds vs->vs=ns.map V.int
 |[],ns,vs,h,r=>by cases h;exact r
 |.int i::ds,ns,vs,h,r=>by
  unfold intsOf at h;split at h
  .rename_i t ht;cases h
   obtain⟨u,w,rfl,q,s⟩:=r
   rw[Td ht s];have:u=.int i:=q;rw[this];rfl
  .cases h
 |.none::_,_,_,h,_=>by cases h
 |.bool _::_,_,_,h,_=>by cases h
 |.str _::_,_,_,h,_=>by cases h
 |.list _::_,_,_,h,_=>by cases h
 |.tuple _::_,_,_,h,_=>by cases h
 |.dict _::_,_,_,h,_=>by cases h
def HN(i:Nat)(f:FE):FS:=λenv C=>match f env C with
 |some (.ow (.list ds),e1,C1)=>match intsOf ds with
  |some ns=>aa (.nx,e1.set i (aa (.ce C1.length)),C1++[ns])
  |none=>aj
 |_=>aj
section
variable{X:Cx}{pos:Pos}
theorem aki{K:aQ}{i:Nat}{f:FE}:∀D σ H,tS K (HN i f) D σ H->Ep (tE K f) (yF i) D σ H:=by
 rintro D σ H ⟨Z,Θ,env,C,fl,env',C',S,hf,q⟩;unfold HN at hf;split at hf
 .rename_i ds e1 C1 h1;split at hf
  .rename_i ns hns;cases hf
   refine⟨Z,Θ,env,C,_,e1,C1,S,h1,λv H1 k f R=>?_⟩
   obtain⟨a,rfl,hn,S1,vs,ha,r⟩:=R
   have ev:=Td hns r;subst ev;have fL:=S1.fL;have Io:=jL.mp fL.1;have cl:=S1.cell.len;have c':qG (Θ++[a]) (C1++[ns]) H1:=by
    refine⟨by rw[dM,dM,cl];rfl,λm b ms h5 h6=>?_⟩
    by_cases hm:m<Θ.length
    .rw[qP hm] at h5;rw[qP (by rw[cl];exact hm)] at h6;exact S1.cell.at_ m b ms h5 h6
    .rw[qO (by lia)] at h5;rw[qO (by lia)] at h6;rw[cl] at h6;cases hm0:m-Θ.length with
     |zero=>rw[hm0] at h5 h6;cases h5;cases h6;exact ha
     |succ j=>rw[hm0] at h5;simp at h5
   have o1:∀b∈cg (e1.set i (aa (.ce C1.length))) (σ.set i (aa (.ref a))),b∈cg e1 σ:=λb m=>by
    rcases yw m with m|⟨⟨_,z⟩,_⟩
    .exact m
    .cases z
   have S2:Sm K Z (Θ++[a]) e1 (C1++[ns]) σ H1:=by
    have mm:∀b,b∈bG Z (Θ++[a]) e1 σ↔b∈bG (a::Z) Θ e1 σ:=λb=>by
     rw[kE,kE,dR,j8,cM];constructor
     .rintro(h|(h|h)|h)
      .exact .inl (.inr h)
      .exact .inr (.inl h)
      .exact .inl (.inl h)
      .exact .inr (.inr h)
     .rintro((h|h)|h|h)
      .exact .inr (.inl (.inr h))
      .exact .inl h
      .exact .inr (.inl (.inl h))
      .exact .inr (.inr h)
    refine⟨S1.len,Bs Io.2 ?_ fL.2.2.1 (λb m=>?_) λb m=>?_,λb m=>S1.dom b (gh _ m),λj x e=>?_,c'⟩
    .rw[lO]
     exact⟨fL.2.1,jL.mpr ⟨by simp,pH⟩,λb m c m' e=>by
      rw[j8] at m';subst e m';exact fL.2.2.2 b dH m⟩
    .intro m';rcases dR.mp m' with m'|m'
     .exact fL.2.2.2 b (gh _ m) m'
     .rw[j8.mp m'] at m;exact Io.1 m
    .obtain⟨p1,p2⟩:=S1.pM m
     refine⟨λz=>p1 (gh _ z),λm'=>?_⟩
     rcases dR.mp m' with m'|m'
     .exact p2 m'
     .rw[j8.mp m'] at p1;exact p1 dH
    .obtain⟨v,e3,r3⟩:=S1.slot j x e
     rw[uq mm]
     refine⟨v,e3,?_⟩
     cases x with
     |im d=>exact r3
     |ow d=>exact r3
     |ce n=>
      obtain⟨b,e5,e6⟩:=r3
      exact⟨b,e5,by rw[qP (jW.mp e6).1];exact e6⟩
     |sc ns=>exact r3
   have S3:Sm K Z (Θ++[a]) (e1.set i (aa (.ce C1.length))) (C1++[ns]) (σ.set i (aa (.ref a))) H1:=
    S2.Bd (λ_ z=>nomatch z) ⟨a,rfl,by rw[cl,qO (cz _),Zo];rfl⟩
   exact q (Θ++[a]) _ H1 ⟨⟨[a],rfl,λb m=>by rw[j8.mp m];exact hn⟩,wL k,λb m=>.inl (f.own.subset (o1 b m)),S3⟩
  .cases hf
 .cases hf
theorem am8(hN:X.N.Nodup)(hi:X.N[i]?=aa x)(hx:Loc X.env.scope x)(he:PE X e (tE X.K f))(hs:uY e (aa (.Name x pos')) pos.line X.env=pure aL:=by rfl)(hf:X.fn x=ao\/X.env.scope.names.lookup x=aa .local:=by first|exact .inl rfl|exact .inr rfl|assumption):
  PS X (.Assign [.Name x pos'] e pos) (tS X.K (HN i f)):=(ac4 hN hi hx he hs hf).weak aki
def Nh(i:Nat)(f:FB):FS:=λenv C=>match env[i]? with
 |some (some (.im (.int x)))=>match f env C with
  |some (.int y,_,C1)=>aa (.nx,env.set i (aa (.im (.int (x+y)))),C1)
  |_=>aj
 |_=>aj
theorem am9(hN:X.N.Nodup)(hi:X.N[i]?=aa x)(hx:Loc X.env.scope x)(he:PE X e (fW X.K f))(hf:X.fn x=ao\/X.env.scope.names.lookup x=aa .local:=by first|exact .inl rfl|exact .inr rfl|assumption):
  PS X (.AugAssign (.Name x pos') .Add e pos) (tS X.K (Nh i f)):=(amy hN hi hx he amz hf).weak λD σ H aW=>by
 obtain⟨Z,Θ,env,C,fl,env',C',S,hf,q⟩:=aW
 unfold Nh at hf;split at hf
 .rename_i z h0;split at hf
  .rename_i y e1 C1 h1;cases hf
   obtain⟨v,ev,r⟩:=S.slot i _ h0
   refine⟨v,ev,Z,Θ,env,C,_,e1,C',S,h1,λw H1 k f S1 b1=>⟨z,y,r,b1,?_⟩⟩
   have S2:=S.go k S1.cell;refine q Θ _ H1 ⟨mD.refl _ _,wL k,λa m=>?_,S2.Bd (λ_ z=>nomatch z) (rfl:RZ _ (.int (z+y)) _)⟩;rcases yw m with m|⟨⟨_,z⟩,_⟩
   .exact .inl m
   .cases z
  .cases hf
 .cases hf
end
def lB(c:FT)(body:FS):Nat->FS
 |0=>λ_ _=>aj
 |n+1=>λenv C=>match c env C with
  |some (false,C1)=>aa (.nx,env,C1)
  |some (true,C1)=>match body env C1 with
   |some (.nx,e2,C2)=>lB c body n e2 C2
   |some (.ct,e2,C2)=>lB c body n e2 C2
   |some (.bk,e2,C2)=>aa (.nx,e2,C2)
   |some (.rt r,e2,C2)=>aa (.rt r,e2,C2)
   |none=>aj
  |none=>aj
def Eh:Nat:=100000
def uH(c:FT)(body:FS):FS:=lB c body Eh
theorem ail{K:aQ}{c:FT}{body:FS}{n:Nat}:∀D σ H,tS K (lB c body n) D σ H->ac5 (gF K c) (tS K body) D σ H:=by
 rintro D σ H ⟨Z,Θ,env,C,fl,env',C',S,hf,q⟩
 refine⟨λm σ1 H1=>∃Θ1 e1 C1,fX K Z Θ env σ H Θ1 e1 C1 σ1 H1/\lB c body m e1 C1=aa (fl,env',C'),⟨n,Θ,env,C,fX.same S,hf⟩,?_⟩
 rintro m σ1 H1 ⟨Θ1,e1,C1,p,hf⟩;cases m with
 |zero=>cases hf
 |succ m=>
  unfold lB at hf;split at hf
  .rename_i C2 h1;cases hf
   exact⟨Z,Θ1,env',C1,aL,C',p.sm,h1,λH2 k2 S2=>w6 (q Θ1 σ1 H2 (p.trans (fX.tM k2 (Fz.refl _) S2)))⟩
  .rename_i C2 h1
   refine⟨Z,Θ1,e1,C1,ao,C2,p.sm,h1,λH2 k2 S2=>xj ⟨λσ' H'=>∃Θ1 e1 C1,fX K Z Θ env σ H Θ1 e1 C1 σ' H'/\lB c body m e1 C1=aa (fl,env',C'),λσ' H' h=>⟨m,Yo m,h⟩,?_⟩⟩
   have p2:=p.trans (fX.tM k2 (Fz.refl _) S2);split at hf
   .rename_i e3 C3 h2
    exact⟨Z,Θ1,e1,C2,.nx,e3,C3,S2,h2,λΘ3 σ3 H3 p3=>⟨Θ3,e3,C3,p2.trans p3,hf⟩⟩
   .rename_i e3 C3 h2
    exact⟨Z,Θ1,e1,C2,.ct,e3,C3,S2,h2,λΘ3 σ3 H3 p3=>⟨Θ3,e3,C3,p2.trans p3,hf⟩⟩
   .rename_i e3 C3 h2;cases hf
    exact⟨Z,Θ1,e1,C2,.bk,env',C',S2,h2,λΘ3 σ3 H3 p3=>q Θ3 σ3 H3 (p2.trans p3)⟩
   .rename_i r e3 C3 h2;cases hf
    exact⟨Z,Θ1,e1,C2,.rt r,env',C',S2,h2,λΘ3 v H3 p3=>q Θ3 v H3 (p2.ret p3)⟩
   .cases hf
  .cases hf
theorem Gq(hp:Rv (model X.prog X.w) X.A X.env X.xe)(hc:PT X c (gF X.K t))(hb:j4 X body (tS X.K f)):PS X (.While c body [] pos) (tS X.K (uH t f)):=(ajI hp hc hb).weak ail
abbrev FI:=En->Ce->Option (List aC×En×Ce)
def yU(P T:List aq)(H:Hp)(J:It)(its:List aC):Prop:=∀(i:Nat)(H2:Hp)(P2:List aq),bW (er P H) (er P2 H2)->bW (er T H) (er T H2)->(∀a∈P2,H2 a≠aj)->
 (∀d,its[i]?=aa d->J.go i H2/\∀x H3,J.yW i H2 x H3->bW H2 H3/\RZ (er P2 H3) d x)/\(i=its.length->J.stop i H2)
inductive tI(K:aQ)(b:Bool)(f:FI)(σ:St)(H:Hp)(R:It->Hp->Prop):Prop
 |mk (Z Θ:List aq) (env:En) (C:Ce) (its:List aC) (env':En) (C':Ce) (S:Sm K Z Θ env C σ H) (hf:f env C=aa (its,env',C')) (q:∀J H',bu Θ H H'->Fz env env'->Sm K Z Θ env' C' σ H'->yU (bG Z Θ env' σ) (if b then Θ else bG Z Θ env' σ) H' J its->R J H'):tI K b f σ H R
theorem PI.weak(h:PI X tg e t)(w:∀σ H Q,t' σ H Q->t σ H Q):PI X tg e t':=λpins s σ H Q I q=>h pins s σ H Q I (w σ H Q q)
theorem PI.or(h:PI X tg e t)(h':PI X tg e t'):PI X tg e (λσ H R=>t σ H R\/t' σ H R):=λpins s σ H R I q=>q.elim (h pins s σ H R I) (h' pins s σ H R I)
section
variable{K:aQ}{P T:List aq}{H:Hp}{a:aq}{ds:List aC}{vs:List V}
theorem LC(ha:er T H a=aa (.lst vs))(r:cU (er P H) ds vs):yU P T H (Wo K a) ds:=λi H2 P2 s1 s2 n=>by
 have h2:bU K H2 a vs:=bU.of (jr (s2 _ _ ha))
 refine⟨λd hd=>?_,λhi=>⟨vs,h2,by rw[jA r,hi];exact cz _⟩⟩
 obtain⟨v,ev,rv⟩:=wN r hd
 refine⟨⟨vs,v,h2,ev⟩,λx H3 y=>?_⟩
 obtain⟨rfl,y⟩:=y
 have:=y vs h2;rw[ev] at this;cases this
 exact⟨bW.refl _,rv.same s1⟩
theorem Mr(ha:er P H a=aa (.tup vs))(r:cU (er P H) ds vs):yU P T H (Wq K a) ds:=λi H2 P2 s1 s2 n=>by
 have h2:dD K H2 a vs:=dD.of (jr (s1 _ _ ha))
 refine⟨λd hd=>?_,λhi=>⟨vs,h2,by rw[jA r,hi];exact cz _⟩⟩
 obtain⟨v,ev,rv⟩:=wN r hd
 refine⟨⟨vs,v,h2,ev⟩,λx H3 y=>?_⟩
 obtain⟨rfl,y⟩:=y
 have:=y vs h2;rw[ev] at this;cases this
 exact⟨bW.refl _,rv.same s1⟩
def chars(z:Str):List aC:=z.cps.toList.map λc=>.str ⟨#[c]⟩
theorem adp(z:Str):yU P T H (WD z) (chars z):=λi H2 P2 s1 s2 n=>by
 refine⟨λd hd=>?_,λhi=>?_⟩
 .unfold chars at hd;rw[iG] at hd;cases hc:z.cps.toList[i]? with
  |none=>rw[hc] at hd;cases hd
  |some c=>
   rw[hc] at hd;cases hd;have hc':z.cps[i]?=aa c:=by rw[<-Fj];exact hc
   have hlt:i<z.cps.size:=by
    obtain⟨h,_⟩:=Array.getElem?_eq_some_iff.mp hc'
    exact h
   refine⟨hlt,λx H3 y=>?_⟩
   obtain⟨rfl,c',ec,rfl⟩:=y
   rw[hc'] at ec;cases ec
   exact⟨bW.refl _,rfl⟩
 .show z.cps.size<=i;rw[hi];unfold chars;rw[bz,nD];exact cz _
def jG(lo:Int)(n:Nat):List aC:=(fj n).map λ(k:Nat)=>.int (lo+(k:Int))
theorem abu(lo:Int)(n:Nat):yU P T H (Ie lo n) (jG lo n):=λi H2 P2 s1 s2 nn=>by
 refine⟨λd hd=>?_,λhi=>?_⟩
 .unfold jG at hd;rw[iG] at hd;by_cases hlt:i<n
  .rw[XR hlt] at hd;cases hd
   refine⟨hlt,λx H3 y=>?_⟩
   obtain⟨rfl,rfl⟩:=y
   exact⟨bW.refl _,rfl⟩
  .rw[Je (by rw[mU];lia)] at hd;cases hd
 .show n<=i;rw[hi];unfold jG;rw[bz,mU];exact cz _
end
def WY:aC->Option (List aC)
 |.list ds=>aa ds
 |.tuple ds=>aa ds
 |.str z=>aa (chars z)
 |_=>aj
def iB(f:FB):FI:=λenv C=>match f env C with
 |some (d,e1,C1)=>match WY d with
  |some its=>aa (its,e1,C1)
  |none=>aj
 |none=>aj
def iV(f:FE):FI:=λenv C=>match f env C with
 |some (r,e1,C1)=>match still r with
  |.im d=>match WY d with
   |some its=>aa (its,e1,C1)
   |none=>aj
  |_=>aj
 |none=>aj
def jH(f:FB):FI:=λenv C=>match f env C with
 |some (.int j,_,C1)=>if -(2^62)<=j/\j<2^62 then aa (jG 0 j.toNat,env,C1) else aj
 |_=>aj
section
variable{X:Cx}{tg e:Expr}
theorem HQ(h:PE X e (fW X.K f))(hgo:∀i u,zK tg i u=pure ():=by intro _ _;rfl):PI X tg e (tI X.K ao (iB f)):=(((Lj h).or (Mh h)).or (ada h hgo)).weak λσ H R aW=>by
 obtain⟨Z,Θ,env,C,its,env',C',S,hf,q⟩:=aW
 unfold iB at hf;split at hf
 .rename_i d e1 C1 h1;split at hf
  .rename_i ys hi;cases hf;cases d<;>first|cases hi|skip
   .refine .inr ⟨Z,Θ,env,C,_,env',C',S,h1,λv H1 k f S1 b=>⟨_,b,q _ H1 k f S1 (adp _)⟩⟩
   .refine .inl (.inl ⟨Z,Θ,env,C,_,env',C',S,h1,λv H1 k f S1 b=>?_⟩)
    obtain⟨a,vs,rfl,ha,r⟩:=b
    exact⟨a,rfl,⟨vs,bU.of (jr ha)⟩,q _ H1 k f S1 (LC ha r)⟩
   .refine .inl (.inr ⟨Z,Θ,env,C,_,env',C',S,h1,λv H1 k f S1 b=>?_⟩)
    obtain⟨a,vs,rfl,ha,r⟩:=b
    exact⟨a,rfl,⟨vs,dD.of (jr ha)⟩,q _ H1 k f S1 (Mr ha r)⟩
  .cases hf
 .cases hf
theorem Ew(h:PE X e (tE X.K f))(hgo:∀i u,zK tg i u=pure ():=by intro _ _;rfl):PI X tg e (tI X.K aL (iV f)):=(((Lj h).or (Mh h)).or (ada h hgo)).weak λσ H R aW=>by
 obtain⟨Z,Θ,env,C,its,env',C',S,hf,q⟩:=aW
 unfold iV at hf;split at hf
 .rename_i r e1 C1 h1;split at hf
  .rename_i d hd;split at hf
   .rename_i ys hi;cases hf;cases d<;>first|cases hi|skip
    .refine .inr ⟨Z,Θ,env,C,_,env',C',S,h1,λv H1 k f R=>?_⟩
     obtain⟨S1,b⟩:=R.sJ hd
     exact⟨_,b,q _ H1 k f S1 (adp _)⟩
    .refine .inl (.inl ⟨Z,Θ,env,C,_,env',C',S,h1,λv H1 k f R=>?_⟩)
     obtain⟨S1,a,vs,rfl,ha,r⟩:=R.sJ hd
     exact⟨a,rfl,⟨vs,bU.of (jr ha)⟩,q _ H1 k f S1 (LC ha r)⟩
    .refine .inl (.inr ⟨Z,Θ,env,C,_,env',C',S,h1,λv H1 k f R=>?_⟩)
     obtain⟨S1,a,vs,rfl,ha,r⟩:=R.sJ hd
     exact⟨a,rfl,⟨vs,dD.of (jr ha)⟩,q _ H1 k f S1 (Mr ha r)⟩
   .cases hf
  .cases hf
 .cases hf
theorem u6(hg:Gl X "range")(hm:X.mg "range"=aj)(ha:PE X a (fW X.K f))(hs:bO [a] X.env=(aL,eval a X.env)::bO [] X.env:=by rfl)(hs':bO [a] X.env=[(aL,eval a X.env)]:=by rfl):PI X tg (.Call (.Name "range" p) [a] [] pos) (tI X.K b (jH f)):=
 (aiI hg hm (dG ha fO hs) hs').weak λσ H R aW=>by
  obtain⟨Z,Θ,env,C,its,env',C',S,hf,q⟩:=aW
  unfold jH at hf;split at hf
  .rename_i j e1 C1 h1;split at hf
   .rename_i hj;cases hf
    refine⟨Z,Θ,env,C,[.int j],e1,C',S,by unfold cZ eN;rw[h1],λvs H1 k f S1 b1=>?_⟩
    cases b1 with
    |cons b1 b2=>
     cases b2
     exact⟨j,by rw[show _=V.int j from b1],hj.1,hj.2,q _ H1 k (Fz.refl _) (S.go k S1.cell) (abu 0 j.toNat)⟩
   .cases hf
  .cases hf
end
def kO(g:FG)(body:FS):List aC->FS
 |[]=>λenv C=>aa (.nx,env,C)
 |d::r=>λenv C=>match g d env with
  |some e1=>match body e1 C with
   |some (.nx,e2,C2)=>kO g body r e2 C2
   |some (.ct,e2,C2)=>kO g body r e2 C2
   |some (.bk,e2,C2)=>aa (.nx,e2,C2)
   |some (.rt v,e2,C2)=>aa (.rt v,e2,C2)
   |none=>aj
  |none=>aj
def iJ(fi:FI)(g:FG)(body:FS):FS:=λenv C=>match fi env C with
 |some (its,e1,C1)=>kO g body its e1 C1
 |none=>aj
theorem fX.er{K:aQ}{Z Θ Θ1:List aq}{env e1:En}{C1:Ce}{σ σ1:St}{H H1:Hp}(p:fX K Z Θ env σ H Θ1 e1 C1 σ1 H1):bW (er (bG Z Θ env σ) H) (er (bG Z Θ1 e1 σ1) H1):=λb o h=>by
 unfold L2.er at h⊢;split at h
 .cases h
 .rename_i n;have hb:H b≠aj:=by rw[h];exact xT _
  rw[bJ]
  .refine p.kp.keep b o h λm=>n ?_
   rcases dR.mp m with m|m
   .exact kE.mpr (.inr (.inl m))
   .exact kE.mpr (.inr (.inr m))
  .intro m;rcases kE.mp m with m|m|m
   .exact n (kE.mpr (.inl m))
   .obtain⟨Δ,e,hn⟩:=p.th.ex
    rw[e] at m;rcases dR.mp m with m|m
    .exact n (kE.mpr (.inr (.inl m)))
    .exact hb (hn b m)
   .rcases p.own b m with m|m
    .exact n (kE.mpr (.inr (.inr m)))
    .exact hb m
theorem alC(s:bW (er P H) (er P2 H2)):bW (er P H) (er P H2):=λb o h=>by
 have h2:=jr (s b o h);unfold er at h⊢;split at h
 .cases h
 .rename_i n;rw[bJ n];exact h2
theorem akj{K:aQ}{fi:FI}{g:TG}{fg:FG}{body:FS}(L:Fd K g fg):∀D σ H,tS K (iJ fi fg body) D σ H->aeb (tI K aL fi) g (tS K body) D σ H:=by
 rintro D σ H ⟨Z,Θ,env,C,fl,env',C',S,hf,q⟩;unfold iJ at hf;split at hf
 .rename_i its e1 C1 h1
  refine⟨Z,Θ,env,C,its,e1,C1,S,h1,λJ H1 k1 f1 S1 it=>?_⟩
  have p1:=fX.tM k1 f1 S1
  refine⟨λi m σ2 H2=>m=its.length-i/\i<=its.length/\∃Θ2 e2 C2,fX K Z Θ e1 σ H1 Θ2 e2 C2 σ2 H2/\kO fg body (its.drop i) e2 C2=aa (fl,env',C'),⟨its.length,rfl,nH _,Θ,e1,C1,fX.same S1,hf⟩,?_⟩
  rintro i m σ2 H2 ⟨rfl,hi,Θ2,e2,C2,p2,hl⟩
  obtain⟨W0,W2⟩:=it i H2 (bG Z Θ2 e2 σ2) p2.er (alC p2.er) p2.sm.Ba
  cases hd:its[i]? with
  |none=>
   have hi2:i=its.length:=by
    have:=Xo.mp hd;lia
   rw[hi2,agE] at hl;cases hl;exact .inl ⟨W2 hi2,q Θ2 σ2 H2 (p1.trans p2)⟩
  |some d=>
   have hlt:i<its.length:=(jW.mp hd).1;have ed:its.drop i=d::its.drop (i+1):=by
    rw[Xp hlt]
    obtain⟨_,e⟩:=jW.mp hd
    rw[e]
   rw[ed] at hl;unfold kO at hl
   obtain⟨go,yl⟩:=W0 d hd
   refine .inr ⟨go,λσ' H'=>∃Θ2 e2 C2,fX K Z Θ e1 σ H1 Θ2 e2 C2 σ' H'/\kO fg body (its.drop (i+1)) e2 C2=aa (fl,env',C'),λσ' H' h=>⟨its.length-(i+1),by lia,rfl,hlt,h⟩,λx H3 y=>?_⟩
   obtain⟨s3,r3⟩:=yl x H3 y
   have S3:=p2.sm.Ao s3;have p3:=p2.trans (fX.tM (bu.of s3) (Fz.refl _) S3);split at hl
   .rename_i e4 h4;refine L Z Θ2 e2 C2 σ2 H3 x d e4 S3 r3 h4 _ λσ4 S4 o4=>?_
    have p4:fX K Z Θ e1 σ H1 Θ2 e4 C2 σ4 H3:=p3.trans ⟨mD.refl _ _,bu.refl _ _,λa m=>.inl (o4 a m),S4⟩;split at hl
    .rename_i e5 C5 h5
     exact⟨Z,Θ2,e4,C2,.nx,e5,C5,S4,h5,λΘ5 σ5 H5 p5=>⟨Θ5,e5,C5,p4.trans p5,hl⟩⟩
    .rename_i e5 C5 h5
     exact⟨Z,Θ2,e4,C2,.ct,e5,C5,S4,h5,λΘ5 σ5 H5 p5=>⟨Θ5,e5,C5,p4.trans p5,hl⟩⟩
    .rename_i e5 C5 h5;cases hl
     exact⟨Z,Θ2,e4,C2,.bk,env',C',S4,h5,λΘ5 σ5 H5 p5=>q Θ5 σ5 H5 (p1.trans (p4.trans p5))⟩
    .rename_i r e5 C5 h5;cases hl
     exact⟨Z,Θ2,e4,C2,.rt r,env',C',S4,h5,λΘ5 v H5 p5=>q Θ5 v H5 (p1.ret (p4.ret p5))⟩
    .cases hl
   .cases hl
 .cases hf
theorem qH(hp:Rv (model X.prog X.w) X.A X.env X.xe)(hc:X.calm=ao)(hi:PI X tg iter (tI X.K aL fi))(hg:PG X tg g)(L:Fd X.K g fg)(hb:j4 X body (tS X.K f))
  (hs:∀x,vY iter X.env x=pure x:=by intro _;rfl):PS X (.For tg iter body [] pos) (tS X.K (iJ fi fg f)):=(amA hp hc hi hg hb hs).weak (akj L)
def zp:iT->aC->Option (List aC)
 |.one,d=>aa [d]
 |.many n,.tuple ds=>if ds.length=n then aa ds else aj
 |_,_=>aj
def frB(js:List Nat)(env:En):En:=js.map λj=>((env[j]?).join).map still
def fM(ds:List aC):En:=ds.map λd=>aa (.im d)
def oG(T:iT)(ft:FT)(fe:FE)(fs:En):List aC->Ce->Option (List aC×Ce)
 |[],C=>aa ([],C)
 |d::r,C=>match zp T d with
  |some ts=>match ft (fM ts++fs) C with
   |some (false,C1)=>oG T ft fe fs r C1
   |some (true,C1)=>match fe (fM ts++fs) C1 with
    |some (x,_,C2)=>match still x with
     |.im y=>match oG T ft fe fs r C2 with
      |some (ys,C3)=>aa (y::ys,C3)
      |none=>aj
     |_=>aj
    |none=>aj
   |none=>aj
  |none=>aj
def iU(js:List Nat)(env:En):En:=env.mapIdx λi x=>if i∈js then x.map still else x
def j5(fi:FI)(T:iT)(ft:FT)(fe:FE)(js:List Nat):FE:=λenv C=>match fi env C with
 |some (its,e1,C1)=>match oG T ft fe (frB js e1) its C1 with
  |some (ys,C2)=>if ys.length<=gM then aa (.ow (.list ys),if iR ys then e1 else iU js e1,C2) else aj
  |none=>aj
 |none=>aj
theorem adW:∀{a b:En},a.length=b.length->(∀(i:Nat)(x y:Option Vl),a[i]?=aa x->b[i]?=aa y->WN x y)->Fz a b
 |[],[],_,_=>trivial
 |x::r,y::t,hl,h=>⟨h 0 x y rfl rfl,adW (by simpa using hl) λi u v h1 h2=>h (i+1) u v (by simpa using h1) (by simpa using h2)⟩
 |[],_::_,hl,_=>by cases hl
 |_::_,[],hl,_=>by cases hl
theorem DR(js:List Nat)(env:En):Fz env (iU js env):=adW (by unfold iU;rw[List.length_mapIdx]) λi x y h1 h2=>by
 unfold iU at h2;rw[afQ,h1] at h2;have h2:(if i∈js then Kd still x else x)=y:=gH h2;rw[<-h2];split
 .cases x with
  |none=>exact .inl rfl
  |some x=>
   cases x with
   |ow d=>exact .inr ⟨d,rfl,rfl⟩
   |im d=>exact .inl rfl
   |ce n=>exact .inl rfl
   |sc ns=>exact .inl rfl
 .exact .inl rfl
theorem adq{js:List Nat}{env:En}{k:Nat}{x:Vl}(h:(frB js env)[k]?=aa (aa x)):∃j:Nat,js[k]?=aa j/\(iU js env)[j]?=aa (aa x)/\∀d,x≠.ow d:=by
 unfold frB at h;rw[iG] at h;cases hj:js[k]? with
 |none=>rw[hj] at h;cases h
 |some j=>
  rw[hj] at h;have h':((env[j]?).join).map still=aa x:=gH h
  refine⟨j,rfl,?_,?_⟩
  .unfold iU;rw[afQ];cases hv:env[j]? with
   |none=>rw[hv] at h';cases h'
   |some y=>
    rw[hv] at h';show aa (if j∈js then Kd still y else y)=_;rw[bC (qm hj)];exact congrArg aa h'
  .cases hv:(env[j]?).join with
   |none=>rw[hv] at h';cases h'
   |some y=>
    rw[hv] at h';have e:still y=x:=gH h';rw[<-e];intro d z;cases y<;>cases z
theorem DW:∀{env:En}{σ:St},(∀(i:Nat)(d:aC),env[i]?≠aa (aa (.ow d)))->cg env σ=[]
 |[],σ,_=>by cases σ<;>rfl
 |_::_,[],_=>rfl
 |x::e,v::s,h=>by
  rw[cg,DW (env:=e) (σ:=s) λi d z=>h (i+1) d (by simpa using z)];have h0:=h 0;simp at h0;unfold own1;split
  .rename_i d a;exact absurd rfl (h0 d)
  .rfl
section
variable{K:aQ}{Z Θ:List aq}{env:En}{C C2:Ce}{σ:St}{H H2:Hp}{D:aq}
abbrev mQ(D:aq)(Z:List aq)(env:En)(σ:St):List aq:=D::(Z++cg env σ)
theorem qD{js:List Nat}{a:aq}{eB:En}{sB:St}(h:cg eB sB=[]):a∈bG (mQ D Z env σ) Θ eB sB↔a=D\/a∈bG Z Θ env σ:=by
 rw[kE,kE,h,cM,dR];constructor
 .rintro((h|h|h)|h|h)
  .exact .inl h
  .exact .inr (.inl h)
  .exact .inr (.inr (.inr h))
  .exact .inr (.inr (.inl h))
  .nomatch h
 .rintro(h|h|h|h)
  .exact .inl (.inl h)
  .exact .inl (.inr (.inl h))
  .exact .inr (.inl h)
  .exact .inl (.inr (.inr h))
theorem Ms{js:List Nat}{ts:List aC}:∀(i:Nat)(d:aC),(fM ts++frB js env)[i]?≠aa (aa (.ow d)):=λi d z=>by
 by_cases hi:i<(fM ts).length
 .rw[qP hi] at z;unfold fM at z;rw[iG] at z;cases h:ts[i]? with
  |none=>rw[h] at z;cases z
  |some t=>rw[h] at z;cases z
 .rw[qO (by lia)] at z
  obtain⟨j,_,_,h⟩:=adq z
  exact h d rfl
theorem Sm.blk{js:List Nat}{ts:List aC}{vs:List V}(S:Sm K Z Θ (iU js env) C σ H)(hD:H D=pI)(k:bu Θ H H2)(nt:NT (H2 D))(c:qG Θ C2 H2)(r:cU (er (bG (mQ D Z (iU js env) σ) Θ [] []) H2) ts vs):
  Sm K (mQ D Z (iU js env) σ) Θ (fM ts++frB js env) C2 (vs.map aa++frees js σ) H2:=by
 have no:=DW (env:=fM ts++frB js env) (σ:=vs.map aa++frees js σ) Ms;have fL:=S.fL;have lv:=jA r;have NZ:(fM ts).length=ts.length:=by unfold fM;rw[bz]
 have ee:er (bG (mQ D Z (iU js env) σ) Θ (fM ts++frB js env) (vs.map aa++frees js σ)) H2=er (bG (mQ D Z (iU js env) σ) Θ [] []) H2:=uq λa=>by rw[qD (js:=js) no,qD (js:=js) rfl]
 have sm:bW (er (bG Z Θ (iU js env) σ) H) (er (bG (mQ D Z (iU js env) σ) Θ [] []) H2):=m9 k S.tL λb m=>by
  rcases(qD (js:=js) rfl).mp m with rfl|m
  .exact .inr hD
  .exact .inl m
 refine⟨?_,?_,λb m=>?_,λi x e=>?_,c⟩
 .rw[dM,dM,bz,lv,NZ];unfold frees frB;rw[bz,bz]
 .show(mQ D Z (iU js env) σ++(Θ++cg (fM ts++frB js env) (vs.map aa++frees js σ))).Nodup
  rw[no];refine Bs (jL.mpr ⟨λm=>?_,?_⟩) fL.2.1 pH (λb m m'=>?_) (λ_ m=>nomatch m)
  .rcases dR.mp m with m|m
   .exact(S.dom D m).ne hD
   .exact S.Ba D (kE.mpr (.inr (.inr m))) hD
  .rw[lO]
   exact⟨fL.1,fL.2.2.1,λb m c' m' e=>by subst e;exact(S.pM m').1 m⟩
  .rcases cM.mp m with rfl|m
   .exact S.Ba b (kE.mpr (.inr (.inl m'))) hD
   .rcases dR.mp m with m|m
    .exact fL.2.2.2 b m m'
    .exact(S.pM m).2 m'
 .rcases cM.mp m with rfl|m
  .exact nt
  .have:NT (H b)/\b∉Θ:=by
    rcases dR.mp m with m|m
    .exact⟨S.dom b m,fL.2.2.2 b m⟩
    .exact⟨S.NK b (kE.mpr (.inr (.inr m))),(S.pM m).2⟩
   obtain⟨⟨u,e,n⟩,nb⟩:=this
   exact⟨u,k.keep _ _ e nb,n⟩
 .rw[ee];by_cases hi:i<ts.length
  .rw[qP (by rw[NZ];exact hi)] at e;unfold fM at e;rw[iG] at e;cases ht:ts[i]? with
   |none=>rw[ht] at e;cases e
   |some t=>
    rw[ht] at e;cases e
    obtain⟨v,ev,rv⟩:=wN r ht
    exact⟨v,by rw[qP (by rw[bz,lv];exact hi),iG,ev];rfl,rv⟩
  .rw[qO (by rw[NZ];lia),NZ] at e
   obtain⟨j,hj,hx,nx⟩:=adq e
   obtain⟨v,ev,rv⟩:=S.slot j x hx
   refine⟨v,?_,rv.same sm λd _ z=>absurd z (nx d)⟩
   rw[qO (by rw[bz,lv];lia),bz,lv];unfold frees;rw[iG,hj];show aa ((σ[j]?).join)=_;rw[ev];rfl
end
def gC:FT:=λ_ C=>aa (ao,C)
theorem su{X:Cx}:pC X [] (gF X.K gC):=λpins s σ H Q I aW=>by
 obtain⟨Z,Θ,env,C,b,C',S,hf,q⟩:=aW
 cases hf;exact ald pins s σ H Q I (q H (bu.refl _ _) S)
theorem GD{X:Cx}{c:Expr}{f:FT}(h:PT X c (gF X.K f)):pC X [c] (gF X.K f):=ale h
theorem an9{K:aQ}{T:iT}{E H:Hp}{d:aC}{x:V}{ts:List aC}(h:zp T d=aa ts)(r:RZ E d x)(s:bW E H):∃vs,yZ K T x H vs/\cU E ts vs:=by
 cases T with
 |one=>cases h;exact⟨[x],rfl,x,[],rfl,r,rfl⟩
 |many n=>
  cases d<;>first|cases h|skip
  rename_i ds;have h:(if ds.length=n then aa ds else aj)=aa ts:=h;split at h
  .rename_i hl;cases h
   obtain⟨a,vs,rfl,ha,r⟩:=r
   exact⟨vs,⟨a,rfl,dD.of (s _ _ ha),(jA r).trans hl⟩,r⟩
  .cases h
def vH{α:Type}(T:iT)(ft:FT)(st:En->α->Ce->Option (α×Ce))(fs:En):List aC->α->Ce->Option (α×Ce)
 |[],a,C=>aa (a,C)
 |d::r,a,C=>(zp T d).bind λts=>(ft (fM ts++fs) C).bind λp=>bif p.1 then(st (fM ts++fs) a p.2).bind λq=>vH T ft st fs r q.1 q.2 else vH T ft st fs r a p.2
inductive aew{α:Type}(Θ:List aq)(H1:Hp)(n:Nat)(Ob:α->Hp->Prop)(run:Nat->α->Ce->Prop)(i m:Nat)(H2:Hp):Prop
 |mk (a:α) (Ci:Ce) (hm:m=n-i) (hi:i<=n) (ki:bu Θ H1 H2) (ci:qG Θ Ci H2) (ob:Ob a H2) (hc:run i a Ci):aew Θ H1 n Ob run i m H2
section
variable{K:aQ}{α:Type}{T:iT}{ft:FT}{st:En->α->Ce->Option (α×Ce)}{js:List Nat}{Z Θ:List aq}{e1:En}{C1 C':Ce}{σ:St}{H1:Hp}{J:It}{its:List aC}{D:aq}{o0:HO}{a0 aE:α}
theorem Vb{Hx Hy:Hp}{u:HO}(hD:H1 D=pI)(kk:bu Θ H1 Hx):bu Θ H1 (upd Hx D u):=by
 refine⟨λa o ha na=>?_,λa ha=>?_⟩
 .rw[di (qW ha hD)];exact kk.keep _ _ ha na
 .by_cases z:a=D
  .subst z;rw[fG];exact xT _
  .rw[di z];exact kk.dom a ha
theorem K8{Hx:Hp}{u:HO}(hD:D∉Θ)(c:qG Θ C1 Hx):qG Θ C1 (upd Hx D u):=by
 refine⟨c.len,λn b ns e2 e3=>?_⟩
 rw[di]
 .exact c.at_ n b ns e2 e3
 .intro z;subst z;exact hD (qm e2)
theorem Te{em:TM}{Ob:α->Hp->Prop}{done:Hp->Prop}(S1:Sm K Z Θ e1 C1 σ H1)(it:yU (bG Z Θ e1 σ) Θ H1 J its)(hD:H1 D=pI)(ob0:Ob a0 (upd H1 D o0))(Fe:∀a Hx Hy,bu Θ Hx Hy->Ob a Hx->Ob a Hy)(obn:∀a Hx,Ob a Hx->NT (Hx D))
  (hem:∀(ts:List aC)(a:α)(C2:Ce)(p:α×Ce)(vs:List V)(H4:Hp)(Q:Hp->Prop),st (fM ts++frB js e1) a C2=aa p->Sm K (mQ D Z (iU js e1) σ) Θ (fM ts++frB js e1) C2 (vs.map aa++frees js σ) H4->bu Θ H1 H4->Ob a H4->(∀H6,bu Θ H1 H6->qG Θ p.2 H6->Ob p.1 H6->Q H6)->em (vs.map aa++frees js σ) H4 Q)
  (hc:vH T ft st (frB js e1) its a0 C1=aa (aE,C'))(hq:∀H2,bu Θ H1 H2->qG Θ C' H2->Ob aE H2->done H2):yQ K T (gF K ft) em (frees js σ) J (upd H1 D o0) done:=by
 have tD:D∉Θ:=λm=>(S1.cell.dom D m).ne hD
 have S1f:=S1.fz (DR js e1)
 refine⟨aew Θ H1 its.length Ob (λi a Ci=>vH T ft st (frB js e1) (its.drop i) a Ci=aa (aE,C')),⟨its.length,⟨a0,C1,rfl,nH _,bu.upd hD,K8 tD S1.cell,ob0,hc⟩⟩,λi m H2 hh=>?_⟩
 cases hh with
 |mk a Ci hm hi ki ci ob hc=>
 subst hm;have nt:=obn a H2 ob;have smP:bW (er (bG Z Θ e1 σ) H1) (er (bG (mQ D Z (iU js e1) σ) Θ [] []) H2):=m9 ki S1.tL λb m=>by
  rcases(qD (js:=js) rfl).mp m with rfl|m
  .exact .inr hD
  .exact .inl ((DR js e1).sub b m)
 have ao6:∀a∈bG (mQ D Z (iU js e1) σ) Θ [] [],H2 a≠pI:=λa m=>(S1f.blk hD ki nt ci (show cU _ [] [] from rfl)).Ba a ((qD (js:=js) (DW (env:=fM []++frB js e1) Ms)).mpr ((qD (js:=js) rfl).mp m))
 obtain⟨W0,W2⟩:=it i H2 _ smP (adi ki) ao6
 cases hd:its[i]? with
 |none=>
  have hi2:i=its.length:=Nat.le_antisymm hi (Xo.mp hd);rw[hi2,agE] at hc;cases hc;exact .inl ⟨W2 hi2,hq H2 ki ci ob⟩
 |some d=>
  obtain⟨hlt,ed⟩:=jW.mp hd
  rw[Xp hlt,ed] at hc
  obtain⟨go,yl⟩:=W0 d hd
  refine .inr ⟨go,λx H3 y=>?_⟩
  obtain⟨s3,r3⟩:=yl x H3 y
  obtain⟨ts,ht,hc⟩:=jZ hc
  obtain⟨p,hft,hc⟩:=jZ hc
  obtain⟨vs,tv,rvs⟩:=an9 (K:=K) ht r3 (Ed _ _)
  refine⟨vs,tv,?_⟩
  have k3:bu Θ H1 H3:=ki.trans (bu.of s3);have W3:=Fe a _ _ (bu.of s3) ob;have SB:=S1f.blk (js:=js) hD k3 (obn a H3 W3) ⟨ci.len,λn b ns e2 e3=>s3 _ _ (ci.at_ n b ns e2 e3)⟩ rvs;have lt:its.length-(i+1)<its.length-i:=by lia
  refine⟨_,Θ,_,Ci,p.1,p.2,SB,hft,λH4 k4 S4=>?_⟩
  cases hp:p.1 with
  |false=>
   rw[hp] at hc;exact w6 ⟨_,lt,⟨a,p.2,rfl,hlt,k3.trans k4,S4.cell,Fe a _ _ k4 W3,hc⟩⟩
  |true=>
   rw[hp] at hc
   obtain⟨q,hs,hc⟩:=jZ hc
   exact xj (hem ts a p.2 q vs H4 _ hs S4 (k3.trans k4) (Fe a _ _ k4 W3) λH6 k6 c6 o6=>⟨_,lt,⟨q.1,q.2,rfl,hlt,k6,c6,o6,hc⟩⟩)
end
def We(fe:FE):En->List aC->Ce->Option (List aC×Ce):=λenv acc C=>(fe env C).bind λq=>(uF (still q.1)).bind λy=>bif decide (acc.length<gM) then aa (acc++[y],q.2.2) else aj
theorem Ug{T:iT}{ft:FT}{fe:FE}{fs:En}{C':Ce}:∀{its:List aC}{ys acc:List aC}{C:Ce},oG T ft fe fs its C=aa (ys,C')->acc.length+ys.length<=gM->vH T ft (We fe) fs its acc C=aa (acc++ys,C')
 |[],ys,acc,C,h,_=>by
  cases h;rw[lq];rfl
 |d::r,ys,acc,C,h,hl=>by
  unfold oG at h;unfold vH;split at h
  case h_2=>cases h
  rename_i ts ht;rw[ht,ir];split at h
  case h_3=>cases h
  .rename_i C1 hf;rw[hf,ir];exact Ug h hl
  .rename_i C1 hf;rw[hf,ir];split at h
   case h_2=>cases h
   rename_i x e2 C2 hx;split at h
   case h_2=>cases h
   rename_i y hy;split at h
   case h_2=>cases h
   rename_i zs C3 hz;cases h;rw[dw] at hl
   show(We fe (fM ts++fs) acc C1).bind _=_
   unfold We;rw[hx,ir,hy,show uF (.im y)=aa y from rfl,ir,dZ (by lia),show acc++y::zs=(acc++[y])++zs by rw[mF];rfl];exact Ug hz (by rw[dM];show acc.length+1+_<=_;lia)
theorem acF{K:aQ}{fi:FI}{T:iT}{ft:FT}{fe:FE}{js:List Nat}:∀σ H Q,tE K (j5 fi T ft fe js) σ H Q->Wx K (tI K ao fi) T (λ_=>gF K ft) (λ_=>tE K fe) js σ H Q:=by
 rintro σ H Q ⟨Z,Θ,env,C,res,env',C',S,hf,q⟩;unfold j5 at hf;split at hf
 case h_2=>cases hf
 rename_i its e1 C1 h1;split at hf
 case h_2=>cases hf
 rename_i ys C2 h2;split at hf
 case isFalse=>cases hf
 rename_i hl;cases hf
 refine⟨Z,Θ,env,C,its,e1,C1,S,h1,λJ H1 k1 f1 S1 it D hD b=>?_⟩
 have tD:D∉Θ:=λm=>(S1.cell.dom D m).ne hD
 have W4:D∈bG (mQ D Z (iU js e1) σ) Θ [] []:=(qD (js:=js) rfl).mpr (.inl rfl);refine Te (a0:=[]) (Ob:=λacc Hx=>mO (er (bG (mQ D Z (iU js e1) σ) Θ [] []) Hx) Hx D (.list acc)) S1 it hD ⟨[],fG,rfl⟩ (λa Hx Hy kk r=>r.same (m9 kk (λa m=>kE.mpr (.inr (.inl m))) λa m=>.inl m) λo h=>kk.keep _ _ h tD)
  (λa Hx r=>by obtain⟨vs,e,_⟩:=r;exact⟨_,e,λ_ z=>nomatch z⟩) ?_ (Ug (acc:=[]) h2 (by rw[BW,JM];exact hl)) λH2 ki ci r=>?_
 .intro ts acc C2 p vs H4 Q hs S4 k4 r4 hQ
  obtain⟨w,hfe,hs⟩:=jZ hs
  obtain⟨yd,uI,hs⟩:=jZ hs
  have uI:=G7 uI;cases hlt:decide (acc.length<gM) with
  |false=>rw[hlt] at hs;cases hs
  |true=>
  rw[hlt] at hs;cases hs
  refine⟨_,Θ,_,C2,w.1,w.2.1,w.2.2,S4,hfe,λy H5 k5 f5 R5=>?_⟩
  obtain⟨S5,r5⟩:=R5.sJ uI
  obtain⟨xr,hD5,rr⟩:=r4.same (m9 k5 (λa m=>kE.mpr (.inr (.inl m))) λa m=>.inl m) λo h=>k5.keep _ _ h tD
  have W5:cg w.2.1 (vs.map aa++frees js σ)=[]:=by
   have:=(Fz.own (σ:=vs.map aa++frees js σ) f5)
   rw[DW Ms] at this;exact agF.mp this
  have e5:er (bG (mQ D Z (iU js e1) σ) Θ w.2.1 (vs.map aa++frees js σ)) H5=er (bG (mQ D Z (iU js e1) σ) Θ [] []) H5:=uq λa=>by rw[qD (js:=js) W5,qD (js:=js) rfl]
  rw[e5] at r5;have lt:=of_decide_eq_true hlt
  refine⟨xr,hD5,by rw[jA rr,jq];unfold gM at lt;lia,hQ _ (Vb (Hy:=H5) hD (k4.trans k5)) (K8 tD S5.cell) ⟨_,fG,?_⟩⟩
  rw[Mp W4];exact yu rr ⟨y,[],rfl,r5,rfl⟩
 .obtain⟨xr,hDi,ri⟩:=r
  refine q _ H2 (k1.trans ki) ?_ ?_
  .split
   .exact f1
   .exact f1.trans (DR js e1)
  .refine⟨D,rfl,k1.none hD,?_⟩
   split
   .rename_i hn;have SD:=S1.Aq hD ki ⟨_,hDi,λ_ z=>nomatch z⟩ ci
    exact⟨SD,xr,hDi,ri.mj (λa vs e=>DG SD (jr e)) hn⟩
   .refine⟨(S1.fz (DR js e1)).Aq hD ki ⟨_,hDi,λ_ z=>nomatch z⟩ ci,xr,hDi,?_⟩
    rw[uq (P':=bG (D::Z) Θ (iU js e1) σ) λa=>by rw[qD (js:=js) rfl];show _↔a∈D::bG Z Θ (iU js e1) σ;rw[cM]] at ri;exact ri
section
variable{X:Cx}{NT NF:List Str}{js:List Nat}{elt tg iter:Expr}{ifs:List Expr}{T:iT}{fi:FI}{ft:FT}{fe:FE}{scope:kJ}{pos:Pos}
theorem sO(B:rC X NT NF js scope)(tk:qK tg NT T)(hc:X.calm=ao)(hi:PI X tg iter (tI X.K ao fi))
  (hin:∀b,pC (X.bk (NT++NF) scope b) ifs (gF X.K ft)/\PE (X.bk (NT++NF) scope b) elt (tE X.K fe))
  (hs:∀x,vY iter X.env x=pure x:=by intro _;rfl):PE X (.ListComp elt [⟨tg,iter,ifs,0⟩] scope pos) (tE X.K (j5 fi T ft fe js)):=(an3 B tk hc hi hin hs).weak acF
theorem abv{i:Nat}{y:Str}{pos' spos:Pos}(B:rC X NT NF js scope)(tk:qK tg NT T)(hc:X.calm=ao)(hi:PI X tg iter (tI X.K ao fi))
  (hin:∀b,pC (X.bk (NT++NF) scope b) ifs (gF X.K ft)/\PE (X.bk (NT++NF) scope b) elt (tE X.K fe))
  (hsw:uY (.ListComp elt [⟨tg,iter,ifs,0⟩] scope pos) (aa (.Name y pos')) spos.line X.env=pure ao)(hN:X.N.Nodup)(hI:X.N[i]?=aa y)(hy:X.env.scope.names.lookup y=aa .local)
  (hs:∀x,vY iter X.env x=pure x:=by intro _;rfl):PS X (.Assign [.Name y pos'] (.ListComp elt [⟨tg,iter,ifs,0⟩] scope pos) spos) (tS X.K (cQ i (j5 fi T ft fe js))):=(ajU B tk hc hi hin hsw hN hI hy hs).weak (S9 acF)
end
def Ei(n:Nat):Vl->Bool
 |.ce m=>decide (m<n)
 |_=>ao
def fN(k n:Nat)(body:FS):FN:=λxs C=>if xs.length=k then match body (xs.map aa++jz (n-xs.length) aj) C with
  |some (.rt r,_,C')=>if Ei C.length r then aa (r,C'.take C.length) else aj
  |some (.nx,_,C')=>aa (.im .none,C'.take C.length)
  |_=>aj
 else aj
section
variable{K:aQ}{Z Θ:List aq}{C:Ce}{H:Hp}{xs:List Vl}{vs:List V}
theorem Tf(a:sH K E Θ xs vs):vs.length=xs.length:=by
 induction a with
 |nil=>rfl
 |cons _ _ ih=>rw[dw,dw,ih]
theorem alD(a:sH K E Θ xs vs):∀{i:Nat}{x:Vl},xs[i]?=aa x->∃v,vs[i]?=aa v/\wU K E Θ x v:=by
 induction a with
 |nil=>intro i x e;simp at e
 |cons h _ ih=>
  intro i x e;cases i with
  |zero=>simp at e;subst e;exact⟨_,rfl,h⟩
  |succ i=>
   obtain⟨v,e2,h2⟩:=ih (i:=i) (by simpa using e)
   exact⟨v,by simpa using e2,h2⟩
theorem Sm.start(S:Sm K Z Θ [] C [] H)(a:sH K (er (bG Z Θ [] []) H) Θ xs vs):Sm K Z Θ (xs.map aa++jz n pI) C (vs.map aa++jz n pI) H/\cg (xs.map aa++jz n pI) (vs.map aa++jz n pI)=[]:=by
 have lv:=Tf a;have at':∀{i:Nat}{x:Vl},(xs.map aa++jz n pI)[i]?=aa (aa x)->∃v,vs[i]?=aa v/\wU K (er (bG Z Θ [] []) H) Θ x v/\i<vs.length:=λ{i x} e=>by
  by_cases hi:i<xs.length
  .rw[qP (by rw[bz];exact hi),iG] at e;cases hx:xs[i]? with
   |none=>rw[hx] at e;cases e
   |some y=>
    rw[hx] at e;cases e
    obtain⟨v,e1,h⟩:=alD a hx
    exact⟨v,e1,h,by rw[lv];exact hi⟩
  .rw[qO (by rw[bz];lia)] at e;have:=qm e;exact nomatch(List.eq_of_mem_replicate this)
 have no:cg (xs.map aa++jz n pI) (vs.map aa++jz n pI)=[]:=DW λi d e=>by
  obtain⟨v,_,h,_⟩:=at' e
  exact h
 refine⟨⟨by simp[lv],?_,S.dom,λi x e=>?_,S.cell⟩,no⟩
 .show(Z++(Θ++cg _ _)).Nodup
  rw[no];exact S.nd
 .obtain⟨v,e1,h,hl⟩:=at' e
  refine⟨v,by rw[qP (by rw[bz];exact hl),iG,e1];rfl,?_⟩
  have ee:er (bG Z Θ (xs.map aa++jz n pI) (vs.map aa++jz n pI)) H=er (bG Z Θ [] []) H:=by
   show er (Z++(Θ++cg _ _)) H=_;rw[no];rfl
  rw[ee];cases x with
  |im d=>exact h
  |ow d=>exact h.elim
  |ce m=>exact h
  |sc ns=>exact h
theorem Sm.cut(S:Sm K Z (Θ++Δ) [] C [] H):Sm K Z Θ [] (C.take Θ.length) [] H:=by
 have fL:=S.fL;have cl:=S.cell.len;rw[dM] at cl
 refine⟨rfl,Bs fL.1 (lO.mp fL.2.1).1 pH (λb m m'=>fL.2.2.2 b m (jd _ m')) (λ_ m=>nomatch m),S.dom,λi x e=>by simp at e,⟨by rw[qu];lia,λn a ns e1 e2=>?_⟩⟩
 have hn:n<Θ.length:=(jW.mp e1).1;rw[X5,bC hn] at e2;exact S.cell.at_ n a ns (by rw[qP hn];exact e1) e2
theorem MJ.cut(t:mD Θ Θ' H)(ok:Ei Θ.length r=ao)(no:O=[])(h:MJ K Z Θ' C' O H H' r v):Res K Z Θ [] (C'.take Θ.length) [] H H' r v:=by
 obtain⟨Δ,rfl,hn⟩:=t.ex
 have sm:∀{Y:List aq},bW (er (bG Y (Θ++Δ) [] []) H') (er (bG Y Θ [] []) H'):=λ{Y}=>vo λa m=>by
  rcases kE.mp m with m|m|m
  .exact kE.mpr (.inl m)
  .exact kE.mpr (.inr (.inl (jd _ m)))
  .nomatch m
 cases r with
 |im d=>exact⟨h.1.cut,h.2.same sm⟩
 |ow d=>
  obtain⟨a,e,m,S,r⟩:=h
  refine⟨a,e,?_,S.cut,r.same sm λ_ h=>h⟩
  rcases m with m|m
  .rw[no] at m;nomatch m
  .exact m
 |ce n=>
  obtain⟨S,a,e,e2⟩:=h
  refine⟨S.cut,a,e,?_⟩
  rw[qP (of_decide_eq_true ok)] at e2;exact e2
 |sc ns=>
  obtain⟨S,a,e,q⟩:=h
  exact⟨S.cut,a,e,sm.seq q⟩
end
section
variable{P:bQ}{w:bK}{K:aQ}{mg:Str->Option Value}{base:bw}
theorem iQ{x qual:Str}{st:dz}{f:aq}{fd:dO}{N ps:List Str}{k:Nat}{body:FS}{k1 k2:Nat}(F:gf K x qual st f fd)(S:gR N ps (cX st))
  (hb:∀(cdv:Value)(A:cV)(outer:List Env)(s:aJ)(H:Hp)(E:XK),jD k (A.deeper (envOfC qual (cX st) s.heap.objs.size f cdv))->j4 (Az fP P w K mg base N qual (cX st) f cdv A outer s H E).xx (yt st) (tS K body))
  (e1:k1=ps.length:=by rfl)(e2:k2=N.length:=by rfl):dI P w K mg base fP (k+1) f fd ps (spT K (fN k1 k2 body)):=by
 subst e1 e2;refine F.ok S (λvs H Q E h=>?_) (λcdv A outer s H vs Q E hr h=>⟨_,hb cdv A outer s H E hr,?_⟩)
 .obtain⟨Z,Θ,C,xs,r,C',S0,a,hf,_⟩:=h
  unfold fN at hf;split at hf
  .rename_i hl;rw[Tf a,hl]
  .cases hf
 .obtain⟨Z,Θ,C,xs,r,C',S0,a,hf,q⟩:=h
  unfold fN at hf;split at hf
  case isFalse=>cases hf
  rename_i hl;have lv:=Tf a
  obtain⟨S1,no⟩:=S0.start (n:=N.length-vs.length) a
  rw[lv] at S1 no;have hs:start N vs=vs.map aa++jz (N.length-xs.length) aj:=by unfold start;rw[lv]
  rw[hs];have cl:=S0.cell.len;split at hf
  .rename_i r0 e' C1 hb';split at hf
   .rename_i hok;cases hf
    refine⟨Z,Θ,_,C,.rt r,e',C1,S1,hb',λΘ' v H' R=>?_⟩
    have kp:=R.kp;rw[no,lq] at kp;rw[cl] at q hok;exact q v H' kp (R.ok.cut R.th hok no)
   .cases hf
  .rename_i e' C1 hb';cases hf
   refine⟨Z,Θ,_,C,.nx,e',C1,S1,hb',λΘ' σ' H' R=>?_⟩
   have kp:=R.kp;rw[no,lq] at kp
   obtain⟨Δ,e,hn⟩:=R.th.ex
   have S2:=R.sm.none;rw[e] at S2;rw[cl] at q;exact q .non H' kp ⟨S2.cut,rfl⟩
  .cases hf
theorem ana(hS:bU K H a (ns.map V.int))(h:f [.sc ns] []=aa (.im (.bool ao),C')):spT K f [.ref a] H (λv _=>v=.bl ao) E:=by
 refine⟨[],[],[],[.sc ns],_,C',⟨rfl,pH,(λ_ m=>nomatch m),λi x e=>by simp at e,⟨rfl,λn b ms e _=>by simp at e⟩⟩,.cons ⟨a,rfl,?_⟩ .nil,h,λv H' _ R=>R.2⟩
 show bU K (er [] H) a _;rw[G5];exact hS
end
def yL(i:Nat):FE:=λenv C=>match env[i]? with
 |some (some (.sc ns))=>aa (.im (.int ns.length),env,C)
 |_=>aj
def HR(i:Nat)(f:FB):FE:=λenv C=>match env[i]? with
 |some (some (.sc ns))=>match f env C with
  |some (.int k,_,C1)=>match fK ns k with
   |some z=>aa (.im (.int z),env,C1)
   |none=>aj
  |_=>aj
 |_=>aj
section
variable{X:Cx}{o k:Expr}{i:Nat}{p pos:Pos}
theorem acG(ho:PE X o (rF i))(hg:Gl X "len")(hm:X.mg "len"=aj)(hv:uU "len"=aa (.builtin "len"))
  (he:bO [o] X.env=(aL,eval o X.env)::bO [] X.env:=by rfl)(hpl:(iu pos (bO [] X.env)).any (·.1)=aL:=by rfl):PE X (.Call (.Name "len" p) [o] [] pos) (tE X.K (yL i)):=
 (KY Zm hg hm hv (oX ho rA he) (by decide) (by decide) he hpl).weak λσ H Q aW=>by
  obtain⟨Z,Θ,env,C,r,env',C',S,hf,q⟩:=aW
  unfold yL at hf;split at hf
  .rename_i ns h0;cases hf
   obtain⟨v,ev,a,rfl,sq⟩:=S.slot i _ h0
   have:=q (.int ns.length) H (bu.refl _ _) (Fz.refl _) ⟨S,rfl⟩
   exact⟨_,ev,a,_,rfl,.inl ((Ed _ _).seq sq),by rw[bz];exact this⟩
  .cases hf
theorem anb(ho:PE X o (rF i))(hk:PE X k (fW X.K f))(hs:Ln k):PE X (.Subscript o k pos) (tE X.K (HR i f)):=(Vz T6 ho hk hs).weak λσ H Q aW=>by
 obtain⟨Z,Θ,env,C,r,env',C',S,hf,q⟩:=aW
 unfold HR at hf;split at hf
 case h_2=>cases hf
 rename_i ns h0;split at hf
 case h_2=>cases hf
 rename_i z e1 C1 h1;split at hf
 case h_2=>cases hf
 rename_i y hy;cases hf
 obtain⟨v,ev,a,rfl,sq⟩:=S.slot i _ h0
 refine⟨_,ev,Z,Θ,env,C,_,e1,C',S,h1,λw H1 k1 f1 S1 b1=>?_⟩
 have S2:=S.go k1 S1.cell
 obtain⟨v2,ev2,a2,ea2,sq2⟩:=S2.slot i _ h0
 rw[ev] at ev2;cases ev2;cases ea2
 refine⟨a,_,z,.int y,rfl,b1,(Ed _ _).seq sq2,?_,q _ H1 k1 (Fz.refl _) ⟨S2,rfl⟩⟩
 unfold fK at hy⊢;rw[bz];cases hj:qb ns.length z with
 |none=>rw[hj] at hy;cases hy
 |some j=>
  rw[hj] at hy
  show(ns.map V.int)[j]?=_
  rw[iG,show ns[j]?=aa y from hy];rfl
end
section
variable{K:aQ}{X:Cx}
theorem o9(h:Mz Z Θ env σ H [d] vs):∃v,vs=[v]/\gK Z Θ env σ H d v:=by
 cases h with
 |cons a b=>cases b;exact⟨_,rfl,a⟩
theorem adX(h:Mz Z Θ env σ H [d,e] vs):∃v w,vs=[v,w]/\gK Z Θ env σ H d v/\gK Z Θ env σ H e w:=by
 cases h with
 |cons a b=>
  cases b with
  |cons b c=>cases c;exact⟨_,_,rfl,a,b⟩
def HS:aC->Option Nat
 |.list ds=>aa ds.length
 |.tuple ds=>aa ds.length
 |.str z=>if z.length<=gM then aa z.length else aj
 |.dict kvs=>if(cW dm kvs).isSome then aa kvs.length else aj
 |_=>aj
def kW:List aC->Option Vl
 |[d]=>(HS d).map λn=>.im (.int n)
 |_=>aj
def adY(K:aQ):List V->Hp->VK->Prop:=λxs H Q=>((∃p ys,xs=[.ref p]/\(bU K H p ys\/dD K H p ys)/\Q (.int ys.length) H)\/∃z,xs=[.str z]/\z.length<=cH/\Q (.int z.length) H)\/∃a kvs,xs=[V.ref a]/\H a=aa (.dK kvs)/\Q (.int kvs.length) H
theorem nY:iI X (.builtin "len") (adY X.K):=(Zm.or ahn).or aiV
theorem oA:mC K (adY K) kW:=by
 intro Z Θ env C σ H xs ds res S b e Q q;unfold kW at e;split at e
 case h_2=>cases e
 rename_i d
 obtain⟨v,rfl,bb⟩:=o9 b
 cases hn:HS d with
 |none=>rw[hn] at e;cases e
 |some n=>
  rw[hn] at e;cases e;have fin:=q (.int n) H (bu.refl _ _) (jN S rfl rfl);cases d<;>first|cases hn|skip
  .rename_i z;simp only[HS] at hn;split at hn
   .rename_i hl;cases hn;cases bb.str;exact .inl (.inr ⟨z,rfl,u5 hl,fin⟩)
   .cases hn
  .obtain⟨a,vs,rfl,ha,r⟩:=bb.lst
   exact .inl (.inl ⟨a,vs,rfl,.inl (bU.of ha),by rw[jA r];exact fin⟩)
  .obtain⟨a,vs,rfl,ha,r⟩:=bb.tup
   exact .inl (.inl ⟨a,vs,rfl,.inr (dD.of ha),by rw[jA r];exact fin⟩)
  .rename_i kvs;simp only[HS] at hn;split at hn
   .rename_i hs;cases hn
    obtain⟨a,vs,rfl,da,r⟩:=bb.dct
    rcases da with⟨ks,h1,ha⟩|⟨ks,⟨ne,h2⟩,ha⟩
    .refine .inr ⟨a,_,rfl,ha,?_⟩;rw[Ju,wF h1,Dp r,Nat.min_self];exact fin
    .obtain⟨ks',h1⟩:=zx.mp hs
     exact absurd (yo h1 h2) ne
   .cases hn
def Hr:List aC->Option Vl
 |[.int i]=>aa (.im (.int (if i<0 then -i else i)))
 |_=>aj
theorem adt:mC K (λxs H Q=>∃i,xs=[.int i]/\Q (.int (if i<0 then -i else i)) H) Hr:=by
 intro Z Θ env C σ H xs ds res S b e Q q;unfold Hr at e;split at e
 case h_2=>cases e
 cases e
 obtain⟨v,rfl,bb⟩:=o9 b
 cases bb.int
 exact⟨_,rfl,q _ H (bu.refl _ _) (jN S rfl rfl)⟩
def yM:List aC->Option Vl
 |[.int i]=>aa (.im (.int i))
 |[.bool k]=>aa (.im (.int (if k then 1 else 0)))
 |_=>aj
theorem Vc:mC K (λxs H Q=>(∃i,xs=[.int i]/\Q (.int i) H)\/∃k,xs=[.bl k]/\Q (.int (if k then 1 else 0)) H) yM:=by
 intro Z Θ env C σ H xs ds res S b e Q q;unfold yM at e;split at e
 case h_3=>cases e
 .cases e
  obtain⟨v,rfl,bb⟩:=o9 b
  cases bb.int;exact .inl ⟨_,rfl,q _ H (bu.refl _ _) (jN S rfl rfl)⟩
 .cases e
  obtain⟨v,rfl,bb⟩:=o9 b
  cases(show v=.bl _ from bb)
  exact .inr ⟨_,rfl,q _ H (bu.refl _ _) (jN S rfl rfl)⟩
def DX:List aC->Option Vl
 |[.int i,.int j]=>aa (.im (.int (if j>i then j else i)))
 |_=>aj
def vA:List aC->Option Vl
 |[.int i,.int j]=>aa (.im (.int (if j<i then j else i)))
 |_=>aj
theorem alE:mC K (λxs H Q=>∃i j,xs=[.int i,.int j]/\Q (.int (if j>i then j else i)) H) DX:=by
 intro Z Θ env C σ H xs ds res S b e Q q;unfold DX at e;split at e
 case h_2=>cases e
 cases e
 obtain⟨v,w,rfl,b1,b2⟩:=adX b
 cases b1.int;cases b2.int
 exact⟨_,_,rfl,q _ H (bu.refl _ _) (jN S rfl rfl)⟩
theorem LK:mC K (λxs H Q=>∃i j,xs=[.int i,.int j]/\Q (.int (if j<i then j else i)) H) vA:=by
 intro Z Θ env C σ H xs ds res S b e Q q;unfold vA at e;split at e
 case h_2=>cases e
 cases e
 obtain⟨v,w,rfl,b1,b2⟩:=adX b
 cases b1.int;cases b2.int
 exact⟨_,_,rfl,q _ H (bu.refl _ _) (jN S rfl rfl)⟩
def boolsOf:List aC->Option (List Bool)
 |[]=>aa []
 |.bool b::r=>match boolsOf r with
  |some t=>aa (b::t)
  |none=>aj
 |_=>aj
theorem aaG:∀{ds:List aC}{ns:List Bool}{vs:List V},boolsOf ds=aa ns->cU E ds vs->vs=ns.map V.bl
 |[],ns,vs,h,r=>by cases h;exact r
 |.bool i::ds,ns,vs,h,r=>by
  unfold boolsOf at h;split at h
  .rename_i t ht;cases h
   obtain⟨u,w,rfl,q,s⟩:=r
   rw[aaG ht s];have:u=.bl i:=q;rw[this];rfl
  .cases h
 |.none::_,_,_,h,_=>by cases h
 |.int _::_,_,_,h,_=>by cases h
 |.str _::_,_,_,h,_=>by cases h
 |.list _::_,_,_,h,_=>by cases h
 |.tuple _::_,_,_,h,_=>by cases h
 |.dict _::_,_,_,h,_=>by cases h
def Ar:List aC->Option Vl
 |[.list ds]=>(boolsOf ds).map λbs=>.im (.bool (bs.all id))
 |_=>aj
theorem Vd:mC K (λxs H Q=>∃(p:aq)(bs:List Bool),xs=[.ref p]/\bU K H p (bs.map V.bl)/\Q (.bl (bs.all id)) H) Ar:=by
 intro Z Θ env C σ H xs ds res S b e Q q;unfold Ar at e;split at e
 case h_2=>cases e
 rename_i ds;cases hb:boolsOf ds with
 |none=>rw[hb] at e;cases e
 |some bs=>
  rw[hb] at e;cases e
  obtain⟨v,rfl,bb⟩:=o9 b
  obtain⟨a,vs,rfl,ha,r⟩:=bb.lst
  rw[aaG hb r] at ha
  exact⟨a,bs,rfl,bU.of ha,q _ H (bu.refl _ _) (jN S rfl rfl)⟩
def GF:List aC->Option Vl
 |[.list ds]=>aa (.im (.tuple ds))
 |[.tuple ds]=>aa (.im (.tuple ds))
 |_=>aj
theorem abw:mC K (λxs H Q=>∃p ys,xs=[.ref p]/\((bU K H p ys/\∀l,H l=aj->Q (.ref l) (upd H l (.tup ys)))\/(dD K H p ys/\Q (.ref p) H))) GF:=by
 intro Z Θ env C σ H xs ds res S b e Q q;unfold GF at e;split at e
 case h_3=>cases e
 .cases e
  obtain⟨v,rfl,bb⟩:=o9 b
  obtain⟨a,vs,rfl,ha,r⟩:=bb.lst
  exact⟨a,vs,rfl,.inl ⟨bU.of ha,λl hl=>q _ _ (bu.upd hl) (Ls S r hl)⟩⟩
 .cases e
  obtain⟨v,rfl,bb⟩:=o9 b
  obtain⟨a,vs,rfl,ha,r⟩:=bb.tup
  exact⟨a,vs,rfl,.inr ⟨dD.of ha,q _ H (bu.refl _ _) ⟨S,bb⟩⟩⟩
end
def pX(n:String):aC->Option Bool
 |.none=>aa aL
 |.bool _=>aa (n=="bool"||n=="int")
 |.int _=>aa (n=="int")
 |.str _=>aa (n=="str")
 |.list _=>aa (n=="list")
 |.tuple _=>aa (n=="tuple")
 |.dict _=>aj
def HW(n:String):Bool:=n=="bool"||n=="int"||n=="str"||n=="list"||n=="tuple"
theorem Ve{K:aQ}{n:String}{d:aC}{b:Bool}(hn:HW n=ao)(e:pX n d=aa b):Ca K (Im d) (.type n)=aa b:=by
 unfold HW at hn;simp only[Bool.or_eq_true,beq_iff_eq] at hn;rcases hn with(((rfl|rfl)|rfl)|rfl)|rfl<;>cases d<;>cases e<;>rfl
theorem abx(e:pX n d=aa b):∀kvs,d≠.dict kvs:=λkvs z=>by subst z;cases e
theorem gK.ty{K:aQ}{Z Θ:List aq}{env:En}{σ:St}{H:Hp}{d:aC}{v:V}(h:gK Z Θ env σ H d v)(hd:∀kvs,d≠.dict kvs):oK K H v (Im d):=by
 cases d with
 |none=>exact RX.ty (d:=.none) h
 |bool b=>exact RX.ty (d:=.bool b) h
 |int i=>exact RX.ty (d:=.int i) h
 |str z=>exact RX.ty (d:=.str z) h
 |list ds=>
  obtain⟨a,vs,rfl,ha,r⟩:=h.lst
  exact .lst ha
 |tuple ds=>
  obtain⟨a,vs,rfl,ha,r⟩:=h.tup
  exact .tup ha
 |dict kvs=>exact absurd rfl (hd kvs)
def jk(n:String)(f:FB):FE:=λenv C=>match f env C with
 |some (d,_,C1)=>match pX n d with
  |some b=>aa (.im (.bool b),env,C1)
  |none=>aj
 |none=>aj
def VH(m n:String)(f:FB):FE:=λenv C=>match f env C with
 |some (d,_,C1)=>match pX m d,pX n d with
  |some p,some q=>aa (.im (.bool (p||q)),env,C1)
  |_,_=>aj
 |none=>aj
section
variable{X:Cx}{a t t':Expr}{p pos tp:Pos}{x1:Nat}
theorem oE(hn:HW n=ao)(ha:PE X a (fW X.K f))(ht:PE X t (tC (.ty n)))(hg:Gl X "isinstance")(hm:X.mg "isinstance"=aj)(hv:uU "isinstance"=aa (.builtin "isinstance"))
  (he:bO [a,t] X.env=(aL,eval a X.env)::bO [t] X.env:=by rfl)(he2:bO [t] X.env=(aL,eval t X.env)::bO [] X.env:=by rfl)(hpl:(iu pos (bO [t] X.env)).any (·.1)=aL:=by rfl):
  PE X (.Call (.Name "isinstance" p) [a,t] [] pos) (tE X.K (jk n f)):=
 (KY ahP hg hm hv (oX ha (oX ht rA he2) he) (by decide) (by decide) he hpl).weak λσ H Q aW=>by
  obtain⟨Z,Θ,env,C,r,env',C',S,hf,q⟩:=aW
  unfold jk at hf;split at hf
  case h_2=>cases hf
  rename_i d e1 C1 h1;split at hf
  case h_2=>cases hf
  rename_i b hb;cases hf
  refine⟨Z,Θ,env,C,d,e1,C',S,h1,λv H1 k f S1 b1=>⟨v,n,Im d,b,rfl,b1.ty (abx hb),Ve hn hb,q _ H1 k (Fz.refl _) ⟨S.go k S1.cell,rfl⟩⟩⟩
theorem alF(hm':HW m=ao)(hn:HW n=ao)(ha:PE X a (fW X.K f))(ht:PE X t (tC (.ty m)))(ht':PE X t' (tC (.ty n)))(hg:Gl X "isinstance")(hm:X.mg "isinstance"=aj)(hv:uU "isinstance"=aa (.builtin "isinstance"))
  (he:bO [a,.Tuple [t,t'] x1 tp] X.env=(aL,eval a X.env)::bO [.Tuple [t,t'] x1 tp] X.env:=by rfl)(he2:bO [.Tuple [t,t'] x1 tp] X.env=(aL,eval (.Tuple [t,t'] x1 tp) X.env)::bO [] X.env:=by rfl)
  (h3:bO [t,t'] X.env=(aL,eval t X.env)::bO [t'] X.env:=by rfl)(h4:bO [t'] X.env=(aL,eval t' X.env)::bO [] X.env:=by rfl)
  (hpl:(iu pos (bO [.Tuple [t,t'] x1 tp] X.env)).any (·.1)=aL:=by rfl):
  PE X (.Call (.Name "isinstance" p) [a,.Tuple [t,t'] x1 tp] [] pos) (tE X.K (VH m n f)):=
 (KY ahq hg hm hv (oX ha (oX (U3 (oX ht (oX ht' rA h4) h3)) rA he2) he) (by decide) (by decide) he hpl).weak λσ H Q aW=>by
  obtain⟨Z,Θ,env,C,r,env',C',S,hf,q⟩:=aW
  unfold VH at hf;split at hf
  case h_2=>cases hf
  rename_i d e1 C1 h1;split at hf
  case h_2=>cases hf
  rename_i b b' hb hb';cases hf
  refine⟨Z,Θ,env,C,d,e1,C',S,h1,λv H1 k f S1 b1=>⟨by show 2<=cH;rw[jq];decide,λc hc=>?_⟩⟩
  have kc:bu Θ H1 (upd H1 c (.tup [.ty m,.ty n])):=bu.upd hc;have s2:=S1.Ao (bW.upd (o:=.tup [.ty m,.ty n]) hc);have b2:=b1.go S1 kc (Fz.refl _)
  refine⟨v,c,m,n,Im d,b,b',rfl,fG,b2.ty (abx hb),Ve hm' hb,Ve hn hb',q _ _ (k.trans kc) (Fz.refl _) ⟨S.go (k.trans kc) s2.cell,rfl⟩⟩
end
def ins{α:Type}(lt:α->α->Bool)(x:α):List α->List α
 |[]=>[x]
 |y::r=>if lt y x then y::ins lt x r else x::y::r
def nj{α:Type}(lt:α->α->Bool):List α->List α
 |[]=>[]
 |x::r=>ins lt x (nj lt r)
section
variable{α:Type}{lt:α->α->Bool}
theorem Tg(x:α):∀l:List α,(ins lt x l).Perm (x::l)
 |[]=>Cd _
 |y::r=>by
  unfold ins;split
  .exact((Tg x r).cons y).trans (P0 x y r)
  .exact Cd _
theorem yh:∀l:List α,(nj lt l).Perm l
 |[]=>Cd _
 |x::r=>(Tg x _).trans ((yh r).cons x)
structure Ej(lt:α->α->Bool)(P:α->Prop):Prop where
 aem:∀a b,P a->P b->lt a b=ao->lt b a=aL
 neg:∀a b c,P a->P b->P c->lt a c=ao->lt a b=ao\/lt b c=ao
 tot:∀a b,P a->P b->lt a b=aL->lt b a=aL->a=b
theorem adu(O:Ej lt P)(hx:P x):∀{l:List α},(∀y∈l,P y)->l.Pairwise (λa b=>lt b a=aL)->(ins lt x l).Pairwise (λa b=>lt b a=aL)
 |[],_,_=>rR.mpr ⟨λ_ m=>(nomatch m),Bw⟩
 |y::r,hp,h=>by
  rw[rR] at h;have py:=hp y dH;unfold ins;split
  .rename_i hl;rw[rR]
   refine⟨λz m=>?_,adu O hx (λz m=>hp z (gh _ m)) h.2⟩
   rcases cM.mp ((Tg x r).mem_iff.mp m) with rfl|m
   .exact O.aem _ _ py hx hl
   .exact h.1 z m
  .rename_i hl;have hl:lt y x=aL:=by simpa using hl
   rw[rR,rR]
   refine⟨λz m=>?_,h.1,h.2⟩
   rcases cM.mp m with rfl|m
   .exact hl
   .have pz:=hp z (gh _ m);cases hz:lt z x with
    |false=>rfl
    |true=>
     rcases O.neg z y x pz py hx hz with h1|h1
     .rw[h.1 z m] at h1;cases h1
     .rw[hl] at h1;cases h1
theorem Th(O:Ej lt P):∀{l:List α},(∀y∈l,P y)->(nj lt l).Pairwise (λa b=>lt b a=aL)
 |[],_=>Bw
 |x::r,hp=>adu O (hp x dH) (λy m=>hp y (gh _ ((yh r).mem_iff.mp m))) (Th O λy m=>hp y (gh _ m))
theorem adw(O:Ej lt P):∀{l m:List α},(∀y∈l,P y)->l.Perm m->l.Pairwise (λa b=>lt b a=aL)->m.Pairwise (λa b=>lt b a=aL)->l=m
 |[],m,_,p,_,_=>(List.nil_perm.mp p).symm
 |x::r,[],_,p,_,_=>absurd p.length_eq (by simp)
 |x::r,y::t,hp,p,h1,h2=>by
  have pm:∀z∈y::t,P z:=λz m=>hp z (p.mem_iff.mpr m)
  rw[rR] at h1 h2;have e:x=y:=by
   have m1:x∈y::t:=p.mem_iff.mp dH;have m2:y∈x::r:=p.mem_iff.mpr dH;rcases cM.mp m1 with e|m1
   .exact e
   .rcases cM.mp m2 with e|m2
    .exact e.symm
    .exact O.tot x y (hp x dH) (pm y dH) (h2.1 x m1) (h1.1 y m2)
  subst e;rw[adw O (λz m=>hp z (gh _ m)) ((List.perm_cons x).mp p) h1.2 h2.2]
theorem acH(O:Ej lt P)(hp:∀y∈l,P y)(p:m.Perm l)(h:m.Pairwise (λa b=>lt b a=aL)):m=nj lt l:=
 adw O (λy hy=>hp y (p.mem_iff.mp hy)) (p.trans (yh l).symm) h (Th O hp)
end
def ltI(i j:Int):Bool:=decide (i<j)
theorem aex:Ej ltI (λ_=>True):=⟨λa b _ _ h=>by unfold ltI at *;simp at *;lia,λa b c _ _ _ h=>by unfold ltI at *;simp at *;lia,λa b _ _ h1 h2=>by unfold ltI at *;simp at *;lia⟩
theorem aey:Ej strLt (λ_=>True):=by
 refine⟨λa b _ _ h=>?_,λa b c _ _ _ h=>?_,λa b _ _ h1 h2=>?_⟩
 .exact alm (a:=.inr a) (b:=.inr b) h
 .exact amY (a:=.inr a) (b:=.inr b) (c:=.inr c) rfl rfl h
 .exact ahK (amZ (a:=.inr a) (b:=.inr b) rfl h1 h2)
def strsOf:List aC->Option (List Str)
 |[]=>aa []
 |.str i::r=>match strsOf r with
  |some t=>aa (i::t)
  |none=>aj
 |_=>aj
theorem Ti:∀{ds:List aC}{ns:List Str}{vs:List V},strsOf ds=aa ns->cU E ds vs->vs=ns.map V.str
 |[],ns,vs,h,r=>by cases h;exact r
 |.str i::ds,ns,vs,h,r=>by
  unfold strsOf at h;split at h
  .rename_i t ht;cases h
   obtain⟨u,w,rfl,q,s⟩:=r
   rw[Ti ht s];have:u=.str i:=q;rw[this];rfl
  .cases h
 |.none::_,_,_,h,_=>by cases h
 |.bool _::_,_,_,h,_=>by cases h
 |.int _::_,_,_,h,_=>by cases h
 |.list _::_,_,_,h,_=>by cases h
 |.tuple _::_,_,_,h,_=>by cases h
 |.dict _::_,_,_,h,_=>by cases h
def rH:aC->Option (List Bool)
 |.tuple xs=>(keysOf xs).map λks=>ks.map cJ
 |_=>aj
def jJ:Key->aC
 |.inl i=>.int i
 |.inr x=>.str x
def yN:aC->List Key
 |.tuple xs=>(keysOf xs).getD []
 |_=>[]
def rJ(ds:List aC):List aC:=(uB (ds.map yN)).map λk=>.tuple (k.map jJ)
def Av(ds:List aC):Option (List aC):=if ds.length<64 then match intsOf ds with
  |some ns=>aa ((nj ltI ns).map .int)
  |none=>match strsOf ds with
   |some zs=>aa ((nj strLt zs).map .str)
   |none=>match ds with
    |[]=>aa []
    |d::_=>match rH d with
     |some (b::sh)=>if(ds.all λe=>decide (rH e=aa (b::sh))) then aa (rJ ds) else aj
     |_=>aj
 else aj
def Gr:List aC->Option Vl
 |[.list ds]=>(Av ds).map λl=>.ow (.list l)
 |_=>aj
def Vf(K:aQ):List V->Hp->VK->Prop:=λxs H Q=>((∃(p:aq)(ns:List Int),xs=[.ref p]/\bU K H p (ns.map V.int)/\ns.length<64/\∀(l:aq)(ns':List Int),H l=aj->ns'.Perm ns->ns'.Pairwise (·<=·)->Q (.ref l) (upd H l (.lst (ns'.map V.int))))\/
 ∃(p:aq)(ns:List Str),xs=[.ref p]/\bU K H p (ns.map V.str)/\ns.length<64/\∀(l:aq)(ns':List Str),H l=aj->ns'.Perm ns->sortedS ns'=ao->Q (.ref l) (upd H l (.lst (ns'.map V.str))))\/
 ∃(p:aq)(rows:List Row)(b:Bool)(sh:List Bool),xs=[.ref p]/\bU K H p (rows.map λr=>V.ref r.1)/\rows.length<64/\(∀r∈rows,H r.1=aa (.tup (r.2.map kV))/\r.2.map cJ=b::sh)/\∀(l:aq)(rows':List Row),H l=aj->rows'.Perm rows->rows'.map (·.2)=uB (rows.map (·.2))->Q (.ref l) (upd H l (.lst (rows'.map λr=>V.ref r.1)))
theorem aim:iI X (.builtin "sorted") (Vf X.K):=(agB.or agC).or agj
theorem sortI(p:ns'.Perm ns)(h:ns'.Pairwise (·<=·)):ns'=nj ltI ns:=acH aex (λ_ _=>trivial) p (h.imp λ{a b} hab=>by unfold ltI;simp;exact hab)
theorem adx:∀{x:Str}{r:List Str},risingS x r=ao->(x::r).Pairwise (λa b=>strLt b a=aL)
 |x,[],_=>rR.mpr ⟨λ_ m=>(nomatch m),Bw⟩
 |x,y::r,h=>by
  unfold risingS at h;rw[jX,agp] at h;have ih:=adx h.2;have hxy:strLt y x=aL:=by
   have:=h.1;unfold strLt;rw[lt_meets];exact this
  rw[rR]
  refine⟨λz m=>?_,ih⟩
  rcases cM.mp m with rfl|m
  .exact hxy
  .rw[rR] at ih;cases hz:strLt z x with
   |false=>rfl
   |true=>
    rcases aey.neg z y x trivial trivial trivial hz with h1|h1
    .rw[ih.1 z m] at h1;cases h1
    .rw[hxy] at h1;cases h1
theorem Vg(p:ns'.Perm ns)(h:sortedS ns'=ao):ns'=nj strLt ns:=acH aey (λ_ _=>trivial) p (by
 cases ns' with
 |nil=>exact Bw
 |cons x r=>exact adx h)
theorem K9:∀{xs:List aC}{ks:List Key},keysOf xs=aa ks->xs=ks.map jJ
 |[],ks,h=>by cases h;rfl
 |x::xs,ks,h=>by
  unfold keysOf at h;split at h
  .rename_i k t h1 h2;cases h;rw[K9 h2];have:x=jJ k:=by
    cases x<;>first|(cases h1;rfl)|cases h1
   rw[this];rfl
  .cases h
theorem Gs:∀ks:List Key,keysOf (ks.map jJ)=aa ks
 |[]=>rfl
 |k::ks=>by
  show(match dm (jJ k),keysOf (ks.map jJ) with|some k,some t=>aa (k::t)|_,_=>aj)=_
  rw[Gs ks];cases k<;>rfl
theorem aje{ds:List aC}{rows rows':List Row}(e:ds=rows.map (λr=>.tuple (r.2.map jJ)))(h:rows'.map (·.2)=uB (rows.map (·.2))):(rows'.map λr=>oV (r.2.map jJ))=rJ ds:=by
 have e1:ds.map yN=rows.map (·.2):=by
  rw[e,gZ];refine xR λr _=>?_
  show(keysOf (r.2.map jJ)).getD []=r.2
  rw[Gs];rfl
 unfold rJ;rw[e1,<-h,gZ];rfl
theorem aaH(h:∀d∈ds,(rH d).isSome=ao):(rJ ds).Perm ds:=by
 have:=(ai3 (ds.map yN)).map λk=>oV (k.map jJ)
 refine this.trans (agO ?_);rw[gZ]
 refine(xR λd hd=>?_).trans (JX ds)
 have hs:=h d hd;cases d with
 |tuple xs=>
  show oV (((keysOf xs).getD []).map jJ)=.tuple xs;cases hk:keysOf xs with
  |none=>
   have hs:((keysOf xs).map λks=>ks.map cJ).isSome=ao:=hs;rw[hk] at hs;cases hs
  |some ks=>rw[K9 hk];rfl
 |_=>cases hs
theorem Tj:∀{ds:List aC}{vs:List V},(∀d∈ds,rH d=aa sh)->cU E ds vs->∃rows:List Row,vs=rows.map (λr=>V.ref r.1)/\ds=rows.map (λr=>.tuple (r.2.map jJ))/\∀r∈rows,E r.1=aa (.tup (r.2.map kV))/\r.2.map cJ=sh
 |[],vs,_,r=>⟨[],r,rfl,λ_ m=>(nomatch m)⟩
 |d::ds,vs,h,r=>by
  obtain⟨u,w,rfl,q,s⟩:=r
  obtain⟨rows,e1,e2,e3⟩:=Tj (λd m=>h d (gh _ m)) s
  have hd:=h d dH;cases d<;>first|cases hd|skip
  rename_i xs;have hd:(keysOf xs).map (λks=>ks.map cJ)=aa sh:=hd;cases hk:keysOf xs with
  |none=>rw[hk] at hd;cases hd
  |some ks=>
   rw[hk] at hd
   obtain⟨a,vs',rfl,ha,rr⟩:=q
   rw[CW hk rr] at ha
   refine⟨(a,ks)::rows,by rw[e1];rfl,by rw[e2,K9 hk];rfl,λr m=>?_⟩
   rcases cM.mp m with rfl|m
   .exact⟨ha,gH hd⟩
   .exact e3 r m
theorem Gu:∀{rows:List Row},(∀r∈rows,E r.1=aa (.tup (r.2.map kV)))->cU E (rows.map λr=>.tuple (r.2.map jJ)) (rows.map λr=>V.ref r.1)
 |[],_=>rfl
 |r::rows,h=>by
  refine⟨_,_,rfl,⟨r.1,r.2.map kV,rfl,h r dH,?_⟩,Gu λr m=>h r (gh _ m)⟩
  generalize r.2=ks;induction ks with
  |nil=>rfl
  |cons k ks ih=>exact⟨_,_,rfl,by cases k<;>rfl,ih⟩
theorem aby:∀{ds:List aC}{ns:List Int},intsOf ds=aa ns->ds=ns.map .int
 |[],ns,h=>by cases h;rfl
 |.int i::ds,ns,h=>by
  unfold intsOf at h;split at h
  .rename_i t ht;cases h;rw[aby ht];rfl
  .cases h
 |.none::_,_,h=>by cases h
 |.bool _::_,_,h=>by cases h
 |.str _::_,_,h=>by cases h
 |.list _::_,_,h=>by cases h
 |.tuple _::_,_,h=>by cases h
 |.dict _::_,_,h=>by cases h
theorem Tn:∀{ds:List aC}{ns:List Str},strsOf ds=aa ns->ds=ns.map .str
 |[],ns,h=>by cases h;rfl
 |.str i::ds,ns,h=>by
  unfold strsOf at h;split at h
  .rename_i t ht;cases h;rw[Tn ht];rfl
  .cases h
 |.none::_,_,h=>by cases h
 |.bool _::_,_,h=>by cases h
 |.int _::_,_,h=>by cases h
 |.list _::_,_,h=>by cases h
 |.tuple _::_,_,h=>by cases h
 |.dict _::_,_,h=>by cases h
theorem ajf{K:aQ}:mC K (Vf K) Gr:=by
 intro Z Θ env C σ H xs ds0 res S b e Q q;unfold Gr at e;split at e
 case h_2=>cases e
 rename_i ds;cases hs:Av ds with
 |none=>rw[hs] at e;cases e
 |some l=>
  rw[hs] at e;cases e
  obtain⟨v,rfl,bb⟩:=o9 b
  obtain⟨a,vs,rfl,ha,r⟩:=bb.lst
  unfold Av at hs;split at hs
  case isFalse=>cases hs
  rename_i hl;split at hs
  .rename_i ns hns;cases hs;have ev:=Td hns r;subst ev;refine .inl (.inl ⟨a,ns,rfl,bU.of ha,by rw[aby hns,bz] at hl;exact hl,λl ns' hn p hp=>?_⟩);rw[sortI p hp];exact q _ _ (bu.upd hn) (pL S (aj9 _) hn)
  .split at hs
   .rename_i ns hns;cases hs;have ev:=Ti hns r;subst ev;refine .inl (.inr ⟨a,ns,rfl,bU.of ha,by rw[Tn hns,bz] at hl;exact hl,λl ns' hn p hp=>?_⟩);rw[Vg p hp];exact q _ _ (bu.upd hn) (pL S (SX _) hn)
   .split at hs
    .cases hs
     cases(show vs=[] from r)
     exact .inl (.inl ⟨a,[],rfl,bU.of ha,by decide,λl ns' hn p hp=>by
      rw[List.perm_nil.mp p];exact q _ _ (bu.upd hn) (pL S rfl hn)⟩)
    .rename_i d0 dr hi1 hi2;split at hs
     case h_2=>cases hs
     rename_i b0 sh hsh;split at hs
     case isFalse=>cases hs
     rename_i hall;cases hs;have hall':∀d∈d0::dr,rH d=aa (b0::sh):=λd m=>of_decide_eq_true (qw.mp hall d m)
     obtain⟨rows,e1,e2,e3⟩:=Tj hall' r
     subst e1;refine .inr ⟨a,rows,b0,sh,rfl,bU.of ha,?_,λr m=>⟨jr (e3 r m).1,(e3 r m).2⟩,λl rows' hn p hp=>?_⟩
     .have:=congrArg qx e2;rw[bz] at this;rw[<-this];exact hl
     .have es:(rows'.map λr=>oV (r.2.map jJ))=rJ (d0::dr):=aje e2 hp;rw[<-es] at q;exact q _ _ (bu.upd hn) (pL S (Gu λr m=>(e3 r (p.mem_iff.mp m)).1) hn)
def La(ds:List aC):Option (List aC):=if ds.length<64 then match strsOf ds with
  |some ns=>aa ((nj strLt (dedup ns)).map .str)
  |none=>aj
 else aj
section
variable{X:Cx}{l:Expr}{f:FB}{p1 p2 pos1 pos2:Pos}
end
def Mt:aC->aC->Option Vl
 |.str z,.list ds=>match strsOf ds with
  |some ys=>if(ys.map (·.length)).sum+ys.length*z.length<=gM then aa (.im (.str (Txt.join z ys))) else aj
  |none=>aj
 |_,_=>aj
def ux(f g:FB):FE:=aP Mt f g
theorem Uh(ho:PE X o (fW X.K f))(he:PE X e (fW X.K g))
  (hbase:wu o "join" X.env (eval o X.env)=eval o X.env:=by rfl)
  (hfew:((iu cpos (bO [e] X.env)).all (λx=>!x.1)&&(z6 cpos (zV [] X.env)).all (λx=>x.1.isSome)
   &&decide (([e]:List Expr).length+([]:List oY).length+(if([]:List oY).isEmpty then 0 else 1)<30))=ao:=by rfl)
  (hline:(apos.endLine==cpos.line)=ao:=by rfl)(hs:bO [e] X.env=(aL,eval e X.env)::bO [] X.env:=by rfl)(hplain:(iu cpos (bO [] X.env)).any (·.1)=aL:=by rfl):
  PE X (.Call (.Attribute o "join" apos) [e] [] cpos) (tE X.K (ux f g)):=
 (Hi PySem.F.plainAttrs_str PySem.F.slot_str_join PySem.F.type_str_join (uD.r alf) ho (oX he rA hs) hbase hfew hline hs hplain).weak λσ H Q aW=>by
  obtain⟨Z,Θ,env,C,r,env',C',S,hf,q⟩:=aW
  unfold ux aP at hf;split at hf
  case h_2=>cases hf
  rename_i x e1 C1 h1;split at hf
  case h_2=>cases hf
  rename_i y e2 C2 h2;split at hf
  case h_2=>cases hf
  rename_i r0 h3;cases hf
  refine⟨Z,Θ,env,C,x,e1,C1,S,h1,λv H1 k1 f1 S1 b1=>?_⟩
  unfold Mt at h3;split at h3
  case h_2=>cases h3
  rename_i z ds;split at h3
  case h_2=>cases h3
  rename_i ys hys;split at h3
  case isFalse=>cases h3
  rename_i hl;cases h3;cases b1.str
  refine⟨rfl,Z,Θ,e1,C1,_,e2,C',S1,h2,λw H2 k2 f2 S2 b2=>?_⟩
  obtain⟨a,vs,rfl,ha,rr⟩:=b2.lst
  rw[Ti hys rr] at ha;have kk:=k1.trans k2
  refine⟨z,a,ys,rfl,rfl,bU.of ha,by unfold gM at hl;lia,?_⟩
  exact q _ H2 kk ((f1.trans f2).rst _) (Res.rst S kk ⟨S2,rfl⟩)
abbrev FO:=En->Ce->Option (Option Int×Ce)
inductive Ir(K:aQ)(f:FO)(σ:St)(H:Hp)(Q:Option Int->Hp->Prop):Prop
 |mk (Z Θ:List aq) (env:En) (C:Ce) (o:Option Int) (C':Ce) (S:Sm K Z Θ env C σ H) (hf:f env C=aa (o,C')) (q:∀H',bu Θ H H'->Sm K Z Θ env C' σ H'->Q o H'):Ir K f σ H Q
def gB:FO:=λ_ C=>aa (aj,C)
def dJ(f:FB):FO:=λenv C=>match f env C with
 |some (.int i,_,C1)=>aa (aa i,C1)
 |_=>aj
def jx{α:Type}(xs:List α)(lo hi:Option Int):List α:=(xs.drop (HT.cP xs.length 0 lo)).take (HT.cP xs.length xs.length hi-HT.cP xs.length 0 lo)
def nP(lo hi:Option Int):aC->Option Vl
 |.str z=>if z.length<=gM then aa (.im (.str (Txt.slice z lo hi))) else aj
 |.list ds=>aa (.ow (.list (jx ds lo hi)))
 |.tuple ds=>aa (.im (.tuple (jx ds lo hi)))
 |_=>aj
def fD(f:FB)(lo hi:FO):FE:=λenv C=>match f env C with
 |some (d,e1,C1)=>match lo e1 C1 with
  |some (l,C2)=>match hi e1 C2 with
   |some (h,C3)=>match nP l h d with
    |some r=>aa (r,rst r env e1,C3)
    |none=>aj
   |none=>aj
  |none=>aj
 |none=>aj
theorem Ui{E:Hp}{ds:List aC}{vs:List V}{lo hi:Option Int}(r:cU E ds vs):cU E (jx ds lo hi) (uz vs lo hi):=by
 unfold jx uz;rw[jA r];exact abk _ (abl _ r)
section
variable{X:Cx}{e:Expr}{lo hi:Option Expr}{pos p2:Pos}
theorem PO.weak(h:PO X o t)(w:∀σ H Q,t' σ H Q->t σ H Q):PO X o t':=λpins s σ H Q I q=>h pins s σ H Q I (w σ H Q q)
theorem nq:PO X aj (Ir X.K gB):=ak3.weak λσ H Q aW=>by
 obtain⟨Z,Θ,env,C,o,C',S,hf,q⟩:=aW
 cases hf;exact q H (bu.refl _ _) S
theorem jt(h:PE X e (fW X.K f)):PO X (aa e) (Ir X.K (dJ f)):=(ak4 h).weak λσ H Q aW=>by
 obtain⟨Z,Θ,env,C,o,C',S,hf,q⟩:=aW
 unfold dJ at hf;split at hf
 .rename_i i e1 C1 h1;cases hf
  exact⟨Z,Θ,env,C,_,e1,C',S,h1,λv H1 k f S1 b1=>⟨i,b1,q H1 k (S.go k S1.cell)⟩⟩
 .cases hf
theorem kY{f:FB}{flo fhi:FO}(he:PE X e (fW X.K f))(hl:PO X lo (Ir X.K flo))(hh:PO X hi (Ir X.K fhi)):PE X (.Subscript e (.Slice lo hi aj p2) pos) (tE X.K (fD f flo fhi)):=(ajN ((amU.or ak6).or aln) he hl hh).weak λσ H Q aW=>by
 obtain⟨Z,Θ,env,C,r,env',C',S,hf,q⟩:=aW
 unfold fD at hf;split at hf
 case h_2=>cases hf
 rename_i d e1 C1 h1;split at hf
 case h_2=>cases hf
 rename_i l C2 h2;split at hf
 case h_2=>cases hf
 rename_i h C3 h3;split at hf
 case h_2=>cases hf
 rename_i r0 h4;cases hf
 refine⟨Z,Θ,env,C,d,e1,C1,S,h1,λv H1 k1 f1 S1 b1=>⟨Z,Θ,e1,C1,l,C2,S1,h2,λH2 k2 S2=>⟨Z,Θ,e1,C2,h,C',S2,h3,λH3 k3 S3=>?_⟩⟩⟩
 have kk:=(k1.trans k2).trans k3;have b3:=b1.go S1 (k2.trans k3) (Fz.refl _);have fin:∀{w:V}{H4:Hp},bu Θ H3 H4->Res X.K Z Θ e1 C' σ H3 H4 r w->Q w H4:=λ{w H4} k4 R=>q w H4 (kk.trans k4) (f1.rst _) ((R.from kk).rst S (kk.trans k4))
 cases d<;>first|cases h4|skip
 .rename_i z;simp only[nP] at h4;split at h4
  .rename_i hz;cases h4;cases b3.str;exact .inl (.inl ⟨z,rfl,u5 hz,fin (bu.refl _ _) (jN S3 rfl rfl)⟩)
  .cases h4
 .obtain⟨a,vs,rfl,ha,rr⟩:=b3.lst
  exact .inl (.inr ⟨a,vs,rfl,bU.of ha,λp hp=>fin (bu.upd hp) (pL S3 (Ui rr) hp)⟩)
 .rename_i ds;have b3':=b3
  obtain⟨a,vs,rfl,ha,rr⟩:=b3.tup
  refine .inr ⟨a,vs,rfl,dD.of ha,λec=>?_,λp hp=>fin (bu.upd hp) (Ls S3 (Ui rr) hp)⟩;have rc:=Ui (lo:=l) (hi:=h) rr;rw[ec] at rc;refine fin (bu.refl _ _) ⟨S3,a,vs,rfl,DG S3 ha,rc⟩
end
def sU(T:iT)(ft:FT)(fk fv:FE)(fs:En):List aC->List (aC×aC)->Ce->Option (List (aC×aC)×Ce)
 |[],acc,C=>aa (acc,C)
 |d::r,acc,C=>match zp T d with
  |some ts=>match ft (fM ts++fs) C with
   |some (false,C1)=>sU T ft fk fv fs r acc C1
   |some (true,C1)=>match fk (fM ts++fs) C1 with
    |some (.im k,_,C2)=>match fv (fM ts++fs) C2 with
     |some (x,_,C3)=>match still x,dm k with
      |.im y,some kk=>if acc.length<gM then sU T ft fk fv fs r (pW dm kk k y acc) C3 else aj
      |_,_=>aj
     |none=>aj
    |_=>aj
   |none=>aj
  |none=>aj
def yV:List (aC×aC)->Bool
 |[]=>ao
 |p::r=>mj p.2&&yV r
def zq(fi:FI)(T:iT)(ft:FT)(fk fv:FE)(js:List Nat):FE:=λenv C=>match fi env C with
 |some (its,e1,C1)=>match sU T ft fk fv (frB js e1) its [] C1 with
  |some (kvs,C2)=>aa (.ow (.dict kvs),if yV kvs then e1 else iU js e1,C2)
  |none=>aj
 |none=>aj
theorem ju.mj(t:∀a vs,H a=aa (.tup vs)->H' a=aa (.tup vs)):∀{ds:List (aC×aC)}{vs:List V},yV ds=ao->ju H ds vs->ju H' ds vs
 |[],_,_,h=>h
 |(k,d)::ds,vs,n,h=>by
  obtain⟨v,r,e,q,w⟩:=h
  have n':L2.mj d=ao/\yV ds=ao:=by rw[yV,jX] at n;exact n
  exact⟨v,r,e,RZ.mj t n'.1 q,ju.mj t n'.2 w⟩
def Wf(fk fv:FE):En->List (aC×aC)->Ce->Option (List (aC×aC)×Ce):=λenv acc C=>(fk env C).bind λp=>(uF p.1).bind λk=>(fv env p.2.2).bind λq=>(uF (still q.1)).bind λy=>(dm k).bind λkk=>bif decide (acc.length<gM) then aa (pW dm kk k y acc,q.2.2) else aj
theorem Uj:∀{its:List aC}{acc:List (aC×aC)}{C:Ce},sU T ft fk fv fs its acc C=aa p->vH T ft (Wf fk fv) fs its acc C=aa p
 |[],acc,C,h=>h
 |d::r,acc,C,h=>by
  unfold sU at h;unfold vH;split at h
  case h_2=>cases h
  rename_i ts ht;rw[ht,ir];split at h
  case h_3=>cases h
  .rename_i C1 hf;rw[hf,ir];exact Uj h
  .rename_i C1 hf;rw[hf,ir]
   show(Wf fk fv (fM ts++fs) acc C1).bind _=_
   unfold Wf;split at h
   case h_2=>cases h
   rename_i k e2 C2 hk;rw[hk,ir,show uF (.im k)=aa k from rfl,ir];split at h
   case h_2=>cases h
   rename_i x e3 C3 hx;rw[hx,ir];split at h
   case h_2=>cases h
   rename_i y kk hy hkk;rw[hy,show uF (.im y)=aa y from rfl,ir,hkk,ir];split at h
   case isFalse=>cases h
   rename_i hl;rw[dZ hl];exact Uj h
inductive N5(P:List aq)(D:aq)(acc:List (aC×aC))(H:Hp):Prop
 |mk (ks:List Key) (vs:List V) (hk:cW dm acc=aa ks) (hD:H D=aa (.dK (ks.zip vs))) (r:ju (er P H) acc vs):N5 P D acc H
theorem alG{K:aQ}{fi:FI}{T:iT}{ft:FT}{fk fv:FE}{js:List Nat}:∀σ H Q,tE K (zq fi T ft fk fv js) σ H Q->tDC K (tI K ao fi) T (λ_=>gF K ft) (λ_=>tE K fk) (λ_=>tE K fv) js σ H Q:=by
 rintro σ H Q ⟨Z,Θ,env,C,res,env',C',S,hf,q⟩;unfold zq at hf;split at hf
 case h_2=>cases hf
 rename_i its e1 C1 h1;split at hf
 case h_2=>cases hf
 rename_i kvs C2 h2;cases hf
 refine⟨Z,Θ,env,C,its,e1,C1,S,h1,λJ H1 k1 f1 S1 it D hD b=>?_⟩
 have tD:D∉Θ:=λm=>(S1.cell.dom D m).ne hD
 have W4:D∈bG (mQ D Z (iU js e1) σ) Θ [] []:=(qD (js:=js) rfl).mpr (.inl rfl);have Fe:∀a Hx Hy,bu Θ Hx Hy->N5 (bG (mQ D Z (iU js e1) σ) Θ [] []) D a Hx->N5 (bG (mQ D Z (iU js e1) σ) Θ [] []) D a Hy:=λa Hx Hy kk r=>by
  obtain⟨ks,vs,g1,g2,g3⟩:=r
  exact⟨ks,vs,g1,kk.keep _ _ g2 tD,g3.same (m9 kk (λa m=>kE.mpr (.inr (.inl m))) λa m=>.inl m)⟩
 refine Te (a0:=[]) (Ob:=N5 (bG (mQ D Z (iU js e1) σ) Θ [] []) D) S1 it hD ⟨[],[],rfl,fG,rfl⟩ Fe (λa Hx r=>by obtain⟨ks,vs,_,e,_⟩:=r;exact⟨_,e,λ_ z=>nomatch z⟩) ?_ (Uj h2) λH2 ki ci r=>?_
 .intro ts acc C2 p vs H4 Q hs S4 k4 r4 hQ
  obtain⟨w,hfk,hs⟩:=jZ hs
  obtain⟨kd,Wg,hs⟩:=jZ hs
  obtain⟨w2,hfv,hs⟩:=jZ hs
  obtain⟨yd,uI,hs⟩:=jZ hs
  obtain⟨kk,hkd,hs⟩:=jZ hs
  have Wg:=G7 Wg;have uI:=G7 uI;cases hlt:decide (acc.length<gM) with
  |false=>rw[hlt] at hs;cases hs
  |true=>
  rw[hlt] at hs;cases hs
  refine⟨_,Θ,_,C2,w.1,w.2.1,w.2.2,S4,hfk,λy H5 k5 f5 R5=>?_⟩
  rw[Wg] at R5;have S5:=S4.go k5 R5.1.cell
  refine⟨_,Θ,_,w.2.2,w2.1,w2.2.1,w2.2.2,S5,hfv,λz H6 k6 f6 R6=>?_⟩
  obtain⟨S6,r6⟩:=R6.sJ uI
  obtain⟨ks,xr,hks,hD6,r6'⟩:=Fe _ _ _ (k5.trans k6) r4
  have W5:cg w2.2.1 (vs.map aa++frees js σ)=[]:=by
   have:=(Fz.own (σ:=vs.map aa++frees js σ) f6)
   rw[DW Ms] at this;exact agF.mp this
  have e6:er (bG (mQ D Z (iU js e1) σ) Θ w2.2.1 (vs.map aa++frees js σ)) H6=er (bG (mQ D Z (iU js e1) σ) Θ [] []) H6:=uq λa=>by rw[qD (js:=js) W5,qD (js:=js) rfl]
  rw[e6] at r6
  obtain⟨ks',vs',g3,g4,g5⟩:=Lz hkd r6 hks r6'
  have lt:=of_decide_eq_true hlt
  refine⟨ks.zip xr,kk,hD6,adl hkd R5.2,?_,hQ _ (Vb (Hy:=H6) hD ((k4.trans k5).trans k6)) (K8 tD S6.cell) ⟨ks',vs',g3,by rw[g5];exact fG,?_⟩⟩
  .rw[Ju,jq,wF hks];unfold gM at lt;lia
  .rw[Mp W4];exact g4
 .obtain⟨ks,xr,hks,hDi,ri⟩:=r
  refine q _ H2 (k1.trans ki) ?_ ?_
  .split
   .exact f1
   .exact f1.trans (DR js e1)
  .refine⟨D,rfl,k1.none hD,?_⟩
   split
   .rename_i hn;have SD:=S1.Aq hD ki ⟨_,hDi,λ_ z=>nomatch z⟩ ci
    exact⟨SD,xr,.inl ⟨ks,hks,hDi⟩,ri.mj (λa vs e=>DG SD (jr e)) hn⟩
   .refine⟨(S1.fz (DR js e1)).Aq hD ki ⟨_,hDi,λ_ z=>nomatch z⟩ ci,xr,.inl ⟨ks,hks,hDi⟩,?_⟩
    rw[uq (P':=bG (D::Z) Θ (iU js e1) σ) λa=>by rw[qD (js:=js) rfl];show _↔a∈D::bG Z Θ (iU js e1) σ;rw[cM]] at ri;exact ri
section
variable{X:Cx}{NT NF:List Str}{js:List Nat}{kx vx tg iter:Expr}{ifs:List Expr}{T:iT}{fi:FI}{ft:FT}{fk fv:FE}{scope:kJ}{pos:Pos}
theorem abz(B:rC X NT NF js scope)(tk:qK tg NT T)(hc:X.calm=ao)(hu:X.A.units+1<jc)(hi:PI X tg iter (tI X.K ao fi))
  (hin:∀b,pC (X.bk (NT++NF) scope b) ifs (gF X.K ft)/\PE (X.bk (NT++NF) scope b) kx (tE X.K fk)/\PE (X.bk (NT++NF) scope b) vx (tE X.K fv))
  (hsw:uY (.DictComp kx vx [⟨tg,iter,ifs,0⟩] scope pos) (aa (.Name y pos')) spos.line X.env=pure ao)(hN:X.N.Nodup)(hI:X.N[i]?=aa y)(hy:X.env.scope.names.lookup y=aa .local)
  (hs:∀x,vY iter X.env x=pure x:=by intro _;rfl):PS X (.Assign [.Name y pos'] (.DictComp kx vx [⟨tg,iter,ifs,0⟩] scope pos) spos) (tS X.K (cQ i (zq fi T ft fk fv js))):=(ajW B tk hc hu hi hin hsw hN hI hy hs).weak (S9 alG)
end
section
variable{X:Cx}
theorem aht(hc:X.calm=ao):iI X (.type "list") (λxs H Q=>∃(d:aq)(kvs:List (Key×V)),xs=[.ref d]/\H d=aa (.dK kvs)/\∀l,H l=aj->Q (.ref l) (upd H l (.lst (kvs.map λkv=>kV kv.1)))):=by
 intro pins s σ H xs us Q I r h
 obtain⟨d,kvs,rfl,hd,q⟩:=h
 obtain⟨u,rfl,ru⟩:=vals1 r
 cases ru
 obtain⟨z,lo,vs,rel,dd⟩:=I.hok d _ hd
 obtain⟨ep,da⟩:=dd.dictAt
 have lv:vs.length=kvs.length:=(Paired.length rel).symm;refine kdl_call (kdl_dict (knd:=jb X.prog X.w) (ep:=ep) lo) (I.ok.hd hc) da (by rw[lv];exact z) λh' tk acc' c' kp e hacc=>?_
 have hl:Vals (kvs.map λkv=>kV kv.1) acc'.toList:=by
  have h2:acc'.toList.length=vs.length:=by rw[nD];exact hacc.1
  have h3:∀i v,acc'.toList[i]?=aa v->∃k x,vs[i]?=aa (k,x)/\(jb X.prog X.w).is k v=ao:=λi v e=>hacc.2 i v (by rw[<-Fj];exact e)
  clear e hacc dd da;generalize acc'.toList=us at h2 h3;clear hd q z lv;induction rel generalizing us with
  |nil=>
   cases us with
   |nil=>exact .nil
   |cons _ _=>cases h2
  |@cons p w ps ws hp _ ih=>
   cases us with
   |nil=>cases h2
   |cons u us=>
    refine .cons ?_ (ih us (by simpa using h2) λi v e=>by simpa using h3 (i+1) v (by simpa using e))
    obtain⟨k,x,e1,e2⟩:=h3 0 u rfl
    simp at e1;have ek:k=p.1:=by rw[hp.1,e1]
    subst ek;rcases tW e2 with⟨i,t,e3,e4⟩|⟨y,t,e3,e4⟩
    .show RelV (kV p.1) u;rw[e3,e4];exact⟨t,rfl⟩
    .show RelV (kV p.1) u;rw[e3,e4];exact⟨t,rfl⟩
 refine⟨.ref s.heap.objs.size,_,I.laid (t':=tk) kp (cz _) (show gj X.prog X.w _ h' _ (.lst (kvs.map λkv=>kV kv.1)) from⟨by rw[bz];exact z,acc'.toList,c',hl,by simpa using e⟩),rfl,q _ (I.hok.fresh (cz _))⟩
def yx:List aC->Option Vl
 |[.list ds]=>aa (.ow (.list ds))
 |[.tuple ds]=>aa (.ow (.list ds))
 |[.dict kvs]=>if(cW dm kvs).isSome then aa (.ow (.list (kvs.map (·.1)))) else aj
 |_=>aj
def ady(K:aQ):List V->Hp->VK->Prop:=λxs H Q=>(∃p ys,xs=[.ref p]/\(bU K H p ys\/dD K H p ys)/\∀l,H l=aj->Q (.ref l) (upd H l (.lst ys)))\/∃(d:aq)(kvs:List (Key×V)),xs=[.ref d]/\H d=aa (.dK kvs)/\∀l,H l=aj->Q (.ref l) (upd H l (.lst (kvs.map λkv=>kV kv.1)))
theorem Rn(hc:X.calm=ao):iI X (.type "list") (ady X.K):=aho.or (aht hc)
theorem abA:∀{kvs:List (aC×aC)}{ks:List Key}{vs:List V},cW dm kvs=aa ks->ks.length=vs.length->cU E (kvs.map (·.1)) ((ks.zip vs).map λkv=>kV kv.1)
 |[],ks,vs,h,_=>by cases h;rfl
 |(p,d)::kvs,ks,vs,h,hl=>by
  unfold cW at h;split at h
  .rename_i k t h1 h2;cases h;cases vs with
   |nil=>cases hl
   |cons v vs=>
    refine⟨_,_,rfl,?_,abA h2 (by simpa using hl)⟩
    cases p<;>first|(cases h1;rfl)|cases h1
  .cases h
theorem Tp{K:aQ}:mC K (ady K) yx:=by
 intro Z Θ env C σ H xs ds res S b e Q q;unfold yx at e;split at e
 case h_4=>cases e
 .cases e
  obtain⟨v,rfl,bb⟩:=o9 b
  obtain⟨a,vs,rfl,ha,r⟩:=bb.lst
  exact .inl ⟨a,vs,rfl,.inl (bU.of ha),λl hl=>q _ _ (bu.upd hl) (pL S r hl)⟩
 .cases e
  obtain⟨v,rfl,bb⟩:=o9 b
  obtain⟨a,vs,rfl,ha,r⟩:=bb.tup
  exact .inl ⟨a,vs,rfl,.inr (dD.of ha),λl hl=>q _ _ (bu.upd hl) (pL S r hl)⟩
 .split at e
  case isFalse=>cases e
  rename_i kvs hs;cases e
  obtain⟨v,rfl,bb⟩:=o9 b
  obtain⟨a,vs,rfl,da,r⟩:=bb.dct
  rcases da with⟨ks,h1,ha⟩|⟨ks,⟨ne,h2⟩,ha⟩
  .exact .inr ⟨a,_,rfl,ha,λl hl=>q _ _ (bu.upd hl) (pL S (abA h1 (by rw[wF h1,Dp r])) hl)⟩
  .obtain⟨ks',h1⟩:=zx.mp hs
   exact absurd (yo h1 h2) ne
def Uk:List aC->Option Vl
 |[.dict []]=>aj
 |[.dict ((k,v)::r)]=>match rH k with
  |some (b::sh)=>if r.length<63/\(((k,v)::r).all λp=>decide (rH p.1=aa (b::sh)))=ao then aa (.ow (.list (rJ (((k,v)::r).map (·.1))))) else aj
  |_=>aj
 |_=>aj
theorem aaI:∀{kvs:List (aC×aC)}{ks:List (List Key)},cW sI kvs=aa ks->(∀p∈kvs,rH p.1=aa sh)->kvs.map (·.1)=ks.map (λk=>.tuple (k.map jJ))/\∀k∈ks,k.map cJ=sh
 |[],ks,h,_=>by cases h;exact⟨rfl,λ_ m=>(nomatch m)⟩
 |(p,d)::kvs,ks,h,hs=>by
  unfold cW at h;split at h
  .rename_i k t h1 h2;cases h
   obtain⟨g1,g2⟩:=aaI h2 λq m=>hs q (gh _ m)
   have hp:=hs (p,d) dH
   obtain⟨xs,rfl,hx⟩:∃xs,p=.tuple xs/\keysOf xs=aa k:=by
    have h1':sI p=aa k:=h1;cases p with
    |tuple xs=>exact⟨xs,rfl,h1'⟩
    |_=>cases h1'
   have hp:(keysOf xs).map (λks=>ks.map cJ)=aa sh:=hp;rw[hx] at hp
   refine⟨by rw[cO,g1,K9 hx];rfl,λk' m=>?_⟩
   rcases cM.mp m with rfl|m
   .exact gH hp
   .exact g2 k' m
  .cases h
theorem akk{K:aQ}:mC K (λxs H Q=>∃(d:aq)(kvs:List (List Key×V))(b:Bool)(sh:List Bool),xs=[.ref d]/\H d=aa (.dT kvs)/\kvs.length<64/\(∀kv∈kvs,kv.1.map cJ=b::sh)/\
  ∀(l:aq)(rows:List Row),H l=aj->(rows.map (·.2)).Perm (kvs.map (·.1))->rows.map (·.2)=uB (kvs.map (·.1))->(∀r∈rows,H r.1=aa (.tup (r.2.map kV)))->Q (.ref l) (upd H l (.lst (rows.map λr=>V.ref r.1)))) Uk:=by
 intro Z Θ env C σ H xs ds res S b e Q q;unfold Uk at e;split at e
 .cases e
 .rename_i k0 v0 r0;split at e
  case h_2=>cases e
  rename_i b0 sh hsh;split at e
  case isFalse=>cases e
  rename_i hall;cases e;have hall':∀p∈(k0,v0)::r0,rH p.1=aa (b0::sh):=λd m=>of_decide_eq_true (qw.mp hall.2 d m)
  obtain⟨v,rfl,bb⟩:=o9 b
  obtain⟨a,vs,rfl,da,r⟩:=bb.dct
  rcases da with⟨ks,h1,ha⟩|⟨ks,⟨ne,h2⟩,ha⟩
  .exfalso;unfold cW at h1;split at h1
   .rename_i k' t g1 g2;have g1:dm k0=aa k':=g1;cases k0<;>first|cases g1|skip
    all_goals cases hsh
   .cases h1
  .obtain⟨e1,e2⟩:=aaI h2 hall'
   have lk:=wF h2;have lr:=Dp r;have ez:(ks.zip vs).map (·.1)=ks:=by
    rw[agG];rw[lk,lr];exact cz _
   refine⟨a,ks.zip vs,b0,sh,rfl,ha,?_,λkv m=>e2 kv.1 (Px (a:=kv.1) (b:=kv.2) m).1,λl rows hn p hp hr=>?_⟩
   .rw[Ju,lk,lr,dw];lia
   .rw[ez] at hp;have ek:(((k0,v0)::r0).map (·.1)).map yN=ks:=by
     rw[e1,gZ]
     refine(xR λk _=>?_).trans (JX ks)
     show(keysOf (k.map jJ)).getD []=k
     rw[Gs];rfl
    have es:(rows.map λr=>oV (r.2.map jJ))=rJ (((k0,v0)::r0).map (·.1)):=by
     unfold rJ;rw[ek,<-hp,gZ];rfl
    rw[<-es] at q;exact q _ _ (bu.upd hn) (pL S (Gu λr m=>DG S (hr r m)) hn)
 .cases e
theorem adz{K:aQ}{r r':List V->Hp->VK->Prop}{op op':List aC->Option Vl}(h:mC K r op)(h':mC K r' op'):mC K (λxs H Q=>r xs H Q\/r' xs H Q) (λds=>match op ds with|some z=>aa z|none=>op' ds):=by
 intro Z Θ env C σ H xs ds res S b e Q q;cases h1:op ds with
 |some z=>
  simp only[h1] at e;cases e;exact .inl (h Z Θ env C σ H xs ds _ S b h1 Q q)
 |none=>
  simp only[h1] at e;exact .inr (h' Z Θ env C σ H xs ds res S b e Q q)
end
def qL:List aC->List aC->List aC
 |x::xs,y::ys=>.tuple [x,y]::qL xs ys
 |_,_=>[]
theorem acI:∀{xs ys:List aC}{i:Nat}{d:aC},(qL xs ys)[i]?=aa d->∃x y,xs[i]?=aa x/\ys[i]?=aa y/\d=.tuple [x,y]
 |[],_,i,d,h=>by simp[qL] at h
 |_::_,[],i,d,h=>by simp[qL] at h
 |x::xs,y::ys,0,d,h=>by
  simp[qL] at h
  exact⟨x,y,rfl,rfl,h.symm⟩
 |x::xs,y::ys,i+1,d,h=>by
  obtain⟨a,b,h1,h2,h3⟩:=acI (i:=i) (by simpa[qL] using h)
  exact⟨a,b,by simpa using h1,by simpa using h2,h3⟩
theorem abB:∀{xs ys:List aC},(qL xs ys).length=min xs.length ys.length
 |[],_=>by simp[qL]
 |_::_,[]=>by simp[qL]
 |x::xs,y::ys=>by simp[qL,abB,Nat.succ_min_succ]
theorem anc{K:aQ}{P T:List aq}{H:Hp}{a b:aq}{ds es:List aC}{vs ws:List V}(ha:er T H a=aa (.lst vs))(hb:er T H b=aa (.lst ws))(r1:cU (er P H) ds vs)(r2:cU (er P H) es ws):yU P T H (WK K a b) (qL ds es):=λi H2 P2 s1 s2 n=>by
 have h2:bU K H2 a vs:=bU.of (jr (s2 _ _ ha));have h3:bU K H2 b ws:=bU.of (jr (s2 _ _ hb))
 refine⟨λd hd=>?_,λhi=>⟨vs,ws,h2,h3,by rw[hi,abB,jA r1,jA r2]⟩⟩
 obtain⟨x,y,e1,e2,rfl⟩:=acI hd
 obtain⟨v,ev,rv⟩:=wN r1 e1
 obtain⟨w,ew,rw'⟩:=wN r2 e2
 refine⟨⟨vs,ws,h2,h3,?_⟩,λz H3 yl=>?_⟩
 .have l1:=(jW.mp ev).1;have l2:=(jW.mp ew).1;lia
 .obtain⟨p,v',w',hp,rfl,rfl,hh⟩:=yl
  obtain⟨g1,g2⟩:=hh vs ws h2 h3
  rw[ev] at g1;rw[ew] at g2;cases g1;cases g2;have sp:bW H2 (upd H2 p (.tup [v,w])):=bW.upd hp
  refine⟨sp,p,[v,w],rfl,?_,v,[w],rfl,rv.same (s1.trans (T9 sp)),w,[],rfl,rw'.same (s1.trans (T9 sp)),rfl⟩
  unfold er;rw[bJ (λm=>n p m hp),fG]
def Iu(f:zg):FI:=λenv C=>match f env C with
 |some ([.list xs,.list ys],e1,C1)=>aa (qL xs ys,e1,C1)
 |_=>aj
theorem adA(hg:Gl X "zip")(hm:X.mg "zip"=aj)(ha:PA X [x,y] (xJ X.K f))(hs:bO [x,y] X.env=[(aL,eval x X.env),(aL,eval y X.env)]:=by rfl)(hs2:bO [y] X.env=[(aL,eval y X.env)]:=by rfl):
  PI X (.Tuple es k ps) (.Call (.Name "zip" p) [x,y] [] pos) (tI X.K ao (Iu f)):=(amX hg hm ha hs hs2).weak λσ H R aW=>by
 obtain⟨Z,Θ,env,C,its,env',C',S,hf,q⟩:=aW
 unfold Iu at hf;split at hf
 case h_2=>cases hf
 rename_i xs ys e1 C1 h1;cases hf
 refine⟨Z,Θ,env,C,_,env',C',S,h1,λvs H1 k f S1 b1=>?_⟩
 cases b1 with
 |cons b1 b2=>
  cases b2 with
  |cons b2 b3=>
   cases b3
   obtain⟨a,vs1,rfl,ha,r1⟩:=b1
   obtain⟨b,vs2,rfl,hb,r2⟩:=b2
   exact⟨a,b,vs1,vs2,rfl,bU.of (jr ha),bU.of (jr hb),q _ H1 k f S1 (anc ha hb r1 r2)⟩
section
variable{X:Cx}{tg e:Expr}
def Wh:aC->Option (List aC)
 |.list ds=>aa ds
 |.tuple ds=>aa ds
 |_=>aj
def vV(f:FB):FI:=λenv C=>match f env C with
 |some (d,e1,C1)=>match Wh d with
  |some its=>aa (its,e1,C1)
  |none=>aj
 |none=>aj
def Iv(f:FE):FI:=λenv C=>match f env C with
 |some (r,e1,C1)=>match still r with
  |.im d=>match Wh d with
   |some its=>aa (its,e1,C1)
   |none=>aj
  |_=>aj
 |none=>aj
theorem Hs(h:PE X e (fW X.K f)):PI X tg e (tI X.K ao (vV f)):=((Lj h).or (Mh h)).weak λσ H R aW=>by
 obtain⟨Z,Θ,env,C,its,env',C',S,hf,q⟩:=aW
 unfold vV at hf;split at hf
 .rename_i d e1 C1 h1;split at hf
  .rename_i ys hi;cases hf;cases d<;>first|cases hi|skip
   .refine .inl ⟨Z,Θ,env,C,_,env',C',S,h1,λv H1 k f S1 b=>?_⟩
    obtain⟨a,vs,rfl,ha,r⟩:=b
    exact⟨a,rfl,⟨vs,bU.of (jr ha)⟩,q _ H1 k f S1 (LC ha r)⟩
   .refine .inr ⟨Z,Θ,env,C,_,env',C',S,h1,λv H1 k f S1 b=>?_⟩
    obtain⟨a,vs,rfl,ha,r⟩:=b
    exact⟨a,rfl,⟨vs,dD.of (jr ha)⟩,q _ H1 k f S1 (Mr ha r)⟩
  .cases hf
 .cases hf
theorem aoa(h:PE X e (tE X.K f)):PI X tg e (tI X.K aL (Iv f)):=((Lj h).or (Mh h)).weak λσ H R aW=>by
 obtain⟨Z,Θ,env,C,its,env',C',S,hf,q⟩:=aW
 unfold Iv at hf;split at hf
 .rename_i r e1 C1 h1;split at hf
  .rename_i d hd;split at hf
   .rename_i ys hi;cases hf;cases d<;>first|cases hi|skip
    .refine .inl ⟨Z,Θ,env,C,_,env',C',S,h1,λv H1 k f R=>?_⟩
     obtain⟨S1,a,vs,rfl,ha,r⟩:=R.sJ hd
     exact⟨a,rfl,⟨vs,bU.of (jr ha)⟩,q _ H1 k f S1 (LC ha r)⟩
    .refine .inr ⟨Z,Θ,env,C,_,env',C',S,h1,λv H1 k f R=>?_⟩
     obtain⟨S1,a,vs,rfl,ha,r⟩:=R.sJ hd
     exact⟨a,rfl,⟨vs,dD.of (jr ha)⟩,q _ H1 k f S1 (Mr ha r)⟩
   .cases hf
  .cases hf
 .cases hf
theorem agU(hc:X.calm=ao):iI X (.builtin "sorted") (λxs H Q=>∃d:aq,xs=[.ref d]/\H d=aa (.dK [])/\∀l,H l=aj->Q (.ref l) (upd H l (.lst []))):=by
 intro pins s σ H xs us Q I r h
 obtain⟨d,rfl,hd,q⟩:=h
 refine bV (Yw hc pins s σ (upd H d (.dT [])) [.ref d] us (λv H'=>∃l,v=.ref l/\H l=aj/\H'=upd (upd H d (.dT [])) l (.lst [])) (I.NP hd) r ⟨d,[],ao,[],rfl,fG,by decide,(λ_ m=>nomatch m),λl rows hl p _ _=>?_⟩) λu s' ⟨v,H',I',rv,l,ev,hl,eH⟩=>?_
 .have:rows=[]:=by
   cases rows with
   |nil=>rfl
   |cons _ _=>exact absurd p.length_eq (by simp)
  subst this
  refine⟨l,rfl,?_,rfl⟩
  by_cases z:l=d
  .subst z;rw[fG] at hl;cases hl
  .rw[di z] at hl;exact hl
 .subst ev eH;have nd:d≠l:=qW hd hl;have e:upd (upd H d (.dT [])) l (.lst [])=upd (upd H l (.lst [])) d (.dT []):=by
   funext b;by_cases h1:b=l
   .subst h1;rw[fG,di (kI nd),fG]
   .rw[di h1];by_cases h2:b=d
    .subst h2;rw[fG,fG]
    .rw[di h2,di h2,di h1]
  rw[e] at I'
  exact⟨.ref l,_,I'.WQ (by rw[di nd];exact hd),rv,q l hl⟩
def Ul:List aC->Option Vl
 |[.dict []]=>aa (.ow (.list []))
 |_=>aj
theorem akl{K:aQ}:mC K (λxs H Q=>∃d:aq,xs=[.ref d]/\H d=aa (.dK [])/\∀l,H l=aj->Q (.ref l) (upd H l (.lst []))) Ul:=by
 intro Z Θ env C σ H xs ds res S b e Q q;unfold Ul at e;split at e
 case h_2=>cases e
 cases e
 obtain⟨v,rfl,bb⟩:=o9 b
 obtain⟨a,vs,rfl,da,r⟩:=bb.dct
 rcases da with⟨ks,h1,ha⟩|⟨ks,⟨ne,_⟩,_⟩
 .cases h1
  exact⟨a,rfl,ha,λl hl=>q _ _ (bu.upd hl) (pL S rfl hl)⟩
 .exact absurd rfl ne
def Ab(ds:List aC):Option Vl:=match Gr ds with
 |some z=>aa z
 |none=>match Uk ds with
  |some z=>aa z
  |none=>Ul ds
abbrev adB(K:aQ):List V->Hp->VK->Prop:=λxs H Q=>Vf K xs H Q\/((∃(d:aq)(kvs:List (List Key×V))(b:Bool)(sh:List Bool),xs=[.ref d]/\H d=aa (.dT kvs)/\kvs.length<64/\(∀kv∈kvs,kv.1.map cJ=b::sh)/\
  ∀(l:aq)(rows:List Row),H l=aj->(rows.map (·.2)).Perm (kvs.map (·.1))->rows.map (·.2)=uB (kvs.map (·.1))->(∀r∈rows,H r.1=aa (.tup (r.2.map kV)))->Q (.ref l) (upd H l (.lst (rows.map λr=>V.ref r.1))))\/∃d:aq,xs=[.ref d]/\H d=aa (.dK [])/\∀l,H l=aj->Q (.ref l) (upd H l (.lst [])))
theorem aaf(hc:X.calm=ao):iI X (.builtin "sorted") (adB X.K):=aim.or ((Yw hc).or (agU hc))
theorem abC{K:aQ}:mC K (adB K) Ab:=adz ajf (adz akk akl)
end
def VJ:FN:=λ_ _=>aj
theorem alH{P:bQ}{w:bK}{K:aQ}{mg:Str->Option Value}{base:bw}{f:aq}{fd:dO}{ps:List Str}:dI P w K mg base fP 0 f fd ps (spT K VJ):=by
 have no:∀vs H Q E,¬spT K VJ vs H Q E:=λvs H Q E ⟨_,_,_,_,_,_,_,_,h,_⟩=>nomatch h
 exact⟨λ_ _ _ _ h=>(no _ _ _ _ h).elim,λ_ _ _ _ _ _ _ _ _ _ _ _ _ h=>(no _ _ _ _ h).elim⟩
def uC(i:Nat)(f:FB):FE:=λenv C=>match env[i]? with
 |some (some (.ce n))=>match f env C with
  |some (.int k,_,C1)=>match C1[n]? with
   |some ns=>match fK ns k with
    |some z=>aa (.im (.int z),env,C1)
    |none=>aj
   |none=>aj
  |_=>aj
 |_=>aj
theorem Aj(ho:PE X o (rF i))(hk:PE X k (fW X.K f))(hs:Ln k):PE X (.Subscript o k pos) (tE X.K (uC i f)):=(Vz T6 ho hk hs).weak λσ H Q aW=>by
 obtain⟨Z,Θ,env,C,r,env',C',S,hf,q⟩:=aW
 unfold uC at hf;split at hf
 case h_2=>cases hf
 rename_i n h0;split at hf
 case h_2=>cases hf
 rename_i z e1 C1 h1;split at hf
 case h_2=>cases hf
 rename_i ns hns;split at hf
 case h_2=>cases hf
 rename_i y hy;cases hf
 obtain⟨v,ev,a,rfl,hth⟩:=S.slot i _ h0
 refine⟨_,ev,Z,Θ,env,C,_,e1,C',S,h1,λw H1 k1 f1 S1 b1=>?_⟩
 have S2:=S.go k1 S1.cell;have ha:=S1.cell.at_ n a ns hth hns
 refine⟨a,_,z,.int y,rfl,b1,bU.of ha,?_,q _ H1 k1 (Fz.refl _) ⟨S2,rfl⟩⟩
 unfold fK at hy⊢;rw[bz];cases hj:qb ns.length z with
 |none=>rw[hj] at hy;cases hy
 |some j=>
  rw[hj] at hy
  show(ns.map V.int)[j]?=_
  rw[iG,show ns[j]?=aa y from hy];rfl
def Bx(C:Ce)(b:Nat)(n:Int):Prop:=∃x y z:Int,C[b]?=aa [x,y,z]/\0<=x/\0<=y/\y<=3000000000/\0<=z/\z<=n
theorem Bx.mono(h:Bx C b n)(hm:n<=m):Bx C b m:=by
 obtain⟨x,y,z,h1,h2,h3,h4,h5,h6⟩:=h
 exact⟨x,y,z,h1,h2,h3,h4,h5,by lia⟩
theorem adC{C:Ce}{b:Nat}{l l':List Int}(h:C[b]?=aa l):(C.set b l')[b]?=aa l':=by
 rw[Fq,bC rfl,bC (jW.mp h).1]
theorem abD{C C':Ce}(h:C'.length=C.length):C'.take C.length=C':=afB (by lia)
theorem mul_eq(h:(-18446744073709551616<i/\i<18446744073709551616)\/(-18446744073709551616<j/\j<18446744073709551616)):lF (.int i) (.int j)=aa (.im (.int (i*j))):=by
 unfold lF;exact bC h
theorem mod_eq(h:0<j):lW (.int i) (.int j)=aa (.im (.int (i%j))):=by
 unfold lW;exact bC h
theorem fdiv_eq(h:0<j)(h1:j<1073741824):yC (.int i) (.int j)=aa (.im (.int (i / j))):=by
 unfold yC;exact bC ⟨h,h1⟩
theorem abE(I:Nat->En->Ce->Prop):∀{its:List aC}{env:En}{C:Ce}{k:Nat},I k env C->
  (∀i d env C,its[i]?=aa d->I (k+i) env C->∃e1 fl env' C',g d env=aa e1/\body e1 C=aa (fl,env',C')/\(fl=.nx\/fl=.ct)/\I (k+i+1) env' C')->
  ∃env' C',kO g body its env C=aa (.nx,env',C')/\I (k+its.length) env' C'
 |[],env,C,k,h,_=>⟨env,C,rfl,h⟩
 |d::r,env,C,k,h,st=>by
  obtain⟨e1,fl,ao7,C1,h1,h2,h3,h4⟩:=st 0 d env C rfl h
  obtain⟨aez,C2,h5,h6⟩:=abE I (its:=r) (env:=ao7) (C:=C1) (k:=k+1) h4 λi d' env C hd hi=>by
   have:=st (i+1) d' env C (by simpa using hd) (by rw[show k+(i+1)=k+1+i by lia];exact hi);rw[show k+(i+1)+1=k+1+i+1 by lia] at this;exact this
  refine⟨aez,C2,?_,by rw[dw,show k+(r.length+1)=k+1+r.length by lia];exact h6⟩
  unfold kO;rw[h1];simp only;rw[h2];rcases h3 with rfl|rfl<;>exact h5
theorem ym(I:Nat->En->Ce->Prop)(h:I 0 env C)
  (st:∀i d env C,its[i]?=aa d->I i env C->∃e1 fl env' C',g d env=aa e1/\body e1 C=aa (fl,env',C')/\(fl=.nx\/fl=.ct)/\I (i+1) env' C'):
  ∃env' C',kO g body its env C=aa (.nx,env',C')/\I its.length env' C':=by
 have:=abE I (k:=0) h λi d env C hd hi=>by
  rw[JM] at hi⊢;exact st i d env C hd hi
 rw[JM] at this;exact this
theorem Lb(lo:Int)(n:Nat):(jG lo n).length=n:=by unfold jG;rw[bz,mU]
theorem Ac{lo:Int}{n i:Nat}{d:aC}(h:(jG lo n)[i]?=aa d):d=.int (lo+i)/\i<n:=by
 unfold jG at h;rw[iG] at h;by_cases hi:i<n
 .rw[XR hi] at h
  exact⟨(gH h).symm,hi⟩
 .rw[Je (by rw[mU];lia)] at h;cases h
theorem aaJ(I:Nat->Ce->Prop)(R:Nat->aC->Prop):∀{its:List aC}{C:Ce}{k:Nat},I k C->(∀i d C,its[i]?=aa d->I (k+i) C->∃ts x e C' y,zp T d=aa ts/\fe (fM ts++fs) C=aa (x,e,C')/\still x=.im y/\R (k+i) y/\I (k+i+1) C')->
  ∃ys C',oG T gC fe fs its C=aa (ys,C')/\I (k+its.length) C'/\ys.length=its.length/\∀i y,ys[i]?=aa y->R (k+i) y
 |[],C,k,h,_=>⟨[],C,rfl,h,rfl,λi y e=>by simp at e⟩
 |d::r,C,k,h,st=>by
  obtain⟨ts,x,e,C1,y,h1,h2,h3,h4,h5⟩:=st 0 d C rfl h
  obtain⟨ys,C2,h6,h7,h8,h9⟩:=aaJ I R (its:=r) (C:=C1) (k:=k+1) h5 λi d' C hd hi=>by
   have:=st (i+1) d' C (by simpa using hd) (by rw[show k+(i+1)=k+1+i by lia];exact hi);rw[show k+(i+1)+1=k+1+i+1 by lia,show k+(i+1)=k+1+i by lia] at this;exact this
  refine⟨y::ys,C2,?_,by rw[dw,show k+(r.length+1)=k+1+r.length by lia];exact h7,by simp[h8],λi z hz=>?_⟩
  .unfold oG;simp only[h1,gC,h2,h3];rw[h6]
  .cases i with
   |zero=>simp at hz;subst hz;exact h4
   |succ i=>
    have:=h9 i z (by simpa using hz);rw[show k+(i+1)=k+1+i by lia];exact this
theorem Mu(h0:0<=k)(h1:k<xs.length):∃x,fK xs k=aa x/\xs[k.toNat]?=aa x:=by
 have hk:k.toNat<xs.length:=by lia
 refine⟨xs[k.toNat],?_,j7 hk⟩
 unfold fK qb;rw[bC h0,bC h1];exact j7 hk
def N6(z:Str):Bool:=z.cps.toList.all λc=>decide (97<=c)&&decide (c<=122)
def nameB(z:Str):Bool:=decide (1<=z.length)&&decide (z.length<=8)&&N6 z
abbrev abc:Str:=eZ "abcdefghijklmnopqrstuvwxyz"
theorem ane(r0:0<=r)(r1:r<26):fK abc.cps.toList r=aa (97+r.toNat):=by
 have h:∀k:Nat,k<26->fK abc.cps.toList (k:Int)=aa (97+k):=by decide +kernel
 have:=h r.toNat (by lia)
 rwa [Int.toNat_of_nonneg r0] at this
theorem aag:∀(l:List Nat)(a:Array Nat),((l.map λc=>(⟨#[c]⟩:Str)).foldl (λacc p=>acc++(eZ "").cps++p.cps) a).toList=a.toList++l
 |[],a=>by simp
 |c::r,a=>by
  simp only[cO,Js];rw[aag r];have e:(eZ "").cps=#[]:=by decide +kernel
  rw[e];simp
theorem aah:∀(l:List Nat),(Txt.join (eZ "") (l.map λc=>(⟨#[c]⟩:Str))).cps.toList=l
 |[]=>by decide +kernel
 |c::r=>by
  show(((r.map λc=>(⟨#[c]⟩:Str))).foldl (λacc p=>acc++(eZ "").cps++p.cps) #[c]).toList=c::r
  rw[aag r];rfl
theorem acJ:∀ys:List Nat,(ys.map ((λx:Str=>x.length) ∘ λc=>(⟨#[c]⟩:Str))).sum=ys.length
 |[]=>rfl
 |c::r=>by
  rw[cO,ag9,acJ r,dw];show 1+r.length=r.length+1;lia
theorem alI(hc:c∈(Txt.slice z l u).cps.toList):c∈z.cps.toList:=by
 unfold Txt.slice at hc;split at hc
 .exact hc
 .have hc':c∈((afl l u 1 z.length).filterMap (z.cps[·]?)):=by simpa using hc
  obtain⟨i,_,e⟩:=O2.mp hc'
  have:=afL e;simpa using this
def Names(zs:List Str):Prop:=zs.Nodup/\∀z∈zs,nameB z=ao
theorem Ld(z:Str)(zs:List Str):inD (.str z) (zs.map .str)=decide (z∈zs):=by
 unfold inD;rw[oU,Qv];simp[Ph,tH,toV]
theorem akm(h:nameB z=ao):1<=z.length/\z.length<=8/\∀c∈z.cps.toList,97<=c/\c<=122:=by
 unfold nameB N6 at h;simp only[jX,decide_eq_true_eq,qw] at h
 exact⟨h.1.1,h.1.2,h.2⟩
def Asc(z:Str):Prop:=∀c∈z.cps.toList,c<128
def qM(n:Nat)(z:Str):Prop:=Asc z/\z.length<=n
theorem qM.mono(h:qM n z)(hm:n<=m):qM m z:=⟨h.1,lR h.2 hm⟩
theorem qM.line(h:qM n z)(hn:n<=100000:=by lia):z.length<=cH:=alg (m:=100000) (lR h.2 hn)
theorem qM.slice(h:qM n z)(l u:Option Int):qM n (Txt.slice z l u):=by
 refine⟨λc hc=>?_,lR (Txt.slice_le z l u) h.2⟩
 unfold Txt.slice at hc;split at hc
 .exact h.1 c hc
 .have hc':c∈((afl l u 1 z.length).filterMap (z.cps[·]?)):=by simpa using hc
  obtain⟨i,_,e⟩:=O2.mp hc'
  refine h.1 c ?_;have:=afL e;simpa using this
theorem qM.add(h:qM n x)(g:qM m y):qM (n+m) (x++y):=by
 have e:(x++y).cps=x.cps++y.cps:=rfl
 refine⟨λc hc=>?_,?_⟩
 .rw[e] at hc;have:c∈x.cps.toList\/c∈y.cps.toList:=by simpa using hc
  exact this.elim (h.1 c) (g.1 c)
 .show(x++y).cps.size<=_
  rw[e,Yi];exact Nat.add_le_add h.2 g.2
theorem qM.name(h:nameB z=ao):qM 8 z:=by
 unfold nameB N6 at h;simp only[jX,decide_eq_true_eq,qw] at h
 exact⟨λc hc=>by have:=h.2 c hc;lia,h.1.2⟩
def iH(zs:List Str)(ps:List (Str×Str)):Prop:=∀(i:Nat)(x:Str×Str),ps[i]?=aa x->zs[i]?=aa x.1/\(x.2=eZ ""\/∃j,j<i/\zs[j]?=aa x.2)
theorem iH.snoc(h:iH zs ps)(ha:zs[ps.length]?=aa a)(hb:b=eZ ""\/∃j,j<ps.length/\zs[j]?=aa b):iH zs (ps++[(a,b)]):=by
 intro i x e;by_cases hi:i<ps.length
 .rw[qP hi] at e;exact h i x e
 .rw[qO (by lia)] at e;by_cases h0:i-ps.length=0
  .rw[h0] at e;cases e;have:i=ps.length:=by lia
   subst this
   exact⟨ha,hb⟩
  .rw[Je (by simp;lia)] at e;cases e
def jh(ps:List (Str×Str))(z:Str):Option Str:=(ps.find? λp=>decide (p.1=z)).map (·.2)
inductive Over(f:Str->Option Str):Str->List Str->Prop
 |stop {z:Str}:f z=aj->Over f z []
 |step {z y:Str} {r:List Str}:f z=aa y->Over f y r->Over f z (z::r)
structure W6(e B:Nat)(d:aC):Prop where
 ao8:d.showable=ao
 deep:d.depth<=e
 len:d.shown.length<=B
theorem W6.mono(h:W6 e B d)(he:e<=e')(hB:B<=B'):W6 e' B' d:=⟨h.ao8,lR h.deep he,lR h.len hB⟩
abbrev uy:=Int×Str×Int×Str×Int×Int
abbrev fU:=Int×Str×Str×Str×Int×Int×Int
abbrev Ht:=Int×Str
abbrev MK:=Str×Int×List Ht
def vI(r:uy):aC:=.tuple [.int r.1,.str r.2.1,.int r.2.2.1,.str r.2.2.2.1,.int r.2.2.2.2.1,.int r.2.2.2.2.2]
def bN(r:fU):aC:=.tuple [.int r.1,.str r.2.1,.str r.2.2.1,.str r.2.2.2.1,.int r.2.2.2.2.1,.int r.2.2.2.2.2.1,.int r.2.2.2.2.2.2]
def MN(s:Ht):aC:=.tuple [.int s.1,.str s.2]
def anf(ss:List Ht):aC:=.tuple (ss.map MN)
def Hu(r:MK):aC:=.tuple [.str r.1,.int r.2.1,anf r.2.2]
def vJ(p:Str×Str):aC:=.tuple [.str p.1,.str p.2]
structure lV where
 ps:List (Str×Str)
 yO:List uy
 leaves:List fU
 rules:List MK
def lC(h:lV):aC:=.tuple [.tuple (h.ps.map vJ),.tuple (h.yO.map vI),.tuple (h.leaves.map bN),.tuple (h.rules.map Hu)]
structure ang(zs own:List Str)(r:uy):Prop where
 num:0<=r.1/\r.1<=2000
 who:r.2.1∈zs
 rank:1<=r.2.2.1/\r.2.2.1<=9
 part:r.2.2.2.1∈own
 days:0<=r.2.2.2.2.1/\r.2.2.2.2.1<=r.2.2.2.2.2/\r.2.2.2.2.2<=99999
structure Ad(zs own:List Str)(r:fU):Prop where
 num:0<=r.1/\r.1<=2000
 giver:r.2.1∈zs
 taker:r.2.2.1∈zs
 ne:r.2.1≠r.2.2.1
 part:r.2.2.2.1∈own
 days:0<=r.2.2.2.2.1/\r.2.2.2.2.1<=r.2.2.2.2.2.1/\r.2.2.2.2.2.1<=99999
 most:0<=r.2.2.2.2.2.2/\r.2.2.2.2.2.2<=1000000000
def anh(own:List Str)(s:Ht):Prop:=1<=s.1/\s.1<=9/\(s.2=eZ ""\/s.2∈own)
structure ani(own:List Str)(r:MK):Prop where
 part:r.1∈own
 sum:0<=r.2.1/\r.2.1<=1000000000
 many:r.2.2.length<=6
 arL:∀s∈r.2.2,anh own s
structure pK(zs:List Str)(ps:List (Str×Str))(h:lV):Prop where
 parts:h.ps.Perm ps
 p8:ps.length<=8
 r20:h.yO.length<=20
 lM:h.leaves.length<=16
 u10:h.rules.length<=10
 yO:∀r∈h.yO,ang zs (ps.map (·.1)) r
 rup:(h.yO.map (·.1)).Pairwise (·<·)
 leaves:∀r∈h.leaves,Ad zs (ps.map (·.1)) r
 N7:(h.leaves.map (·.1)).Nodup
 rules:∀r∈h.rules,ani (ps.map (·.1)) r
 unlike:(h.rules.map λr=>(r.1,r.2.1)).Nodup
theorem CT(h:nameB z=ao):Qw z=ao:=by
 unfold Qw;rw[Array.all_eq_true'];intro c hc;have:=(akm h).2.2 c (by simpa using hc);exact dZ (by lia)
theorem Tq:∀{zs:List Str},(∀z∈zs,Qw z=ao)->zG (zs.map fB)=ao/\BX (zs.map fB)=0/\sZ (zs.map fB)=ao
 |[],_=>⟨by simp[zG],by simp[BX],rfl⟩
 |z::zs,h=>by
  obtain⟨h1,h2,h3⟩:=Tq λx hx=>h x (gh _ hx)
  refine⟨by simp[zG,Cj,h z dH];simpa using h1,by simp only[cO,BX,Gd,h2];rfl,?_⟩
  show(ao&&sZ (zs.map fB))=ao
  rw[h3];rfl
theorem ahT{zs:List Str}(h:∀z∈zs,Qw z=ao):je (.list (zs.map fB))=ao:=by
 obtain⟨h1,h2,_⟩:=Tq h
 unfold je;simp only[Cj,h1,Gd,h2];decide
theorem Zu:∀{l:List α}{m:List β},m.Perm (l.map f)->∃l':List α,l'.Perm l/\m=l'.map f:=λ{l m} p=>by
 generalize e:l.map f=k at p;induction p generalizing l with
 |nil=>
  cases l with
  |nil=>exact⟨[],Cd _,rfl⟩
  |cons _ _=>cases e
 |@cons x m k _ ih=>
  cases l with
  |nil=>cases e
  |cons a l=>
   rw[cO,Yx] at e
   obtain⟨l',p',rfl⟩:=ih e.2
   exact⟨a::l',p'.cons a,by rw[cO,e.1]⟩
 |swap x y m=>
  cases l with
  |nil=>cases e
  |cons a l=>
   cases l with
   |nil=>cases e
   |cons b l=>
    rw[cO,cO,Yx,Yx] at e
    obtain⟨e1,e2,e3⟩:=e
    exact⟨b::a::l,P0 a b l,by rw[cO,cO,e1,e2,e3]⟩
 |trans _ _ ih1 ih2=>
  obtain⟨l2,p2,e2⟩:=ih2 e
  obtain⟨l1,p1,e1⟩:=ih1 e2.symm
  exact⟨l1,p1.trans p2,e1⟩
theorem ain(x:Str×Str)(ps:List (Str×Str))(z:Str):jh (x::ps) z=if x.1=z then aa x.2 else jh ps z:=by
 unfold jh;rw[qR];by_cases h:x.1=z
 .rw[dZ h,bC h];rfl
 .rw[dY h,bJ h]
theorem uX:∀{ps:List (Str×Str)}{z w:Str},(ps.map (·.1)).Nodup->(jh ps z=aa w↔(z,w)∈ps)
 |[],z,w,_=>by simp[jh]
 |x::ps,z,w,h=>by
  rw[cO,jL] at h;rw[ain];by_cases hz:x.1=z
  .rw[bC hz,cM];constructor
   .intro e;left;rw[<-hz,<-gH e]
   .rintro(e|e)
    .rw[<-e]
    .exact absurd (gQ.mpr ⟨(z,w),e,hz.symm⟩) h.1
  .rw[bJ hz,uX h.2,cM];constructor
   .exact .inr
   .rintro(e|e)
    .exact absurd (by rw[<-e]) hz
    .exact e
theorem aio(p:ps'.Perm ps)(h:(ps.map (·.1)).Nodup)(z:Str):jh ps' z=jh ps z:=by
 have h':(ps'.map (·.1)).Nodup:=(p.map (·.1)).nodup_iff.mpr h;cases e:jh ps z with
 |some w=>exact(uX h').mpr (p.mem_iff.mpr ((uX h).mp e))
 |none=>
  cases e':jh ps' z with
  |none=>rfl
  |some w=>
   have:=(uX h).mpr (p.mem_iff.mp ((uX h').mp e'));rw[e] at this;cases this
theorem Ke(h:iH zs ps):ps.map (·.1)=zs.take ps.length:=by
 apply Yd;intro i;rw[iG,X5];cases e:ps[i]? with
 |none=>
  rw[bJ (by have:=Xo.mp e;lia)];rfl
 |some x=>
  rw[bC (jW.mp e).1,(h i x e).1];rfl
theorem Cz(hN:Names zs)(h:iH zs ps):(ps.map (·.1)).Nodup:=by
 rw[Ke h];exact hN.1.sublist (Jm _ _)
theorem ahu:nameB (eZ "")=aL:=by decide +kernel
theorem aai(hN:Names zs)(h:iH zs ps)(hz:z∈ps.map (·.1)):nameB z=ao:=by
 rw[Ke h] at hz;exact hN.2 z (xO hz)
theorem aaj(hN:Names zs)(h:iH zs ps):jh ps (eZ "")=aj:=by
 cases e:jh ps (eZ "") with
 |none=>rfl
 |some w=>
  have:=(uX (Cz hN h)).mp e;have:=aai hN h (gQ.mpr ⟨_,this,rfl⟩);rw[ahu] at this;cases this
def xK(f:Str->Option Str):Nat->Str->List Str
 |0,_=>[]
 |n+1,z=>match f z with
  |none=>[]
  |some y=>z::xK f n y
def up(ps:List (Str×Str))(z:Str):List Str:=xK (jh ps) (ps.length+1) z
theorem Le(h:f z=aj):∀n,xK f n z=[]
 |0=>rfl
 |n+1=>by unfold xK;rw[h]
theorem abF(h:f z=aa y)(n:Nat):xK f (n+1) z=z::xK f n y:=by
 rw[xK,h]
theorem acK:∀n z,(xK f n z).length<=n
 |0,_=>cz 0
 |n+1,z=>by
  cases h:f z with
  |none=>rw[Le h];exact nH _
  |some y=>
   rw[abF h,dw];exact Yl (acK n y)
theorem acL(hN:Names zs)(hP:iH zs ps):∀(n i:Nat),i<n->∀x,ps[i]?=aa x->Over (jh ps) x.1 (xK (jh ps) n x.1)
 |0,_,h,_,_=>absurd h (zL _)
 |n+1,i,h,x,hx=>by
  have e:jh ps x.1=aa x.2:=(uX (Cz hN hP)).mpr (qm hx);rw[abF e];refine .step e ?_
  rcases(hP i x hx).2 with h2|⟨j,hj,h2⟩
  .rw[h2,Le (aaj hN hP)];exact .stop (aaj hN hP)
  .have hi:=(jW.mp hx).1;have hjl:j<ps.length:=by lia
   have g:=hP j ps[j] (j7 hjl);have e2:ps[j].1=x.2:=by
    have:=g.1;rw[h2] at this
    exact(gH this).symm
   rw[<-e2];exact acL hN hP n j (by lia) ps[j] (j7 hjl)
theorem GJ(hN:Names zs)(hP:iH zs ps)(z:Str):Over (jh ps) z (up ps z):=by
 unfold up;cases e:jh ps z with
 |none=>
  rw[Le e];exact .stop e
 |some w=>
  obtain⟨i,hi,hx⟩:=xQ ((uX (Cz hN hP)).mp e)
  have:=acL hN hP (ps.length+1) i (by lia) _ (j7 hi);rw[hx] at this;exact this
theorem Over.det:∀{z:Str}{a b:List Str},Over f z a->Over f z b->a=b
 |_,_,_,.stop _,.stop _=>rfl
 |_,_,_,.stop h,.step g _=>by rw[h] at g;cases g
 |_,_,_,.step h _,.stop g=>by rw[h] at g;cases g
 |_,_,_,.step h r,.step g s=>by
  rw[h] at g;cases g;rw[Over.det r s]
theorem alJ(hN:Names zs)(hP:iH zs ps)(h:jh ps z=aa w):up ps z=z::up ps w:=(GJ hN hP z).det (.step h (GJ hN hP w))
theorem alK(h:jh ps z=aj):up ps z=[]:=Le h _
theorem Vh(ps:List (Str×Str))(z:Str):(up ps z).length<=ps.length+1:=acK _ _
def bL(l:List (Str×aC)):List (aC×aC):=l.map λp=>(.str p.1,p.2)
theorem Lf:∀l:List (Str×aC),cW dm (bL l)=aa (l.map λp=>.inr p.1)
 |[]=>rfl
 |p::l=>by
  rw[show bL (p::l)=(.str p.1,p.2)::bL l from rfl];unfold cW;rw[Lf l];simp only[dm];rfl
theorem Um(x z:Str):(dm (.str x)=aa (.inr z))↔x=z:=by
 simp[dm]
theorem aaK(z:Str):∀l:List (Str×aC),pN dm (.inr z) (bL l)=(l.find? λp=>decide (p.1=z)).map (·.2)
 |[]=>rfl
 |p::l=>by
  show(if dm (.str p.1)=aa (.inr z) then aa p.2 else pN dm (.inr z) (bL l))=_
  rw[qR];by_cases h:p.1=z
  .rw[bC ((Um _ _).mpr h),dZ h];rfl
  .rw[bJ (λe=>h ((Um _ _).mp e)),dY h,aaK z l]
theorem aaL(l:List (Str×aC))(z:Str):qJ (bL l) (.str z)=aa ((l.find? λp=>decide (p.1=z)).map (·.2)):=by
 show(if(cW dm (bL l)).isSome then aa (pN dm (.inr z) (bL l)) else aj)=_
 rw[Lf,aaK];rfl
theorem abG(h:z∉l.map (·.1)):pW dm (.inr z) (.str z) d (bL l)=bL (l++[(z,d)]):=by
 unfold pW;rw[bJ,bL,bL,jf]
 .rfl
 .rw[agy,agc];intro p hp
  obtain⟨q,hq,rfl⟩:=gQ.mp hp
  have:¬(dm (.str q.1)=aa (.inr z)):=λe=>h (gQ.mpr ⟨q,hq,(Um _ _).mp e⟩)
  simpa using this
theorem abH(h:z∉l.map (·.1)):putD (bL l) (.str z) d=aa (bL (l++[(z,d)])):=by
 show(if(cW dm (bL l)).isSome then aa (pW dm (.inr z) (.str z) d (bL l)) else aj)=_
 rw[Lf,abG h];rfl
theorem akn(ps:List (Str×Str))(g:Str×Str->α)(z:Str):((ps.map λp=>(p.1,g p)).find? λp=>decide (p.1=z)).map (·.2)=(ps.find? λp=>decide (p.1=z)).map g:=by
 rw[agV,Qa];rfl
theorem qX(D:α->aC)(p:α->Bool)(g:α->aC):∀{l:List α},(∀a∈l,∃ts,zp T (D a)=aa ts/\ft (fM ts++fs) C=aa (p a,C)/\(p a=ao->∃x e,fe (fM ts++fs) C=aa (x,e,C)/\still x=.im (g a)))->
  oG T ft fe fs (l.map D) C=aa ((l.filter p).map g,C)
 |[],_=>rfl
 |d::r,h=>by
  obtain⟨ts,h1,h2,h3⟩:=h d dH
  have ih:=qX D p g (l:=r) λd m=>h d (gh _ m)
  rw[cO];unfold oG;simp only[h1];rw[h2];cases hp:p d with
  |true=>
   obtain⟨x,e,h4,h5⟩:=h3 hp
   simp only[h4,h5,ih,Pb,hp,if_true,cO]
  |false=>
   simp only[ih,Pb,hp];rfl
section
variable{prog:bQ}{w:bK}{A:cV}{E:Value->aJ->Prop}{R:sE->aJ->Prop}{s:aJ}
theorem ajg(h:Q (.ref s.heap.objs.size) {s with heap:=s.heap.push (sY w)}):aX (model prog w) A (newSet (.type "set")) Q E s:=by
 unfold newSet aae
 obtain⟨h0,g0,d0,t0,o0⟩:=s
 refine aK (aK (Pg (bh ?_)));dsimp only;simp only[newObj];exact aK (wpAny_alloc (bh h))
theorem ajh{elt target iter:Expr}{ifs:List Expr}{rest:List Comprehension}{scope:kJ}{pos:Pos}{it acc:Value}{env:Env}(h0:mJ (model prog w) A (.compLoop (.SetComp elt (⟨target,iter,ifs,0⟩::rest) scope pos) 0 it acc env) R s)
  (h:aX (model prog w) A (Dz it) (λit' s'=>mJ (model prog w) A (.compLoop (.SetComp elt (⟨target,iter,ifs,0⟩::rest) scope pos) 0 it' acc env) R s') (notedBy (model prog w) A env λx s'=>R (.error x) s') s):
  mJ (model prog w) A (.compStart (.SetComp elt (⟨target,iter,ifs,0⟩::rest) scope pos) 0 it acc env) R s:=by
 refine codeAny_of_tree (show aX _ A ((compStart (.SetComp elt (⟨target,iter,ifs,0⟩::rest) scope pos) 0 it acc env).onRaise (λx=>do noteFrame x env;vd theWindowsPlace)) _ _ s from wpAny_notedAt ?_);unfold compStart
 refine(show aX _ A (ask >>= _) _ _ s from aK (Pg (wpAny_ite ?_)))
 split
 .first
   |exact aK (bh (bh ⟨rfl,h0⟩))
   |exact bh ⟨rfl,h0⟩
 .first
   |exact aK (yf (aK (wj (aK (qz h (λit' s' h'=>bh ⟨rfl,h'⟩) λ_ _ x=>x)))))
   |exact aK (yf (show aX _ _ (vd iter.pos >>= _) _ _ s from aK (wj (aK (qz h (λit' s' h'=>bh ⟨rfl,h'⟩) λ_ _ x=>x)))))
variable{T:Type}[DecidableEq T]{knd:xX prog w T}
theorem ahU(hk:knd.is k key=ao)(hsc:key.scannable=ao)(hS:pU knd s.heap a ks)(room:ks.length+1<rW)
  (h:∀h',zR a s.heap h'->pU knd h' a (nC ks k)->Q .none {s with heap:=h',toks:=s.toks+1}):aX (model prog w) A (call (.builtin "set.add") [.ref a,key]) Q E s:=by
 refine pF F.slot_set_add hS.ty F.entry_set_add ?_ (F.args_set_add_2 _ _);unfold mZ.«set.add» aq4;simp only[Yp,bind_assoc];unfold arB setAdd;refine aK (bh ?_)
 try dsimp only
 refine aK (bh ?_)
 try dsimp only
 refine aK (mX (aK (knd.pyHash hk ?_)));refine alo (knd:=knd) (s:={s with toks:=s.toks+1}) hk hsc hS room λ_ h' hsb hS'=>?_
 exact(show aX _ _ (ret nJ) _ _ _ from bh ⟨_,rfl,h h' hsb hS'⟩)
end
theorem ahv(elt gens scope pos):eval (.SetComp elt gens scope pos) env=Y8 (.SetComp elt gens scope pos) scope env (firstIterPos gens pos) (newSet (.type "set")) (firstAsync gens) (firstIter gens env):=rfl
section
variable{P:bQ}{w:bK}{T0:Type}[DecidableEq T0](knd:xX P w T0)(mk:T0->V)
abbrev SO(a:aq)(ks:List T0):HO:=.ext λh=>pU knd h a ks
def VL(D:aq)(te:TE):TM:=λσ H Q=>te σ H λy H1=>∃ks k,H1 D=aa (SO knd D ks)/\y=mk k/\ks.length+1<rW/\Q (upd H1 D (SO knd D (nC ks k)))
theorem adZ(x:pU knd h a ks):gj P w H h a (SO knd a ks):=
 ⟨x,let ⟨o,_,_,_,e,_⟩:=x;⟨o,e⟩,λ_ _ y e=>y.at e⟩
def tSC(K:aQ)(wi:TI)(T:iT)(ts:Bk->TT)(te:Bk->TE)(js:List Nat):TE:=λσ H Q=>wi σ H λJ H1=>∀D,H1 D=aj->∀b,yQ K T (ts b) (VL knd mk D (te b)) (frees js σ) J (upd H1 D (SO knd D [])) (Q (.ref D))
end
section
variable{X:Cx}{T0:Type}[DecidableEq T0]{knd:xX X.prog X.w T0}{mk:T0->V}{NT NF:List Str}{js:List Nat}{elt tg iter:Expr}{ifs:List Expr}{T:iT}{wi:TI}{ts:Bk->TT}{te:Bk->TE}{scope:kJ}{pos:Pos}
theorem anj(hk:∀k v,RelV (mk k) v->knd.is k v=ao/\v.scannable=ao)(he:PE X elt t):PM X (do let v <-eval elt X.env;vd elt.pos;let _ <-call (.builtin "set.add") [.ref D,v]) (VL knd mk D t):=by
 intro pins s σ H Q I h;refine aK (bV (he pins s σ H _ I h) λv s1 aW=>?_)
 obtain⟨y,H1,I1,r1,ks,k,hD,ey,hz,q⟩:=aW
 subst ey
 obtain⟨hS,_,_⟩:=I1.hok D _ hD
 obtain⟨k1,k2⟩:=hk _ _ r1
 refine aK (wj (aK (ahU k1 k2 hS hz λh' same hS'=>?_)));refine bh ⟨_,?_,q⟩;exact z9 I1 (by rw[hD];exact nU) same (let ⟨o,_,_,_,e,_⟩:=hS';⟨o,e⟩) (adZ knd hS')
theorem ank{pins:List (aq×Obj)}{σ:St}{s2:aJ}{H2:Hp}{cl:List (Str×aq)}{it:aq}{fp:List aq}{tn:Nat->bw->Prop}{J:It}{Q:Hp->Prop}{RR:Value->aq->sE->aJ->Prop}{E:Value->aJ->Prop}
  (hk:∀k v,RelV (mk k) v->knd.is k v=ao/\v.scannable=ao)(B:rC X NT NF js scope)(tk:qK tg NT T)(hc:X.calm=ao)
  (hin:∀b,pC (X.bk (NT++NF) scope b) ifs (ts b)/\PE (X.bk (NT++NF) scope b) elt (te b))
  (q2:∀n c,cl.lookup n=aa c->X.env.cells.lookup n=aa c)(q3:∀y∈scope.names,y.2=.free->∃c,cl.lookup y.1=aa c)
  (I2:Inv X pins σ H2 s2)(TT:Turn X.prog X.w X.K tg J fp it tn)(st2:tn 0 s2.heap)(f2:∀b∈fp,lJ X pins H2 b)
  (q:∀b,yQ X.K T (ts b) (VL knd mk s2.heap.objs.size (te b)) (frees js σ) J (upd H2 s2.heap.objs.size (SO knd s2.heap.objs.size [])) Q)
  (hR:∀C H' s' m,Inv X pins σ H' s'->lJ X pins H' C->s'.heap.Ns C m->Q H'->RR (.ref s2.heap.objs.size) C (.ok .next) s'):
  aX (model X.prog X.w) X.A (newSet (.type "set")) (λacc s₃=>aX (model X.prog X.w) X.A (YH scope X.env.globals cl [] X.env.qual aj .none (aa X.env)) (λcenv s₄=>
   mJ (model X.prog X.w) X.A (.compStart (.SetComp elt [⟨tg,iter,ifs,0⟩] scope pos) 0 (.ref it) acc {cenv with scope:=relabel scope X.env}) (RR acc cenv.locals) s₄) E s₃) E s2:=by
 refine ajg ?_;have hD:H2 s2.heap.objs.size=aj:=I2.hok.fresh (cz _);have I3:Inv X pins σ (upd H2 s2.heap.objs.size (SO knd s2.heap.objs.size [])) {s2 with heap:=s2.heap.push (sY X.w)}:=
  I2.laid (t':=s2.toks) (λb o e=>cR _ e) (cz _) (adZ knd (am1 (iK _ rfl)))
 have hsz:(s2.heap.push (sY X.w)).objs.size=s2.heap.objs.size+1:=zM ..;refine XJ B.cell (by intro y hy;simp at hy) (λh₁ hns₁ hsb₁=>?_) B.kind;have vP:∀b∈fp,b<s2.heap.objs.size:=λb hb=>by
  obtain⟨o,e,_⟩:=TT.obj 0 _ st2 b hb
  exact cN e
 have f3:∀b∈fp,lJ X pins (upd H2 s2.heap.objs.size (SO knd s2.heap.objs.size [])) b:=λb hb=>⟨by rw[di (eU (vP b hb))];exact(f2 b hb).1,(f2 b hb).2⟩
 have keep:∀b o,(s2.heap.push (sY X.w)).get? b=aa o->h₁.get? b=aa o:=λb o e=>hsb₁.extBut b o (eU (cN e)) (cR _ e)
 have za:∀b∈fp,b<(s2.heap.push (sY X.w)).objs.size:=λb hb=>by have:=vP b hb;rw[hsz];exact zF this
 have I4:=I3.blk (s1:={s2 with heap:=h₁,toks:=s2.toks+([]:List (Str×Value)).length}) B q2 q3 f3 za hns₁ keep rfl I2.bare;have zb:tn 0 h₁:=TT.keep 0 _ _ st2 λb _ o e=>keep b o (cR _ e)
 obtain⟨i1,i2⟩:=hin ⟨cl,(s2.heap.push (sY X.w)).objs.size,{s2 with heap:=s2.heap.push (sY X.w)},upd H2 s2.heap.objs.size (SO knd s2.heap.objs.size []),fp⟩
 have loop:mJ (model X.prog X.w) X.A (.compLoop (.SetComp elt [⟨tg,iter,ifs,0⟩] scope pos) 0 (.ref it) (.ref s2.heap.objs.size) (Su scope cl (s2.heap.push (sY X.w)).objs.size X.env))
   (RR (.ref s2.heap.objs.size) (s2.heap.push (sY X.w)).objs.size) {s2 with heap:=h₁,toks:=s2.toks+([]:List (Str×Value)).length}:=by
  refine Sv (X:=X.blk (NT++NF) scope cl (s2.heap.push (sY X.w)).objs.size {s2 with heap:=s2.heap.push (sY X.w)} (upd H2 s2.heap.objs.size (SO knd s2.heap.objs.size [])) fp)
   (T:=T) (fs:=frees js σ) (done:=Q) rfl (aiX elt tg iter ifs scope pos _ _ _) rfl rfl rfl tk rfl B.nd hc (λx hx=>XM (B.tg x hx)) i1 (anj (X:=X.bk (NT++NF) scope _) (knd:=knd) hk i2) TT (λb hb=>?_) I4 zb (q _) λH' s' σ' J' qd=>?_
  .exact⟨(f3 b hb).1,eU (za b hb),λhb2=>by
    rcases cM.mp (I3.Dv b hb2) with z|z
    .exact(f3 b hb).2.1 z
    .exact(f3 b hb).2.2.1 z,.inl hb,λx c e=>(f3 b hb).2.2.2.2.1 x c (q2 x c e),λp hp=>(nomatch(show p∈([]:List (aq×Obj)) from hp))⟩
  .obtain⟨m,hn,_⟩:=J'.loc
   exact hR _ H' s' m (I3.VD f3 J') (I3.w5 (cz _) J'.free) hn qd
 exact ajh loop (TT.self _ 0 _ _ _ zb loop)
theorem aob(hk:∀k v,RelV (mk k) v->knd.is k v=ao/\v.scannable=ao)(B:rC X NT NF js scope)(tk:qK tg NT T)(hc:X.calm=ao)(hi:PI X tg iter wi)
  (hin:∀b,pC (X.bk (NT++NF) scope b) ifs (ts b)/\PE (X.bk (NT++NF) scope b) elt (te b))
  (hs:∀x,vY iter X.env x=pure x:=by intro _;rfl):PE X (.SetComp elt [⟨tg,iter,ifs,0⟩] scope pos) (tSC knd mk X.K wi T ts te js):=by
 intro pins s σ H Q I h
 obtain⟨cl,hclos,q2,q3⟩:=J9 (env:=X.env) (scope:=scope) λy hy e=>I.ok.has y.1 (B.free y hy e)
 rw[ahv];refine Ot (use:=aj) rfl hs hclos B.kind B.names (bV (hi pins s σ H _ I h) λv s1 h1=>bV h1 λitv s2 aW=>?_)
 obtain⟨it,fp,tn,J,H2,e,I2,TT,st2,f2,q⟩:=aW
 subst e;refine ank (Q:=λH'=>Q (.ref s2.heap.objs.size) H') (RR:=λacc C=>Sw (model X.prog X.w) X.A X.xe aj (EP X pins σ Q) acc C) hk B tk hc hin q2 q3 I2 TT st2 f2 (q _ (I2.hok.fresh (cz _))) λC H' s' m I' fC hn qd=>?_
 refine⟨m,hn,λh' sb=>⟨.ref s2.heap.objs.size,H',?_,rfl,qd⟩⟩
 exact I'.turned (t':=s'.toks) (λb o hb e=>(sb.2 b hb).trans e) fC.1 fC.2.1 fC.2.2.2.1 fC.2.2.2.2.1 fC.2.2.2.2.2
end
def adD{P:bQ}{w:bK}(t:TE):TE:=λσ H Q=>t σ H λx H2=>∃D ks,x=.ref D/\H2 D=aa (SO (JD P w) D ks)/\ks.length<64/\∀(D':aq)(ns':List Str),H2 D'=aj->ns'.Perm ks->sortedS ns'=ao->Q (.ref D') (upd H2 D' (.lst (ns'.map V.str)))
theorem ako(hc:X.calm=ao)(hl:PE X e t)(g1:Gl X "sorted")(m1:X.mg "sorted"=aj)
  (he:bO [e] X.env=(aL,eval e X.env)::bO [] X.env:=by rfl)(hpl:(iu pos1 (bO [] X.env)).any (·.1)=aL:=by rfl):PE X (.Call (.Name "sorted" p1) [e] [] pos1) (adD (P:=X.prog) (w:=X.w) t):=by
 intro pins s σ H Q I h;refine Jj (wM I g1 m1 (u:=.builtin "sorted") rfl (Xl ?_ he hpl));rw[he];show aX _ _ (spliced ((aL,eval e X.env)::iu pos1 (bO [] X.env))) _ _ s;refine XS (bV (hl pins s σ H _ I h) λv s1 ⟨y,H1,I1,r1,D,ks,ey,hD,h64,q⟩=>X7 ?_);subst ey;cases r1
 obtain⟨⟨o,es,ep,t,ho,ex,hd,⟨ks',ek,pk⟩,hb,hf,tb⟩,_,_⟩:=I1.hok D _ hD
 obtain⟨e1,e2⟩:=aj8 ek
 have few:es.size<64:=by
  rw[<-nD,ek.len,pk.length_eq];lia
 refine aij (Ok:=λout=>∃ns',StrsAre out ns'/\ns'.Perm ks/\sortedS ns'=ao) (I1.ok.hd hc) ⟨o,ho,ex,hd,hf,tb⟩ few (λus pm B s2 a n P E' ho' hp=>?_) λD h' d tk c out ok ge kk gD=>?_
 .have hS:StrsAre us (us.map strOf):=strsAre_map us λv hv=>e2 v (pm.mem_iff.mp hv)
  refine list_sort_treeK strKind_oneLt ho' hS.keysOf (λv1 v2 rest e=>keyKind_strs (by rw[<-e];exact hS)) (by rw[pm.length_eq,bz,nD];exact few) λst hp1 hp2=>?_
  obtain⟨ss',b1,b2,b3⟩:=sorted_out_str hS hp1 hp2
  exact hp _ ⟨ss',b1,b2.trans ((pm.map strOf).trans (by rw[e1];exact pk)),b3⟩
 .obtain⟨ns',a1,a2,a3⟩:=ok
  have hz:ns'.length<=cH:=by
   rw[a2.length_eq,jq];lia
  exact⟨.ref D,_,(I1.laid (o:=.lst (ns'.map V.str)) (t':=tk) kk ge ⟨by rw[bz];exact hz,out.toList,c,Ks a1,by simpa[seqObj] using gD⟩).drew d,rfl,q D ns' (I1.hok.fresh ge) a2 a3⟩
def Iw(fi:FI)(T:iT)(ft:FT)(fe:FE)(js:List Nat):FE:=λenv C=>match fi env C with
 |some (its,e1,C1)=>match oG T ft fe (frB js e1) its C1 with
  |some (ys,C2)=>match La ys with
   |some l=>aa (.ow (.list l),env,C2)
   |none=>aj
  |none=>aj
 |none=>aj
def Wi(fe:FE):En->List Str->Ce->Option (List Str×Ce):=λenv acc C=>(fe env C).bind λq=>(uF (still q.1)).bind λy=>(M9 y).bind λz=>bif decide (acc.length<64) then aa (acc++[z],q.2.2) else aj
theorem Uo:∀{its:List aC}{ys acc:List Str}{C:Ce},oG T ft fe fs its C=aa (ys.map .str,C')->acc.length+ys.length<=64->vH T ft (Wi fe) fs its acc C=aa (acc++ys,C')
 |[],ys,acc,C,h,_=>by
  cases ys with
  |cons _ _=>cases h
  |nil=>
  cases h;rw[lq];rfl
 |d::r,ys,acc,C,h,hl=>by
  unfold oG at h;unfold vH;split at h
  case h_2=>cases h
  rename_i ts ht;rw[ht,ir];split at h
  case h_3=>cases h
  .rename_i C1 hf;rw[hf,ir];exact Uo h hl
  .rename_i C1 hf;rw[hf,ir];split at h
   case h_2=>cases h
   rename_i x e2 C2 hx;split at h
   case h_2=>cases h
   rename_i y hy;split at h
   case h_2=>cases h
   rename_i zs C3 hz;cases ys with
   |nil=>cases h
   |cons w ys=>
   injection h with h
   injection h with h1 h2
   injection h1 with h1 h3
   subst h1 h2 h3;rw[dw] at hl
   show(Wi fe (fM ts++fs) acc C1).bind _=_
   unfold Wi;rw[hx,ir,hy,show uF (.im (.str w))=aa (.str w) from rfl,ir,show M9 (.str w)=aa w from rfl,ir,dZ (by lia),show acc++w::ys=(acc++[w])++ys by rw[mF];rfl];exact Uo hz (by rw[dM];show acc.length+1+_<=_;lia)
theorem alL{P:bQ}{w:bK}{K:aQ}{fi:FI}{T:iT}{ft:FT}{fe:FE}{js:List Nat}:∀σ H Q,tE K (Iw fi T ft fe js) σ H Q->adD (P:=P) (w:=w) (tSC (JD P w) V.str K (tI K ao fi) T (λ_=>gF K ft) (λ_=>tE K fe) js) σ H Q:=by
 rintro σ H Q ⟨Z,Θ,env,C,res,env',C',S,hf,q⟩;unfold Iw at hf;split at hf
 case h_2=>cases hf
 rename_i its e1 C1 h1;split at hf
 case h_2=>cases hf
 rename_i ys C2 h2;split at hf
 case h_2=>cases hf
 rename_i l hs;cases hf;unfold La at hs;split at hs
 case isFalse=>cases hs
 rename_i hl;split at hs
 case h_2=>cases hs
 rename_i ns hns;cases hs;have hys:=Tn hns;subst hys;rw[bz] at hl
 refine⟨Z,Θ,env,C,its,e1,C1,S,h1,λJ H1 k1 f1 S1 it D hD b=>?_⟩
 have tD:D∉Θ:=λm=>(S1.cell.dom D m).ne hD
 refine Te (a0:=[]) (Ob:=λacc Hx=>Hx D=aa (SO (JD P w) D (dedup acc))) S1 it hD fG (λa Hx Hy kk r=>kk.keep _ _ r tD) (λa Hx r=>⟨_,r,λ_ z=>nomatch z⟩) ?_ (Uo (acc:=[]) h2 (by rw[BW];lia)) λH2 ki ci r=>?_
 .intro ts acc C2 p vs H4 Q hs S4 k4 r4 hQ
  obtain⟨w,hfe,hs⟩:=jZ hs
  obtain⟨yd,uI,hs⟩:=jZ hs
  obtain⟨z,hz,hs⟩:=jZ hs
  have uI:=G7 uI;have hz:=alu hz;subst hz;cases hlt:decide (acc.length<64) with
  |false=>rw[hlt] at hs;cases hs
  |true=>
  rw[hlt] at hs;cases hs
  refine⟨_,Θ,_,C2,w.1,w.2.1,w.2.2,S4,hfe,λy H5 k5 f5 R5=>?_⟩
  obtain⟨S5,r5⟩:=R5.sJ uI
  have lt:=of_decide_eq_true hlt;have ld:=aaC acc
  exact⟨dedup acc,z,k5.keep _ _ r4 tD,r5,by unfold rW;lia,hQ _ (Vb (Hy:=H5) hD (k4.trans k5)) (K8 tD S5.cell) (by rw[aid];exact fG)⟩
 .have kk:=k1.trans ki;have ld:=aaC ns
  refine⟨D,dedup ns,rfl,r,by lia,λD' ns' hn p hp=>?_⟩
  rw[Vg p hp];exact q _ _ (kk.trans (bu.upd hn)) (Fz.refl _) ((pL (S.go kk ci) (SX _) hn).from kk)
theorem aoc{X:Cx}{NT NF:List Str}{js:List Nat}{elt tg iter:Expr}{ifs:List Expr}{T:iT}{fi:FI}{ft:FT}{fe:FE}{scope:kJ}{pos p1 pos1:Pos}(B:rC X NT NF js scope)(tk:qK tg NT T)(hc:X.calm=ao)(g1:Gl X "sorted")(m1:X.mg "sorted"=aj)(hi:PI X tg iter (tI X.K ao fi))
  (hin:∀b,pC (X.bk (NT++NF) scope b) ifs (gF X.K ft)/\PE (X.bk (NT++NF) scope b) elt (tE X.K fe))
  (hs:∀x,vY iter X.env x=pure x:=by intro _;rfl)
  (he:bO [.SetComp elt [⟨tg,iter,ifs,0⟩] scope pos] X.env=(aL,eval (.SetComp elt [⟨tg,iter,ifs,0⟩] scope pos) X.env)::bO [] X.env:=by rfl)(hpl:(iu pos1 (bO [] X.env)).any (·.1)=aL:=by rfl):
  PE X (.Call (.Name "sorted" p1) [.SetComp elt [⟨tg,iter,ifs,0⟩] scope pos] [] pos1) (tE X.K (Iw fi T ft fe js)):=
 (ako hc (aob (knd:=JD X.prog X.w) (mk:=V.str) (λk v r=>by obtain⟨t,rfl⟩:=r;exact⟨PySem.strKind_is _ _ _ _,rfl⟩) B tk hc hi hin hs) g1 m1 he hpl).weak alL
section
variable{X:Cx}{tg:Expr}
def HX(f g:FB):FI:=λenv C=>match cZ f (cZ g eN) env C with
 |some ([.int i,.int j],_,C1)=>if -(2^62)<=i/\i<2^62/\-(2^62)<=j/\j<2^62 then aa (jG i (j-i).toNat,env,C1) else aj
 |_=>aj
theorem aji(hg:Gl X "range")(hm:X.mg "range"=aj)(ha:PA X [a,b] (xJ X.K (cZ f (cZ g eN))))(hs:bO [a,b] X.env=[(aL,eval a X.env),(aL,eval b X.env)]:=by rfl)(hs2:bO [b] X.env=[(aL,eval b X.env)]:=by rfl):PI X tg (.Call (.Name "range" p) [a,b] [] pos) (tI X.K bb (HX f g)):=
 (aiJ hg hm ha hs hs2).weak λσ H R aW=>by
  obtain⟨Z,Θ,env,C,its,env',C',S,hf,q⟩:=aW
  unfold HX at hf;split at hf
  .rename_i i j e1 C1 h1;split at hf
   .rename_i hj;cases hf
    refine⟨Z,Θ,env,C,[.int i,.int j],e1,C',S,h1,λvs H1 k f S1 b1=>?_⟩
    cases b1 with
    |cons b1 b2=>
     cases b2 with
     |cons b2 b3=>
      cases b3
      exact⟨i,j,by rw[show _=V.int i from b1,show _=V.int j from b2],hj,q _ H1 k (Fz.refl _) (S.go k S1.cell) (abu i (j-i).toNat)⟩
   .cases hf
  .cases hf
end
theorem acM:∀{ds:List aC}{vs:List V},cU H ds vs->cU H ds.reverse vs.reverse
 |[],_,h=>by cases(show _=[] from h);rfl
 |d::ds,_,h=>by
  obtain⟨u,r,e1,q,s⟩:=h
  subst e1;rw[Fp,Fp];exact yu (acM s) ⟨u,[],rfl,q,rfl⟩
theorem Wj(x:α)(r:List α):fK (x::r) 0=aa x:=yr (j:=0) rfl
theorem Wk(a x:α)(r:List α):fK (a::x::r) 1=aa x:=yr (j:=1) rfl
theorem aeA(a b x:α)(r:List α):fK (a::b::x::r) 2=aa x:=yr (j:=2) rfl
theorem ao9(a b c x:α)(r:List α):fK (a::b::c::x::r) 3=aa x:=yr (j:=3) rfl
theorem apa(a b c d x:α)(r:List α):fK (a::b::c::d::x::r) 4=aa x:=yr (j:=4) rfl
theorem apb(a b c d e x:α)(r:List α):fK (a::b::c::d::e::x::r) 5=aa x:=yr (j:=5) rfl
theorem apc(a b c d e f x:α)(r:List α):fK (a::b::c::d::e::f::x::r) 6=aa x:=yr (j:=6) rfl
theorem aod(op:aC->aC->Option Vl)(fa fb:FB)(env:En)(C:Ce):aP op fa fb env C=(fa env C).bind λp=>(fb p.2.1 p.2.2).bind λq=>(op p.1 q.1).bind λr=>aa (r,rst r env q.2.1,q.2.2):=by
 unfold aP;rcases h:fa env C with _|⟨x,e1,C1⟩
 .rfl
 .rcases h2:fb e1 C1 with _|⟨y,e2,C2⟩
  .simp only[ir,h2];rfl
  .simp only[ir,h2];cases op x y<;>rfl
theorem aoe(f:FE)(env:En)(C:Ce):az f env C=(f env C).bind λp=>(dat p.1).map λd=>(d,p.2.1,p.2.2):=by
 unfold az;rcases h:f env C with _|⟨x,e1,C1⟩<;>rfl
theorem apd(i:Nat)(env:En)(C:Ce):aH i env C=(env[i]?).bind λo=>o.bind λx=>(dat x).map λd=>(d,env,C):=by
 unfold aH;rcases env[i]? with _|(_|x)<;>rfl
theorem aof(f g:FT)(env:En)(C:Ce):ni f g env C=(f env C).bind λp=>if p.1 then g env p.2 else aa (aL,p.2):=by
 unfold ni;rcases h:f env C with _|⟨_|_,D⟩<;>rfl
theorem ape(f g:FT)(env:En)(C:Ce):lK f g env C=(f env C).bind λp=>if p.1 then aa (ao,p.2) else g env p.2:=by
 unfold lK;rcases h:f env C with _|⟨_|_,D⟩<;>rfl
theorem aog(f:FT)(env:En)(C:Ce):o7 f env C=(f env C).map λp=>(!p.1,p.2):=by
 unfold o7;rcases h:f env C with _|⟨b,D⟩<;>rfl
theorem apf(c:FT)(f g:FS)(env:En)(C:Ce):gY c f g env C=(c env C).bind λp=>if p.1 then f env p.2 else g env p.2:=by
 unfold gY;rcases h:c env C with _|⟨_|_,D⟩<;>rfl
theorem aoh(c:FT)(f g:FE)(env:En)(C:Ce):Bc c f g env C=(c env C).bind λp=>if p.1 then f env p.2 else g env p.2:=by
 unfold Bc;rcases h:c env C with _|⟨_|_,D⟩<;>rfl
theorem ad0(op op':aC->aC->Option Vl)(fa fb fc:FB)(h1:fa env C=aa (x,e1,C1))(h2:fb e1 C1=aa (y,e2,C2))(h3:op x y=aa (.im (.bool a)))(h4:fc e2 C2=aa (z,e3,C2))(h5:op' y z=aa (.im (.bool b))):yS op op' fa fb fc env C=aa (.im (.bool (a&&b)),env,C2):=by
 unfold yS;simp only[h1,h2,h3];cases a with
 |false=>rfl
 |true=>simp only[h4,h5];rfl
theorem apg(d:aC)(e f:En):rst (.ow d) e f=f:=rfl
theorem anl(b:Bool)(e f:En):rst (.im (.bool b)) e f=e:=rfl
theorem aoi(i:Int)(e f:En):rst (.im (.int i)) e f=e:=rfl
theorem aoj(z:Str)(e f:En):rst (.im (.str z)) e f=e:=rfl
theorem aph(l r:List aC)(e f:En):rst (.im (.tuple (.list l::r))) e f=f:=rfl
theorem add_int(i j:Int):cu (.int i) (.int j)=aa (.im (.int (i+j))):=rfl
theorem sub_int(i j:Int):yJ (.int i) (.int j)=aa (.im (.int (i-j))):=rfl
theorem le_int(i j:Int):rG (.int i) (.int j)=aa (.im (.bool (decide (i<=j)))):=rfl
theorem lt_int(i j:Int):vL (.int i) (.int j)=aa (.im (.bool (decide (i<j)))):=rfl
theorem ge_int(i j:Int):Nb (.int i) (.int j)=aa (.im (.bool (decide (j<=i)))):=rfl
theorem gt_int(i j:Int):xq (.int i) (.int j)=aa (.im (.bool (decide (j<i)))):=rfl
theorem eq_int(i j:Int):iD (.int i) (.int j)=aa (.im (.bool (i==j))):=rfl
theorem eq_bool(a b:Bool):iD (.bool a) (.bool b)=aa (.im (.bool (a==b))):=rfl
theorem ne_bool(a b:Bool):ji (.bool a) (.bool b)=aa (.im (.bool (!(a==b)))):=rfl
theorem ne_int(i j:Int):ji (.int i) (.int j)=aa (.im (.bool (!(i==j)))):=rfl
theorem aok(ds:List aC):kW [.list ds]=aa (.im (.int ds.length)):=rfl
theorem aol(ds:List aC):kW [.tuple ds]=aa (.im (.int ds.length)):=rfl
theorem api(ds:List aC)(i:Int):bI (.tuple ds) (.int i)=(fK ds i).map .im:=rfl
theorem apj(ds:List aC)(i:Int):bI (.list ds) (.int i)=(fK ds i).map .im:=rfl
theorem add_l(h:xs.length+ys.length<=1000000):cu (.list xs) (.list ys)=aa (.ow (.list (xs++ys))):=bC h
theorem VM(h:xs.length+ys.length<=1000000):cu (.tuple xs) (.tuple ys)=aa (.im (.tuple (xs++ys))):=by
 unfold cu;cases xs with
 |nil=>rfl
 |cons x xs=>exact bC h
theorem vK{ds:List aC}{i:Nat}{d:aC}(h:ds[i]?=aa d):bI (.tuple ds) (.int i)=aa (.im d):=by
 simp only[bI,vR,yr h,mW]
theorem aom(h:lV):bI (lC h) (.int 0)=aa (.im (.tuple (h.ps.map vJ))):=vK (i:=0) rfl
theorem aon(h:lV):bI (lC h) (.int 1)=aa (.im (.tuple (h.yO.map vI))):=vK (i:=1) rfl
theorem aoo(h:lV):bI (lC h) (.int 2)=aa (.im (.tuple (h.leaves.map bN))):=vK (i:=2) rfl
theorem aop(h:lV):bI (lC h) (.int 3)=aa (.im (.tuple (h.rules.map Hu))):=vK (i:=3) rfl
theorem aoq(r:uy):bI (vI r) (.int 0)=aa (.im (.int r.1)):=vK (i:=0) rfl
theorem aor(r:uy):bI (vI r) (.int 1)=aa (.im (.str r.2.1)):=vK (i:=1) rfl
theorem aos(r:uy):bI (vI r) (.int 2)=aa (.im (.int r.2.2.1)):=vK (i:=2) rfl
theorem aot(r:uy):bI (vI r) (.int 3)=aa (.im (.str r.2.2.2.1)):=vK (i:=3) rfl
theorem aou(r:uy):bI (vI r) (.int 4)=aa (.im (.int r.2.2.2.2.1)):=vK (i:=4) rfl
theorem aov(r:uy):bI (vI r) (.int 5)=aa (.im (.int r.2.2.2.2.2)):=vK (i:=5) rfl
theorem xu(h0:-1000000<=m)(h1:m<=1000000)(a b:α):(if -(2^62)<=m/\m<2^62 then a else b)=a:=bC (by lia)
theorem gw(en:En)(hk:xs.length=k)(he:xs.map aa++jz (n-xs.length) aj=en)(h:(body en C).map (λp=>(p.1,p.2.2))=aa (.rt r,C1))(hr:Ei C.length r=ao)(hC:C1.length=C.length):fN k n body xs C=aa (r,C1):=by
 unfold fN;rw[bC hk,he];cases hb:body en C with
 |none=>rw[hb] at h;cases h
 |some p=>
  rw[hb] at h
  obtain⟨fl,e1,C2⟩:=p
  have h:(fl,C2)=(Fl.rt r,C1):=gH h;injection h with h1 h2
  subst h1 h2;simp only[hr,if_true,abD hC]
theorem letters(k:Int)(h0:0<=k)(h1:k<26):vR (.str abc) (.int k)=aa (.str ⟨#[97+k.toNat]⟩):=by
 have e:=ane h0 h1;have hl:abc.length<=gM:=by decide +kernel
 simp only[vR];rw[bC hl,e];rfl
theorem Ro:∀zs:List Str,strsOf (zs.map fB)=aa zs
 |[]=>rfl
 |z::zs=>by
  show(match strsOf (zs.map fB) with|some t=>aa (z::t)|none=>aj)=_
  rw[Ro zs]
theorem aak:∀ns:List Int,intsOf (ns.map dN)=aa ns
 |[]=>rfl
 |n::ns=>by
  show(match intsOf (ns.map dN) with|some t=>aa (n::t)|none=>aj)=_
  rw[aak ns]
theorem aaM:∀zs:List Str,iR (zs.map fB)=ao
 |[]=>rfl
 |z::zs=>by
  show(ao&&iR (zs.map fB))=ao
  rw[aaM zs];rfl
theorem Rp:∀cs:List Nat,iR (cs.map λc=>fB ⟨#[c]⟩)=ao
 |[]=>rfl
 |c::cs=>by
  show(ao&&iR (cs.map λc=>fB ⟨#[c]⟩))=ao
  rw[Rp cs];rfl
theorem Zv:∀cs:List Nat,strsOf (cs.map λc=>fB ⟨#[c]⟩)=aa (cs.map λc=>(⟨#[c]⟩:Str))
 |[]=>rfl
 |c::cs=>by
  show(match strsOf (cs.map λc=>fB ⟨#[c]⟩) with|some t=>aa (_::t)|none=>aj)=_
  rw[Zv cs];rfl
theorem ajj:(eZ "").length=0:=by decide +kernel
theorem ne_nil(zs:List Str)(hz:∀z∈zs,nameB z=ao):ji (.list (zs.map .str)) (.list [])=aa (.im (.bool (!zs.isEmpty))):=by
 have s1:je (.list (zs.map fB))=ao:=ahT λz m=>CT (hz z m)
 have n1:lg (.list (zs.map fB))=ao:=(Tq λz m=>CT (hz z m)).2.2;have e:vQ (.list (zs.map .str)) (.list [])=aa zs.isEmpty:=by
  show(if lg (.list (zs.map fB))&&lg (.list [])&&(je (.list (zs.map fB))&&je (.list [])) then aa (yg (.list (zs.map .str)) (.list [])) else aj)=_
  rw[n1,s1];cases zs<;>rfl
 simp only[ji,e,mW]
abbrev hEn(b:Nat)(zs:List Str)(ps:List (Str×Str))(own:List Str)(rk:List uy)(lv:List fU)(ru:List (aC×aC))(v7 v8 v9 v10 v11 cL lN lH jR jT jU jn:Option Vl):En:=
 [aa (.ce b),aa (.im (.list (zs.map .str))),aa (.ow (.list (ps.map vJ))),aa (.ow (.list (own.map .str))),aa (.ow (.list (rk.map vI))),aa (.ow (.list (lv.map bN))),aa (.ow (.dict ru)),v7,v8,v9,v10,v11,cL,lN,lH,jR,jT,jU,jn]
theorem akp(r:Vl)(e:En):rst r e e=e:=by
 cases r<;>simp[rst]
theorem alM{ns:List Int}{i:Nat}{d:aC}(h:(ns.map dN)[i]?=aa d):∃x,d=.int x/\ns[i]?=aa x/\x∈ns/\i<ns.length:=by
 rw[iG] at h;cases hx:ns[i]? with
 |none=>rw[hx] at h;cases h
 |some x=>
  rw[hx] at h
  exact⟨x,(gH h).symm,rfl,qm hx,(jW.mp hx).1⟩
theorem take_snoc{ns:List Int}{i:Nat}{x:Int}(h:ns[i]?=aa x):ns.take (i+1)=ns.take i++[x]:=by
 rw[List.take_add_one,h];rfl
theorem aaN:∀ss:List Ht,iR (ss.map MN)=ao
 |[]=>rfl
 |s::ss=>by
  show(ao&&iR (ss.map MN))=ao
  rw[aaN ss];rfl
theorem aaO:∀rs:List MK,iR (rs.map Hu)=ao
 |[]=>rfl
 |r::rs=>by
  show((ao&&(ao&&(iR (r.2.2.map MN)&&ao)))&&iR (rs.map Hu))=ao
  rw[aaO rs,aaN];rfl
theorem ad3(hk:xs.length=k)(he:xs.map aa++jz (n-xs.length) aj=en)(h:body en C=aa (.rt r,e1,C1))(hr:Ei C.length r=ao)(hC:C1.length=C.length):fN k n body xs C=aa (r,C1):=by
 unfold fN;rw[bC hk,he,h];simp only[hr,if_true,abD hC]
theorem RT:∀zs:List Str,(zs.map fB).all lD=ao
 |[]=>rfl
 |z::zs=>by
  rw[cO,Qh,RT zs];rfl
theorem alN(z:Str)(zs:List Str):jF (.str z) (.list (zs.map .str))=aa (.im (.bool (decide (z∈zs)))):=by
 have:inB (.str z) (.list (zs.map .str))=aa (inD (.str z) (zs.map .str)):=bC (by rw[RT];rfl);unfold jF;rw[this,Ld];rfl
theorem alO(x z:Str):iD (.str x) (.str z)=aa (.im (.bool (decide (x=z)))):=by
 have:(x==z)=decide (x=z):=by rw[oU];simp
 show aa (Vl.im (.bool (x==z)))=_;rw[this]
theorem Ae(x z:Str):ji (.str x) (.str z)=aa (.im (.bool (!decide (x=z)))):=by
 have:(x==z)=decide (x=z):=by rw[oU];simp
 show aa (Vl.im (.bool (!(x==z))))=_;rw[this]
def bZ(q:List (Str×Str)):List (Str×aC):=q.map λp=>(p.1,.str p.2)
theorem abI:∀q,yV (bL (bZ q))=ao
 |[]=>rfl
 |x::q=>by
  show(ao&&yV (bL (bZ q)))=ao
  rw[abI q];rfl
theorem Lg(q:List (Str×Str))(z:Str):qJ (bL (bZ q)) (.str z)=aa ((jh q z).map .str):=by
 rw[aaL];unfold bZ jh;rw[akn,Qa];rfl
theorem aaP:∀l:List Int,iR (l.map dN)=ao
 |[]=>rfl
 |x::l=>by
  show(ao&&iR (l.map dN))=ao
  rw[aaP l];rfl
theorem q9{zs:List Str}{k:Int}(h0:0<=k)(h1:k<zs.length):∃z,z∈zs/\zs[k.toNat]?=aa z/\fK (zs.map fB) k=aa (.str z):=by
 obtain⟨x,e1,e2⟩:=Mu (xs:=zs.map fB) h0 (by rw[bz];exact h1)
 rw[iG] at e2;cases hz:zs[k.toNat]? with
 |none=>rw[hz] at e2;cases e2
 |some z=>
  rw[hz] at e2;cases e2
  exact⟨z,qm hz,rfl,e1⟩
theorem anm{α:Type}{f:α->aC}{l:List α}{i:Nat}{d:aC}(h:(l.map f)[i]?=aa d):∃x,l[i]?=aa x/\d=f x:=by
 rw[iG] at h;cases hx:l[i]? with
 |none=>rw[hx] at h;cases h
 |some x=>rw[hx] at h;exact⟨x,rfl,(gH h).symm⟩
def Bf(L:Nat)(C:Ce)(b k:Nat):Prop:=C.length=L/\∃x y z:Int,C[b]?=aa [x,y,z]/\0<=x/\0<=y/\y<=3000000000/\0<=z/\z+k<=900000
theorem Bf.mono(h:Bf L C b k)(hj:j<=k):Bf L C b j:=by
 obtain⟨l,x,y,z,h1,h2,h3,h4,h5,h6⟩:=h
 exact⟨l,x,y,z,h1,h2,h3,h4,h5,by lia⟩
theorem Bf.dec(h:Bf L C b (k+1)):Bf L C b k:=h.mono (wA k)
theorem Bf.eq(h:Bf L C b k)(h':Bf L C' b' k'):C'.length=C.length:=h'.1.trans h.1.symm
inductive HE(b:Nat)(zs:List Str)(ps:List (Str×Str))(own:List Str)(rk:List uy)(lv:List fU)(ru:List (aC×aC)):En->Prop
 |mk (v7 v8 v9 v10 v11 cL lN lH jR jT jU jn:Option Vl):HE b zs ps own rk lv ru (hEn b zs ps own rk lv ru v7 v8 v9 v10 v11 cL lN lH jR jT jU jn)
theorem MP(a c:Nat)(h:i<n):a+c*(n-i)=a+c*(n-(i+1))+c:=by
 rw[show n-i=(n-(i+1))+1 by lia,Nat.mul_add,Nat.mul_one,Nat.add_assoc]
theorem ano(a:Nat)(h:i<n):a+(n-i)=a+(n-(i+1))+1:=by lia
section
variable{prog:bQ}{w:bK}{A:cV}{E:Value->aJ->Prop}{s:aJ}
end
section
variable{prog:bQ}{w:bK}{A:cV}{E:Value->aJ->Prop}{s:aJ}{z TI TO i1 i2 l1 l2:aq}{f1 f2:List aq}{n:Nat}{P1 P2:Nat->Value->Prop}{S1 S2:Nat->bw->Prop}
end
section
variable{X:Cx}
end
def Ek(fk:FB)(fv:FE):FE:=λenv C=>match fk env C with
 |some (dk,e1,C1)=>match fv e1 C1 with
  |some (r,e2,C2)=>match dm dk with
   |some _=>match still r with
    |.im d=>aa (.ow (.dict [(dk,d)]),e2,C2)
    |_=>aj
   |none=>aj
  |none=>aj
 |none=>aj
theorem abJ(hk:PE X k (fW X.K fk))(hv:PE X v (tE X.K fv)):PE X (.Dict [aa k] [v] pos) (tE X.K (Ek fk fv)):=
 (ala (ajR hk hv ak9) rfl rfl (λz=>nomatch z) (tQ rfl)).weak λσ H Q aW=>by
 obtain⟨Z,Θ,env,C,r,env',C',S,hf,q⟩:=aW
 unfold Ek at hf;split at hf
 case h_2=>cases hf
 rename_i dk e1 C1 h1;split at hf
 case h_2=>cases hf
 rename_i rv e2 C2 h2;split at hf
 case h_2=>cases hf
 rename_i kk hkk;split at hf
 case h_2=>cases hf
 rename_i d hs;cases hf;intro p hp
 refine⟨p::Z,Θ,env,C,dk,e1,C1,S.push hp _ (λ_ z=>nomatch z),h1,λx H1 k1 f1 S1 bx=>?_⟩
 refine⟨p::Z,Θ,e1,C1,rv,env',C',S1,h2,λy H2 k2 f2 r2=>?_⟩
 have R:=r2.still;rw[hs] at R
 obtain⟨S2,rz⟩:=R
 have ex:x=kV kk:=by
  cases dk<;>first|(cases hkk;exact bx)|cases hkk
 have uE:bu Θ H H2:=((bu.upd hp).trans k1).trans k2;have np:p∉Θ:=λm=>by
  have:=(jL.mp S2.nd).1;exact this (gn _ (jd _ m))
 have e2p:H2 p=aa (.dK []):=(k1.trans k2).keep _ _ fG np
 refine⟨e2p,[(kk,y)],by rw[ex];rfl,tQ rfl,?_⟩
 have kf:bu Θ H (upd H2 p (.dK [(kk,y)])):=⟨λa o ha na=>by
  rw[di (qW ha hp)];exact uE.keep _ _ ha na,λa ha=>by
  by_cases z:a=p
  .exact absurd (z▸hp) ha
  .rw[di z];exact uE.2 a ha⟩
 have c2:qG Θ C' (upd H2 p (.dK [(kk,y)])):=⟨S2.cell.len,λn b ns h3 h4=>by
  have:=S2.cell.at_ n b ns h3 h4;rw[di (show b≠p from λz=>np (by rw[<-z];exact qm h3))];exact this⟩
 refine q _ _ kf (f1.trans f2) ⟨p,rfl,hp,(S.fz (f1.trans f2)).Aq hp kf ⟨_,fG,λ_ z=>nomatch z⟩ c2,[y],.inl ⟨[kk],?_,fG⟩,y,[],rfl,?_,rfl⟩
 .unfold cW;rw[hkk];rfl
 .refine rz.same λa u e=>?_
  unfold er at e⊢;split at e
  .cases e
  .rename_i n;rw[bJ n,di (show a≠p from λz=>n (by rw[z];exact dH))];exact e
def Ni(i:Nat)(f:FB):FS:=λenv C=>if o8 env[i]? then match f env C with
  |some (.list ys,e1,C1)=>match e1[i]? with
   |some (some (.ow (.list ds)))=>if ds.length+ys.length<=gM then aa (.nx,e1.set i (aa (.ow (.list (ds++ys)))),C1) else aj
   |_=>aj
  |_=>aj
 else aj
theorem anp(ho:PE X o (rF i))(he:PE X e (fW X.K f))
  (hs0:uY (.Call (.Attribute o "extend" apos) [e] [] cpos) aj pos.line X.env=pure aL:=by rfl)
  (hbase:wu o "extend" X.env (eval o X.env)=eval o X.env:=by rfl)
  (hfew:((iu cpos (bO [e] X.env)).all (λx=>!x.1)&&(z6 cpos (zV [] X.env)).all (λx=>x.1.isSome)
   &&decide (([e]:List Expr).length+([]:List oY).length+(if([]:List oY).isEmpty then 0 else 1)<30))=ao:=by rfl)
  (hline:(apos.endLine==cpos.line)=ao:=by rfl)(hs:bO [e] X.env=(aL,eval e X.env)::bO [] X.env:=by rfl)(hplain:(iu cpos (bO [] X.env)).any (·.1)=aL:=by rfl):
  PS X (.Expr (.Call (.Attribute o "extend" apos) [e] [] cpos) pos) (tS X.K (Ni i f)):=
 (TV (Hi Ow af4 PySem.F.type_list_extend (uD.r aiR) ho (oX he rA hs) hbase hfew hline hs hplain) hs0).weak λD σ H aW=>by
  obtain⟨Z,Θ,env,C,fl,env',C',S,hf,q⟩:=aW
  unfold Ni at hf;split at hf
  .rename_i h0
   obtain⟨ds0,h0⟩:=abr h0
   obtain⟨v0,rP,a,rfl,EY,ha0,r0⟩:=S.slot i _ h0
   split at hf
   .rename_i ys e1 C1 h1;split at hf
    .rename_i ds hi;split at hf
     .rename_i hl;cases hf
      refine⟨_,rP,.inl ⟨rfl,EY,bU.of ha0⟩,Z,Θ,env,C,.list ys,e1,C',S,h1,λv H1 k f S1 bo=>?_⟩
      obtain⟨b,ws,rfl,hb,r1⟩:=bo
      obtain⟨v1,ev1,a1,WW,vs,ha1,r2⟩:=S1.slot i _ hi
      subst WW;rw[rP] at ev1;cases ev1
      refine⟨a,b,vs,ws,rfl,rfl,ha1,jr hb,by rw[jA r2,jA r1,jq];unfold gM at hl;lia,?_⟩
      have w:fX X.K Z Θ e1 σ H1 Θ (e1.set i (aa (.ow (.list (ds++ys))))) C' σ (upd H1 a (.lst (vs++ws))):=S1.write hi rP ⟨_,fG,yu r2 r1⟩;exact q Θ σ _ ((fX.tM k f S1).trans w)
     .cases hf
    .cases hf
   .cases hf
  .cases hf
section
variable{prog:bQ}{w:bK}{A:cV}{E:Value->aJ->Prop}{s:aJ}{R:sE->aJ->Prop}{I S:aq}{fp wr:List aq}{n:Nat}{Pv:Nat->Value->Prop}{St:Nat->bw->Prop}{bt:Nat->Nat->Bool}{HK:bw->Prop}
theorem alP(W:yI prog w A.in1 I fp wr n Pv St)(cmp:∀(i j:Nat)(vi vj:Value)(s:aJ)(Q:Value->aJ->Prop)(E:Value->aJ->Prop),HK s.heap->Pv i vi->Pv j vj->Q (.bool (bt i j)) s->aX (model prog w) A.in1 (Gg .Lt vi vj) Q E s)
  (hk:∀h h',HK h->(∀b o,b∉wr->b≠S->h.get? b=aa o->h'.get? b=aa o)->HK h')(out:S∉fp):∀(m j:Nat)(s:aJ)(vb:Value)(c:Nat),n-(j+1)=m->j+1<=n->St (j+1) s.heap->HK s.heap->Pv (n6 bt j) vb->s.heap.get? S=aa (an5 vb c)->
  (∀v h' tk,Pv (n6 bt (n-1)) v->(∀b o,b∉wr->b≠S->s.heap.get? b=aa o->h'.get? b=aa o)->R (.ok (.ret v)) {s with heap:=h',toks:=tk})->mJ (model prog w) A (.builtin "min.loop" ⟨[.ref I,.none,.ref S],[]⟩) R s:=by
 have Bg:S∉wr:=λz=>out (W.sub _ z)
 have nm:(toString "min"++toString ".loop":String)="min.loop":=by decide
 intro m;induction m with
 |zero=>
  intro j s vb c hm hj st kp pb hS hR;have last:j+1=n:=by lia
  refine xV XD ?_;rw[xN Bv _];show aX _ A.in1 (seqItems? (.ref S) >>= _) _ _ s;refine aK (Fw hS rfl ?_);show aX _ A.in1 (tryCatch (m7 (.ref I)) _ >>= _) _ _ s;refine aK (Jx (W.done s _ _ (last▸st) λh' tk kk=>?_));have g:=kk S _ Bg hS;show aX _ A.in1 (RN S (λ_=>#[]) >>= _) _ _ _;refine aK (Jt g rfl (aK (QS (bh ?_))));exact hR vb _ tk (by rw[<-last];exact pb) λb o hb hbS e=>(uN _ _ (kI hbS)).trans (kk b o hb e)
 |succ m ih=>
  intro j s vb c hm hj st kp pb hS hR;have lt:j+1<n:=by lia
  refine xV XD ?_;rw[xN Bv _];show aX _ A.in1 (seqItems? (.ref S) >>= _) _ _ s;refine aK (Fw hS rfl ?_);show aX _ A.in1 (tryCatch (m7 (.ref I)) _ >>= _) _ _ s;refine aK (Jx (W.item (j+1) s _ _ lt st λv h' tk pv st' kk=>?_));have g:=kk S _ Bg hS;have zu:HK h':=hk _ _ kp λb o hb _ e=>kk b o hb e
  show aX _ A.in1 (tryCatch (sr [v,v] (Gg .Lt v vb >>= _)) _ >>= _) _ _ _;refine aK (Jx (mX (aK (cmp (j+1) (n6 bt j) v vb _ _ _ zu pv pb ?_))));refine aK (mX (vX (aK (QS (bh ?_)))));cases hb:bt (j+1) (n6 bt j) with
  |true=>
   simp only[if_true];refine aK (Jt g rfl (aK (QS ?_)));rw[nm];refine bh ⟨wz Bv _,ih (j+1) _ v _ (by lia) lt (W.frame _ _ _ st' λb hbf o e=>(uN _ _ λz:S=b=>out (z▸hbf)).trans e) (hk _ _ zu λb o _ hbS e=>(uN _ _ (kI hbS)).trans e) (by simp only[n6,hb,if_true];exact pv) (zA _ g rfl) λv' h2 tk2 Iz uE=>?_⟩;exact hR v' h2 tk2 Iz λb o hb' hbS e=>uE b o hb' hbS ((uN _ _ (kI hbS)).trans (kk b o hb' e))
  |false=>
   simp only[qQ,if_false];refine aK (QS ?_);rw[nm];refine bh ⟨wz Bv _,ih (j+1) _ vb c (by lia) lt st' zu (by simp only[n6,hb,qQ,if_false];exact pb) g λv' h2 tk2 Iz uE=>?_⟩;exact hR v' h2 tk2 Iz λb o hb' hbS e=>uE b o hb' hbS (kk b o hb' e)
theorem alQ(W:yI prog w A.in1 I fp wr n Pv St)(cmp:∀(i j:Nat)(vi vj:Value)(s:aJ)(Q:Value->aJ->Prop)(E:Value->aJ->Prop),HK s.heap->Pv i vi->Pv j vj->Q (.bool (bt i j)) s->aX (model prog w) A.in1 (Gg .Lt vi vj) Q E s)
  (hk:∀h h',HK h->(∀b o,b∉wr->b≠S->h.get? b=aa o->h'.get? b=aa o)->HK h')(out:S∉fp)(pos:0<n)(st:St 0 s.heap)(kp:HK s.heap)(hS:s.heap.get? S=aa {cls:=.type "list",dict:=aj,data:=.seq #[] c,slots:=#[]})
  (hR:∀v h' tk,Pv (n6 bt (n-1)) v->(∀b o,b∉wr->b≠S->s.heap.get? b=aa o->h'.get? b=aa o)->R (.ok (.ret v)) {s with heap:=h',toks:=tk}):mJ (model prog w) A (.builtin "min.loop" ⟨[.ref I,.none,.ref S],[]⟩) R s:=by
 have Bg:S∉wr:=λz=>out (W.sub _ z)
 have nm:(toString "min"++toString ".loop":String)="min.loop":=by decide
 refine xV XD ?_;rw[xN Bv _];show aX _ A.in1 (seqItems? (.ref S) >>= _) _ _ s;refine aK (Fw hS rfl ?_);show aX _ A.in1 (tryCatch (m7 (.ref I)) _ >>= _) _ _ s;refine aK (Jx (W.item 0 s _ _ pos st λv h' tk pv st' kk=>?_));have g:=kk S _ Bg hS;have zu:HK h':=hk _ _ kp λb o hb _ e=>kk b o hb e
 show aX _ A.in1 (RN S (λ_=>#[v,v]) >>= _) _ _ _;refine aK (Jt g rfl ?_);rw[nm];refine bh ⟨wz Bv _,alP W cmp hk out _ 0 _ v _ rfl pos (W.frame _ _ _ st' λb hbf o e=>(uN _ _ λz:S=b=>out (z▸hbf)).trans e) (hk _ _ zu λb o _ hbS e=>(uN _ _ (kI hbS)).trans e) pv (zA _ g rfl) λv' h2 tk2 Iz uE=>?_⟩;exact hR v' h2 tk2 Iz λb o hb' hbS e=>uE b o hb' hbS ((uN _ _ (kI hbS)).trans (kk b o hb' e))
theorem alR(hh:A.handled=aj)(hl:s.heap.IsList l items)(pos:0<items.size)
  (cmp:∀(i j:Nat)(vi vj:Value)(s':aJ)(Q:Value->aJ->Prop)(E:Value->aJ->Prop),(∀b o,s.heap.get? b=aa o->s'.heap.get? b=aa o)->items[i]?=aa vi->items[j]?=aa vj->Q (.bool (bt i j)) s'->aX (model prog w) A.in1 (Gg .Lt vi vj) Q E s')
  (h:∀(v:Value)(h':bw)(tk:Nat),items[n6 bt (items.size-1)]?=aa v->(∀b o,s.heap.get? b=aa o->h'.get? b=aa o)->Q v {s with heap:=h',toks:=tk}):aX (model prog w) A (call (.builtin "min") [.ref l]) Q E s:=by
 have nm:(toString "min"++toString ".loop":String)="min.loop":=by decide
 have IK:l<s.heap.objs.size:=by obtain⟨o,ho,_⟩:=hl;exact cN ho
 refine ahs PySem.F.kind_min PySem.F.plain_min PySem.F.entry_min (PySem.F.args_min1 _) ?_;show aX _ A.in1 (afm "min" ["key","default"] 0 ⟨[],[]⟩ >>= _) _ _ s;refine aK (ZW (show afm "min" ["key","default"] 0 ⟨[],[]⟩=pure [aj,aj] from rfl) ?_);refine aK (bh ?_);refine aK (O6 hl (aK (nF ?_)));rw[nm];have zc:(s.heap.push {cls:=.type "list_iterator",data:=.fields #[.ref l,.int 0 0]}).objs.size=s.heap.objs.size+1:=zM ..;have W:=Z9 (prog:=prog) (w:=w) (A:=A.in1) (by simp[hh]) s.heap.objs.size l (eU IK) items;refine bh ⟨wz Bv _,?_⟩;show mJ (model prog w) A (.builtin "min.loop" ⟨[.ref s.heap.objs.size,.none,.ref (s.heap.push {cls:=.type "list_iterator",data:=.fields #[.ref l,.int 0 0]}).objs.size],[]⟩) _ {s with heap:=(s.heap.push {cls:=.type "list_iterator",data:=.fields #[.ref l,.int 0 0]}).push {cls:=.type "list",data:=.seq #[]}};have ol:∀b o,s.heap.get? b=aa o->b∉[s.heap.objs.size]:=λb o e=>by
  simp only[cM,mV,or_false];exact eU (cN e)
 have ol2:∀b o,s.heap.get? b=aa o->b≠(s.heap.push {cls:=.type "list_iterator",data:=.fields #[.ref l,.int 0 0]}).objs.size:=λb o e=>by
  rw[zc];exact eU (zF (cN e))
 refine alQ (HK:=λh=>∀b o,s.heap.get? b=aa o->h.get? b=aa o) W cmp (λh h' k kk b o e=>kk b o (ol b o e) (ol2 b o e) (k b o e)) ?_ pos ⟨⟨_,cR _ (iK _ rfl),rfl,rfl⟩,(hl.push _).push _⟩ (λb o e=>cR _ (cR _ e)) (iK _ rfl) λv h' tk hv kk=>?_
 .rw[zc];simp only[cM,mV,or_false,not_or]
  exact⟨zT (Yo _),zT (zF IK)⟩
 .exact h v h' tk hv λb o e=>kk b o (ol b o e) (ol2 b o e) (cR _ (cR _ e))
end
section
variable{X:Cx}
theorem aha(hc:X.calm=ao)(hu:X.A.units+1<jc):iI X (.builtin "min") (λxs H Q=>∃(p:aq)(rows:List Row)(sh:List Bool),xs=[.ref p]/\bU X.K H p (rows.map λr=>V.ref r.1)/\0<rows.length/\(∀r∈rows,H r.1=aa (.tup (r.2.map kV))/\r.2.map cJ=sh)/\
  ∀r,rows[n6 (m8 rows) (rows.length-1)]?=aa r->Q (.ref r.1) H):=by
 intro pins s σ H xs us Q I r h
 obtain⟨p,rows,sh,rfl,hp,pos,ha,q⟩:=h
 obtain⟨u,rfl,ru⟩:=vals1 r
 cases ru
 obtain⟨its,r',pl,hz⟩:=I.list hp
 have ei:its=rows.map λr=>eV r.1:=by
  clear pos ha q pl hz hp;induction rows generalizing its with
  |nil=>cases r';rfl
  |cons a rows ih=>
   cases r' with
   |cons h t=>
    cases h;rw[ih _ t];rfl
 subst ei;have tu:∀r∈rows,TupAt s.heap r/\r.2.map cJ=sh:=λr hr=>by
  obtain⟨_,its,v,t⟩:=(show gj X.prog X.w H s.heap r.1 (.tup (r.2.map kV)) from I.hok r.1 _ (ha r hr).1)
  exact⟨⟨its,v,t⟩,(ha r hr).2⟩
 refine alR (bt:=m8 rows) (I.ok.hd hc) pl.isList (by simpa using pos) (λi j vi vj s' Q E k hi hj q=>?_) λv h' tk hv k=>?_
 .have hi':(rows.map λr=>eV r.1)[i]?=aa vi:=by simpa using hi
  have hj':(rows.map λr=>eV r.1)[j]?=aa vj:=by simpa using hj
  rw[iG] at hi' hj';cases ri:rows[i]? with
  |none=>rw[ri] at hi';cases hi'
  |some a=>
   cases rj:rows[j]? with
   |none=>rw[rj] at hj';cases hj'
   |some b=>
    rw[ri] at hi';rw[rj] at hj';cases hi';cases hj'
    obtain⟨⟨its,v,t⟩,sa⟩:=tu a (qm ri)
    obtain⟨⟨its2,v2,t2⟩,sb⟩:=tu b (qm rj)
    have ta:=(TupAt.keep (r:=a) ⟨its,v,t⟩ k)
    have tb:=(TupAt.keep (r:=b) ⟨its2,v2,t2⟩ k)
    obtain⟨its,v,t⟩:=ta
    obtain⟨its2,v2,t2⟩:=tb
    refine aab t t2 (by simpa using v) (by simpa using v2) (sa.trans sb.symm) hu ?_;have e:m8 rows i j=jE a.2 b.2:=by
     unfold m8 wR;simp[ri,rj]
    rw[<-e];exact q
 .have hv':(rows.map λr=>eV r.1)[n6 (m8 rows) (rows.length-1)]?=aa v:=by simpa using hv
  rw[iG] at hv';cases rv:rows[n6 (m8 rows) (rows.length-1)]? with
  |none=>rw[rv] at hv';cases hv'
  |some a=>
   rw[rv] at hv';cases hv'
   exact⟨.ref a.1,H,I.kept (t':=tk) k,rfl,q a rv⟩
end
def W7(K:aQ)(a:aq):It:=⟨λi H=>∃xs,bU K H a xs/\i<xs.length,
 λi H v H'=>∃p x,H p=aj/\v=.ref p/\H'=upd H p (.tup [.int i,x])/\∀xs,bU K H a xs->xs[i]?=aa x,
 λi H=>∃xs,bU K H a xs/\i=xs.length⟩
theorem ajk{P:bQ}{w:bK}{K:aQ}{es:List Expr}{k:Nat}{ps:Pos}{a z j:aq}(hzj:z≠j):
  Turn P w K (.Tuple es k ps) (W7 K a) [z,j] z (λi h=>(∃old,IsEnum h z j i old)/\h.IsListIter j a i) where
 mem:=by simp
 obj:=λi h st c hc=>by
  obtain⟨⟨_,h1⟩,⟨o4,e4,_,d4⟩⟩:=st
  simp only[cM,mV,or_false] at hc;rcases hc with rfl|rfl
  .exact⟨_,h1,λv q=>by cases q⟩
  .exact⟨_,e4,λv q=>by rw[d4] at q;cases q⟩
 keep:=λi h h' st kk=>by
  obtain⟨⟨old,h1⟩,⟨o4,e4,r4⟩⟩:=st
  exact⟨⟨old,kk z (by simp) _ h1⟩,⟨o4,kk j (by simp) _ e4,r4⟩⟩
 item:=by
  intro X hP hw hK hc i pins s σ H E I hf st hg;subst hP hw hK
  obtain⟨xs,ha,hi⟩:=hg
  obtain⟨its,r1,p1,_⟩:=I.list ha
  obtain⟨⟨old,s1⟩,s2⟩:=st
  have ex:xs[i]?=aa (xs.getD i .non):=by simp[qY,hi]
  obtain⟨u,hu,q1⟩:=r1.get ex
  have hx:its.toArray[i]?=aa u:=by simpa using hu
  refine wpAny_pyNext_enum_item s1 s2 p1.isList hx hzj λh' a1 a2 a3 a4 kk=>⟨_,rfl,wpAny_letOwnedTupleGo_enum a1 λh2 z2 m2=>?_⟩
  have ltz:z<s.heap.objs.size:=cN s1;have Ij:H s.heap.objs.size=aj:=I.hok.fresh (cz _);have kT:h2.get? s.heap.objs.size=aa {cls:=.type "tuple",data:=.seq #[.int i s.toks,u]}:=m2.extBut _ _ (zT ltz) a3
  refine⟨.ref s.heap.objs.size,upd H s.heap.objs.size (.tup [.int i,xs.getD i .non]),Inv.Gy (s:=s) (h':=h2) (t':=s.toks+1) (ch:=[z,j]) I (λc o hc e=>?_) hf (bW.upd Ij) (λc o e n=>?_) (λc v e=>?_),rfl,⟨_,_,Ij,rfl,rfl,λxs' h1=>?_⟩,⟨⟨_,z2⟩,a2.extBut m2.extBut (kI hzj)⟩,λc hc=>?_⟩
  .simp only[cM,mV,or_false,not_or] at hc;exact m2.extBut _ _ hc.1 (kk c o hc.1 hc.2 e)
  .rw[di (eU (cN e))];exact n
  .by_cases Ik:c=s.heap.objs.size
   .subst Ik;rw[fG] at e;cases e;exact .inr ⟨by show 2<=cH;decide,[.int i s.toks,u],.cons ⟨_,rfl⟩ (.cons q1 .nil),_,kT,rfl,_,rfl⟩
   .rw[di Ik] at e;exact .inl e
  .rw[I.KQ h1 ha];exact ex
  .rw[di]
   .exact(hf c hc).1
   .simp only[cM,mV,or_false] at hc
    obtain⟨o4,e4,_⟩:=s2
    rcases hc with rfl|rfl
    .exact eU ltz
    .exact eU (cN e4)
 done:=by
  intro X hP hw hK hc i pins s σ H E I hf st hg;subst hP hw hK
  obtain⟨xs,ha,hi⟩:=hg
  obtain⟨its,r1,p1,_⟩:=I.list ha
  obtain⟨⟨old,s1⟩,s2⟩:=st
  have l1:=r1.length;refine wpAny_pyNext_enum_end (I.ok.hd hc) s1 s2 p1.isList (by simp;lia) λh' kk=>⟨rfl,I.Gy (t':=s.toks) (ch:=[z,j]) (λc o hc e=>?_) hf (bW.refl H) (λ_ _ _ n=>n) λ_ _ e=>.inl e⟩
  simp only[cM,mV,or_false,not_or] at hc;exact kk _ _ hc.2 e
 self:=λ_ _ _ _ _ st h=>by
  obtain⟨⟨_,h1⟩,_⟩:=st
  exact agq h1 h
def apk(K:aQ)(t:TA):TI:=λσ H R=>t σ H λvs H1=>∃a xs,vs=[.ref a]/\bU K H1 a xs/\R (W7 K a) H1
theorem anq{X:Cx}{es:List Expr}{k:Nat}{ps:Pos}{x:Expr}{t:TA}{p pos:Pos}(hg:Gl X "enumerate")(hm:X.mg "enumerate"=aj)(ha:PA X [x] t)(hs:bO [x] X.env=[(aL,eval x X.env)]:=by rfl)(hs2:bO ([]:List Expr) X.env=[]:=by rfl):
  PI X (.Tuple es k ps) (.Call (.Name "enumerate" p) [x] [] pos) (apk X.K t):=by
 intro pins s σ H R I h;refine Call_ (wM I hg hm aq2 (Jc (bV (ha pos pins s σ H _ I h) λus s1 aW=>?_) (by rw[hs,hs2]) (by rw[hs2];rfl)))
 obtain⟨vs,H1,I1,r1,a,xs,e,h1,q⟩:=aW
 subst e
 obtain⟨u,rfl,r⟩:=vals1 r1
 cases r
 obtain⟨its,v1,p1,_⟩:=I1.list h1
 refine call_enumerate_list p1.isList λh' g1 g2 _ kk=>agq g1 ?_
 have I2:Inv X pins σ H1 {s1 with heap:=h'}:=I1.kept (t':=s1.toks) kk
 refine⟨s1.heap.objs.size+1,[s1.heap.objs.size+1,s1.heap.objs.size],_,_,H1,rfl,I2,ajk (Nat.succ_ne_self _),⟨⟨_,g1⟩,g2⟩,λc hc=>?_,q⟩
 refine I1.w5 ?_ (I1.hok.fresh ?_)
 all_goals
  simp only[cM,mV,or_false] at hc;rcases hc with rfl|rfl<;>lia
def Aw(ds:List aC):List aC:=ds.zipIdx.map λp=>.tuple [.int (p.2:Nat),p.1]
theorem abK{ds:List aC}{i:Nat}{d:aC}(h:(Aw ds)[i]?=aa d):∃x,ds[i]?=aa x/\d=.tuple [.int i,x]:=by
 unfold Aw at h;rw[iG,List.getElem?_zipIdx] at h;cases hx:ds[i]? with
 |none=>rw[hx] at h;cases h
 |some x=>
  rw[hx] at h
  refine⟨x,rfl,?_⟩
  have:=gH h;rw[<-this,JM]
theorem aaQ(ds:List aC):(Aw ds).length=ds.length:=by
 unfold Aw;rw[bz,List.length_zipIdx]
theorem alS{K:aQ}{P:List aq}{H:Hp}{a:aq}{ds:List aC}{vs:List V}(ha:er P H a=aa (.lst vs))(r:cU (er P H) ds vs):yU P P H (W7 K a) (Aw ds):=λi H2 P2 s1 s2 n=>by
 have h2:bU K H2 a vs:=bU.of (jr (s1 _ _ ha));have l1:=jA r
 refine⟨λd hd=>?_,λhi=>⟨vs,h2,by rw[hi,aaQ];exact l1.symm⟩⟩
 obtain⟨x,e1,rfl⟩:=abK hd
 obtain⟨v,ev,rv⟩:=wN r e1
 refine⟨⟨vs,h2,(jW.mp ev).1⟩,λy H3 yl=>?_⟩
 obtain⟨p,v',hp,rfl,rfl,hh⟩:=yl
 have g1:=hh vs h2;rw[ev] at g1;cases g1;have sp:bW H2 (upd H2 p (.tup [.int i,v])):=bW.upd hp
 refine⟨sp,p,[.int i,v],rfl,?_,.int i,[v],rfl,rfl,v,[],rfl,rv.same (s1.trans (T9 sp)),rfl⟩
 unfold er;rw[bJ (λm=>n p m hp),fG]
def N8(f:FE):FI:=λenv C=>match f env C with
 |some (r,e1,C1)=>match still r with
  |.im (.list ds)=>aa (Aw ds,e1,C1)
  |_=>aj
 |none=>aj
theorem alT(hg:Gl X "enumerate")(hm:X.mg "enumerate"=aj)(ha:PE X x (tE X.K f))(hs:bO [x] X.env=(aL,eval x X.env)::bO [] X.env:=by rfl)(hs1:bO [x] X.env=[(aL,eval x X.env)]:=by rfl)(hs2:bO ([]:List Expr) X.env=[]:=by rfl):
  PI X (.Tuple es k ps) (.Call (.Name "enumerate" p) [x] [] pos) (tI X.K aL (N8 f)):=(anq hg hm (oX ha rA hs) hs1 hs2).weak λσ H R aW=>by
 obtain⟨Z,Θ,env,C,its,env',C',S,hf,q⟩:=aW
 unfold N8 at hf;split at hf
 case h_2=>cases hf
 rename_i r e1 C1 h1;split at hf
 case h_2=>cases hf
 rename_i ds hd;cases hf
 refine⟨Z,Θ,env,C,_,env',C',S,h1,λv H1 k f R=>?_⟩
 obtain⟨S1,a,vs,rfl,ha,r⟩:=R.sJ hd
 exact⟨a,vs,rfl,bU.of (jr ha),q _ H1 k f S1 (alS ha r)⟩
theorem aaR(h:(jb P w).is k u=ao):RelV (kV k) u:=by
 rcases tW h with⟨i,t,rfl,rfl⟩|⟨x,t,rfl,rfl⟩<;>exact⟨t,rfl⟩
section
variable{prog:bQ}{w:bK}{A:cV}{E:Value->aJ->Prop}{s:aJ}{r d:aq}{kvs:List (Key×Value)}{ep:Nat}{b c:Bool}{Q:Value->aJ->Prop}
def oH(as:List aq)(cY:List (Key×Key)):List Row:=as.zipWith (λa p=>(a,[p.1,p.2])) cY
theorem agH(hh:A.handled=aj)(hv:s.heap.IsItemsView r d)(hm:s.heap.DictAt (jb prog w) d kvs ep)(h64:cY.length<64)(hne:0<cY.length)(hk:kvs.map (·.1)=cY.map (·.1))(hx:Vals (cY.map λp=>kV p.2) (kvs.map (·.2)))(hty:∀p∈cY,cJ p.1=b/\cJ p.2=c)
  (h:∀(as:List aq)(p:List Nat)(D:aq)(h':bw)(n tk:Nat),as.length=cY.length->as.Pairwise (·<·)->(∀a∈as,s.heap.objs.size<=a/\a≠D)->(∀r∈oH as cY,TupAt h' r)->p.Perm (fj (oH as cY).length)->p=sX ((oH as cY).map (·.2))->s.heap.objs.size<=D->(∀b o,s.heap.get? b=aa o->h'.get? b=aa o)->
   h'.get? D=aa (seqObj "list" ((p.map λi=>(oH as cY).getD i (0,[])).map λr=>eV r.1).toArray n)->Q (.ref D) {s with heap:=h',toks:=tk}):
  aX (model prog w) A (call (.builtin "sorted") [.ref r]) Q E s:=by
 have hlk:kvs.length=cY.length:=by have:=congrArg qx hk;simpa using this
 refine Oo kind_sorted plain_sorted entry_sorted (args_sorted1 _) ?_;unfold mZ.«sorted»;refine aK (m:=Ri "sorted" 1 1 _) (bh (aK (kdx_collect (A:=A.in1) (by simp[hh]) hv hm (by rw[jq];lia) λh1 tk as kk hlen G=>?_)));have hla:as.length=cY.length:=by lia
 have hlr:(oH as cY).length=cY.length:=by unfold oH;rw[List.length_zipWith];lia
 have tu:∀r∈oH as cY,TupAt h1 r/\r.2.map cJ=b::[c]:=λr hr=>by
  obtain⟨j,hj,rfl⟩:=xQ hr
  rw[hlr] at hj;have ea:as[j]?=aa as[j]:=j7 (by lia);have ek:cY[j]?=aa cY[j]:=j7 hj
  obtain⟨key,k,x,e1,e2,e3⟩:=G.pairs j _ ea
  have er:(oH as cY)[j]'(by lia)=(as[j],[cY[j].1,cY[j].2]):=by simp[oH]
  rw[er];have kk1:k=cY[j].1:=by
   have:=congrArg (·[j]?) hk;simp only[iG,e1,ek,mW] at this;exact gH this
  have kx:RelV (kV cY[j].2) x:=by
   have q1:(cY.map λp=>kV p.2)[j]?=aa (kV cY[j].2):=by rw[iG,ek];rfl
   obtain⟨u,g1,g2⟩:=hx.get q1
   rw[iG,e1] at g1;cases g1;exact g2
  refine⟨⟨[key,x],.cons (kk1▸aaR e2) (.cons kx .nil),_,e3,rfl,_,rfl⟩,?_⟩
  have:=hty cY[j] (zJ hj)
  show[cJ cY[j].1,cJ cY[j].2]=_
  rw[this.1,this.2]
 have eu:as.map eV=(oH as cY).map λr=>eV r.1:=by
  refine BL (by rw[bz,bz];lia) λi h1 h2=>?_
  rw[agI,agI];simp[oH]
 rw[eu];have hsz:s.heap.objs.size<=h1.objs.size:=by
  have m:as[0]'(by lia)∈as:=zJ _;exact yc (Cw (G.above _ m) (G.there m))
 generalize hR:oH as cY=rows at *;refine aK (JC ?_ (by rw[bz,jq];lia));have hoL:(h1.push (seqObj "list" (rows.map λr=>eV r.1).toArray 0)).get? h1.objs.size=aa (seqObj "list" (rows.map λr=>eV r.1).toArray 0):=iK _ rfl;have up:∀s':aJ,Kp h1.objs.size (h1.push (seqObj "list" (rows.map λr=>eV r.1).toArray 0)) s'.heap->∀b o,h1.get? b=aa o->s'.heap.get? b=aa o:=λs' k b o e=>k b o (eU (cN e)) (cR _ e)
 refine aK (mX (pF slot_list_sort ⟨_,hoL,rfl⟩ entry_list_sort (aaa (κ:=tuples' ao) (lt:=m8 rows) (Rl:=λp=>p=sX (rows.map (·.2))) (vs:=rows.map λr=>eV r.1) (s:={s with heap:=h1.push (seqObj "list" (rows.map λr=>eV r.1).toArray 0),toks:=tk}) hoL (by rw[bz];lia) (λh2=>RK (by rw[bz]) h2) (λh2=>Rj (by rw[bz]) h2)
  (λh2 s' k Q' q'=>RG (λr hr=>⟨(tu r hr).1.keep (up s' k),(tu r hr).2⟩) (by rw[bz] at h2;lia) Q' q') (λh2 s' k i j hi hj C q'=>SM (sh:=b::[c]) (λr hr=>⟨(tu r hr).1.keep (up s' k),(tu r hr).2⟩) (by simpa using hi) (by simpa using hj) C q') λp h' n hp hrl k e=>⟨_,rfl,?_⟩) (args_list_sort _)))
 rw[bz] at hp;rw[RJ hp] at e;have kh:=up {s with heap:=h'} k;subst hR;exact bh ⟨_,rfl,h as p h1.objs.size h' n tk hla G.rise (λa ha=>⟨yc (G.above a ha),eU (G.there ha)⟩) (λr hr=>(tu r hr).1.keep kh) hp hrl hsz (λb o e=>kh b o (kk b o e)) e⟩
end
def layR(H:Hp)(rows:List Row):Hp:=λa=>match rows.find? (λr=>decide (r.1=a)) with
 |some r=>aa (.tup (r.2.map kV))
 |none=>H a
theorem akq(h:∀r∈rows,r.1≠a):layR H rows a=H a:=by
 unfold layR;rw[O5.mpr λr hr=>by rw[dY (h r hr)];exact jo]
theorem acN:∀{rows:List Row},(rows.map (·.1)).Nodup->∀r∈rows,layR H rows r.1=aa (.tup (r.2.map kV))
 |q::rows,nd,r,hr=>by
  rw[cO,jL] at nd;unfold layR;rcases cM.mp hr with rfl|hr
  .rw[List.find?_cons_of_pos (by simp)]
  .have ne:¬decide (q.1=r.1)=ao:=λe=>nd.1 (gQ.mpr ⟨r,hr,(of_decide_eq_true e).symm⟩)
   rw[List.find?_cons_of_neg (p:=λr1:Row=>decide (r1.1=r.1)) ne];exact acN nd.2 r hr
theorem ajl(h:layR H rows a=aa u):H a=aa u\/∃r∈rows,r.1=a/\u=.tup (r.2.map kV):=by
 unfold layR at h;cases hf:rows.find? (λr=>decide (r.1=a)) with
 |none=>rw[hf] at h;exact .inl h
 |some r=>
  rw[hf] at h;exact .inr ⟨r,List.mem_of_find?_eq_some hf,of_decide_eq_true (List.find?_some (p:=λr:Row=>decide (r.1=a)) hf),(gH h).symm⟩
theorem abL:∀{cY:List (Key×Key)}{vs:List (Key×Value)},KV (cY.map λp=>(p.1,kV p.2)) vs->vs.map (·.1)=cY.map (·.1)/\Vals (cY.map λp=>kV p.2) (vs.map (·.2))
 |[],vs,h=>by cases h;exact⟨rfl,.nil⟩
 |p::cY,vs,h=>by
  cases h with
  |cons h t=>
   obtain⟨a,b⟩:=abL t
   exact⟨by rw[cO,cO,a,<-h.1],.cons h.2 b⟩
def alU(td:TE):TE:=λσ H Q=>td σ H λx H1=>∃(d:aq)(cY:List (Key×Key))(b c:Bool),x=.ref d/\H1 d=aa (.dK (cY.map λp=>(p.1,kV p.2)))/\cY.length<64/\0<cY.length/\(∀p∈cY,cJ p.1=b/\cJ p.2=c)/\
 ∀(l:aq)(rows:List Row)(H2:Hp),bW H1 H2->H1 l=aj->H2 l=aa (.lst (rows.map λr=>V.ref r.1))->rows.map (·.2)=uB (cY.map λp=>[p.1,p.2])->(∀r∈rows,H2 r.1=aa (.tup (r.2.map kV)))->Q (.ref l) H2
theorem ajm(hc:X.calm=ao)(ho:PE X o td)(g1:Gl X "sorted")(m1:X.mg "sorted"=aj)
  (he:bO [.Call (.Attribute o "items" apos) [] [] cpos] X.env=(aL,eval (.Call (.Attribute o "items" apos) [] [] cpos) X.env)::bO [] X.env:=by rfl)(hpl:(iu pos1 (bO [] X.env)).any (·.1)=aL:=by rfl)
  (hbase:wu o "items" X.env (eval o X.env)=eval o X.env:=by rfl)(hline:(apos.endLine==cpos.line)=ao:=by rfl):
  PE X (.Call (.Name "sorted" p1) [.Call (.Attribute o "items" apos) [] [] cpos] [] pos1) (alU td):=by
 intro pins s σ H Q I h;refine Jj (wM I g1 m1 (u:=.builtin "sorted") rfl ?_);refine Xl ?_ he hpl;rw[he];show aX _ _ (spliced ((aL,eval (.Call (.Attribute o "items" apos) [] [] cpos) X.env)::iu pos1 (bO [] X.env))) _ _ s;refine XS (wpAny_Call_method (T:="dict") (id:="dict.items") hbase rfl hline PySem.F.plainAttrs_dict afv PySem.F.type_dict_items (bV (ho pins s σ H _ I h) λu s1 aW=>?_))
 obtain⟨x,H1,I1,rx,d,cY,b,c,ex,hd,h64,hne,hty,q⟩:=aW
 subst ex;obtain rfl:u=eV d:=rx
 obtain⟨z,lo,vs,rel,dd⟩:=My I1.hok hd
 obtain⟨hk,hx⟩:=abL rel
 refine⟨dd.typeIs,dd.mapOf.noDict,?_⟩
 show aX _ _ (callWith cpos (.builtin "dict.items") [.ref d] [] []) _ _ s1;refine method_meetsIn afv PySem.F.entry_dict_items rfl (aq5 ⟨rfl,dd.typeIs,PySem.F.args_dict_items_1 _,_,meets_dict_items (jb X.prog X.w) d lo,⟨vs,dd⟩,X7 ?_⟩)
 obtain⟨od,es,ep,hod,hdr⟩:=dd
 have sz:(s1.heap.push {cls:=.type "dict_items",data:=.fields #[.ref d]}).objs.size=s1.heap.objs.size+1:=zM ..;refine agH (I1.ok.hd hc) (d:=d) ⟨_,iK _ rfl,rfl,rfl⟩ (ep:=ep) ⟨od,es,cR _ hod,hdr⟩ h64 hne hk hx hty λas p D h' n tk hla hup hfr tu hp hrl hD kk e=>?_
 have nda:as.Nodup:=hup.imp λh=>eU h
 obtain⟨rows,hR⟩:∃rows,rows=oH as cY:=⟨_,rfl⟩
 rw[<-hR] at tu hp hrl e;have r1:rows.map (·.1)=as:=by
  rw[hR];refine BL (by simp[oH,hla]) λi h1 h2=>?_
  simp[oH]
 have r2:rows.map (·.2)=cY.map λp=>[p.1,p.2]:=by
  rw[hR];refine BL (by simp[oH,hla]) λi h1 h2=>?_
  simp[oH]
 have ra:∀r∈rows,s1.heap.objs.size<=r.1/\r.1≠D:=λr hr=>by
  have m:r.1∈as:=by rw[<-r1];exact gQ.mpr ⟨r,hr,rfl⟩
  have:=hfr _ m;rw[sz] at this
  exact⟨by lia,this.2⟩
 rw[sz] at hD;have hnD:H1 D=aj:=I1.hok.fresh (by lia);have old:∀a,a<s1.heap.objs.size->upd (layR H1 rows) D (.lst ((p.map λi=>rows.getD i (0,[])).map λr=>V.ref r.1)) a=H1 a:=λa ha=>by
  rw[di (show a≠D by lia),akq λr hr z=>by have:=(ra r hr).1;rw[z] at this;lia]
 have hin:∀r∈rows,upd (layR H1 rows) D (.lst ((p.map λi=>rows.getD i (0,[])).map λr=>V.ref r.1)) r.1=aa (.tup (r.2.map kV)):=λr hr=>by
  rw[di (ra r hr).2];exact acN (by rw[r1];exact nda) r hr
 have sm:bW H1 (upd (layR H1 rows) D (.lst ((p.map λi=>rows.getD i (0,[])).map λr=>V.ref r.1))):=λa u ha=>by
  have lt:a<s1.heap.objs.size:=by
   rcases Nat.lt_or_ge a s1.heap.objs.size with h|h
   .exact h
   .rw[I1.hok.fresh h] at ha;cases ha
  rw[old a lt];exact ha
 refine⟨.ref D,_,Inv.Gy (s:=s1) (h':=h') (t':=tk) (ch:=[]) I1 (λa o _ q=>kk a o (cR _ q)) (λ_ m=>nomatch m) sm (λa o q n=>by rw[old a (cN q)];exact n) (λa u ha=>?_),rfl,q D (p.map λi=>rows.getD i (0,[])) _ sm hnD fG ((T8 hp hrl).trans (by rw[r2])) λr hr=>hin r ((Ku hp).mem_iff.mp hr)⟩
 by_cases hz:a=D
 .subst hz;rw[fG] at ha;cases ha;refine .inr ⟨?_,_,n,Kv _,by simpa[seqObj] using e⟩;rw[bz,bz,hp.length_eq,mU,jq];have:=congrArg qx r2;rw[bz,bz] at this;lia
 .rw[di hz] at ha;rcases ajl ha with h|⟨r,hr,rfl,rfl⟩
  .exact .inl h
  .obtain⟨its,v,t⟩:=tu r hr
   refine .inr ⟨?_,its,v,t⟩;have m:r.2∈cY.map λp=>[p.1,p.2]:=by rw[<-r2];exact gQ.mpr ⟨r,hr,rfl⟩
   obtain⟨pp,_,e2⟩:=gQ.mp m
   rw[<-e2,jq];show 2<=_;lia
def HY:List (aC×aC)->Option (List (Key×Key))
 |[]=>aa []
 |p::r=>(dm p.1).bind λk=>(dm p.2).bind λv=>(HY r).map λt=>(k,v)::t
theorem abM:∀{kvs:List (aC×aC)}{cY:List (Key×Key)}{ks:List Key}{vs:List V},HY kvs=aa cY->cW dm kvs=aa ks->ju E kvs vs->ks.zip vs=cY.map (λp=>(p.1,kV p.2))/\kvs.map (λp=>oV [p.1,p.2])=cY.map (λp=>.tuple [jJ p.1,jJ p.2])
 |[],cY,ks,vs,h,h1,_=>by cases h;cases h1;exact⟨rfl,rfl⟩
 |p::r,cY,ks,vs,h,h1,h2=>by
  obtain⟨k,e1,h⟩:=nR.mp h
  obtain⟨v,e2,h⟩:=nR.mp h
  obtain⟨t,e3,h⟩:=Bu.mp h
  subst h;unfold cW at h1;rw[e1] at h1;cases ha:cW dm r with
  |none=>rw[ha] at h1;cases h1
  |some t1=>
   rw[ha] at h1;cases h1
   obtain⟨u,w,rfl,q,h2⟩:=h2
   obtain⟨a,b⟩:=abM e3 ha h2
   obtain⟨p1,p2⟩:=p
   have hv:u=kV v:=adl e2 q;have d1:p1=jJ k:=by cases p1<;>first|(cases e1;rfl)|cases e1
   have d2:p2=jJ v:=by cases p2<;>first|(cases e2;rfl)|cases e2
   refine⟨?_,?_⟩
   .rw[X4,cO,a,hv]
   .rw[cO,cO,b,d1,d2]
def Vi(kvs:List (aC×aC)):Option (List aC):=(HY kvs).bind λcY=>cY.head?.bind λp=>if cY.length<64/\∀q∈cY,cJ q.1=cJ p.1/\cJ q.2=cJ p.2 then aa (rJ (kvs.map λp=>.tuple [p.1,p.2])) else aj
def VN:aC->Option (List (aC×aC))
 |.dict kvs=>aa kvs
 |_=>aj
theorem akr(h:VN d=aa kvs):d=.dict kvs:=by
 cases d<;>first|(cases h;rfl)|cases h
def Uq(f:FB):FE:=λenv C=>(f env C).bind λp=>(VN p.1).bind λkvs=>(Vi kvs).map λl=>(.ow (.list l),env,p.2.2)
theorem ajn(hc:X.calm=ao)(ho:PE X o (fW X.K f))(g1:Gl X "sorted")(m1:X.mg "sorted"=aj)
  (he:bO [.Call (.Attribute o "items" apos) [] [] cpos] X.env=(aL,eval (.Call (.Attribute o "items" apos) [] [] cpos) X.env)::bO [] X.env:=by rfl)(hpl:(iu pos1 (bO [] X.env)).any (·.1)=aL:=by rfl)
  (hbase:wu o "items" X.env (eval o X.env)=eval o X.env:=by rfl)(hline:(apos.endLine==cpos.line)=ao:=by rfl):
  PE X (.Call (.Name "sorted" p1) [.Call (.Attribute o "items" apos) [] [] cpos] [] pos1) (tE X.K (Uq f)):=(ajm hc ho g1 m1 he hpl hbase hline).weak λσ H Q aW=>by
 obtain⟨Z,Θ,env,C,r,env',C',S,hf,q⟩:=aW
 refine hide λGG gg=>?_
 obtain⟨⟨d,e1,C1⟩,h1,hf⟩:=nR.mp hf
 obtain⟨kvs,hd,hf⟩:=nR.mp hf
 obtain⟨l,hl,hf⟩:=Bu.mp hf
 obtain⟨cY,hk,hl⟩:=nR.mp hl
 obtain⟨p,hp,hl⟩:=nR.mp hl
 split at hl
 case isFalse=>cases hl
 rename_i hall;cases hl;cases hf;cases akr hd;have pos:0<cY.length:=by
  cases cY with
  |nil=>cases hp
  |cons _ _=>exact JN _
 refine gg ⟨Z,Θ,env,C,.dict kvs,e1,C1,S,h1,λv H1 k f S1 b1=>?_⟩;refine hide λG2 g2=>?_
 obtain⟨a,vs,rfl,da,rr⟩:=b1.dct
 rcases da with⟨ks,a1,a2⟩|⟨ks,⟨ne,a1⟩,a2⟩
 .obtain⟨e2,e3⟩:=abM hk a1 rr
  rw[e2] at a2;refine g2 ⟨a,cY,cJ p.1,cJ p.2,rfl,a2,hall.1,pos,hall.2,λl rows H2 sm hn hl hr hin=>?_⟩;have kp:bu Θ H H2:=k.trans (bu.of sm);have SD:=S.Aq (k.none hn) kp ⟨_,hl,λ_ z=>nomatch z⟩ ⟨S1.cell.len,λn b ns e2 e3=>sm _ _ (S1.cell.at_ n b ns e2 e3)⟩;have es:(rows.map λr=>oV (r.2.map jJ))=rJ (kvs.map λp=>.tuple [p.1,p.2]):=by
   unfold rJ;rw[e3,gZ];have:(cY.map (yN ∘ λp=>oV [jJ p.1,jJ p.2]))=cY.map λp=>[p.1,p.2]:=by
    refine xR λq _=>?_
    show(keysOf ([q.1,q.2].map jJ)).getD []=[q.1,q.2]
    rw[Gs];rfl
   rw[this,<-hr,gZ];rfl
  refine q _ H2 kp (Fz.refl _) ⟨l,rfl,k.none hn,SD,_,hl,?_⟩;rw[<-es];exact Gu λr m=>DG SD (hin r m)
 .exfalso;cases kvs with
  |nil=>exact ne rfl
  |cons q r=>
   obtain⟨k',e1,_⟩:=nR.mp hk
   unfold cW at a1;split at a1
   .rename_i g1 _;exact adm e1 g1
   .cases a1
def Hv(ks:List (List Key)):Nat:=n6 (λi j=>jE (ks.getD i (ks.headD [])) (ks.getD j (ks.headD []))) (ks.length-1)
theorem aip(rows:List Row):n6 (m8 rows) (rows.length-1)=Hv (rows.map (·.2)):=by
 have e:m8 rows=λi j=>jE ((rows.map (·.2)).getD i ((rows.map (·.2)).headD [])) ((rows.map (·.2)).getD j ((rows.map (·.2)).headD [])):=by
  funext i j;rw[m8,K4,K4]
 unfold Hv;rw[e,bz]
def Vj(ds:List aC):Option Vl:=ds.head?.bind λd0=>(rH d0).bind λsh=>if ∀d∈ds,rH d=aa sh then(ds[Hv (ds.map yN)]?).map .im else aj
def Mv:List aC->Option Vl
 |[.list ds]=>Vj ds
 |_=>aj
theorem alV{K:aQ}:mC K (λxs H Q=>∃(p:aq)(rows:List Row)(sh:List Bool),xs=[.ref p]/\bU K H p (rows.map λr=>V.ref r.1)/\0<rows.length/\(∀r∈rows,H r.1=aa (.tup (r.2.map kV))/\r.2.map cJ=sh)/\
  ∀r,rows[n6 (m8 rows) (rows.length-1)]?=aa r->Q (.ref r.1) H) Mv:=by
 intro Z Θ env C σ H xs ds res S b e Q q;refine hide λGG gg=>?_
 unfold Mv at e;split at e
 case h_2=>cases e
 rename_i ds
 obtain⟨d0,h0,e⟩:=nR.mp e
 obtain⟨sh,_,e⟩:=nR.mp e
 split at e
 case isFalse=>cases e
 rename_i hall
 obtain⟨d,hd,rfl⟩:=Bu.mp e
 obtain⟨v,rfl,bb⟩:=o9 b
 obtain⟨a,vs,rfl,ha,r⟩:=bb.lst
 obtain⟨rows,rfl,e2,e3⟩:=Tj hall r
 have ek:ds.map yN=rows.map (·.2):=by
  rw[e2,gZ];refine xR λr _=>?_
  show(keysOf (r.2.map jJ)).getD []=r.2
  rw[Gs];rfl
 rw[ek,<-aip] at hd;refine gg ⟨a,rows,sh,rfl,bU.of ha,?_,λr m=>⟨jr (e3 r m).1,(e3 r m).2⟩,λr hr=>?_⟩
 .cases rows with
  |nil=>rw[e2] at h0;cases h0
  |cons _ _=>exact JN _
 .have m:=qm hr;have hd':d=.tuple (r.2.map jJ):=by
   rw[e2,iG,hr] at hd
   exact(gH hd).symm
  obtain⟨u,t,e4,q4,_⟩:=Gu (E:=er (bG Z Θ env σ) H) (rows:=[r]) λx hx=>by rw[j8.mp hx];exact(e3 r m).1
  cases e4;refine q _ H (bu.refl _ _) ⟨S,?_⟩;rw[hd'];exact q4
def Bl(L:Nat)(C:Ce)(b k:Nat):Prop:=C.length=L/\∃x y z:Int,C[b]?=aa [x,y,z]/\0<=x/\0<=z/\z+k<=900000
theorem Bl.mono(h:Bl L C b k)(hj:j<=k):Bl L C b j:=by
 obtain⟨l,x,y,z,h1,h2,h5,h6⟩:=h
 exact⟨l,x,y,z,h1,h2,h5,by lia⟩
theorem Bl.dec(h:Bl L C b (k+1)):Bl L C b k:=h.mono (wA k)
theorem Bl.eq(h:Bl L C b k)(h':Bl L C' b' k'):C'.length=C.length:=h'.1.trans h.1.symm
theorem anr(C:Ce)(h0:0<=x):Bl (C.length+1) (C++[[x,y,0]]) C.length 800000:=by
 refine⟨by simp,x,y,0,?_,h0,ye _,by lia⟩
 rw[qO (cz _),Zo];rfl
theorem Tr{n s u f i j:Int}(hu:s*u%n=1)(n0:0<n)(hi:0<=i)(hj:0<=j)(hi':i<n)(hj':j<n)(e:(f+s*i)%n=(f+s*j)%n):i=j:=by
 have h1:(f+s*i-(f+s*j))%n=0:=afe.mp e
 obtain⟨d,hd⟩:=Int.dvd_of_emod_eq_zero h1
 have hq:s*u=n*(s*u / n)+1:=by
  have:=Int.mul_ediv_add_emod (s*u) n;rw[hu] at this;exact this.symm
 generalize s*u / n=q at hq;have key:i-j=n*(u*d-q*(i-j)):=by grind
 have h2:(i-j)%n=0:=Int.emod_eq_zero_of_dvd ⟨_,key⟩;have h3:i%n=j%n:=afe.mpr h2;rw[Pa hi hi',Pa hj hj'] at h3;exact h3
def Hw(s:Int):Prop:=(0<s/\s<=675)/\(∃u,s*u%676=1)/\∃u,s*u%26=1
theorem step_at(h0:0<=k)(h1:k<6):∃s,fK [dN 1,.int 3,.int 5,.int 7,.int 25,.int 675] k=aa (.int s)/\Hw s:=by
 have hk:k=0\/k=1\/k=2\/k=3\/k=4\/k=5:=by lia
 rcases hk with rfl|rfl|rfl|rfl|rfl|rfl
 .exact⟨1,rfl,by decide,⟨1,by decide⟩,⟨1,by decide⟩⟩
 .exact⟨3,rfl,by decide,⟨451,by decide⟩,⟨9,by decide⟩⟩
 .exact⟨5,rfl,by decide,⟨541,by decide⟩,⟨21,by decide⟩⟩
 .exact⟨7,rfl,by decide,⟨483,by decide⟩,⟨15,by decide⟩⟩
 .exact⟨25,rfl,by decide,⟨649,by decide⟩,⟨25,by decide⟩⟩
 .exact⟨675,rfl,by decide,⟨675,by decide⟩,⟨25,by decide⟩⟩
theorem Ur(e:z.cps.toList=l)(h1:1<=l.length)(h2:l.length<=8)(h3:∀c∈l,97<=c/\c<=122):nameB z=ao:=by
 have e2:z.length=l.length:=by rw[<-e];show z.cps.size=_;simp
 unfold nameB N6;rw[e,e2];simp only[jX,decide_eq_true_eq,qw]
 exact⟨⟨h1,h2⟩,h3⟩
theorem Pz(h:∀i j,i<n->j<n->f i=f j->i=j):((fj n).map f).Nodup:=by
 rw[Xm,List.pairwise_map];refine arC (R:=(·<·)) (λ{a b} ha hb hab e=>?_) Ox;have:=h a b (rT.mp ha) (rT.mp hb) e;lia
def n1(f s:Int)(k:Nat):Str:=⟨#[97+((f+s*k)%26).toNat]⟩
theorem aks{f s:Int}{n:Nat}(hs:Hw s)(hn:n<=26):Names ((fj n).map (n1 f s)):=by
 refine⟨Pz λi j hi hj e=>?_,λz hz=>?_⟩
 .obtain⟨_,_,u,hu⟩:=hs
  have e1:97+((f+s*i)%26).toNat=97+((f+s*j)%26).toNat:=by
   have:=congrArg (λz:Str=>z.cps.toList) e;simpa[n1] using this
  have a1:0<=(f+s*i)%26:=pG _ (by decide);have a2:0<=(f+s*j)%26:=pG _ (by decide);have:=Tr (n:=26) (f:=f) (i:=i) (j:=j) hu (by decide) (by lia) (by lia) (by lia) (by lia) (by lia);lia
 .obtain⟨k,_,rfl⟩:=gQ.mp hz
  have a1:0<=(f+s*k)%26:=pG _ (by decide);have a2:(f+s*k)%26<26:=uO _ (by decide);refine Ur (l:=[97+((f+s*k)%26).toNat]) rfl (cz _) (by show 1<=8;decide) λc hc=>?_
  rw[j8.mp hc];lia
def v2(f s:Int)(k:Nat):Int:=(f+s*k)%676
def two(v:Int):Str:=(⟨#[97+(v / 26).toNat]⟩:Str)++(⟨#[97+(v%26).toNat]⟩:Str)
def n2(hd tl:Str)(f s:Int)(q:Nat->Int)(k:Nat):Str:=hd++two (v2 f s k)++Txt.slice tl aj (aa (q k))
theorem abN(hd tl:Str)(f s:Int)(q:Nat->Int)(k:Nat):(n2 hd tl f s q k).cps.toList=hd.cps.toList++([97+(v2 f s k / 26).toNat,97+(v2 f s k%26).toNat]++(Txt.slice tl aj (aa (q k))).cps.toList):=by
 show((hd.cps++(#[97+(v2 f s k / 26).toNat]++#[97+(v2 f s k%26).toNat]))++(Txt.slice tl aj (aa (q k))).cps).toList=_
 simp
theorem akt{hd tl:Str}{f s:Int}{q:Nat->Int}{n:Nat}(hs:Hw s)(hn:n<=36)(hh:hd.length<=3)(ht:tl.length<=3)(ch:∀c∈hd.cps.toList,97<=c/\c<=122)(ct:∀c∈tl.cps.toList,97<=c/\c<=122):Names ((fj n).map (n2 hd tl f s q)):=by
 have b:∀k:Nat,0<=v2 f s k/\v2 f s k<676:=λk=>⟨pG _ (by decide),uO _ (by decide)⟩
 refine⟨Pz λi j hi hj e=>?_,λz hz=>?_⟩
 .obtain⟨_,⟨u,hu⟩,_⟩:=hs
  have e1:=congrArg (λz:Str=>z.cps.toList) e;simp only[abN] at e1;have e2:=List.append_cancel_left e1;rw[lQ,lQ,jM,lQ,lQ,jM] at e2;injection e2 with e3 e4
  injection e4 with e5 _
  have b1:=b i;have b2:=b j;have ev:v2 f s i=v2 f s j:=by lia
  have:=Tr (n:=676) (f:=f) (i:=i) (j:=j) hu (by decide) (by lia) (by lia) (by lia) (by lia) ev;lia
 .obtain⟨k,_,rfl⟩:=gQ.mp hz
  have bk:=b k;have l1:hd.cps.toList.length=hd.length:=by show _=hd.cps.size;simp
  have l2:(Txt.slice tl aj (aa (q k))).cps.toList.length=(Txt.slice tl aj (aa (q k))).length:=by show _=(Txt.slice tl aj (aa (q k))).cps.size;simp
  have l3:=PyProof.Txt.length_slice_le tl aj (aa (q k));refine Ur (abN hd tl f s q k) (by rw[dM,dM];show 1<=_+(2+_);lia) (by rw[dM,dM,l1,l2];show _+(2+_)<=8;lia) λc hc=>?_
  rcases dR.mp hc with hc|hc
  .exact ch c hc
  .rcases dR.mp hc with hc|hc
   .simp only[cM,mV,or_false] at hc;rcases hc with rfl|rfl<;>lia
   .exact ct c (alI hc)
def oJ(f:Int):List Nat:=(fj 8).map λ(k:Nat)=>97+((f+5*(k:Int))%26).toNat
def sl(z:Str)(n k:Nat):Str:=Txt.slice z (aa (k:Int)) (aa ((k:Int)+(n:Int)))
def sb(z:Str)(n:Nat):List Str:=(fj (8-n)).map (sl z (n+1))
def subs(z:Str)(m:Nat):List Str:=(fj m).flatMap (sb z)
theorem Tt(hz:z.length=8)(h:k+n<=8):(sl z n k).cps.toList=(z.cps.toList.drop k).take n:=by
 have:=eq_of_beq (slice_closesL (x:=z) (i:=(k:Int)) (j:=(k:Int)+(n:Int)) (by lia) (by lia) (by lia));unfold sl;rw[this]
 show((z.cps.toList.drop (k:Int).toNat).take ((k:Int)+(n:Int)-(k:Int)).toNat)=_
 rw[show((k:Int)+(n:Int)-(k:Int)).toNat=n by lia,zE]
theorem acO{f:Int}{k:Nat}(h:k<8):(oJ f)[k]?=aa (97+((f+5*(k:Int))%26).toNat):=by
 unfold oJ;rw[iG,XR h];rfl
theorem alW(f:Int):∀c∈oJ f,97<=c/\c<=122:=λc hc=>by
 obtain⟨k,_,rfl⟩:=gQ.mp hc
 have a1:0<=(f+5*(k:Int))%26:=pG _ (by decide);have a2:(f+5*(k:Int))%26<26:=uO _ (by decide);lia
theorem Vk(hz:z.cps.toList=oJ f)(hx:x∈sb z n):∃k,k<8-n/\x=sl z (n+1) k/\x.cps.toList=((oJ f).drop k).take (n+1)/\x.cps.toList.length=n+1:=by
 obtain⟨k,hk,rfl⟩:=gQ.mp hx
 have hk:=rT.mp hk;have hl:z.length=8:=by
  have:=congrArg qx hz;rw[show z.cps.toList.length=z.length by show _=z.cps.size;simp] at this;rw[this];simp[oJ]
 have e:=Tt (z:=z) (n:=n+1) (k:=k) hl (by lia);rw[hz] at e
 refine⟨k,hk,rfl,e,?_⟩
 rw[e,qu,BJ,show(oJ f).length=8 by simp[oJ]];lia
theorem aiq{z:Str}{f:Int}(hz:z.cps.toList=oJ f):Names (subs z 8):=by
 refine⟨?_,λx hx=>?_⟩
 .unfold subs;rw[Xm,List.pairwise_flatMap]
  refine⟨λn hn=>?_,?_⟩
  .have hn:=rT.mp hn;rw[<-Xm];refine Pz λi j hi hj e=>?_
   have hl:z.length=8:=by
    have:=congrArg qx hz;rw[show z.cps.toList.length=z.length by show _=z.cps.size;simp] at this;rw[this];simp[oJ]
   have e1:=congrArg (λz:Str=>z.cps.toList[0]?) e;simp only[Tt (z:=z) (n:=n+1) (k:=i) hl (by lia),Tt (z:=z) (n:=n+1) (k:=j) hl (by lia),hz] at e1;rw[Xq (JN n),Xq (JN n),af5,af5,Zq,Zq,acO (by lia),acO (by lia)] at e1;have e2:=gH e1;have a1:0<=(f+5*(i:Int))%26:=pG _ (by decide);have a2:0<=(f+5*(j:Int))%26:=pG _ (by decide);have:=Tr (n:=26) (s:=5) (u:=21) (f:=f) (i:=i) (j:=j) (by decide) (by decide) (by lia) (by lia) (by lia) (by lia) (by lia);lia
  .refine arJ (R:=(·<·)) (λ{a b} hab x hx y hy e=>?_) Ox
   obtain⟨_,_,_,_,l1⟩:=Vk hz hx
   obtain⟨_,_,_,_,l2⟩:=Vk hz hy
   rw[e] at l1;lia
 .obtain⟨n,hn,hx⟩:=List.mem_flatMap.mp hx
  have hn:=rT.mp hn
  obtain⟨k,hk,_,e,hl⟩:=Vk hz hx
  refine Ur rfl (by lia) (by lia) λc hc=>?_
  rw[e] at hc;exact alW f c (Oz (xO hc))
theorem abO(z:Str):(subs z 8).length=36:=by
 unfold subs sb;simp only[afV,bz,mU];rfl
end L2
namespace L2
section
variable{β:Type}[DecidableEq β]{ws:List (Int×β×β)}{s:β}
inductive jK(ws:List (Int×β×β)):β->List Int->β->Prop
 |nil (p:β):jK ws p [] p
 |cons {n:Int} {p q s:β} {r:List Int}:(n,p,q)∈ws->jK ws q r s->jK ws p (n::r) s
def gO(st:List (β×Int))(p:β):Option Int:=(st.find? λx=>decide (x.1=p)).map (·.2)
theorem rZ{st:List (β×Int)}{p:β}:gO st p=aj↔p∉st.map (·.1):=by
 unfold gO;rw[XF,O5];simp only[gQ,not_exists,not_and,decide_eq_true_eq]
theorem LQ(st:List (β×Int))(new:List β)(k:Int)(p:β):gO (st++new.map λg=>(g,k)) p=if p∈st.map (·.1) then gO st p else if p∈new then aa k else aj:=by
 unfold gO;rw[List.find?_append];by_cases h:p∈st.map (·.1)
 .rw[bC h]
  obtain⟨x,hx,rfl⟩:=gQ.mp h
  cases e:st.find? λy=>decide (y.1=x.1) with
  |none=>exact absurd (dZ rfl) (O5.mp e x hx)
  |some y=>rfl
 .rw[bJ h,(XF.mp (rZ.mpr h):st.find? _=aj),Option.none_or];induction new with
  |nil=>rfl
  |cons g new ih=>
   rw[cO,qR];by_cases e:g=p
   .subst e;rw[dZ rfl,bC dH];rfl
   .rw[dY e,ih];have:p∈g::new↔p∈new:=by rw[cM];exact⟨λz=>z.resolve_left λz=>e z.symm,.inr⟩
    simp only[this]
structure uJ(ws:List (Int×β×β))(s:β)(st:List (β×Int))(new:List β)(k:Nat):Prop where
 sound:∀p d,gO st p=aa d->d<=k/\∃r,jK ws p r s/\(r.length:Int)=d
 whole:∀p r,jK ws p r s->r.length<=k->∃d,gO st p=aa d/\d<=r.length
 last:∀p,p∈new↔gO st p=aa (k:Int)
 nd:(st.map (·.1)).Nodup
 sub:∀p∈st.map (·.1),p=s\/p∈ws.map (·.2.1)
 low:∀p d,gO st p=aa d->d+1<=st.length
theorem uJ.init(ws:List (Int×β×β))(s:β):uJ ws s [(s,0)] [s] 0 where
 sound p d h:=by
  unfold gO at h;rw[qR] at h;by_cases e:s=p
  .subst e;rw[dZ rfl] at h;cases h
   exact⟨ye _,[],.nil _,rfl⟩
  .rw[dY e] at h;cases h
 whole p r h l:=by
  cases h with
  |nil=>exact⟨0,by unfold gO;rw[qR,dZ rfl];rfl,ye _⟩
  |cons _ _=>exact absurd l (Nat.not_succ_le_zero _)
 last p:=by
  unfold gO;rw[qR,j8];by_cases e:s=p
  .subst e;rw[dZ rfl]
   exact⟨λ_=>rfl,λ_=>rfl⟩
  .rw[dY e]
   exact⟨λz=>absurd z.symm e,λz=>nomatch z⟩
 nd:=by simp
 sub p hp:=.inl (j8.mp hp)
 low p d h:=by
  unfold gO at h;rw[qR] at h;by_cases e:s=p
  .rw[dZ e] at h;cases h;exact ye _
  .rw[dY e] at h;cases h
theorem uJ.step{st:List (β×Int)}{new new':List β}{k:Nat}(B:uJ ws s st new k)(hn:new'.Nodup)(hm:∀g,g∈new'↔∃w∈ws,w.2.2∈new/\w.2.1∉st.map (·.1)/\w.2.1=g):uJ ws s (st++new'.map λg=>(g,(k:Int)+1)) new' (k+1) where
 sound p d h:=by
  rw[LQ] at h;split at h
  .obtain⟨h1,h2⟩:=B.sound p d h
   exact⟨by lia,h2⟩
  .split at h
   .rename_i m;cases h
    refine⟨by lia,?_⟩
    obtain⟨w,m1,m2,m3,rfl⟩:=(hm p).mp m
    obtain⟨_,r,h3,h4⟩:=B.sound _ _ ((B.last _).mp m2)
    exact⟨w.1::r,.cons (p:=w.2.1) (q:=w.2.2) m1 h3,by rw[dw];lia⟩
   .cases h
 whole p r h l:=by
  rw[LQ];by_cases hp:p∈st.map (·.1)
  .rw[bC hp];cases e:gO st p with
   |none=>exact absurd hp (rZ.mp e)
   |some d=>
    refine⟨d,rfl,?_⟩
    by_cases l':r.length<=k
    .obtain⟨d',e',h'⟩:=B.whole p r h l'
     rw[e] at e';cases e';exact h'
    .have:=(B.sound p d e).1;lia
  .rw[bJ hp];cases h with
   |nil=>
    obtain⟨d,e,_⟩:=B.whole s [] (.nil s) (nH _)
    rw[rZ.mpr hp] at e;cases e
   |cons hw hr=>
    rename_i n q r;rw[dw] at l⊢
    obtain⟨d,e,hd⟩:=B.whole q r hr (by lia)
    obtain⟨hk,r2,hr2,l2⟩:=B.sound q d e
    by_cases hdk:d=k
    .subst hdk;have m:p∈new':=(hm p).mpr ⟨_,hw,(B.last q).mpr e,hp,rfl⟩;rw[bC m]
     exact⟨_,rfl,by lia⟩
    .obtain⟨d',e',_⟩:=B.whole p (n::r2) (.cons hw hr2) (by rw[dw];lia)
     rw[rZ.mpr hp] at e';cases e'
 last p:=by
  rw[LQ];constructor
  .intro m
   obtain⟨w,m1,m2,m3,rfl⟩:=(hm p).mp m
   rw[bJ m3,bC m];rfl
  .intro e;split at e
   .have:=(B.sound p _ e).1;lia
   .split at e
    .rename_i m;exact m
    .cases e
 nd:=by
  rw[jf,gZ,show((λx:β×Int=>x.1) ∘ λg=>(g,(k:Int)+1))=id from rfl,JX];refine lO.mpr ⟨B.nd,hn,λa ha b hb e=>?_⟩;subst e
  obtain⟨w,_,_,m3,rfl⟩:=(hm a).mp hb
  exact m3 ha
 sub p hp:=by
  rw[jf,gZ,show((λx:β×Int=>x.1) ∘ λg=>(g,(k:Int)+1))=id from rfl,JX] at hp;rcases dR.mp hp with hp|hp
  .exact B.sub p hp
  .obtain⟨w,m1,_,_,rfl⟩:=(hm p).mp hp
   exact .inr (gQ.mpr ⟨w,m1,rfl⟩)
 low p d h:=by
  rw[LQ] at h;rw[dM,bz];split at h
  .have:=B.low p d h;lia
  .split at h
   .rename_i m;cases h
    obtain⟨w,m1,m2,m3,rfl⟩:=(hm p).mp m
    have:=B.low _ _ ((B.last _).mp m2);have:=afC m;lia
   .cases h
theorem len_sub:∀{l m:List β},l.Nodup->(∀x∈l,x∈m)->l.length<=m.length
 |[],_,_,_=>nH _
 |a::l,m,hn,h=>by
  have ha:=h a dH;have:=len_sub (m:=m.erase a) (jL.mp hn).2 λx hx=>(List.mem_erase_of_ne (show x≠a from λz=>(jL.mp hn).1 (z▸hx))).mpr (h x (gh _ hx))
  rw[List.length_erase_of_mem ha] at this;have:=afC ha;rw[dw];lia
theorem uJ.few{st:List (β×Int)}{new:List β}{k:Nat}(B:uJ ws s st new k):st.length<=ws.length+1:=by
 have h:(st.map (·.1)).length<=(s::ws.map (·.2.1)).length:=by
  refine len_sub B.nd λp hp=>?_
  rcases B.sub p hp with rfl|h
  .exact dH
  .exact gh _ h
 simpa using h
structure uK(ws:List (Int×β×β))(s:β)(st:List (β×Int)):Prop where
 sound:∀p d,gO st p=aa d->∃r,jK ws p r s/\(r.length:Int)=d
 whole:∀p r,jK ws p r s->∃d,gO st p=aa d/\d<=r.length
 few:∀p d,gO st p=aa d->d<=ws.length
 nd:(st.map (·.1)).Nodup
theorem uJ.done{st:List (β×Int)}{k:Nat}(B:uJ ws s st [] k):uK ws s st where
 sound p d h:=(B.sound p d h).2
 nd:=B.nd
 few p d h:=by
  have:=B.low p d h;have:=B.few;lia
 whole p r h:=by
  induction h with
  |nil p=>exact B.whole p [] (.nil p) (nH _)
  |cons hw hr ih=>
   rename_i n p q s' r
   obtain⟨d,e,hd⟩:=ih B
   obtain⟨hk,r2,hr2,l2⟩:=B.sound q d e
   have:d≠k:=λz=>by
    subst z;exact nomatch(B.last q).mpr e
   obtain⟨d',e',h'⟩:=B.whole p (n::r2) (.cons hw hr2) (by rw[dw];lia)
   refine⟨d',e',?_⟩
   rw[dw] at h'⊢;lia
theorem uK.self{st:List (β×Int)}(B:uK ws s st):gO st s=aa 0:=by
 obtain⟨d,e,h⟩:=B.whole s [] (.nil s)
 obtain⟨r,_,l⟩:=B.sound s d e
 rw[e];simp only[BW] at h;congr 1;lia
theorem uK.iff{st:List (β×Int)}(B:uK ws s st)(p:β):p∈st.map (·.1)↔∃r,jK ws p r s:=by
 constructor
 .intro h;cases e:gO st p with
  |none=>exact absurd h (rZ.mp e)
  |some d=>
   obtain⟨r,h,_⟩:=B.sound p d e
   exact⟨r,h⟩
 .rintro⟨r,h⟩
  obtain⟨d,e,_⟩:=B.whole p r h
  apply afr;intro n;rw[rZ.mpr n] at e;cases e
def Rch(ws:List (Int×β×β))(a b:β):Prop:=∃r,jK ws a r b
theorem jK.snoc{a b c:β}{n:Int}{r:List Int}(h:jK ws a r b)(hw:(n,b,c)∈ws):jK ws a (r++[n]) c:=by
 induction h with
 |nil p=>exact .cons hw (.nil _)
 |cons h1 _ ih=>exact .cons h1 (ih hw)
def Hz(w:Int×β×β):Int×β×β:=(w.1,w.2.2,w.2.1)
theorem abP{n:Int}{a b:β}:(n,a,b)∈ws.map Hz↔(n,b,a)∈ws:=by
 rw[gQ];constructor
 .rintro⟨w,h,e⟩
  injection e with e1 e2
  injection e2 with e2 e3
  subst e1 e2 e3;exact h
 .exact λh=>⟨_,h,rfl⟩
theorem jK.turn{a b:β}{r:List Int}(h:jK (ws.map Hz) a r b):jK ws b r.reverse a:=by
 induction h with
 |nil p=>exact .nil p
 |cons h1 _ ih=>
  rw[Fp];exact ih.snoc (abP.mp h1)
theorem jK.ant{a b:β}{r:List Int}(h:jK ws a r b):jK (ws.map Hz) b r.reverse a:=by
 induction h with
 |nil p=>exact .nil p
 |cons h1 _ ih=>
  rw[Fp];exact ih.snoc (abP.mpr h1)
theorem uK.aku{st:List (β×Int)}(B:uK (ws.map Hz) s st){p:β}(h:Rch ws s p):∃r,jK ws s r p/\r.length<=ws.length:=by
 obtain⟨r,h⟩:=h
 obtain⟨d,e,_⟩:=B.whole p _ h.ant
 obtain⟨r',h',l⟩:=B.sound p d e
 have:=B.few p d e;rw[bz] at this
 exact⟨_,h'.turn,by rw[afW];lia⟩
def lexLe:List Int->List Int->Prop
 |[],_=>True
 |_::_,[]=>False
 |a::r,b::q=>a<b\/(a=b/\lexLe r q)
theorem aal:∀{r q:List Int},r.length=q.length->lexLe r q->lexLe q r->r=q
 |[],[],_,_,_=>rfl
 |a::r,b::q,l,h,h'=>by
  have e:a=b:=by rcases h with h|h<;>rcases h' with h'|h'<;>lia
  subst e;rw[aal (Ge l) (h.resolve_left (by lia)).2 (h'.resolve_left (by lia)).2]
def nA(ws:List (Int×β×β))(p s:β)(r:List Int):Prop:=jK ws p r s/\∀r',jK ws p r' s->r.length<r'.length\/(r.length=r'.length/\lexLe r r')
theorem nA.unique{p:β}{r r':List Int}(h:nA ws p s r)(h':nA ws p s r'):r=r':=by
 rcases h.2 r' h'.1 with l|⟨l,a⟩
 .rcases h'.2 r h.1 with l'|⟨l',_⟩<;>lia
 .rcases h'.2 r h.1 with l'|⟨_,b⟩
  .lia
  .exact aal l a b
theorem nA.self(ws:List (Int×β×β))(s:β):nA ws s s []:=⟨.nil s,λr' _=>by
 cases r' with
 |nil=>exact .inr ⟨rfl,trivial⟩
 |cons _ _=>exact .inl (JN _)⟩
theorem nA.go{p q:β}{n d:Int}{r:List Int}{st:List (β×Int)}(hU:∀w∈ws,∀w'∈ws,w.1=w'.1->w=w')(B:uK ws s st)(hp:gO st p=aa d)(hw:(n,p,q)∈ws)(hq:∃e,gO st q=aa e/\e<d)(hmin:∀n' q' e,(n',p,q')∈ws->gO st q'=aa e->e<d->n<=n')(hr:nA ws q s r):nA ws p s (n::r):=by
 obtain⟨e,hq,hlt⟩:=hq
 obtain⟨r1,hr1,l1⟩:=B.sound q e hq
 have hle:r.length<=r1.length:=by rcases hr.2 r1 hr1 with h|h<;>lia
 refine⟨.cons hw hr.1,λr' h'=>?_⟩
 obtain⟨d',e',hd'⟩:=B.whole p r' h'
 rw[hp] at e';cases e';rw[dw];cases h' with
 |nil=>
  simp only[BW] at hd';lia
 |cons hw' hr'=>
  rename_i n' q' r';rw[dw] at hd'⊢
  obtain⟨e2,h2,l2⟩:=B.whole q' r' hr'
  by_cases hl:r.length<r'.length
  .exact .inl (by lia)
  .refine .inr ⟨by lia,?_⟩;have hn:=hmin n' q' e2 hw' h2 (by lia);by_cases hnn:n<n'
   .exact .inl hnn
   .have:n=n':=by lia
    subst this;have:=hU _ hw _ hw' rfl;cases this;refine .inr ⟨rfl,?_⟩;rcases hr.2 r' hr' with h|h
    .lia
    .exact h.2
end
end L2
namespace L2
open PySem PySem.Spec PyProof.Rows PySem.W
def Bh:Option (Option Vl)->Option (List aC)
 |some (some (.ow (.list ds)))=>aa ds
 |_=>aj
theorem LR(h:Bh x=aa ds):x=aa (aa (.ow (.list ds))):=by
 unfold Bh at h;split at h
 .cases h;rfl
 .cases h
def VP(i j:Nat)(f:FB):FS:=λenv C=>(Bh env[i]?).bind λ_=>(Bh env[j]?).bind λ_=>(f env C).bind λp=>(Bh p.2.1[i]?).bind λds=>(Bh p.2.1[j]?).bind λes=>(intD p.1).bind λk=>(if 0<=k/\k<gM then es[k.toNat]? else aj).bind λy=>if ds.length<gM/\i≠j then aa (.nx,(p.2.1.set j (aa (.ow (.list (es.eraseIdx k.toNat))))).set i (aa (.ow (.list (ds++[y])))),p.2.2) else aj
theorem aaS:∀{ds:List aC}{vs:List V}(n:Nat),cU H ds vs->cU H (ds.eraseIdx n) (vs.eraseIdx n)
 |[],vs,n,r=>by
  have:vs=[]:=r;subst this;exact r
 |x::ds,vs,0,r=>by
  obtain⟨v,r',rfl,_,w⟩:=r
  exact w
 |x::ds,vs,n+1,r=>by
  obtain⟨v,r',rfl,q,w⟩:=r
  exact⟨v,_,rfl,q,aaS n w⟩
theorem alX(ho:PE X o (rF i))(ho2:PE X o2 (rF j))(he:PE X e (fW X.K f))
  (hs0:uY (.Call (.Attribute o "append" apos) [.Call (.Attribute o2 "pop" El) [e] [] wW] [] cpos) aj pos.line X.env=pure aL:=by rfl)
  (hbase:wu o "append" X.env (eval o X.env)=eval o X.env:=by rfl)
  (hfew:((iu cpos (bO [.Call (.Attribute o2 "pop" El) [e] [] wW] X.env)).all (λx=>!x.1)&&(z6 cpos (zV [] X.env)).all (λx=>x.1.isSome)
   &&decide (([.Call (.Attribute o2 "pop" El) [e] [] wW]:List Expr).length+([]:List oY).length+(if([]:List oY).isEmpty then 0 else 1)<30))=ao:=by rfl)
  (hline:(apos.endLine==cpos.line)=ao:=by rfl)(hs:bO [.Call (.Attribute o2 "pop" El) [e] [] wW] X.env=(aL,eval (.Call (.Attribute o2 "pop" El) [e] [] wW) X.env)::bO [] X.env:=by rfl)(hplain:(iu cpos (bO [] X.env)).any (·.1)=aL:=by rfl)
  (anu:wu o2 "pop" X.env (eval o2 X.env)=eval o2 X.env:=by rfl)
  (aow:((iu wW (bO [e] X.env)).all (λx=>!x.1)&&(z6 wW (zV [] X.env)).all (λx=>x.1.isSome)
   &&decide (([e]:List Expr).length+([]:List oY).length+(if([]:List oY).isEmpty then 0 else 1)<30))=ao:=by rfl)
  (anv:(El.endLine==wW.line)=ao:=by rfl)(hs2:bO [e] X.env=(aL,eval e X.env)::bO [] X.env:=by rfl)(alY:(iu wW (bO [] X.env)).any (·.1)=aL:=by rfl):
  PS X (.Expr (.Call (.Attribute o "append" apos) [.Call (.Attribute o2 "pop" El) [e] [] wW] [] cpos) pos) (tS X.K (VP i j f)):=
 (TV (Hi Ow XX aft (uD.r RB) ho
  (oX (Hi Ow agK PySem.F.type_list_pop (uD.r ajP) ho2 (oX he rA hs2) anu aow anv hs2 alY) rA hs) hbase hfew hline hs hplain) hs0).weak λD σ H aW=>by
  obtain⟨Z,Θ,env,C,fl,env',C',S,hf,q⟩:=aW
  obtain⟨_,g1,hf⟩:=nR.mp hf
  obtain⟨_,g2,hf⟩:=nR.mp hf
  obtain⟨p,g3,hf⟩:=nR.mp hf
  obtain⟨ds,g4,hf⟩:=nR.mp hf
  obtain⟨es,g5,hf⟩:=nR.mp hf
  obtain⟨k,g6,hf⟩:=nR.mp hf
  obtain⟨y,g7,hf⟩:=nR.mp hf
  split at hf
  case isFalse=>cases hf
  rename_i g8;split at g7
  case isFalse=>cases g7
  rename_i g9;cases hf
  obtain⟨v0,rP,a,rfl,EY,ha0,r0⟩:=S.slot i _ (LR g1)
  obtain⟨v1,ev1,b,rfl,vs1,ha1,r1⟩:=S.slot j _ (LR g2)
  refine⟨_,rP,.inl ⟨rfl,EY,bU.of ha0⟩,_,ev1,.inl ⟨rfl,vs1,bU.of ha1⟩,Z,Θ,env,C,p.1,p.2.1,p.2.2,S,g3,λv H1 kk ff S1 bb=>?_⟩
  rw[Lw g6] at bb;have bb:v=.int k:=bb;subst bb;have g4:=LR g4;have g5:=LR g5
  obtain⟨w0,ew0,a',ea,ws0,hw0,s0⟩:=S1.slot i _ g4
  obtain⟨w1,ew1,b',eb,IV,hw1,s1⟩:=S1.slot j _ g5
  subst ea eb;rw[rP] at ew0;rw[ev1] at ew1;cases ew0;cases ew1
  obtain⟨yv,hy,ry⟩:=wN s1 g7
  have hk:k.toNat<IV.length:=(jW.mp hy).1;have g9:0<=k/\k<1000000:=g9;have six:Ry k IV.length=aa k.toNat:=by
   exact aq0 g9.1 (by lia)
  refine⟨b,IV,k,k.toNat,yv,rfl,rfl,hw1,by lia,by lia,six,hy,?_⟩
  have w1:fX X.K Z Θ p.2.1 σ H1 Θ (p.2.1.set j (aa (.ow (.list (es.eraseIdx k.toNat))))) p.2.2 σ (upd H1 b (.lst (IV.eraseIdx k.toNat))):=S1.write g5 ev1 ⟨_,fG,aaS _ s1⟩
  obtain⟨x0,ex0,a',ea,xs0,hx0,t0⟩:=w1.sm.slot i _ (show(p.2.1.set j (aa (.ow (.list (es.eraseIdx k.toNat)))))[i]?=_ by rw[xM (λz=>g8.2 z.symm)];exact g4)
  subst ea;rw[rP] at ex0;cases ex0
  refine⟨a,xs0,yv,rfl,rfl,hx0,by rw[jA t0,jq];have:ds.length<1000000:=g8.1;lia,?_⟩
  have ep:bG Z Θ (p.2.1.set j (aa (.ow (.list (es.eraseIdx k.toNat))))) σ=bG Z Θ p.2.1 σ:=by show _++(_++_)=_;rw[Tc g5]
  have mp:b∈bG Z Θ p.2.1 σ:=kE.mpr (.inr (.inr (nZ.mpr ⟨j,_,g5,ev1⟩)));have ry':RZ (er (bG Z Θ (p.2.1.set j (aa (.ow (.list (es.eraseIdx k.toNat))))) σ) (upd H1 b (.lst (IV.eraseIdx k.toNat)))) y yv:=by rw[ep,Mp mp];exact ry
  have w2:=w1.sm.write (o:=.lst (xs0++[yv])) (d':=.list (ds++[y])) (show(p.2.1.set j (aa (.ow (.list (es.eraseIdx k.toNat)))))[i]?=_ by rw[xM (λz=>g8.2 z.symm)];exact g4) rP ⟨_,fG,yu t0 ⟨yv,[],rfl,ry',rfl⟩⟩;exact q Θ σ _ (((fX.tM kk ff S1).trans w1).trans w2)
def aox(i j k:Nat)(ta:TA):TS:=λD σ H=>ta σ H λvs H1=>vs.length=3/\(∀v w z,vs=[v,w,z]->D.nx (((σ.set i (aa v)).set j (aa w)).set k (aa z)) H1)
section
variable{X:Cx}{pos:Pos}
theorem alZ{kt k2 pZ}(hc:X.calm=ao)(hN:X.N.Nodup)(hi:X.N[i]?=aa x)(hj:X.N[j]?=aa y)(hk:X.N[k]?=aa z)(hij:i≠j)(hik:i≠k)(hjk:j≠k)
  (hx:X.env.scope.names.lookup x=aa .local)(hy:X.env.scope.names.lookup y=aa .local)(hz:X.env.scope.names.lookup z=aa .local)(ha:PA X [a,b,c] ta)
  (hw:zQ [.Tuple [.Name x px,.Name y py,.Name z pz] kt pt] (.Tuple [a,b,c] k2 pZ) X.env=pure (aa [x,y,z]))
  (hs:zP [.Tuple [.Name x px,.Name y py,.Name z pz] kt pt] (.Tuple [a,b,c] k2 pZ) pos.line X.env=pure aL:=by rfl):
  PS X (.Assign [.Tuple [.Name x px,.Name y py,.Name z pz] kt pt] (.Tuple [a,b,c] k2 pZ) pos) (aox i j k ta):=by
 intro pins s σ H D I h;rw[exec_Assign_arm];refine aK (wj ?_);rw[hs];refine aK (bh ?_);rw[bJ (by decide)];refine aK (Tuple_ (bV (ha _ pins s σ H _ I h) λus s1 aW=>?_))
 obtain⟨vs,H1,I1,r1,l1,q1⟩:=aW
 cases r1 with
 |nil=>cases l1
 |cons rv r1=>
 cases r1 with
 |nil=>cases l1
 |cons rw' r1=>
 cases r1 with
 |nil=>cases l1
 |cons rz r1=>
 cases r1 with
 |cons _ _=>cases l1
 |nil=>
 rename_i v u1 w u2 zz u3;refine nF ?_ (by show 3<=cH;decide);have I2:Inv X pins σ H1 {s1 with heap:=s1.heap.push {cls:=.type "tuple",data:=.seq [u1,u2,u3].toArray}}:=I1.kept (t':=s1.toks) λb o e=>cR _ e
 rw[hw];refine aK (bh ?_);show aX (model X.prog X.w) X.A (do rule "assign.swapped-stores";let items <-unpackItems (.ref s1.heap.objs.size) 3 aj;FJ [λv=>wB X.env z v,λv=>wB X.env y v,λv=>wB X.env x v] items.reverse;pure Ru) _ _ _;refine aK (yf (aK (unpackItems_tuple (items:=#[u1,u2,u3]) (I.ok.hd hc) (IsTup.new s1.heap _) λh' hx'=>?_)));have I3:=I2.kept (h':=h') (t':=s1.toks) λb o e=>hx' b o (eU (cN e)) e
 show aX _ _ (FJ [λv=>wB X.env z v,λv=>wB X.env y v,λv=>wB X.env x v] [u3,u2,u1] >>= λ_=>pure Ru) _ _ _;refine aK (assignInOrder_cons (Jv (uZ I3 hN hk (.inl hz) rz (λs2 I4=>?_) (.inr hz))));refine assignInOrder_cons (Jv (uZ I4 hN hj (.inl hy) rw' (λs3 I5=>?_) (.inr hy)));refine assignInOrder_cons (Jv (uZ I5 hN hi (.inl hx) rv (λs4 I6=>assignInOrder_nil (bh ?_)) (.inr hx)));rw[Qg _ _ (kI hij),Qg _ _ (kI hik),Qg _ _ (kI hjk)] at I6
 exact⟨_,H1,I6,q1 _ _ _ rfl⟩
theorem acP{kt k2 pZ}(hc:X.calm=ao)(hN:X.N.Nodup)(hi:X.N[i]?=aa x)(hj:X.N[j]?=aa y)(hk:X.N[k]?=aa z)(hij:i≠j)(hik:i≠k)(hjk:j≠k)
  (hx:X.env.scope.names.lookup x=aa .local)(hy:X.env.scope.names.lookup y=aa .local)(hz:X.env.scope.names.lookup z=aa .local)(ha:PA X [a,b,c] (zm X.K g))
  (hw:zQ [.Tuple [.Name x px,.Name y py,.Name z pz] kt pt] (.Tuple [a,b,c] k2 pZ) X.env=pure (aa [x,y,z]))
  (hs:zP [.Tuple [.Name x px,.Name y py,.Name z pz] kt pt] (.Tuple [a,b,c] k2 pZ) pos.line X.env=pure aL:=by rfl):
  PS X (.Assign [.Tuple [.Name x px,.Name y py,.Name z pz] kt pt] (.Tuple [a,b,c] k2 pZ) pos) (tS X.K (jQ [i,j,k] g)):=(alZ hc hN hi hj hk hij hik hjk hx hy hz ha hw hs).weak λD σ H aW=>by
 obtain⟨Z,Θ,env,C,fl,env',C',S,hf,q⟩:=aW
 unfold jQ at hf;split at hf
 case h_2=>cases hf
 rename_i xs e1 C1 h1;split at hf
 case isFalse=>cases hf
 rename_i hl;cases hf
 refine⟨Z,Θ,env,C,xs,e1,C',S,h1,λvs as H1 k1 f1 n1 S1 a1=>⟨by rw[Lx a1,<-hl.1];rfl,λv w zz e=>?_⟩⟩
 obtain⟨S2,o2⟩:=Ue a1 hl.1 (bW.refl _) S1
 subst e;refine q Θ _ H1 ⟨mD.refl _ _,wL k1,λb m=>?_,S2⟩;rcases o2 b m with m|m
 .exact .inl (f1.own.subset m)
 .exact .inr (n1 b m)
end
theorem akv(rel:KV kvs vs):∀{us:List Value},us.length=vs.length->(∀(i:Nat)(v:Value),us[i]?=aa v->∃k x,vs[i]?=aa (k,x)/\(jb P w).is k v=ao)->Vals (kvs.map λkv=>kV kv.1) us:=by
 induction rel with
 |nil=>
  intro us h2 h3;cases us with
  |nil=>exact .nil
  |cons _ _=>cases h2
 |@cons p w ps ws hp _ ih=>
  intro us h2 h3;cases us with
  |nil=>cases h2
  |cons u us=>
   refine .cons ?_ (ih (Ge h2) λi v e=>h3 (i+1) v e)
   obtain⟨k,x,e1,e2⟩:=h3 0 u rfl
   have ek:k=p.1:=by rw[hp.1];exact congrArg Prod.fst (gH e1.symm)
   subst ek;exact aaR e2
section
variable{X:Cx}
theorem YM(hc:X.calm=ao):iI X (.builtin "sorted") (λxs H Q=>∃(d:aq)(kvs:List (Key×V))(ns:List Str),xs=[.ref d]/\H d=aa (.dK kvs)/\kvs.map (·.1)=ns.map .inr/\ns.length<64/\∀(l:aq)(ns':List Str),H l=aj->ns'.Perm ns->sortedS ns'=ao->Q (.ref l) (upd H l (.lst (ns'.map V.str)))):=by
 intro pins s σ H xs us Q I r h
 obtain⟨d,kvs,ns,rfl,hd,hns,few,q⟩:=h
 obtain⟨u,rfl,ru⟩:=vals1 r
 cases ru
 obtain⟨z,lo,vs,rel,dd⟩:=I.hok d _ hd
 obtain⟨ep,da⟩:=dd.dictAt
 have lv:vs.length=kvs.length:=(Paired.length rel).symm;have ln:kvs.length=ns.length:=by have:=congrArg qx hns;simpa using this
 refine Oo kind_sorted plain_sorted entry_sorted (args_sorted1 _) ?_;unfold mZ.«sorted»;refine aK (m:=Ri "sorted" 1 1 _) (bh (aK (ZX (A:=X.A.in1) (kdl_dict (knd:=jb X.prog X.w) (ep:=ep) lo) (I.ok.hd hc) da (by rw[lv];exact z) λh1 tk acc hsz kk hacc=>?_)));have hV:=akv (P:=X.prog) (w:=X.w) rel (us:=acc.toList) (by rw[nD];exact hacc.1) λi v e=>hacc.2 i v (by rw[<-Fj];exact e)
 have hV:Vals (ns.map V.str) acc.toList:=by
  rw[show ns.map V.str=(ns.map lA).map kV by rw[gZ];rfl,<-hns,gZ];exact hV
 have hS:StrsAre acc.toList ns:=Ka hV;have lu:acc.toList.length=ns.length:=by rw[<-hV.length,bz]
 refine aK (JC ?_ (by rw[jq];lia));have gL:(h1.push (seqObj "list" acc.toList.toArray 0)).get? h1.objs.size=aa (seqObj "list" acc.toList.toArray 0):=iK _ rfl;refine aK (mX (pF slot_list_sort ⟨_,gL,rfl⟩ entry_list_sort (list_sort_treeK strKind_oneLt gL hS.keysOf (λv1 v2 rest e=>keyKind_strs (by rw[<-e];exact hS)) (by lia) λst hp1 hp2=>⟨_,rfl,?_⟩) (args_list_sort _)))
 obtain⟨ns',b1,b2,b3⟩:=sorted_out_str hS hp1 hp2
 obtain⟨c,gD⟩:=sortedHeap_at (out:=(arrOf st).map (·.2)) gL
 have kb:∀b o,s.heap.get? b=aa o->(sortedHeap (h1.push (seqObj "list" acc.toList.toArray 0)) h1.objs.size acc.toList ((arrOf st).map (·.2))).get? b=aa o:=λb o e=>by
  have lb:b<h1.objs.size:=cN (kk b o e);rw[sortedHeap_old (eU lb) (by rw[zM];exact zF lb)];exact cR _ (kk b o e)
 exact bh ⟨_,rfl,.ref h1.objs.size,_,I.laid (o:=.lst (ns'.map V.str)) (t':=tk) kb hsz ⟨by rw[bz,b2.length_eq,jq];lia,((arrOf st).map (·.2)).toList,c,Ks b1,by rw[Array.toArray_toList];exact gD⟩,rfl,q _ ns' (I.hok.fresh hsz) b2 b3⟩
def GK:List aC->Option Vl
 |[.dict kvs]=>(strsOf (kvs.map (·.1))).bind λns=>bif decide (ns.length<64) then aa (.ow (.list ((nj strLt ns).map .str))) else aj
 |_=>aj
theorem aaT:∀{kvs:List (aC×aC)}{ns:List Str},strsOf (kvs.map (·.1))=aa ns->cW dm kvs=aa (ns.map .inr)
 |[],ns,h=>by cases h;rfl
 |(.str z,v)::kvs,ns,h=>by
  obtain⟨ns',h1,rfl⟩:∃ns',strsOf (kvs.map (·.1))=aa ns'/\ns=z::ns':=by
   have h:(strsOf (fB z::kvs.map (·.1)))=aa ns:=h;unfold strsOf at h;cases e:strsOf (kvs.map (·.1)) with
   |none=>rw[e] at h;cases h
   |some t=>rw[e] at h;cases h;exact⟨t,rfl,rfl⟩
  show cW dm ((.str z,v)::kvs)=_;unfold cW;rw[aaT h1];rfl
 |(.none,v)::kvs,ns,h=>by cases h
 |(.bool _,v)::kvs,ns,h=>by cases h
 |(.int _,v)::kvs,ns,h=>by cases h
 |(.list _,v)::kvs,ns,h=>by cases h
 |(.tuple _,v)::kvs,ns,h=>by cases h
 |(.dict _,v)::kvs,ns,h=>by cases h
theorem abQ{K:aQ}:mC K (λxs H Q=>∃(d:aq)(kvs:List (Key×V))(ns:List Str),xs=[.ref d]/\H d=aa (.dK kvs)/\kvs.map (·.1)=ns.map .inr/\ns.length<64/\∀(l:aq)(ns':List Str),H l=aj->ns'.Perm ns->sortedS ns'=ao->Q (.ref l) (upd H l (.lst (ns'.map V.str)))) GK:=by
 intro Z Θ env C σ H xs ds res S b e Q q;refine hide λGG gg=>?_
 unfold GK at e;split at e
 case h_2=>cases e
 rename_i kvs
 obtain⟨ns,hns,e⟩:=jZ e
 cases hl:decide (ns.length<64) with
 |false=>rw[hl] at e;cases e
 |true=>
 rw[hl] at e;cases e;have hl:=of_decide_eq_true hl
 obtain⟨v,rfl,bb⟩:=o9 b
 obtain⟨a,vs,rfl,da,r⟩:=bb.dct
 have hk:=aaT hns;rcases da with⟨ks,h1,ha⟩|⟨ks,⟨ne,h2⟩,ha⟩
 .rw[hk] at h1;cases h1;have lz:vs.length=(ns.map (lA:Str->Key)).length:=by rw[Dp r,wF hk]
  refine gg ⟨a,_,ns,rfl,ha,by rw[agG (by lia)],hl,λl ns' hn p hp=>?_⟩;rw[Vg p hp];exact q _ _ (bu.upd hn) (pL S (SX _) hn)
 .exact absurd (yo hk h2) ne
end
section
variable{X:Cx}{l de:Expr}{tl td:TE}{p pos kp:Pos}
end
inductive gA(K:aQ)(x:Str)(st:dz):Prop
 |mk {f:aq} {oc:Value} {od an:Option aq} {osl:Array (Option Value)} {kV doc pm cdv ct:Value} (a:oW K iZ x=aa (aa (.ref f))) (l:K.lookup f=aa ⟨oc,od,.func (zU x x (Dm st) (yt st) (cX st) .none kV doc pm an cdv ct),osl⟩) (c:PL K cdv x=ao) (k:xW K (.ref f)=ao):gA K x st
abbrev Vm(x:Str)(st:dz)(ps:List Str):Prop:=∀(kV doc pm:Value)(an:Option aq)(cdv ct:Value)(us:List Value),us.length=ps.length->bindArgs (zU x x (Dm st) (yt st) (cX st) .none kV doc pm an cdv ct) ⟨us,[]⟩=pure (ps.zip us)
section
variable{P:bQ}{w:bK}{K:aQ}{mg:Str->Option Value}{base h:bw}{x:Str}{st:dz}{k:Nat}{ps:List Str}{sp:Sp}
theorem gA.has(d:gA K x st)(X:K.In h)(G:h.Ns iZ mg)(o:∀f fd,gf K x x st f fd->dI P w K mg base fP k f fd ps sp)(hb:Vm x st ps):dg P w K mg base x k ps sp:=by
 obtain⟨a,l,c,kp⟩:=d
 have F:=U6 l c kp
 exact⟨_,_,Za X G a,kp,F.binds hb,o _ _ F⟩
theorem gA.apl(d:gA K x st)(X:K.In h)(G:h.Ns iZ mg)(o:∀f fd,mg x=aa (.ref f)->xW K (.ref f)=ao->Binds K fd ps []->gf K x x st f fd->dg P w K mg base x k ps sp)(hb:Vm x st ps):dg P w K mg base x k ps sp:=by
 obtain⟨a,l,c,kp⟩:=d
 have F:=U6 l c kp;exact o _ _ (Za X G a) kp (F.binds hb) F
theorem gA.law{y:Str}{fa:aq}(d:gA K x st)(X:K.In h)(G:h.Ns iZ mg)(hfa:mg x=aa (.ref fa))(o:∀base f fd,gf K x x st f fd->dI P w K mg base fP k f fd [y] sp)(hb:Vm x st [y]):
  ∃fd:dO,(∀(s:aJ)(v:Value),z8 s fd ⟨[v],[]⟩ [(y,v)])/\∀base:bw,K.In base->base.Ns iZ mg->dI P w K mg base fP k fa fd [y] sp:=by
 obtain⟨a,l,c,kp⟩:=d
 have e:=hfa.symm.trans (Za X G a);cases e
 exact⟨_,λs v=>.of_eq (hb _ _ _ _ _ _ [v] rfl),λbase _ _=>o base _ _ (U6 l c kp)⟩
theorem iW{B:List Value->Prop}(h:B []):∀us:List Value,us.length=0->B us
 |[],_=>h
theorem cj{n:Nat}{B:List Value->Prop}(h:∀a,∀us:List Value,us.length=n->B (a::us)):∀us:List Value,us.length=n+1->B us
 |a::us,e=>h a us (Ge e)
end
section
open PySem.SeqAt
open PySem.AutoSeq1 (wpAny_loadPart')
open PySem.MeetsSeq PySem.MeetsSeq2 PySem.MeetsSeq3
def apm(A:cV)(s:aJ)(x y:Value)(r:Bool):Prop:=∀(prog:bQ)(w:bK)(E Q:Value->aJ->Prop),Q (.bool r) s->aX (model prog w) A (Gg .Lt x y) Q E s
inductive Em(A:cV)(s:aJ):List Value->List Value->Bool->Prop
 |nil:Em A s [] [] aL
 |eq:EqAt A s x y ao->Em A s xs ys r->Em A s (x::xs) (y::ys) r
 |ne:EqAt A s x y aL->apm A s x y r->xs.length=ys.length->Em A s (x::xs) (y::ys) r
theorem Em.len(h:Em A s xs ys r):xs.length=ys.length:=by
 induction h with
 |nil=>rfl
 |eq _ _ ih=>rw[dw,dw,ih]
 |ne _ _ e=>rw[dw,dw,e]
end
theorem aoy(h:er P H a=aa o):H a=aa o:=by
 unfold er at h;split at h
 .cases h
 .exact h
theorem agW(its:List Value):Rz its.toArray aj aj (aa (-1))=its.reverse.toArray:=by
 unfold Rz
 show((aam ((its.toArray.size:Int)-1) (-1) (-1)).filterMap (its.toArray[·]?)).toArray=_
 have e:aam ((its.toArray.size:Int)-1) (-1) (-1)=(fj its.toArray.size).map λ(k:Nat)=>((its.toArray.size:Int)-1+(k:Int)*(-1)).toNat:=by
  unfold aam;have:(if(-1:Int)>0 then(if(its.toArray.size:Int)-1< -1 then(-1-((its.toArray.size:Int)-1)+-1-1) / -1 else 0) else(if(its.toArray.size:Int)-1>-1 then((its.toArray.size:Int)-1- -1- -1-1) / (- -1) else 0)).toNat=its.toArray.size:=by
   rw[bJ (by decide)];split
   .rw[show(- -1:Int)=1 from rfl,ahk];lia
   .lia
  simp only[this];refine xR λk _=>?_
  rw[Int.mul_comm]
 rw[e,af2];exact HT.ai4 its.toArray
def anw(K:aQ)(te ts:TE):TE:=λσ H Q=>te σ H λx H1=>ts σ H1 λy H2=>y=.int (-1)/\∃a xs,x=.ref a/\bU K H2 a xs/\∀p,H2 p=aj->Q (.ref p) (upd H2 p (.lst xs.reverse))
section
variable{X:Cx}{e es:Expr}{p2 pos:Pos}
theorem akx(he:PE X e te)(hs:PE X es ts):PE X (.Subscript e (.Slice aj aj (aa es) p2) pos) (anw X.K te ts):=by
 intro pins s σ H Q I h;refine Subscript_ (bV (he pins s σ H _ I h) λv s1 aW=>?_)
 obtain⟨x,H1,I1,r1,q1⟩:=aW
 refine wpAny_Slice ?_;rw[Y5];refine bh (bh ?_);rw[evalPart_some];refine bV (hs pins s1 σ H1 _ I1 q1) λvs s3 aW=>?_
 obtain⟨y,H3,I3,r3,rfl,a,xs,rfl,hx,q⟩:=aW
 obtain⟨tk,rfl⟩:=r3
 cases r1;have I4:Inv X pins σ H3 {s3 with heap:=s3.heap.push {cls:=.type "slice",data:=.fields #[.none,.none,.int (-1) tk]}}:=I3.kept (t':=s3.toks) λb ob q=>cR _ q
 obtain⟨its,r,ht,hz⟩:=I4.list hx
 have hlen:=r.length;have hg:aX (model X.prog X.w) X.A (wK (.ref a) (.ref s3.heap.objs.size)) (EP X pins σ Q) X.xe {s3 with heap:=s3.heap.push {cls:=.type "slice",data:=.fields #[.none,.none,.int (-1) tk]}}:=by
  refine afs ht.isList (af3 ..) .none .none (.int _ _) (by decide) ?_ (by rw[gG]<;>lia);rw[agW]
  refine⟨.ref _,_,I4.laid (t':=s3.toks) (o:=.lst xs.reverse) (λb ob q=>cR _ q) (cz _) ?_,rfl,q _ (I4.hok.fresh (cz _))⟩
  exact⟨by simpa using hz,_,0,r.reverse,iK _ rfl⟩
 show aX (model X.prog X.w) X.A (subscriptTail e (.Slice aj aj (aa es) p2) (.ref a) (.ref s3.heap.objs.size)) (EP X pins σ Q) X.xe {s3 with heap:=s3.heap.push {cls:=.type "slice",data:=.fields #[.none,.none,.int (-1) tk]}};exact tail_any (ops:=[.ref a,.ref s3.heap.objs.size]) ht.isList.typeIs slot_list_getitem.lookup hg (by with_unfolding_all rfl)
def MT(f g:FB):FE:=λenv C=>match f env C with
 |some (.list ds,e1,C1)=>match g e1 C1 with
  |some (.int k,e2,C2)=>if k=-1 then aa (.ow (.list ds.reverse),e2,C2) else aj
  |_=>aj
 |_=>aj
theorem al0{f g:FB}(he:PE X e (fW X.K f))(hs:PE X es (fW X.K g)):PE X (.Subscript e (.Slice aj aj (aa es) p2) pos) (tE X.K (MT f g)):=(akx he hs).weak λσ H Q aW=>by
 obtain⟨Z,Θ,env,C,r,env',C',S,hf,q⟩:=aW
 unfold MT at hf;split at hf
 case h_2=>cases hf
 rename_i ds e1 C1 h1;split at hf
 case h_2=>cases hf
 rename_i k e2 C2 h2;split at hf
 case isFalse=>cases hf
 rename_i hk;cases hf;subst hk
 refine⟨Z,Θ,env,C,_,e1,C1,S,h1,λv H1 k1 f1 S1 b1=>⟨Z,Θ,e1,C1,_,env',C',S1,h2,λw H2 k2 f2 S2 b2=>?_⟩⟩
 have kk:=k1.trans k2;have b3:=b1.go S1 k2 f2
 obtain⟨a,vs,rfl,ha,rr⟩:=b3.lst
 refine⟨b2.int,a,vs,rfl,bU.of ha,λp hp=>?_⟩
 have k4:bu Θ H2 (upd H2 p (.lst vs.reverse)):=bu.upd hp;exact q _ _ (kk.trans k4) (f1.trans f2) ((pL S2 (acM rr) hp).from kk)
def G9:aC->aC->Option Vl
 |.bool a,.bool b=>aa (.im (.bool (a != b)))
 |_,_=>aj
theorem al1{K:aQ}:ie K (λx y H Q=>∃a b,x=.bl a/\y=.bl b/\Q (.bl (a != b)) H) G9:=by
 intro Z Θ env C σ H x y dx dy res S bx fQ e Q q;unfold G9 at e;split at e
 .cases e
  exact⟨_,_,bx,fQ,q _ _ (bu.refl _ _) (jN S rfl rfl)⟩
 .cases e
end
section
variable{prog:bQ}{w:bK}{A:cV}{E:Value->aJ->Prop}{s:aJ}
theorem ajo{xs:Array Value}{k:Nat}{sl:Array (Option Value)}{Q:Option Value->aJ->Prop}(hx:s.heap.get? a=aa {cls:=.type "list",dict:=aj,data:=.seq xs k,slots:=sl})(hA:A.handled=aj)
  (h:∀h' tk,(∀b o,s.heap.get? b=aa o->h'.get? b=aa o)->Q aj {s with heap:=h',toks:=tk}):aX (model prog w) A (getAttr? (.ref a) "keys") Q E s:=by
 obtain⟨hp,g,d,tk,os⟩:=s
 have hT:∀tk',(⟨hp,g,d,tk',os⟩:aJ).TypeIs (.ref a) "list":=λ_=>⟨_,hx,rfl⟩
 have f1:=sub_AttributeError;have f3:=F.slot_list_getattribute.lookup;have f4:=F.slot_list_getattribute.bind (.ref a);have f5:=am_list_getattr_none;have hm:typeLookup (.type "list") "keys"=pure aj:=am_miss_of_fast (by decide +kernel);unfold getAttr? getAttrBy? getAttrBy
 repeat (any_goals (first|assumption|exact hT _|((with_reducible show aX _ _ (call (Value.builtin "list.__getattribute__") _ _) _ _ _);refine Rg F.slot_list_getattribute (hT _) am_entry_list_getattribute (F.args_list_getattribute_2 _ _) (meets_getattribute_miss_list a xs k sl "keys" _ hm (by decide) (by decide)) ⟨hx,hA,λh' tk' e hx'=>?_⟩)|wp_step))
 obtain⟨t',u',he⟩:=hx'.there
 have hE:∀tk2,(⟨h',g,d,tk2,os⟩:aJ).TypeIs (.ref e) "AttributeError":=λ_=>⟨_,he,rfl⟩
 show aX _ _ (af6 _ _ _ _ _ _ _) _ _ _;unfold af6
 repeat (any_goals (first|assumption|exact hE _|wp_step))
 exact h _ _ hx'.keeps
theorem aaU:K5 table "dict.update.loop"=aa mZ.«dict.update.loop»:=agD (by kernel_rfl)
theorem Kz:plainId "dict.update.loop"=ao:=by decide +kernel
def Vn(knd:xX prog w Key)(h:bw)(p:Key×Value)(v:Value):Prop:=∃t kv o c,v=.ref t/\knd.is p.1 kv=ao/\h.get? t=aa o/\o.cls=.type "tuple"/\o.data=.seq #[kv,p.2] c
theorem pair_items{Q:List Value->aJ->Prop}{t:aq}{o:Obj}{xs:Array Value}{c:Nat}(ho:s.heap.get? t=aa o)(hc:o.cls=.type "tuple")(hd:o.data=.seq xs c)(h:Q xs.toList s):aX (model prog w) A (afD (.ref t)) Q E s:=by
 unfold afD;refine aK (Cv (T:="tuple") ⟨o,ho,hc⟩ ?_);rw[bC (by decide)];exact aK (Fw ho hd (bh h))
theorem al2{R:sE->aJ->Prop}{I D:aq}{fp wr:List aq}{n:Nat}{Pv:Nat->Value->Prop}{St:Nat->bw->Prop}{s0:bw}{prs:List (Key×Value)}{res:Value}(W:yI prog w A.in1 I fp wr n Pv St)(fact:∀j v,Pv j v->∃p,prs[j]?=aa p/\Vn (jb prog w) s0 p v)(hw:∀b o,s0.get? b=aa o->b∉wr/\b≠D)(out:D∉fp)(pl:prs.length=n):
  ∀(m j:Nat)(s:aJ)(vs:List (Key×Value)),n-j=m->j<=n->St j s.heap->(∀b o,s0.get? b=aa o->s.heap.get? b=aa o)->s.heap.DictOf (jb prog w) D vs->vs.length+m<=cH->
  (∀h' tk,h'.DictOf (jb prog w) D ((prs.drop j).foldl (λvs p=>stored vs p.1 p.2) vs)->(∀b o,s0.get? b=aa o->h'.get? b=aa o)->R (.ok (.ret res)) {s with heap:=h',toks:=tk})->
  mJ (model prog w) A (.builtin "dict.update.loop" ⟨[.ref D,.ref I,jC j,res],[]⟩) R s:=by
 have Bg:D∉wr:=λz=>out (W.sub _ z)
 intro m;induction m with
 |zero=>
  intro j s vs hm hj st kp dd hl hR;have last:j=n:=by lia
  refine xV aaU ?_;rw[xN Kz _];show aX _ A.in1 (m7 (.ref I) >>= _) _ _ s;refine aK (W.done s _ _ (last▸st) λh' tk kk=>?_);show aX _ _ (arD D [] >>= _) _ _ _;refine aK (bh (bh (hR h' tk ?_ λb o e=>kk b o (hw b o e).1 (kp b o e))));rw[List.drop_of_length_le (by lia)]
  obtain⟨o,es,ep,ho,r⟩:=dd
  exact⟨o,es,ep,kk D o Bg ho,r⟩
 |succ m ih=>
  intro j s vs hm hj st kp dd hl hR;refine xV aaU ?_;rw[xN Kz _];show aX _ A.in1 (m7 (.ref I) >>= _) _ _ s;refine aK (W.item j s _ _ (by lia) st λv h' tk pv st' kk=>?_)
  obtain⟨p,hp,t,kv,o,c,rfl,hk,ho,hc,hd⟩:=fact j v pv
  have zu:∀b o,s0.get? b=aa o->h'.get? b=aa o:=λb o e=>kk b o (hw b o e).1 (kp b o e)
  have tK:h'.DictOf (jb prog w) D vs:=by
   obtain⟨o,es,ep,ho,r⟩:=dd
   exact⟨o,es,ep,kk D o Bg ho,r⟩
  refine aK (mX (aK (Jx (pair_items (zu t o ho) hc hd ?_))));refine mX (afT (hsz:=by lia) hk tK λh2 dd2 sb=>?_);refine bh ⟨wz Kz _,ih (j+1) _ _ (by lia) (by lia) (W.frame _ _ _ st' λb hbf o e=>(sb.2 b λz=>out (z▸hbf)).trans e) (λb o e=>(sb.2 b (hw b o e).2).trans (zu b o e)) dd2 ?_ λh3 tk3 dd3 kk3=>?_⟩
  .have:=stored_length_le vs p.1 p.2;lia
  .refine hR h3 tk3 ?_ kk3;have:prs.drop j=p::prs.drop (j+1):=by
    obtain⟨lt,e⟩:=jW.mp hp
    rw[Xp lt,e]
   rw[this,Js];exact dd3
theorem air{l:aq}{items:Array Value}{k:Nat}{sl:Array (Option Value)}{prs:List (Key×Value)}{Q:Value->aJ->Prop}(hx:s.heap.get? l=aa {cls:=.type "list",dict:=aj,data:=.seq items k,slots:=sl})(hA:A.handled=aj)(pl:prs.length=items.size)(hz:prs.length<=cH)
  (fact:∀(j:Nat) v,items[j]?=aa v->∃p,prs[j]?=aa p/\Vn (jb prog w) s.heap p v)
  (h:∀h' tk,h'.DictOf (jb prog w) s.heap.objs.size (prs.foldl (λvs p=>stored vs p.1 p.2) [])->(∀b o,s.heap.get? b=aa o->h'.get? b=aa o)->Q (.ref s.heap.objs.size) {s with heap:=h',toks:=tk}):aX (model prog w) A (call (.type "dict") [.ref l]) Q E s:=by
 refine callType_codes (Q₁:=λobj s₁=>obj=.ref s.heap.objs.size/\s₁={s with heap:=s.heap.push {cls:=.type "dict",data:=.dict #[]}}) F.kt_called_dict (F.kt_typeCall_dict_1 _) F.entry_dict_init (kt_code_dict_new _ ⟨rfl,rfl⟩) ?_;rintro obj s₁ ⟨rfl,rfl⟩;have hnew:(s.heap.push {cls:=.type "dict",data:=.dict #[]}).DictOf (jb prog w) s.heap.objs.size []:=agL s.heap;have hx':(s.heap.push {cls:=.type "dict",data:=.dict #[]}).get? l=aa {cls:=.type "list",dict:=aj,data:=.seq items k,slots:=sl}:=cR _ hx
 refine⟨hnew.typeIs,F.args_dict_init_2 _ _,?_⟩
 unfold mZ.«dict.__init__»;refine aK ?_;unfold arE;refine aK (afG hnew.typeIs ?_);show aX _ _ (pure (s.heap.objs.size,[eV l])) _ _ _;refine bh ?_;show aX _ _ (afw "dict.__init__" s.heap.objs.size (.ref l) [] .none) _ _ _;unfold afw;refine aK (Cv (T:="list") ⟨_,hx',rfl⟩ ?_);rw[bC (by decide)];refine aK (ajo hx' (by simp[hA]) λh1 tk1 k1=>?_);have hx1:=k1 l _ hx';have hl1:h1.IsList l items:=⟨_,hx1,rfl,_,rfl⟩
 have kD:s.heap.objs.size<h1.objs.size:=by
  obtain⟨o,es,ep,ho,_⟩:=hnew
  exact cN (k1 _ o ho)
 have IK:l<s.heap.objs.size:=cN hx;have ol:∀b o,s.heap.get? b=aa o->b<s.heap.objs.size:=λb o e=>cN e
 show aX _ _ (rule _ >>= _) _ _ _;refine aK (yf (aK (O6 (s:={s with heap:=h1,toks:=tk1}) hl1 ?_)));have W:=Z9 (prog:=prog) (w:=w) (A:=A.in1.in1) (by simp[hA]) h1.objs.size l (eU (Cw IK kD)) items;refine bh ⟨wz Kz _,?_⟩;refine al2 (s0:=s.heap) (prs:=prs) (n:=items.size) W fact (λb o e=>⟨by simp only[cM,mV,or_false];exact eU (Cw (ol b o e) kD),eU (ol b o e)⟩) (by simp only[cM,mV,or_false,not_or];exact⟨eU kD,zT IK⟩) pl _ 0 _ [] rfl (nH _) ⟨⟨_,iK _ rfl,rfl,rfl⟩,hl1.push _⟩ (λb o e=>cR _ (k1 b o (cR _ e))) ?_ (by show 0+(items.size-0)<=_;lia) λh' tk dd kk=>?_
 .obtain⟨o,es,ep,ho,r⟩:=hnew
  exact⟨o,es,ep,cR _ (k1 _ o ho),r⟩
 .exact⟨rfl,h h' tk dd kk⟩
end
theorem aan:∀(prs acc:List (Key×Value)),((acc++prs).map (·.1)).Nodup->prs.foldl (λvs p=>stored vs p.1 p.2) acc=acc++prs
 |[],acc,_=>(lq acc).symm
 |p::prs,acc,h=>by
  have e:stored acc p.1 p.2=acc++[p]:=by
   unfold stored;rw[bJ];simp only[Ph,decide_eq_true_eq,not_exists,not_and];intro x hx hp;rw[jf,cO] at h
   exact(lO.mp h).2.2 x.1 (gQ.mpr ⟨x,hx,rfl⟩) p.1 dH hp
  rw[Js,e,aan prs (acc++[p]) (by rw[mF];exact h),mF];rfl
abbrev Nj:=aq×Key×V
section
variable{X:Cx}
theorem ais(hc:X.calm=ao):iI X (.type "dict") (λxs H Q=>∃(p:aq)(rows:List Nj),xs=[.ref p]/\bU X.K H p (rows.map λr=>V.ref r.1)/\(∀r∈rows,H r.1=aa (.tup [kV r.2.1,r.2.2]))/\(rows.map (·.2.1)).Nodup/\∀D,H D=aj->Q (.ref D) (upd H D (.dK (rows.map (·.2))))):=by
 intro pins s σ H xs us Q I r h
 obtain⟨p,rows,rfl,hp,ha,nd,q⟩:=h
 obtain⟨u,rfl,ru⟩:=vals1 r
 cases ru
 obtain⟨its,r',pl,hz⟩:=I.list hp
 rw[bz] at hz;have key:∀(rows:List Nj)(its:List Value),(∀r∈rows,H r.1=aa (.tup [kV r.2.1,r.2.2]))->Vals (rows.map λr=>V.ref r.1) its->∃prs:List (Key×Value),prs.length=its.length/\KV (rows.map (·.2)) prs/\prs.map (·.1)=rows.map (·.2.1)/\∀(j:Nat) v,its[j]?=aa v->∃p,prs[j]?=aa p/\Vn (jb X.prog X.w) s.heap p v:=λrows=>by
  induction rows with
  |nil=>
   intro its _ r;cases r
   exact⟨[],rfl,.nil,rfl,λj v e=>by cases e⟩
  |cons a rows ih=>
   intro its ha r;cases r with
   |cons h t=>
    rename_i v its;cases h
    obtain⟨prs,l,kv,ks,f⟩:=ih its (λr hr=>ha r (gh _ hr)) t
    obtain⟨i2,r2,p2,_⟩:=I.tuple (dD.of (K:=X.K) (ha a dH))
    obtain⟨w1,w2,e1,x1,x2⟩:=r2.two
    subst e1
    obtain⟨o,ho,hcl,c,hd⟩:=p2
    refine⟨(a.2.1,w2)::prs,by rw[dw,dw,l],.cons ⟨rfl,x2⟩ kv,by rw[cO,cO,ks],λj v e=>?_⟩
    cases j with
    |zero=>cases e;exact⟨_,rfl,a.1,w1,o,c,rfl,yG x1,ho,hcl,hd⟩
    |succ j=>exact f j v (by simpa using e)
 obtain⟨prs,l,kv,ks,f⟩:=key rows its ha r'
 have zl:prs.length=rows.length:=by
  have:=congrArg qx ks;simpa using this
 obtain⟨o,n,ho,h1,h2,h3⟩:=pl
 obtain⟨cls,dct,data,sl⟩:=o
 simp only at h1 h2 h3;subst h1 h2 h3;refine air (prs:=prs) ho (I.ok.hd hc) (by rw[l,gG]) (by lia) (λj v e=>f j v (by simpa using e)) λh' tk dd kk=>?_
 rw[aan prs [] (by rw[jM,ks];exact nd),jM] at dd
 exact⟨.ref s.heap.objs.size,_,I.laid (t':=tk) (o:=.dK (rows.map (·.2))) kk (cz _) (G3 (by rw[bz];exact hz) (beq_eq_false_iff_ne.mpr (kI (eU I.big))) kv dd),rfl,q _ (I.hok.fresh (cz _))⟩
end
def pairsOf:List aC->Option (List (aC×aC))
 |[]=>aa []
 |.tuple [k,v]::r=>(pairsOf r).map λt=>(k,v)::t
 |_=>aj
def DY:List aC->Option Vl
 |[.list ds]=>(pairsOf ds).bind λkvs=>(cW dm kvs).bind λks=>if ks.Nodup then aa (.ow (.dict kvs)) else aj
 |_=>aj
theorem abR:∀{ds:List aC}{kvs:List (aC×aC)}{ks:List Key}{vs:List V},pairsOf ds=aa kvs->cW dm kvs=aa ks->cU E ds vs->∃rows:List Nj,vs=rows.map (λr=>V.ref r.1)/\(∀r∈rows,E r.1=aa (.tup [kV r.2.1,r.2.2]))/\rows.map (·.2.1)=ks/\ju E kvs (rows.map (·.2.2))
 |[],kvs,ks,vs,h1,h2,r=>by
  cases h1;cases h2;cases(show vs=[] from r)
  exact⟨[],rfl,λ_ h=>(nomatch h),rfl,rfl⟩
 |d::ds,kvs,ks,vs,h1,h2,r=>by
  unfold pairsOf at h1;split at h1
  .cases ‹_=[]›
  .rename_i k v t e;cases e
   obtain⟨kvs',h3,rfl⟩:=Bu.mp h1
   unfold cW at h2;split at h2
   .rename_i k' t' h4 h5;cases h2
    obtain⟨w,vs',rfl,⟨a,us,rfl,ha,x,us',rfl,rx,y,_,rfl,ry,rfl⟩,rs⟩:=r
    obtain⟨rows,rfl,hr,rfl,rd⟩:=abR h3 h5 rs
    have ex:x=kV k':=by
     cases k<;>first|(cases h4;exact rx)|cases h4
    subst ex
    refine⟨(a,k',y)::rows,rfl,λr hr'=>?_,rfl,⟨y,_,rfl,ry,rd⟩⟩
    rcases cM.mp hr' with rfl|hr'
    .exact ha
    .exact hr r hr'
   .cases h2
  .cases h1
theorem al3{K:aQ}:mC K (λxs H Q=>∃(p:aq)(rows:List Nj),xs=[.ref p]/\bU K H p (rows.map λr=>V.ref r.1)/\(∀r∈rows,H r.1=aa (.tup [kV r.2.1,r.2.2]))/\(rows.map (·.2.1)).Nodup/\∀D,H D=aj->Q (.ref D) (upd H D (.dK (rows.map (·.2))))) DY:=by
 intro Z Θ env C σ H xs ds res S b e Q q;unfold DY at e;split at e
 .obtain⟨kvs,h1,e⟩:=nR.mp e
  obtain⟨ks,h2,e⟩:=nR.mp e
  split at e
  .rename_i nd;cases e
   obtain⟨v,rfl,bb⟩:=o9 b
   obtain⟨a,vs,rfl,ha,r⟩:=bb.lst
   obtain⟨rows,rfl,hr,rfl,rd⟩:=abR h1 h2 r
   refine⟨a,rows,rfl,bU.of ha,λr hr'=>aoy (hr r hr'),nd,λD hD=>q _ _ (bu.upd hD) (acv S (λ_ h=>nomatch h) (.inl ⟨_,h2,?_⟩) rd hD)⟩
   show(if D=D then aa _ else _)=_
   rw[bC rfl,List.zip_map']
  .cases e
 .cases e
end L2
namespace W8
open PySem L2
abbrev zaa:List Str:=["thing"]
abbrev zab:List Str:=["keys"]
abbrev zac:List Str:=["house","part","outer","over"]
abbrev zad:List Str:=["house","part"]
abbrev zae:List Str:=["house","paper","holder","signer","day"]
abbrev zaf:List Str:=["paper","person"]
abbrev zag:List Str:=["house","paper","day","over"]
abbrev zah:List Str:=["house","paper","day"]
abbrev zai:List Str:=["ways","holder","signer"]
abbrev zaj:List Str:=["ways","steps","person"]
abbrev zak:List Str:=["ways","signer","steps","newest","many","person"]
abbrev zal:List Str:=["ways","signer"]
abbrev zam:List Str:=["house","paper","holder","signer","day","thing","ways"]
abbrev zan:List Str:=["house","paper","holder","signer","day","thing"]
abbrev zao:List Str:=["ways","holder","numbers"]
abbrev zap:List Str:=["_law_cell","_law_k"]
abbrev zaq:List Str:=["_law_script","_law_k"]
abbrev zar:List Str:=["_law_left","_law_many"]
abbrev zas:List Str:=["_law_found","_law_due"]
abbrev zat:List Str:=["_law_left","_law_many","_law_letters","_law_head","_law_tail","_law_first","_law_by","_law_stem","_law_found","_law_size","_law_k","_law_value","_law_two"]
abbrev zau:List Str:=["_law_left","_law_things"]
abbrev zav:List Str:=["_law_left"]
abbrev zaw:List Str:=["_law_left","_law_names"]
abbrev zax:List Str:=["_law_parts","_law_part"]
abbrev zay:List Str:=["_law_left","_law_parts","_law_people","_law_many","_law_paper","_law_day"]
abbrev zaz:List Str:=["_law_parts","_law_leaves"]
abbrev za0:List Str:=["_law_left","_law_most"]
abbrev za1:List Str:=["_law_parts","_law_paper","_law_day","_law_leave"]
abbrev za2:List Str:=["_law_parts","_law_leaves","_law_paper","_law_both","_law_day","_law_thing","_law_named","_law_here","_law_gone","_law_one"]
abbrev za3:List Str:=["_law_parts","_law_leaves","_law_paper","_law_both","_law_day","_law_thing"]
abbrev za4:List Str:=["_law_left","_law_parts","_law_leaves","_law_paper","_law_holder","_law_day","_law_here","_law_found","_law_turn","_law_some","_law_leave"]
abbrev za5:List Str:=["_law_left","_law_parts","_law_leaves","_law_paper","_law_holder","_law_day"]
abbrev za6:List Str:=["_law_left","_law_row","_law_leaves","_law_numbers","_law_number","_law_at","_law_ahead","_law_behind","_law_some"]
abbrev za7:List Str:=["_law_left","_law_row","_law_leaves"]
abbrev za8:List Str:=["_law_script"]
abbrev za9:List Str:=["_law_letters","_law_left"]
abbrev zba:List Str:=["_law_k"]
abbrev zbb:List Str:=["number","giver","taker"]
abbrev zbc:List Str:=["_law_leave"]
def top(i:Nat):dz:=PySem.Challenge.pw_rankseals_k18_rows_taken_and_spoilt.main.body.getD i (.Pass ⟨0,0,0,0⟩)
abbrev QT:dz:=top 1
theorem ahw:gR zaa zaa (cX QT):=⟨rfl,rfl,rfl,by decide +kernel,rfl,by decide +kernel,by decide +kernel⟩
abbrev JZ:dz:=top 3
theorem ahx:gR zab zab (cX JZ):=⟨rfl,rfl,rfl,by decide +kernel,rfl,by decide +kernel,by decide +kernel⟩
abbrev JP:dz:=top 5
theorem JF:gR zac zad (cX JP):=⟨rfl,rfl,rfl,by decide +kernel,rfl,by decide +kernel,by decide +kernel⟩
abbrev Tu:dz:=top 7
theorem ajp:gR zae zae (cX Tu):=⟨rfl,rfl,rfl,by decide +kernel,rfl,by decide +kernel,by decide +kernel⟩
abbrev RV:dz:=top 8
theorem ait:gR zaf zaf (cX RV):=⟨rfl,rfl,rfl,by decide +kernel,rfl,by decide +kernel,by decide +kernel⟩
abbrev KC:dz:=top 9
theorem aao:gR zag zah (cX KC):=⟨rfl,rfl,rfl,by decide +kernel,rfl,by decide +kernel,by decide +kernel⟩
abbrev QV:dz:=top 10
theorem Gf:gR (["ways","holder","signer","steps","row","number"]:List Str) zai (cX QV):=⟨rfl,rfl,rfl,by decide +kernel,rfl,by decide +kernel,by decide +kernel⟩
abbrev JQ:dz:=top 11
theorem ahb:gR zaj zaj (cX JQ):=⟨rfl,rfl,rfl,by decide +kernel,rfl,by decide +kernel,by decide +kernel⟩
abbrev Kf:dz:=top 12
theorem zW:gR zak zal (cX Kf):=⟨rfl,rfl,rfl,by decide +kernel,rfl,by decide +kernel,by decide +kernel⟩
abbrev Lh:dz:=top 14
theorem aaV:gR zam zan (cX Lh):=⟨rfl,rfl,rfl,by decide +kernel,rfl,by decide +kernel,by decide +kernel⟩
abbrev Jf:dz:=top 15
theorem afM:gR zaa zaa (cX Jf):=⟨rfl,rfl,rfl,by decide +kernel,rfl,by decide +kernel,by decide +kernel⟩
abbrev Qx:dz:=top 16
theorem Ck:gR (["ways","holder","numbers","person","number","giver","taker"]:List Str) zao (cX Qx):=⟨rfl,rfl,rfl,by decide +kernel,rfl,by decide +kernel,by decide +kernel⟩
abbrev Vo:dz:=top 18
theorem acQ:gR (["_law_cell","_law_k","_law_m"]:List Str) zap (cX Vo):=⟨rfl,rfl,rfl,by decide +kernel,rfl,by decide +kernel,by decide +kernel⟩
abbrev Qj:dz:=top 19
theorem YQ:gR (["_law_script","_law_k","_law_cell"]:List Str) zaq (cX Qj):=⟨rfl,rfl,rfl,by decide +kernel,rfl,by decide +kernel,by decide +kernel⟩
abbrev Us:dz:=top 20
theorem abS:gR (["_law_left","_law_many","_law_digit"]:List Str) zar (cX Us):=⟨rfl,rfl,rfl,by decide +kernel,rfl,by decide +kernel,by decide +kernel⟩
abbrev GP:dz:=top 21
theorem aky:gR zas zas (cX GP):=⟨rfl,rfl,rfl,by decide +kernel,rfl,by decide +kernel,by decide +kernel⟩
abbrev xZ:dz:=top 22
theorem qT:gR zat zar (cX xZ):=⟨rfl,rfl,rfl,by decide +kernel,rfl,by decide +kernel,by decide +kernel⟩
abbrev QW:dz:=top 23
theorem Zw:gR (["_law_left","_law_things","_law_rest","_law_found"]:List Str) zau (cX QW):=⟨rfl,rfl,rfl,by decide +kernel,rfl,by decide +kernel,by decide +kernel⟩
abbrev QX:dz:=top 24
theorem Zx:gR (["_law_left","_law_first"]:List Str) zav (cX QX):=⟨rfl,rfl,rfl,by decide +kernel,rfl,by decide +kernel,by decide +kernel⟩
abbrev QZ:dz:=top 25
theorem ahy:gR zav zav (cX QZ):=⟨rfl,rfl,rfl,by decide +kernel,rfl,by decide +kernel,by decide +kernel⟩
abbrev Qk:dz:=top 26
theorem Jy:gR (["_law_left","_law_names","_law_found","_law_k","_law_name"]:List Str) zaw (cX Qk):=⟨rfl,rfl,rfl,by decide +kernel,rfl,by decide +kernel,by decide +kernel⟩
abbrev Ql:dz:=top 27
theorem Qc:gR (["_law_parts","_law_part","_law_found"]:List Str) zax (cX Ql):=⟨rfl,rfl,rfl,by decide +kernel,rfl,by decide +kernel,by decide +kernel⟩
abbrev RW:dz:=top 28
theorem Kg:gR (["_law_left","_law_many","_law_found","_law_last","_law_k"]:List Str) zar (cX RW):=⟨rfl,rfl,rfl,by decide +kernel,rfl,by decide +kernel,by decide +kernel⟩
abbrev Qd:dz:=top 29
theorem vZ:gR (["_law_left","_law_parts","_law_people","_law_many","_law_paper","_law_day","_law_found","_law_over","_law_number","_law_at","_law_to","_law_part","_law_days","_law_most"]:List Str) zay (cX Qd):=⟨rfl,rfl,rfl,by decide +kernel,rfl,by decide +kernel,by decide +kernel⟩
abbrev Q0:dz:=top 30
theorem ahz:gR zaz zaz (cX Q0):=⟨rfl,rfl,rfl,by decide +kernel,rfl,by decide +kernel,by decide +kernel⟩
abbrev Ut:dz:=top 31
theorem wH:gR (["_law_left","_law_most","_law_names","_law_parts","_law_people","_law_some","_law_sides","_law_part","_law_paper","_law_day"]:List Str) za0 (cX Ut):=⟨rfl,rfl,rfl,by decide +kernel,rfl,by decide +kernel,by decide +kernel⟩
abbrev Uu:dz:=top 32
theorem akz:gR za1 za1 (cX Uu):=⟨rfl,rfl,rfl,by decide +kernel,rfl,by decide +kernel,by decide +kernel⟩
abbrev KD:dz:=top 33
theorem Kh:gR za2 za3 (cX KD):=⟨rfl,rfl,rfl,by decide +kernel,rfl,by decide +kernel,by decide +kernel⟩
abbrev Gj:dz:=top 34
theorem yj:gR za4 za5 (cX Gj):=⟨rfl,rfl,rfl,by decide +kernel,rfl,by decide +kernel,by decide +kernel⟩
abbrev KH:dz:=top 35
theorem CV:gR za6 za7 (cX KH):=⟨rfl,rfl,rfl,by decide +kernel,rfl,by decide +kernel,by decide +kernel⟩
abbrev Qm:dz:=top 36
theorem tV:gR (["_law_left","_law_names","_law_numbers","_law_one","_law_other","_law_n","_law_m","_law_leaves","_law_house","_law_paper","_law_thing","_law_both","_law_due"]:List Str) zav (cX Qm):=⟨rfl,rfl,rfl,by decide +kernel,rfl,by decide +kernel,by decide +kernel⟩
abbrev VR:dz:=top 37
theorem nM:gR (["_law_script","_law_k","_law_left","_law_parts","_law_people","_law_leaves","_law_paper","_law_day","_law_house","_law_every","_law_turn","_law_holder","_law_row","_law_signer","_law_thing","_law_kept","_law_due","_law_found","_law_told"]:List Str) za8 (cX VR):=⟨rfl,rfl,rfl,by decide +kernel,rfl,by decide +kernel,by decide +kernel⟩
structure Txt(K:aQ)(mg:Str->Option Value):Prop where
 M3:mg "abs"=aj
 HB:mg "all"=aj
 Ak:mg "bool"=aj
 Vp:mg "dict"=aj
 Q3:mg "enumerate"=aj
 yP:mg "int"=aj
 mG:mg "isinstance"=aj
 lX:mg "len"=aj
 vB:mg "list"=aj
 V0:mg "max"=aj
 Ax:mg "min"=aj
 rm:mg "range"=aj
 yp:mg "sorted"=aj
 HD:mg "str"=aj
 Af:mg "tuple"=aj
 M4:mg "zip"=aj
@[reducible] def Qn:FS:=(bD (cQ 2 (Bc (c7 (aP vL (aH 1) (az (yL 0)))) (HR 0 (aH 1)) (aN (.int 0)))) (eO (dj (au (aP bI (az (dj (au (aN (.int 0)) (au (eY Hr (cZ (aH 2) eN)) aR)))) (az (eY yM (cZ (az (aP Nb (az (eY Hr (cZ (aH 2) eN))) (az (aP yK (az (aN (.int 10))) (az (aN (.int 18))))))) eN)))) (au (aP cu (aH 2) (az (aP lF (az (aN (.int 1000003))) (aH 1)))) (au (aN (.int 0)) aR))))))
def JG:FN:=fN 2 3 Qn
@[reducible] def Vq:FS:=(bD (cQ 2 (aP lW (az (aP lF (az (aP cu (az (aP cu (az (aP lW (aH 0) (az (aN (.int 2147483629))))) (az (aP lF (az (aP lF (aH 1) (aH 1))) (az (aN (.int 7919))))))) (az (aN (.int 11))))) (az (aN (.int 48271))))) (az (aN (.int 2147483647))))) (eO (aP lW (az (aP lF (aH 2) (aH 2))) (az (aN (.int 1999999973))))))
def Hf:FN:=fN 2 3 Vq
@[reducible] def Ma:FS:=(bD (vN 0 (az (aN (.int 2))) (aP cu (az (uC 0 (az (aN (.int 2))))) (az (aN (.int 1))))) (bD (gY (c7 (aP xq (az (uC 0 (az (aN (.int 0))))) (az (aN (.int 0))))) (bD (cQ 2 (aP lW (az (uC 0 (az (aN (.int 0))))) (aH 1))) (bD (vN 0 (az (aN (.int 0))) (aP yC (az (uC 0 (az (aN (.int 0))))) (aH 1))) (pQ 2))) iC) (eO (aP lW (az (aP yC (az (bH Hf (au (bH Hf (au (uC 0 (az (aN (.int 1)))) (au (uC 0 (az (aN (.int 2)))) aR))) (au (aP cu (az (uC 0 (az (aN (.int 2))))) (az (aN (.int 64)))) aR)))) (az (aN (.int 64))))) (aH 1)))))
def cA:FN:=fN 2 3 Ma
@[reducible] def BP:FS:=(bD (cQ 11 (aP lW (az (aP cu (aH 5) (az (aP lF (aH 6) (aH 10))))) (az (aN (.int 676))))) (bD (cQ 12 (aP cu (az (aP bI (aH 2) (az (aP yC (aH 11) (az (aN (.int 26))))))) (az (aP bI (aH 2) (az (aP lW (aH 11) (az (aN (.int 26))))))))) (lG 8 (aP cu (az (aP cu (aH 3) (aH 12))) (az (fD (aH 4) gB (dJ (az (aP lW (az (aP cu (az (aP lF (aH 10) (aH 10))) (aH 5))) (az (aN (.int 4))))))))))))
@[reducible] def Jq:FE:=(aP bI (aH 1) (az (aP lW (az (aP cu (aH 2) (az (aP lF (aH 3) (aH 0))))) (az (aN (.int 26))))))
@[reducible] def Pj:FE:=(fD (aH 1) (dJ (aH 0)) (dJ (az (aP cu (aH 0) (aH 2)))))
@[reducible] def BR:FS:=(Ni 8 (az (j5 (jH (az (aP yJ (az (aN (.int 9))) (aH 9)))) .one gC Pj [7,9])))
@[reducible] def Jr:FE:=(aP bI (aH 1) (az (aP lW (az (aP cu (aH 2) (az (aP lF (az (aN (.int 5))) (aH 0))))) (az (aN (.int 26))))))
@[reducible] def Pk:FE:=(aP bI (aH 1) (az (bH cA (au (aM 2) (au (aN (.int 26)) aR)))))
@[reducible] def Pn:FE:=(aP bI (aH 1) (az (bH cA (au (aM 2) (au (aN (.int 26)) aR)))))
@[reducible] def Gb:FS:=(bD (cQ 2 (aN (.str (eZ "abcdefghijklmnopqrstuvwxyz")))) (bD (cQ 3 (ux (az (aN (.str (eZ "")))) (az (j5 (jH (az (bH cA (au (aM 0) (au (aN (.int 4)) aR))))) .one gC Pn [2,0])))) (bD (cQ 4 (ux (az (aN (.str (eZ "")))) (az (j5 (jH (az (bH cA (au (aM 0) (au (aN (.int 4)) aR))))) .one gC Pk [2,0])))) (bD (jQ [5,6] (fJ (bH cA (au (aM 0) (au (aN (.int 676)) aR))) (fJ (aP bI (az (dj (au (aN (.int 1)) (au (aN (.int 3)) (au (aN (.int 5)) (au (aN (.int 7)) (au (aN (.int 25)) (au (aN (.int 675)) aR)))))))) (az (bH cA (au (aM 0) (au (aN (.int 6)) aR))))) aR))) (bD (gY (c7 (aP iD (az (bH cA (au (aM 0) (au (aN (.int 4)) aR)))) (az (aN (.int 0))))) (bD (jQ [7,8] (fJ (ux (az (aN (.str (eZ "")))) (az (j5 (jH (az (aN (.int 8)))) .one gC Jr [2,5]))) (fJ (dj aR) aR))) (bD (iJ (HX (az (aN (.int 1))) (az (aN (.int 9)))) (dF 9) BR) (eO (fD (aH 8) gB (dJ (aH 1)))))) iC) (bD (gY (ni (c7 (aP vL (aH 1) (az (aN (.int 27))))) (c7 (aP iD (az (bH cA (au (aM 0) (au (aN (.int 3)) aR)))) (az (aN (.int 0)))))) (eO (j5 (jH (aH 1)) .one gC Jq [2,5,6])) iC) (bD (cQ 8 (dj aR)) (bD (iJ (jH (aH 1)) (dF 10) BP) (pQ 8)))))))))
def Cm:FN:=fN 2 13 Gb
@[reducible] def Fv:FS:=(vN 2 (aH 4) (aP bI (az (aP cu (az (dj (au (aN (.str (eZ ""))) aR))) (az (fD (aH 1) gB (dJ (aH 3)))))) (az (Bc (c7 (aP xq (az (bH cA (au (aM 0) (au (aN (.int 4)) aR)))) (az (aN (.int 0))))) (bH cA (au (aM 0) (au (aP cu (aH 3) (az (aN (.int 1)))) aR))) (aN (.int 0))))))
@[reducible] def Qo:FS:=(bD (cQ 2 Va) (bD (iJ (N8 (aM 1)) (vU 2 (mK (dF 3) (mK (dF 4) vG))) Fv) (pQ 2)))
def JH:FN:=fN 2 5 Qo
@[reducible] def Qy:FS:=(bD (lG 2 (aM 3)) (cQ 3 (aP cu (az (aP cu (aH 3) (az (aN (.int 1))))) (az (aP lF (az (bH cA (au (aM 0) (au (aN (.int 2)) aR)))) (az (bH cA (au (aM 0) (au (aN (.int 3)) aR)))))))))
@[reducible] def R0:FS:=(bD (jQ [2,3] (fJ (dj aR) (fJ (bH cA (au (aM 0) (au (aN (.int 3)) aR))) aR))) (bD (iJ (jH (aH 1)) (dF 4) Qy) (pQ 2)))
def Dc:FN:=fN 2 5 R0
@[reducible] def Yq:FT:=(c7 (aP jF (aH 1) (aH 0)))
@[reducible] def Yr:FS:=(bD (lG 2 (aM 1)) (cQ 1 (aP bI (aH 0) (aH 1))))
@[reducible] def Qp:FS:=(bD (cQ 2 (dj aR)) (bD (uH Yq Yr) (pQ 2)))
def Cp:FN:=fN 2 3 Qp
@[reducible] def Q4:FS:=(bD (cQ 1 (aP bI (az (dj (au (bH cA (au (aM 0) (au (aN (.int 9)) aR))) (au (bH cA (au (aM 0) (au (aN (.int 9)) aR))) (au (aP yJ (az (aN (.int 99990))) (az (bH cA (au (aM 0) (au (aN (.int 9)) aR))))) aR))))) (az (bH cA (au (aM 0) (au (aN (.int 3)) aR)))))) (eO (fV (au (aM 1) (au (eY vA (cZ (az (aN (.int 99999))) (cZ (az (aP cu (aH 1) (az (aP bI (az (dj (au (aN (.int 0)) (au (bH cA (au (aM 0) (au (aN (.int 12)) aR))) (au (aN (.int 99999)) aR))))) (az (bH cA (au (aM 0) (au (aN (.int 3)) aR)))))))) eN))) aR)))))
def CJ:FN:=fN 1 2 Q4
@[reducible] def Q5:FS:=(eO (aP bI (az (dj (au (bH cA (au (aM 0) (au (aN (.int 4)) aR))) (au (aP cu (az (aN (.int 100))) (az (bH cA (au (aM 0) (au (aN (.int 4)) aR))))) (au (aP yJ (az (aP yK (az (aN (.int 10))) (az (aN (.int 9))))) (az (bH cA (au (aM 0) (au (aN (.int 3)) aR))))) aR))))) (az (bH cA (au (aM 0) (au (aN (.int 3)) aR))))))
def CK:FN:=fN 1 1 Q5
@[reducible] def zH:FS:=(bD (cQ 9 (bH cA (au (aM 0) (au (eY kW (cZ (aH 2) eN)) aR)))) (bD (cQ 10 (aP lW (az (aP cu (az (aP cu (aH 9) (az (aN (.int 1))))) (az (aP lF (az (bH cA (au (aM 0) (au (aP yJ (az (eY kW (cZ (aH 2) eN))) (az (aN (.int 1)))) aR)))) (az (bH cA (au (aM 0) (au (aN (.int 2)) aR)))))))) (az (eY kW (cZ (aH 2) eN))))) (bD (jQ [11,12,13] (fJ (aP bI (az (eY GK (cZ (aH 1) eN))) (az (bH cA (au (aM 0) (au (eY kW (cZ (aH 1) eN)) aR))))) (fJ (bH CJ (au (aM 0) aR)) (fJ (bH CK (au (aM 0) aR)) aR)))) (bD (gY (ni (c7 (aP xq (az (bH cA (au (aM 0) (au (aN (.int 3)) aR)))) (az (aN (.int 0))))) (c7 (aP ji (aH 7) (az (dj aR))))) (bD (cQ 11 (aP bI (aH 7) (az (bH cA (au (aM 0) (au (eY kW (cZ (aH 7) eN)) aR)))))) (bD (cQ 12 (fV (au (eY DX (cZ (az (aN (.int 0))) (cZ (az (aP yJ (aH 5) (az (bH cA (au (aM 0) (au (aN (.int 2)) aR)))))) eN))) (au (eY vA (cZ (az (aN (.int 99999))) (cZ (az (aP cu (aH 5) (az (bH cA (au (aM 0) (au (aN (.int 2)) aR)))))) eN))) aR)))) (cQ 13 (eY vA (cZ (az (aP yK (az (aN (.int 10))) (az (aN (.int 9))))) (cZ (az (aP cu (az (aP bI (aH 4) (az (aN (.int 1))))) (az (bH cA (au (aM 0) (au (aN (.int 2)) aR)))))) eN)))))) iC) (lG 6 (aP cu (az (aP cu (az (fV (au (aM 8) (au (aP bI (aH 2) (aH 9)) (au (aP bI (aH 2) (aH 10)) (au (aM 11) aR)))))) (aH 12))) (az (fV (au (aM 13) aR)))))))))
@[reducible] def Qe:FS:=(bD (jQ [6,7] (fJ (dj aR) (fJ (bH Cp (au (aM 1) (au (aP bI (aH 4) (az (aN (.int 0)))) aR))) aR))) (bD (iJ (iV (bH Dc (au (aM 0) (au (aP lF (aH 3) (az (eY yM (cZ (az (aP xq (az (eY kW (cZ (aH 2) eN))) (az (aN (.int 1))))) eN)))) aR)))) (dF 8) zH) (pQ 6)))
def Jz:FN:=fN 6 14 Qe
@[reducible] def Uv:FS:=(bD (cQ 2 (bH Cm (au (aM 0) (au (aN (.int 24)) aR)))) (bD (cQ 3 (bH JH (au (aM 0) (au (fD (aH 2) gB (dJ (az (aP cu (az (aN (.int 1))) (az (bH cA (au (aM 0) (au (aN (.int 8)) aR)))))))) aR)))) (bD (cQ 4 (fD (aH 2) (dJ (az (aN (.int 2)))) (dJ (az (aP cu (az (aP cu (az (aN (.int 2))) (az (aN (.int 2))))) (az (bH cA (au (aM 0) (au (aP bI (az (dj (au (aN (.int 4)) (au (aN (.int 9)) (au (aN (.int 16)) aR))))) (az (bH cA (au (aM 0) (au (aN (.int 3)) aR))))) aR))))))))) (bD (cQ 5 (aP cu (aH 4) (az (fD (aH 2) (dJ (az (aN (.int 18)))) (dJ (az (aN (.int 20)))))))) (bD (cQ 6 (fV (au (aP bI (aH 5) (az (bH cA (au (aM 0) (au (eY kW (cZ (aH 5) eN)) aR))))) (au (aP bI (aH 5) (az (bH cA (au (aM 0) (au (eY kW (cZ (aH 5) eN)) aR))))) aR)))) (bD (gY (c7 (aP xq (az (bH cA (au (aM 0) (au (aN (.int 3)) aR)))) (az (aN (.int 0))))) (cQ 6 (fV (au (aP bI (aH 2) (az (aN (.int 20)))) (au (aP bI (aH 2) (az (aP cu (az (aN (.int 20))) (az (bH cA (au (aM 0) (au (aN (.int 2)) aR))))))) aR)))) iC) (bD (cQ 7 (aP bI (az (aP cu (az (eY GK (cZ (aH 3) eN))) (az (fD (aH 2) (dJ (az (aN (.int 22)))) (dJ (az (aN (.int 23)))))))) (az (bH cA (au (aM 0) (au (aP cu (az (eY kW (cZ (aH 3) eN))) (az (eY yM (cZ (az (aP iD (az (bH cA (au (aM 0) (au (aN (.int 9)) aR)))) (az (aN (.int 0))))) eN)))) aR)))))) (bD (jQ [8,9] (fJ (aP cu (az (fV (au (aM 7) (au (bH CK (au (aM 0) aR)) aR)))) (aH 6)) (fJ (aP bI (az (bH CJ (au (aM 0) aR))) (az (bH cA (au (aM 0) (au (aN (.int 2)) aR))))) aR))) (eO (fV (au (aM 3) (au (aM 4) (au (bH Jz (au (aM 0) (au (aM 3) (au (aM 4) (au (bH cA (au (aM 0) (au (aP cu (aH 1) (az (aN (.int 1)))) aR))) (au (aM 8) (au (aM 9) aR))))))) (au (aM 8) (au (aM 9) aR)))))))))))))))
def Mf:FN:=fN 2 10 Uv
@[reducible] def YS:FT:=(c7 (aP ji (aH 2) (az (dj aR))))
@[reducible] def YT:FS:=(VP 3 2 (az (bH cA (au (aM 0) (au (eY kW (cZ (aH 2) eN)) aR)))))
@[reducible] def Q6:FS:=(bD (jQ [2,3] (fJ (eY yx (cZ (aH 1) eN)) (fJ (dj aR) aR))) (bD (uH YS YT) (pQ 3)))
def J0:FN:=fN 2 4 Q6
@[reducible] def Q7:FS:=(eO (fV (au (eY GF (cZ (az (Uq (aH 0))) eN)) (au (fV aR) (au (eY GF (cZ (aH 1) eN)) (au (fV aR) aR))))))
def zX:FN:=fN 2 2 Q7
@[reducible] def aiu(Uw:FN):FE:=(bH Uw (au (aM 0) (au (aM 1) aR)))
@[reducible] def acR(Uw:FN):FS:=(bD (gY (j0 (az (VH "list" "tuple" (aH 1)))) (bD (gY (lK (c7 (aP ji (az (jk "list" (aH 0))) (az (jk "list" (aH 1))))) (c7 (aP ji (az (jk "tuple" (aH 0))) (az (jk "tuple" (aH 1)))))) (eO (aN (.bool aL))) iC) (eO (pP (aP iD (az (eY kW (cZ (aH 0) eN))) (az (eY kW (cZ (aH 1) eN)))) (eY Ar (cZ (az (j5 (Iu (cZ (aH 0) (cZ (aH 1) eN))) (.many 2) gC (aiu Uw) [])) eN))))) iC) (bD (gY (lK (c7 (aP VG (aH 1) (az (aN .none)))) (j0 (az (jk "str" (aH 1))))) (eO (pP (aP iD (aH 0) (aH 1)) (aP iD (az (jk "str" (aH 0))) (az (jk "str" (aH 1)))))) iC) (bD (gY (j0 (az (jk "bool" (aH 1)))) (eO (pP (jk "bool" (aH 0)) (aP iD (aH 0) (aH 1)))) iC) (eO (pP (jk "int" (aH 0)) (pP (Ho (jk "bool" (aH 0))) (aP iD (aH 0) (aH 1))))))))
def vf:Nat->FN
 |0=>VJ
 |n+1=>fN 2 2 (acR (vf n))
@[reducible] def R3:FS:=(eO (aP jF (aH 1) (az (fD (aH 0) (dJ (az (aN (.int 2)))) (dJ (az (aN (.int 4))))))))
def tZ:FN:=fN 2 2 R3
@[reducible] def Yy:FS:=(bD (gY (c7 (aP qC (aH 4) (aH 0))) (eO (aN .none)) iC) (bD (Be (aP bI (aH 0) (aH 4)) (vU 2 (mK (dF 5) (mK (dF 6) vG)))) (bD (gY (c7 (aP ji (aH 5) (aH 3))) (eO (aN .none)) iC) (cQ 3 (aM 6)))))
@[reducible] def JR:FS:=(bD (cQ 3 (aM 1)) (bD (iJ (iV (aM 2)) (dF 4) Yy) (pQ 3)))
def JS:FN:=fN 3 7 JR
@[reducible] def YW:FE:=(aP vL (aH 0) (aH 1))
@[reducible] def Q8:FS:=(eO (eY Ar (cZ (az (j5 (Iu (cZ (aH 0) (cZ (az (fD (aH 0) (dJ (az (aN (.int 1)))) gB)) eN))) (.many 2) gC YW [])) eN)))
def J1:FN:=fN 1 1 Q8
@[reducible] def Q9:FS:=(eO (pP (jk "int" (aH 0)) (Ho (jk "bool" (aH 0)))))
def J2:FN:=fN 1 1 Q9
@[reducible] def Xy:FE:=(bH J2 (au (aM 0) aR))
@[reducible] def OD:FS:=(bD (gY (lK (o7 (j0 (az (jk "list" (aH 0))))) (o7 (j0 (az (eY Ar (cZ (az (j5 (iB (aH 0)) .one gC Xy [])) eN)))))) (eO (aN (.bool aL))) iC) (eO (bH J1 (au (eY Ab (cZ (aH 0) eN)) aR))))
def Jg:FN:=fN 1 1 OD
@[reducible] def Yz:FT:=(c7 (aP jF (aH 1) (aH 2)))
@[reducible] def YB:FS:=(bD (lG 3 (aM 1)) (cQ 1 (aP bI (aH 2) (aH 1))))
@[reducible] def PB:FE:=(aM 0)
@[reducible] def PJ:FE:=(aM 1)
@[reducible] def Qz:FS:=(bD (cQ 2 (zq (vV (az (aP bI (aH 0) (az (aN (.int 0)))))) (.many 2) gC PB PJ [])) (bD (cQ 3 (dj aR)) (bD (uH Yz YB) (pQ 3))))
def JT:FN:=fN 2 4 Qz
@[reducible] def QB:FT:=(ni (c7 (aP jF (aH 3) (aH 7))) (ni (c7 (yS rG rG (aH 4) (aH 8) (aH 5))) (ni (c7 (aP rG (az (aP bI (aH 9) (az (aN (.int 1))))) (aH 6))) (ni (o7 (j0 (az (bH tZ (au (aM 9) (au (aM 1) aR)))))) (o7 (j0 (az (bH tZ (au (aM 9) (au (aM 2) aR))))))))))
@[reducible] def QC:FE:=(fV (au (aM 0) (au (aM 1) (au (aM 2) aR))))
@[reducible] def R4:FS:=(bD (cQ 3 (bH JT (au (aM 0) (au (aP bI (aH 1) (az (aN (.int 0)))) aR)))) (eO (j5 (vV (az (aP bI (aH 0) (az (aN (.int 2)))))) (.many 7) QB QC [3,2,1])))
def zZ:FN:=fN 3 4 R4
@[reducible] def J3:FE:=(aM 0)
@[reducible] def J4:FE:=(fV (au (aM 1) (au (aM 2) aR)))
@[reducible] def yq:FS:=(bD (gY (lK (j0 (az (bH tZ (au (aM 1) (au (aM 2) aR))))) (lK (j0 (az (bH tZ (au (aM 1) (au (aM 3) aR))))) (o7 (j0 (az (bH Jg (au (aM 5) aR))))))) (eO (aN (.bool aL))) iC) (bD (gY (c7 (aP iD (aH 2) (aH 3))) (eO (aP iD (aH 5) (az (dj aR)))) iC) (bD (cQ 6 (zq (vV (az (bH zZ (au (aM 0) (au (aM 1) (au (aM 4) aR)))))) (.many 3) gC J3 J4 [])) (eO (aP iD (az (bH JS (au (aM 6) (au (aM 2) (au (aM 5) aR))))) (aH 3))))))
def wI:FN:=fN 6 7 yq
@[reducible] def Ys:FS:=(gY (o7 (j0 (az (bH (vf 3) (au (bH wI (au (aM 8) (au (aM 9) (au (aP bI (aH 11) (az (aN (.int 0)))) (au (aP bI (aH 11) (az (aN (.int 1)))) (au (aN (.int 3)) (au (eY yx (cZ (aH 10) eN)) aR))))))) (au (aP iD (aH 10) (aH 12)) aR)))))) (eO (aN (.bool aL))) iC)
@[reducible] def Pq:FS:=(iJ (Iv (dj (au (fV (au (fV (au (aM 3) (au (aM 4) aR))) (au (dj (au (aM 5) aR)) aR))) (au (fV (au (fV (au (aM 4) (au (aM 3) aR))) (au (dj (au (aM 6) aR)) aR))) (au (fV (au (fV (au (aM 3) (au (aM 3) aR))) (au (dj aR) aR))) (au (fV (au (fV (au (aM 4) (au (aM 4) aR))) (au (dj aR) aR))) aR)))))) (vU 2 (mK (dF 11) (mK (dF 12) vG))) Ys)
@[reducible] def Qq:FS:=(bD (jQ [1,2] (fJ (bH Cm (au (aM 0) (au (aN (.int 8)) aR))) (fJ (bH J0 (au (aM 0) (au (bH Dc (au (aM 0) (au (aN (.int 4)) aR))) aR))) aR))) (bD (jQ [3,4,5,6] (fJ (aP bI (aH 1) (az (aN (.int 1)))) (fJ (aP bI (aH 1) (az (aN (.int 2)))) (fJ (aP bI (aH 2) (az (aN (.int 0)))) (fJ (aP bI (aH 2) (az (aN (.int 1)))) aR))))) (bD (cQ 7 (eY Ab (cZ (az (dj (au (fV (au (aM 5) (au (aM 3) (au (aM 4) (au (aP bI (aH 1) (az (aN (.int 0)))) (au (aN (.int 0)) (au (aN (.int 9)) (au (aN (.int 9)) aR)))))))) (au (fV (au (aM 6) (au (aM 4) (au (aM 3) (au (aP bI (aH 1) (az (aN (.int 0)))) (au (aN (.int 0)) (au (aN (.int 9)) (au (aN (.int 9)) aR)))))))) aR)))) eN))) (bD (jQ [8,9] (fJ (bH zX (au (Ek (az (aP bI (aH 1) (az (aN (.int 0))))) (aN (.str (eZ "")))) (au (aM 7) aR))) (fJ (fV (au (aP bI (aH 1) (az (aN (.int 0)))) (au (aN (.int 5)) (au (aP bI (aH 1) (az (aN (.int 3)))) (au (aP bI (aH 1) (az (aN (.int 4)))) aR))))) aR))) (bD (iJ (iV (fV (au (dj aR) (au (dj (au (aM 5) aR)) (au (dj (au (aM 6) aR)) (au (dj (au (aM 5) (au (aM 6) aR))) (au (dj (au (aM 6) (au (aM 5) aR))) (au (dj (au (aM 5) (au (aM 6) (au (aM 5) aR)))) (au (dj (au (aM 6) (au (aM 5) (au (aM 6) aR)))) (au (dj (au (aM 5) (au (aM 5) aR))) (au (dj (au (aM 5) (au (aM 6) (au (aM 5) (au (aM 6) aR))))) (au (dj (au (aM 5) (au (aM 6) (au (aM 6) aR)))) aR)))))))))))) (dF 10) Pq) (eO (aN (.bool ao))))))))
def JK:FN:=fN 1 13 Qq
@[reducible] def Dr:FS:=(bD (gY (lK (c7 (aP jF (az (aP bI (aH 3) (az (aN (.int 1))))) (az (fD (aH 1) (dJ (az (aN (.int 2)))) gB)))) (lK (c7 (aP jF (az (aP bI (aH 3) (az (aN (.int 2))))) (az (fD (aH 1) (dJ (az (aN (.int 2)))) gB)))) (c7 (aP qC (az (aP bI (aH 3) (az (aN (.int 3))))) (az (bH Cp (au (aM 0) (au (aP bI (aH 1) (az (aN (.int 0)))) aR)))))))) (eO (aN (.bool aL))) iC) (eO (pP (yS rG rG (az (aP bI (aH 3) (az (aN (.int 4))))) (aH 2) (az (aP bI (aH 3) (az (aN (.int 5)))))) (aP rG (az (aP bI (aH 1) (az (aN (.int 1))))) (az (aP bI (aH 3) (az (aN (.int 6)))))))))
def Ds:FN:=fN 4 4 Dr
@[reducible] def Zy:FT:=(j0 (az (bH Ds (au (aM 1) (au (aM 2) (au (aM 3) (au (aM 0) aR)))))))
@[reducible] def Zz:FE:=(aM 0)
@[reducible] def ZC:FT:=(ni (c7 (aP iD (az (aP bI (aH 0) (az (aN (.int 1))))) (aH 1))) (c7 (aP qC (az (aP bI (aH 0) (az (aN (.int 0))))) (aH 2))))
@[reducible] def ZD:FE:=(aM 0)
@[reducible] def QD:FS:=(bD (cQ 9 (j5 (iB (aH 2)) .one ZC ZD [6,7])) (bD (cQ 9 (j5 (iB (aH 9)) .one Zy Zz [1,3,5])) (gY (c7 (aP ji (aH 9) (az (dj aR)))) (bD (cQ 10 (aP bI (aH 9) (az (bH cA (au (aM 0) (au (eY kW (cZ (aH 9) eN)) aR)))))) (bD (lG 7 (aP bI (aH 10) (az (aN (.int 0))))) (cQ 6 (aP bI (aH 10) (az (aN (.int 2))))))) iC)))
@[reducible] def R7:FS:=(bD (jQ [6,7] (fJ (aM 4) (fJ (dj aR) aR))) (bD (iJ (jH (az (bH cA (au (aM 0) (au (aN (.int 9)) aR))))) (dF 8) QD) (eO (fV (au (aM 7) (au (aM 6) aR))))))
def KJ:FN:=fN 6 11 R7
@[reducible] def Zb:FS:=(vN 2 (aH 5) (aM 4))
@[reducible] def Zc:FT:=(ni (c7 (aP jF (aH 2) (aH 3))) (c7 (aP qC (aH 1) (aH 4))))
@[reducible] def Zd:FE:=(aM 1)
@[reducible] def Ze:FT:=(j0 (aH 3))
@[reducible] def Zf:FS:=(bD (Nh 4 (az (aN (.int 1)))) (bD (cQ 3 (Iw (vV (aH 0)) (.many 3) Zc Zd [3,2])) (iJ (iV (aM 3)) (dF 5) Zb)))
@[reducible] def Rq:FS:=(bD (cQ 2 (Ek (aH 1) (aN (.int 0)))) (bD (cQ 3 (dj (au (aM 1) aR))) (bD (cQ 4 (aN (.int 0))) (bD (uH Ze Zf) (pQ 2)))))
def Kl:FN:=fN 2 6 Rq
@[reducible] def YC:FT:=(ni (c7 (aP iD (aH 1) (aH 3))) (ni (c7 (aP jF (aH 2) (aH 4))) (c7 (aP vL (az (aP bI (aH 4) (aH 2))) (az (aP bI (aH 4) (aH 3)))))))
@[reducible] def YD:FE:=(fV (au (aM 0) (au (aM 2) aR)))
@[reducible] def QF:FS:=(eO (eY Mv (cZ (az (j5 (vV (aH 0)) (.many 3) YC YD [2,1])) eN)))
def JV:FN:=fN 3 3 QF
@[reducible] def YX:FT:=(c7 (aP ji (aH 1) (aH 2)))
@[reducible] def YZ:FS:=(bD (Be (bH JV (au (aM 0) (au (aM 3) (au (aM 1) aR)))) (vU 2 (mK (dF 5) (mK (dF 1) vG)))) (lG 4 (aM 5)))
@[reducible] def J5:FS:=(bD (cQ 3 (bH Kl (au (aM 0) (au (aM 2) aR)))) (bD (gY (c7 (aP qC (aH 1) (aH 3))) (eO (aN .none)) iC) (bD (cQ 4 (dj aR)) (bD (uH YX YZ) (pQ 4)))))
def J6:FN:=fN 3 6 J5
@[reducible] def Gv:FS:=(bD (gY (lK (j0 (az (bH tZ (au (aM 1) (au (aM 2) aR))))) (j0 (az (bH tZ (au (aM 1) (au (aM 3) aR)))))) (eO (aN .none)) iC) (eO (bH J6 (au (bH zZ (au (aM 0) (au (aM 1) (au (aM 4) aR)))) (au (aM 2) (au (aM 3) aR))))))
def Dj:FN:=fN 5 5 Gv
@[reducible] def ZF:FE:=(aP bI (aH 0) (az (aN (.int 0))))
@[reducible] def R8:FS:=(bD (cQ 3 (aP cu (az (j5 (iB (aH 2)) .one gC ZF [])) (az (dj (au (aN (.int 99)) (au (vM (az (aN (.int 1)))) aR)))))) (bD (jQ [4,5] (fJ (aP bI (aH 3) (az (bH cA (au (aM 0) (au (eY kW (cZ (aH 3) eN)) aR))))) (fJ (bH cA (au (aM 0) (au (aP cu (az (eY kW (cZ (aH 1) eN))) (az (aN (.int 1)))) aR))) aR))) (bD (jQ [6,7] (fJ (fD (aH 1) gB (dJ (aH 5))) (fJ (fD (aH 1) (dJ (aH 5)) gB) aR))) (bD (cQ 8 (dj (au (aM 1) (au (aP cu (az (fD (aH 1) gB (dJ (aH 5)))) (az (fD (aH 1) (dJ (az (aP cu (aH 5) (az (aN (.int 1)))))) gB))) (au (aP cu (az (aP cu (aH 6) (az (fD (aH 6) (dJ (az (vM (az (aN (.int 1)))))) gB)))) (aH 7)) (au (MT (aH 1) (az (vM (az (aN (.int 1)))))) aR)))))) (bD (lG 8 (aP cu (az (aP cu (az (aP cu (az (fD (aH 6) gB (dJ (az (vM (az (aN (.int 1)))))))) (az (fD (aH 7) gB (dJ (az (aN (.int 1)))))))) (az (fD (aH 6) (dJ (az (vM (az (aN (.int 1)))))) gB)))) (az (fD (aH 7) (dJ (az (aN (.int 1)))) gB)))) (bD (cQ 8 (aP cu (aH 8) (az (dj (au (aP cu (az (aP cu (az (fD (aH 6) gB (dJ (az (vM (az (aN (.int 1)))))))) (az (dj (au (aM 4) aR))))) (aH 7)) (au (aP cu (az (aP cu (aH 6) (az (dj (au (aM 4) aR))))) (aH 7)) aR)))))) (eO (aP bI (aH 8) (az (bH cA (au (aM 0) (au (aN (.int 7)) aR))))))))))))
def Dd:FN:=fN 3 9 R8
@[reducible] def QG:FS:=(bD (gY (lK (o7 (j0 (az (jk "int" (aH 9))))) (lK (j0 (az (jk "bool" (aH 9)))) (lK (c7 (aP jF (aH 9) (aH 8))) (c7 (aP qC (aH 9) (aH 6)))))) (eO (aN (.bool aL))) iC) (bD (gY (lK (c7 (aP ji (az (aP bI (az (aP bI (aH 6) (aH 9))) (az (aN (.int 1))))) (aH 7))) (o7 (j0 (az (bH Ds (au (aM 0) (au (aM 2) (au (aM 4) (au (aP bI (aH 6) (aH 9)) aR))))))))) (eO (aN (.bool aL))) iC) (bD (lG 8 (aM 9)) (cQ 7 (aP bI (az (aP bI (aH 6) (aH 9))) (az (aN (.int 2))))))))
@[reducible] def QH:FE:=(fV (au (aP bI (aH 0) (az (aN (.int 0)))) (au (aM 0) aR)))
@[reducible] def KN:FS:=(bD (gY (lK (o7 (j0 (az (jk "list" (aH 5))))) (lK (c7 (aP jF (az (aP bI (aH 3) (az (aN (.int 0))))) (az (fD (aH 2) (dJ (az (aN (.int 2)))) gB)))) (c7 (aP jF (az (aP bI (aH 3) (az (aN (.int 1))))) (az (fD (aH 2) (dJ (az (aN (.int 2)))) gB)))))) (eO (aN (.bool aL))) iC) (bD (jQ [6,7,8] (fJ (eY DY (cZ (az (j5 (iB (aH 1)) .one gC QH [])) eN)) (fJ (aP bI (aH 3) (az (aN (.int 0)))) (fJ (dj aR) aR)))) (bD (iJ (iV (aM 5)) (dF 9) QG) (eO (pP (aP iD (aH 7) (az (aP bI (aH 3) (az (aN (.int 1)))))) (Et (aP iD (aH 5) (az (dj aR))) (aP ji (az (aP bI (aH 3) (az (aN (.int 0))))) (az (aP bI (aH 3) (az (aN (.int 1))))))))))))
def Gk:FN:=fN 6 10 KN
@[reducible] def Tv:FS:=(bD (jQ [15,16] (fJ (eY yx (cZ (aH 14) eN)) (fJ (bH Gk (au (aM 3) (au (aM 5) (au (aM 6) (au (fV (au (aM 11) (au (aM 13) aR))) (au (aM 7) (au (aM 14) aR))))))) aR))) (bD (cQ 17 (bH wI (au (aM 8) (au (aM 6) (au (aM 11) (au (aM 13) (au (aM 7) (au (aM 14) aR)))))))) (gY (lK (o7 (j0 (az (bH (vf 3) (au (aM 17) (au (aM 16) aR)))))) (c7 (aP ji (aH 14) (aH 15)))) (eO (aN (.bool aL))) iC)))
@[reducible] def Gw:FS:=(bD (cQ 11 (aP bI (aH 9) (az (bH cA (au (aM 2) (au (eY kW (cZ (aH 9) eN)) aR)))))) (bD (Be (bH KJ (au (aM 2) (au (aM 3) (au (aM 5) (au (aM 6) (au (aM 11) (au (aM 7) aR))))))) (vU 2 (mK (dF 12) (mK (dF 13) vG)))) (bD (gY (c7 (aP iD (az (bH cA (au (aM 2) (au (aN (.int 6)) aR)))) (az (aN (.int 0))))) (cQ 13 (aP bI (aH 9) (az (bH cA (au (aM 2) (au (eY kW (cZ (aH 9) eN)) aR)))))) iC) (bD (iJ (iV (fV (au (aM 12) (au (bH Dd (au (aM 2) (au (aM 12) (au (aM 5) aR)))) aR)))) (dF 14) Tv) (bD (cQ 18 (bH Dj (au (aM 8) (au (aM 6) (au (aM 11) (au (aM 13) (au (aM 7) aR))))))) (gY (ni (c7 (aP DN (aH 18) (az (aN .none)))) (c7 (aP G9 (az (bH wI (au (aM 8) (au (aM 6) (au (aM 11) (au (aM 13) (au (aM 7) (au (aM 18) aR)))))))) (az (aN (.bool ao)))))) (eO (aN (.bool aL))) iC))))))
@[reducible] def Tw:FS:=(bD (HN 2 (bH JG (au (aM 0) (au (aM 1) aR)))) (bD (gY (o7 (j0 (az (bH JK (au (aM 2) aR))))) (eO (aN (.bool aL))) iC) (bD (Be (bH Mf (au (aM 2) (au (aN (.int 16)) aR))) (vU 5 (mK (dF 3) (mK (dF 4) (mK (dF 5) (mK (dF 6) (mK (dF 7) vG))))))) (bD (jQ [8,9] (fJ (bH zX (au (aM 3) (au (aM 5) aR))) (fJ (aP cu (aH 4) (az (dj (au (aP bI (aH 6) (az (aN (.int 2)))) aR)))) aR))) (iJ (jH (az (aN (.int 24)))) (dF 10) Gw)))))
@[reducible] def V1:FS:=(bD (iJ (jH (az (aP cu (az (aN (.int 1))) (az (eY vA (cZ (az (aN (.int 5))) (cZ (az (yL 0)) eN))))))) (dF 1) Tw) (eO (aN (.bool ao))))
def Eo:FN:=fN 1 19 V1
theorem agX{P:bQ}{w:bK}{K:aQ}{mg:Str->Option Value}{base:bw}{f:aq}{fd:dO}(F:gf K "_law_drawn_from" "_law_drawn_from" Qj f fd)(T:Txt K mg):dI P w K mg base fP 1 f fd zaq (spT K JG):=
 iQ (body:=Qn) F YQ λcdv A outer s H E hr=>(bM (eX (i:=2) YQ.nd rfl (cG rfl) (adV (gb (Kc hr.Mi) MF (aO (pv 1)) (aG (acG (pv 0) rfl T.lX (by decide +kernel))) (f9 _)) (anb (pv 0) (aO (pv 1)) (λ_ _=>rfl)) (aV aY))) (cC (fY (fH (aD (cD (cB hr.bR) cF (aG (fH (aD (aV aY) (aD (iM aba adt rfl T.M3 (by decide +kernel) (dG (aO (pv 2)) fO)) aZ)))) (aG (wG Rx Vc rfl T.yP (by decide +kernel) (dG (aG (oh anU an6 (aG (iM aba adt rfl T.M3 (by decide +kernel) (dG (aO (pv 2)) fO))) (aG (bY UT U9 (aG (aV aY)) (aG (aV aY)))) (f9 _))) fO))) (λ_ _=>rfl)) (aD (bY dU dX (aO (pv 2)) (aG (bY sy sG (aG (aV aY)) (aO (pv 1))))) (aD (aV aY) aZ)))))))
theorem al4{P:bQ}{w:bK}{K:aQ}{mg:Str->Option Value}{base:bw}{f:aq}{fd:dO}(F:gf K "_law_mix" "_law_mix" Vo f fd)(T:Txt K mg):dI P w K mg base fP 1 f fd zap (spT K Hf):=
 iQ (body:=Vq) F acQ λcdv A outer s H E hr=>(bM (eX (i:=2) acQ.nd rfl (cG rfl) (bY uf ug (aG (bY sy sG (aG (bY dU dX (aG (bY dU dX (aG (bY uf ug (aO (pv 0)) (aG (aV aY)))) (aG (bY sy sG (aG (bY sy sG (aO (pv 1)) (aO (pv 1)))) (aG (aV aY)))))) (aG (aV aY)))) (aG (aV aY)))) (aG (aV aY)))) (cC (fY (bY uf ug (aG (bY sy sG (aO (pv 2)) (aO (pv 2)))) (aG (aV aY))))))
theorem akA{P:bQ}{w:bK}{K:aQ}{mg:Str->Option Value}{base:bw}{f:aq}{fd:dO}(F:gf K "_law_pick" "_law_pick" Us f fd)(T:Txt K mg)(Mw:dg P w K mg base "_law_mix" 1 zap (spT K Hf)):dI P w K mg base fP 2 f fd zar (spT K cA):=
 iQ (body:=Ma) F abS λcdv A outer s H E hr=>(bM (Mq hr.bR (pv 0) (aG (aV aY)) (bY dU dX (aG (Aj (pv 0) (aG (aV aY)) (λ_ _=>rfl))) (aG (aV aY)))) (bM (jP (gb Hh Hl (aG (Aj (pv 0) (aG (aV aY)) (λ_ _=>rfl))) (aG (aV aY)) (f9 _)) (bM (eX (i:=2) abS.nd rfl (cG rfl) (bY uf ug (aG (Aj (pv 0) (aG (aV aY)) (λ_ _=>rfl))) (aO (pv 1)))) (bM (Mq hr.bR (pv 0) (aG (aV aY)) (bY TX Uc (aG (Aj (pv 0) (aG (aV aY)) (λ_ _=>rfl))) (aO (pv 1)))) (cC (ue (pv 2))))) jO) (cC (fY (bY uf ug (aG (bY TX Uc (aG (bT Mw (hr.mono (by decide)) rfl (aD (bT Mw (hr.mono (by decide)) rfl (aD (Aj (pv 0) (aG (aV aY)) (λ_ _=>rfl)) (aD (Aj (pv 0) (aG (aV aY)) (λ_ _=>rfl)) aZ))) (aD (bY dU dX (aG (Aj (pv 0) (aG (aV aY)) (λ_ _=>rfl))) (aG (aV aY))) aZ)))) (aG (aV aY)))) (aO (pv 1)))))))
theorem agY{P:bQ}{w:bK}{K:aQ}{mg:Str->Option Value}{base:bw}{f:aq}{fd:dO}(F:gf K "_law_some_names" "_law_some_names" xZ f fd)(T:Txt K mg)(cI:dg P w K mg base "_law_pick" 2 zar (spT K cA)):dI P w K mg base fP 3 f fd zar (spT K Cm):=
 iQ (body:=Gb) F qT λcdv A outer s H E hr=>(bM (eX (i:=2) qT.nd rfl (qF rfl) (aV Dy)) (bM (eX (i:=3) qT.nd rfl (cG rfl) (Uh (aG (aV Dy)) (aG (sO (T:=.one) (NT:=(["_law_turn"]:List Str)) (NF:=za9) (js:=[2,0]) (oM.ok (N0:=zat) (lY:=cX xZ) (by decide +kernel) rfl rfl) (⟨_,⟨_,rfl⟩,rfl⟩) rfl (u6 rfl T.rm (aG (bT cI (hr.mono (by decide)) rfl (aD (aU (pv 0)) (aD (aV aY) aZ))))) (λb=>⟨su,(cD (cB hr.bR) cF (aO (pv 1)) (aG (bT cI (hr.mono (by decide)) rfl (aD (aU (pv 2)) (aD (aV aY) aZ)))) (λ_ _=>rfl))⟩))))) (bM (eX (i:=4) qT.nd rfl (cG rfl) (Uh (aG (aV Dy)) (aG (sO (T:=.one) (NT:=(["_law_turn"]:List Str)) (NF:=za9) (js:=[2,0]) (oM.ok (N0:=zat) (lY:=cX xZ) (by decide +kernel) rfl rfl) (⟨_,⟨_,rfl⟩,rfl⟩) rfl (u6 rfl T.rm (aG (bT cI (hr.mono (by decide)) rfl (aD (aU (pv 0)) (aD (aV aY) aZ))))) (λb=>⟨su,(cD (cB hr.bR) cF (aO (pv 1)) (aG (bT cI (hr.mono (by decide)) rfl (aD (aU (pv 2)) (aD (aV aY) aZ)))) (λ_ _=>rfl))⟩))))) (bM (Ly (is:=[5,6]) (gU (bT cI (hr.mono (by decide)) rfl (aD (aU (pv 0)) (aD (aV aY) aZ))) (gU (cD (cB hr.bR) cF (aG (fH (aD (aV aY) (aD (aV aY) (aD (aV aY) (aD (aV aY) (aD (aV aY) (aD (aV aY) aZ)))))))) (aG (bT cI (hr.mono (by decide)) rfl (aD (aU (pv 0)) (aD (aV aY) aZ)))) (λ_ _=>rfl)) oZ)) (vh rfl (jY (gJ (i:=5) qT.nd rfl (qF rfl)) (jY (gJ (i:=6) qT.nd rfl (qF rfl)) u9)))) (bM (jP (gb (ou hr.units) oF (aG (bT cI (hr.mono (by decide)) rfl (aD (aU (pv 0)) (aD (aV aY) aZ)))) (aG (aV aY)) (f9 _)) (bM (Ly (is:=[7,8]) (gU (Uh (aG (aV Dy)) (aG (sO (T:=.one) (NT:=zba) (NF:=(["_law_letters","_law_first"]:List Str)) (js:=[2,5]) (oM.ok (N0:=zat) (lY:=cX xZ) (by decide +kernel) rfl rfl) (⟨_,⟨_,rfl⟩,rfl⟩) rfl (u6 rfl T.rm (aG (aV aY))) (λb=>⟨su,(cD (cB hr.bR) cF (aO (pv 1)) (aG (bY uf ug (aG (bY dU dX (aO (pv 2)) (aG (bY sy sG (aG (aV aY)) (aO (pv 0)))))) (aG (aV aY)))) (λ_ _=>rfl))⟩)))) (gU (fH aZ) oZ)) (vh rfl (jY (gJ (i:=7) qT.nd rfl (qF rfl)) (jY (gJ (i:=8) qT.nd rfl (cG rfl)) u9)))) (bM (qH nG rfl (aji rfl T.rm (dG (aG (aV aY)) (dG (aG (aV aY)) fO))) (gJ (i:=9) qT.nd rfl (qF rfl)) jB (cC (anp (pv 8) (aG (sO (T:=.one) (NT:=zba) (NF:=(["_law_stem","_law_size"]:List Str)) (js:=[7,9]) (oM.ok (N0:=zat) (lY:=cX xZ) (by decide +kernel) rfl rfl) (⟨_,⟨_,rfl⟩,rfl⟩) rfl (u6 rfl T.rm (aG (bY GX G8 (aG (aV aY)) (aO (pv 9))))) (λb=>⟨su,(kY (aO (pv 1)) (jt (aO (pv 0))) (jt (aG (bY dU dX (aO (pv 0)) (aO (pv 2))))))⟩)))))) (cC (fY (kY (aO (pv 8)) nq (jt (aO (pv 1)))))))) jO) (bM (jP (PW.pt (uo (gb (Kc hr.Mi) MF (aO (pv 1)) (aG (aV aY)) (f9 _)) (Aa (gb (ou hr.units) oF (aG (bT cI (hr.mono (by decide)) rfl (aD (aU (pv 0)) (aD (aV aY) aZ)))) (aG (aV aY)) (f9 _))))) (cC (fY (sO (T:=.one) (NT:=zba) (NF:=(["_law_letters","_law_first","_law_by"]:List Str)) (js:=[2,5,6]) (oM.ok (N0:=zat) (lY:=cX xZ) (by decide +kernel) rfl rfl) (⟨_,⟨_,rfl⟩,rfl⟩) rfl (u6 rfl T.rm (aO (pv 1))) (λb=>⟨su,(cD (cB hr.bR) cF (aO (pv 1)) (aG (bY uf ug (aG (bY dU dX (aO (pv 2)) (aG (bY sy sG (aO (pv 3)) (aO (pv 0)))))) (aG (aV aY)))) (λ_ _=>rfl))⟩)))) jO) (bM (eX (i:=8) qT.nd rfl (cG rfl) (fH aZ)) (bM (qH nG rfl (u6 rfl T.rm (aO (pv 1))) (gJ (i:=10) qT.nd rfl (cG rfl)) jB (bM (eX (i:=11) qT.nd rfl (cG rfl) (bY uf ug (aG (bY dU dX (aO (pv 5)) (aG (bY sy sG (aO (pv 6)) (aO (pv 10)))))) (aG (aV aY)))) (bM (eX (i:=12) qT.nd rfl (cG rfl) (bY dU dX (aG (cD (cB hr.bR) cF (aO (pv 2)) (aG (bY TX Uc (aO (pv 11)) (aG (aV aY)))) (λ_ _=>rfl))) (aG (cD (cB hr.bR) cF (aO (pv 2)) (aG (bY uf ug (aO (pv 11)) (aG (aV aY)))) (λ_ _=>rfl))))) (cC (wO (pv 8) (bY dU dX (aG (bY dU dX (aO (pv 3)) (aO (pv 12)))) (aG (kY (aO (pv 4)) nq (jt (aG (bY uf ug (aG (bY dU dX (aG (bY sy sG (aO (pv 10)) (aO (pv 10)))) (aO (pv 5)))) (aG (aV aY))))))))))))) (cC (ue (pv 8)))))))))))
theorem agZ{P:bQ}{w:bK}{K:aQ}{mg:Str->Option Value}{base:bw}{f:aq}{fd:dO}(F:gf K "_law_some_parts" "_law_some_parts" Qk f fd)(T:Txt K mg)(cI:dg P w K mg base "_law_pick" 2 zar (spT K cA)):dI P w K mg base fP 3 f fd zaw (spT K JH):=
 iQ (body:=Qo) F Jy λcdv A outer s H E hr=>(bM (eX (i:=2) Jy.nd rfl (cG rfl) akc) (bM (qH nG rfl (alT rfl T.Q3 (aU (pv 1))) (vh rfl (jY (gJ (i:=3) Jy.nd rfl (cG rfl)) (jY (gJ (i:=4) Jy.nd rfl (cG rfl)) u9))) (DQ (pJ jB (pJ jB Dq))) (cC (Mq hr.bR (pv 2) (aO (pv 4)) (cD (cB hr.bR) cF (aG (bY dU dX (aG (fH (aD (aV Dy) aZ))) (aG (kY (aO (pv 1)) nq (jt (aO (pv 3))))))) (aG (adV (gb Hh Hl (aG (bT cI (hr.mono (by decide)) rfl (aD (aU (pv 0)) (aD (aV aY) aZ)))) (aG (aV aY)) (f9 _)) (bT cI (hr.mono (by decide)) rfl (aD (aU (pv 0)) (aD (bY dU dX (aO (pv 3)) (aG (aV aY))) aZ))) (aV aY))) (λ_ _=>rfl))))) (cC (ue (pv 2)))))
theorem aiv{P:bQ}{w:bK}{K:aQ}{mg:Str->Option Value}{base:bw}{f:aq}{fd:dO}(F:gf K "_law_rising" "_law_rising" RW f fd)(T:Txt K mg)(cI:dg P w K mg base "_law_pick" 2 zar (spT K cA)):dI P w K mg base fP 3 f fd zar (spT K Dc):=
 iQ (body:=R0) F Kg λcdv A outer s H E hr=>(bM (vz (i:=2) (j:=3) rfl Kg.nd rfl rfl (by decide) rfl rfl (gU (fH aZ) (gU (bT cI (hr.mono (by decide)) rfl (aD (aU (pv 0)) (aD (aV aY) aZ))) oZ)) rfl) (bM (qH nG rfl (u6 rfl T.rm (aO (pv 1))) (gJ (i:=4) Kg.nd rfl (cG rfl)) jB (bM (wO (pv 2) (aU (pv 3))) (cC (eX (i:=3) Kg.nd rfl (cG rfl) (bY dU dX (aG (bY dU dX (aO (pv 3)) (aG (aV aY)))) (aG (bY sy sG (aG (bT cI (hr.mono (by decide)) rfl (aD (aU (pv 0)) (aD (aV aY) aZ)))) (aG (bT cI (hr.mono (by decide)) rfl (aD (aU (pv 0)) (aD (aV aY) aZ))))))))))) (cC (ue (pv 2)))))
theorem ag0{P:bQ}{w:bK}{K:aQ}{mg:Str->Option Value}{base:bw}{f:aq}{fd:dO}(F:gf K "_law_parts_over" "_law_parts_over" Ql f fd)(T:Txt K mg):dI P w K mg base fP 1 f fd zax (spT K Cp):=
 iQ (body:=Qp) F Qc λcdv A outer s H E hr=>(bM (eX (i:=2) Qc.nd rfl (cG rfl) (fH aZ)) (bM (Gq nG (gb (uh hr.bR) uw (aO (pv 1)) (aO (pv 0)) (by with_unfolding_all rfl)) (bM (wO (pv 2) (aU (pv 1))) (cC (eX (i:=1) Qc.nd rfl (cG rfl) (cD (cB hr.bR) cF (aO (pv 0)) (aO (pv 1)) (λ_ _=>rfl)))))) (cC (ue (pv 2)))))
theorem ahA{P:bQ}{w:bK}{K:aQ}{mg:Str->Option Value}{base:bw}{f:aq}{fd:dO}(F:gf K "_law_two_days" "_law_two_days" QX f fd)(T:Txt K mg)(cI:dg P w K mg base "_law_pick" 2 zar (spT K cA)):dI P w K mg base fP 3 f fd zav (spT K CJ):=
 iQ (body:=Q4) F Zx λcdv A outer s H E hr=>(bM (eX (i:=1) Zx.nd rfl (cG rfl) (cD (cB hr.bR) cF (aG (fH (aD (bT cI (hr.mono (by decide)) rfl (aD (aU (pv 0)) (aD (aV aY) aZ))) (aD (bT cI (hr.mono (by decide)) rfl (aD (aU (pv 0)) (aD (aV aY) aZ))) (aD (bY GX G8 (aG (aV aY)) (aG (bT cI (hr.mono (by decide)) rfl (aD (aU (pv 0)) (aD (aV aY) aZ))))) aZ))))) (aG (bT cI (hr.mono (by decide)) rfl (aD (aU (pv 0)) (aD (aV aY) aZ)))) (λ_ _=>rfl))) (cC (fY (jg (aD (aU (pv 1)) (aD (iM (Kr rfl) LK rfl T.Ax (by decide +kernel) (dG (aG (aV aY)) (dG (aG (bY dU dX (aO (pv 1)) (aG (cD (cB hr.bR) cF (aG (fH (aD (aV aY) (aD (bT cI (hr.mono (by decide)) rfl (aD (aU (pv 0)) (aD (aV aY) aZ))) (aD (aV aY) aZ))))) (aG (bT cI (hr.mono (by decide)) rfl (aD (aU (pv 0)) (aD (aV aY) aZ)))) (λ_ _=>rfl))))) fO))) aZ))))))
theorem ahB{P:bQ}{w:bK}{K:aQ}{mg:Str->Option Value}{base:bw}{f:aq}{fd:dO}(F:gf K "_law_some_sum" "_law_some_sum" QZ f fd)(T:Txt K mg)(cI:dg P w K mg base "_law_pick" 2 zar (spT K cA)):dI P w K mg base fP 3 f fd zav (spT K CK):=
 iQ (body:=Q5) F ahy λcdv A outer s H E hr=>(cC (fY (cD (cB hr.bR) cF (aG (fH (aD (bT cI (hr.mono (by decide)) rfl (aD (aU (pv 0)) (aD (aV aY) aZ))) (aD (bY dU dX (aG (aV aY)) (aG (bT cI (hr.mono (by decide)) rfl (aD (aU (pv 0)) (aD (aV aY) aZ))))) (aD (bY GX G8 (aG (bY UT U9 (aG (aV aY)) (aG (aV aY)))) (aG (bT cI (hr.mono (by decide)) rfl (aD (aU (pv 0)) (aD (aV aY) aZ))))) aZ))))) (aG (bT cI (hr.mono (by decide)) rfl (aD (aU (pv 0)) (aD (aV aY) aZ)))) (λ_ _=>rfl))))
theorem agQ{P:bQ}{w:bK}{K:aQ}{mg:Str->Option Value}{base:bw}{f:aq}{fd:dO}(F:gf K "_law_some_leaves" "_law_some_leaves" Qd f fd)(T:Txt K mg)(cI:dg P w K mg base "_law_pick" 2 zar (spT K cA))(De:dg P w K mg base "_law_rising" 3 zar (spT K Dc))(Cq:dg P w K mg base "_law_parts_over" 1 zax (spT K Cp))(CN:dg P w K mg base "_law_two_days" 3 zav (spT K CJ))(CP:dg P w K mg base "_law_some_sum" 3 zav (spT K CK)):dI P w K mg base fP 4 f fd zay (spT K Jz):=
 iQ (body:=Qe) F vZ λcdv A outer s H E hr=>(bM (vz (i:=6) (j:=7) rfl vZ.nd rfl rfl (by decide) rfl rfl (gU (fH aZ) (gU (bT Cq (hr.mono (by decide)) rfl (aD (aU (pv 1)) (aD (cD (cB hr.bR) cF (aO (pv 4)) (aG (aV aY)) (λ_ _=>rfl)) aZ))) oZ)) rfl) (bM (qH nG rfl (Ew (bT De (hr.mono (by decide)) rfl (aD (aU (pv 0)) (aD (bY sy sG (aO (pv 3)) (aG (wG Rx Vc rfl T.yP (by decide +kernel) (dG (aG (oh Hh Hl (aG (iM nY oA rfl T.lX (by decide +kernel) (dG (aO (pv 2)) fO))) (aG (aV aY)) (f9 _))) fO)))) aZ)))) (gJ (i:=8) vZ.nd rfl (cG rfl)) jB (bM (eX (i:=9) vZ.nd rfl (cG rfl) (bT cI (hr.mono (by decide)) rfl (aD (aU (pv 0)) (aD (iM nY oA rfl T.lX (by decide +kernel) (dG (aO (pv 2)) fO)) aZ)))) (bM (eX (i:=10) vZ.nd rfl (cG rfl) (bY uf ug (aG (bY dU dX (aG (bY dU dX (aO (pv 9)) (aG (aV aY)))) (aG (bY sy sG (aG (bT cI (hr.mono (by decide)) rfl (aD (aU (pv 0)) (aD (bY GX G8 (aG (iM nY oA rfl T.lX (by decide +kernel) (dG (aO (pv 2)) fO))) (aG (aV aY))) aZ)))) (aG (bT cI (hr.mono (by decide)) rfl (aD (aU (pv 0)) (aD (aV aY) aZ)))))))) (aG (iM nY oA rfl T.lX (by decide +kernel) (dG (aO (pv 2)) fO))))) (bM (acP (i:=11) (j:=12) (k:=13) rfl vZ.nd rfl rfl rfl (by decide) (by decide) (by decide) rfl rfl rfl (gU (cD (cB hr.bR) cF (aG (iM (YM rfl) abQ rfl T.yp (by decide +kernel) (dG (aO (pv 1)) fO))) (aG (bT cI (hr.mono (by decide)) rfl (aD (aU (pv 0)) (aD (iM nY oA rfl T.lX (by decide +kernel) (dG (aO (pv 1)) fO)) aZ)))) (λ_ _=>rfl)) (gU (bT CN (hr.mono (by decide)) rfl (aD (aU (pv 0)) aZ)) (gU (bT CP (hr.mono (by decide)) rfl (aD (aU (pv 0)) aZ)) oZ))) rfl) (bM (jP (PW.pt (uo (gb Hh Hl (aG (bT cI (hr.mono (by decide)) rfl (aD (aU (pv 0)) (aD (aV aY) aZ)))) (aG (aV aY)) (f9 _)) (Aa (gb (vp hr.units) vD (aO (pv 7)) (aG (fH aZ)) (f9 _))))) (bM (eX (i:=11) vZ.nd rfl (cG rfl) (cD (cB hr.bR) cF (aO (pv 7)) (aG (bT cI (hr.mono (by decide)) rfl (aD (aU (pv 0)) (aD (iM nY oA rfl T.lX (by decide +kernel) (dG (aO (pv 7)) fO)) aZ)))) (λ_ _=>rfl))) (bM (eX (i:=12) vZ.nd rfl (cG rfl) (jg (aD (iM (aiL rfl) alE rfl T.V0 (by decide +kernel) (dG (aG (aV aY)) (dG (aG (bY GX G8 (aO (pv 5)) (aG (bT cI (hr.mono (by decide)) rfl (aD (aU (pv 0)) (aD (aV aY) aZ)))))) fO))) (aD (iM (Kr rfl) LK rfl T.Ax (by decide +kernel) (dG (aG (aV aY)) (dG (aG (bY dU dX (aO (pv 5)) (aG (bT cI (hr.mono (by decide)) rfl (aD (aU (pv 0)) (aD (aV aY) aZ)))))) fO))) aZ)))) (cC (eX (i:=13) vZ.nd rfl (cG rfl) (iM (Kr rfl) LK rfl T.Ax (by decide +kernel) (dG (aG (bY UT U9 (aG (aV aY)) (aG (aV aY)))) (dG (aG (bY dU dX (aG (cD (cB hr.bR) cF (aO (pv 4)) (aG (aV aY)) (λ_ _=>rfl))) (aG (bT cI (hr.mono (by decide)) rfl (aD (aU (pv 0)) (aD (aV aY) aZ)))))) fO))))))) jO) (cC (wO (pv 6) (bY dU dX (aG (bY dU dX (aG (jg (aD (aU (pv 8)) (aD (cD (cB hr.bR) cF (aO (pv 2)) (aO (pv 9)) (λ_ _=>rfl)) (aD (cD (cB hr.bR) cF (aO (pv 2)) (aO (pv 10)) (λ_ _=>rfl)) (aD (aU (pv 11)) aZ)))))) (aO (pv 12)))) (aG (jg (aD (aU (pv 13)) aZ))))))))))) (cC (ue (pv 6)))))
theorem akB{P:bQ}{w:bK}{K:aQ}{mg:Str->Option Value}{base:bw}{f:aq}{fd:dO}(F:gf K "_law_case" "_law_case" Ut f fd)(T:Txt K mg)(cI:dg P w K mg base "_law_pick" 2 zar (spT K cA))(Cu:dg P w K mg base "_law_some_names" 3 zar (spT K Cm))(Qs:dg P w K mg base "_law_some_parts" 3 zaw (spT K JH))(CN:dg P w K mg base "_law_two_days" 3 zav (spT K CJ))(CP:dg P w K mg base "_law_some_sum" 3 zav (spT K CK))(Qf:dg P w K mg base "_law_some_leaves" 4 zay (spT K Jz)):dI P w K mg base fP 5 f fd za0 (spT K Mf):=
 iQ (body:=Uv) F wH λcdv A outer s H E hr=>(bM (eX (i:=2) wH.nd rfl (cG rfl) (bT Cu (hr.mono (by decide)) rfl (aD (aU (pv 0)) (aD (aV aY) aZ)))) (bM (eX (i:=3) wH.nd rfl (cG rfl) (bT Qs (hr.mono (by decide)) rfl (aD (aU (pv 0)) (aD (kY (aO (pv 2)) nq (jt (aG (bY dU dX (aG (aV aY)) (aG (bT cI (hr.mono (by decide)) rfl (aD (aU (pv 0)) (aD (aV aY) aZ)))))))) aZ)))) (bM (eX (i:=4) wH.nd rfl (cG rfl) (kY (aO (pv 2)) (jt (aG (aV aY))) (jt (aG (bY dU dX (aG (bY dU dX (aG (aV aY)) (aG (aV aY)))) (aG (bT cI (hr.mono (by decide)) rfl (aD (aU (pv 0)) (aD (cD (cB hr.bR) cF (aG (fH (aD (aV aY) (aD (aV aY) (aD (aV aY) aZ))))) (aG (bT cI (hr.mono (by decide)) rfl (aD (aU (pv 0)) (aD (aV aY) aZ)))) (λ_ _=>rfl)) aZ))))))))) (bM (eX (i:=5) wH.nd rfl (cG rfl) (bY dU dX (aO (pv 4)) (aG (kY (aO (pv 2)) (jt (aG (aV aY))) (jt (aG (aV aY))))))) (bM (eX (i:=6) wH.nd rfl (cG rfl) (jg (aD (cD (cB hr.bR) cF (aO (pv 5)) (aG (bT cI (hr.mono (by decide)) rfl (aD (aU (pv 0)) (aD (iM nY oA rfl T.lX (by decide +kernel) (dG (aO (pv 5)) fO)) aZ)))) (λ_ _=>rfl)) (aD (cD (cB hr.bR) cF (aO (pv 5)) (aG (bT cI (hr.mono (by decide)) rfl (aD (aU (pv 0)) (aD (iM nY oA rfl T.lX (by decide +kernel) (dG (aO (pv 5)) fO)) aZ)))) (λ_ _=>rfl)) aZ)))) (bM (jP (gb Hh Hl (aG (bT cI (hr.mono (by decide)) rfl (aD (aU (pv 0)) (aD (aV aY) aZ)))) (aG (aV aY)) (f9 _)) (cC (eX (i:=6) wH.nd rfl (cG rfl) (jg (aD (cD (cB hr.bR) cF (aO (pv 2)) (aG (aV aY)) (λ_ _=>rfl)) (aD (cD (cB hr.bR) cF (aO (pv 2)) (aG (bY dU dX (aG (aV aY)) (aG (bT cI (hr.mono (by decide)) rfl (aD (aU (pv 0)) (aD (aV aY) aZ)))))) (λ_ _=>rfl)) aZ))))) jO) (bM (eX (i:=7) wH.nd rfl (cG rfl) (cD (cB hr.bR) cF (aG (bY dU dX (aG (iM (YM rfl) abQ rfl T.yp (by decide +kernel) (dG (aO (pv 3)) fO))) (aG (kY (aO (pv 2)) (jt (aG (aV aY))) (jt (aG (aV aY))))))) (aG (bT cI (hr.mono (by decide)) rfl (aD (aU (pv 0)) (aD (bY dU dX (aG (iM nY oA rfl T.lX (by decide +kernel) (dG (aO (pv 3)) fO))) (aG (wG Rx Vc rfl T.yP (by decide +kernel) (dG (aG (oh (ou hr.units) oF (aG (bT cI (hr.mono (by decide)) rfl (aD (aU (pv 0)) (aD (aV aY) aZ)))) (aG (aV aY)) (f9 _))) fO)))) aZ)))) (λ_ _=>rfl))) (bM (vz (i:=8) (j:=9) rfl wH.nd rfl rfl (by decide) rfl rfl (gU (bY dU dX (aG (jg (aD (aU (pv 7)) (aD (bT CP (hr.mono (by decide)) rfl (aD (aU (pv 0)) aZ)) aZ)))) (aO (pv 6))) (gU (cD (cB hr.bR) cF (aG (bT CN (hr.mono (by decide)) rfl (aD (aU (pv 0)) aZ))) (aG (bT cI (hr.mono (by decide)) rfl (aD (aU (pv 0)) (aD (aV aY) aZ)))) (λ_ _=>rfl)) oZ)) rfl) (cC (fY (jg (aD (aU (pv 3)) (aD (aU (pv 4)) (aD (bT Qf (hr.mono (by decide)) rfl (aD (aU (pv 0)) (aD (aU (pv 3)) (aD (aU (pv 4)) (aD (bT cI (hr.mono (by decide)) rfl (aD (aU (pv 0)) (aD (bY dU dX (aO (pv 1)) (aG (aV aY))) aZ))) (aD (aU (pv 8)) (aD (aU (pv 9)) aZ))))))) (aD (aU (pv 8)) (aD (aU (pv 9)) aZ))))))))))))))))
theorem ahC{P:bQ}{w:bK}{K:aQ}{mg:Str->Option Value}{base:bw}{f:aq}{fd:dO}(F:gf K "_law_shuffled" "_law_shuffled" QW f fd)(T:Txt K mg)(cI:dg P w K mg base "_law_pick" 2 zar (spT K cA)):dI P w K mg base fP 3 f fd zau (spT K J0):=
 iQ (body:=Q6) F Zw λcdv A outer s H E hr=>(bM (vz (i:=2) (j:=3) rfl Zw.nd rfl rfl (by decide) rfl rfl (gU (wG (Rn rfl) Tp rfl T.vB (by decide +kernel) (dG (aO (pv 1)) fO)) (gU (fH aZ) oZ)) rfl) (bM (Gq nG (gb (vp hr.units) vD (aO (pv 2)) (aG (fH aZ)) (f9 _)) (cC (alX (pv 3) (pv 2) (aG (bT cI (hr.mono (by decide)) rfl (aD (aU (pv 0)) (aD (iM nY oA rfl T.lX (by decide +kernel) (dG (aO (pv 2)) fO)) aZ))))))) (cC (ue (pv 3)))))
theorem ahD{P:bQ}{w:bK}{K:aQ}{mg:Str->Option Value}{base:bw}{f:aq}{fd:dO}(F:gf K "_law_house_of" "_law_house_of" Q0 f fd)(T:Txt K mg):dI P w K mg base fP 1 f fd zaz (spT K zX):=
 iQ (body:=Q7) F ahz λcdv A outer s H E hr=>(cC (fY (jg (aD (wG Y6 abw rfl T.Af (by decide +kernel) (dG (aG (ajn rfl (aO (pv 0)) rfl T.yp)) fO)) (aD (jg aZ) (aD (wG Y6 abw rfl T.Af (by decide +kernel) (dG (aO (pv 1)) fO)) (aD (jg aZ) aZ)))))))
theorem akC{P:bQ}{w:bK}{K:aQ}{mg:Str->Option Value}{base:bw}{f:aq}{fd:dO}(n:Nat)(F:gf K "_law_same" "_law_same" GP f fd)(T:Txt K mg)(yz:dg P w K mg base "_law_same" n zas (spT K (vf n))):dI P w K mg base fP (n+1) f fd zas (spT K (vf (n+1))):=
 iQ (body:=acR (vf n)) F aky λcdv A outer s H E hr=>(bM (jP (lU (aG (alF (by decide) (by decide) (aO (pv 1)) (mY (v:=.ty "list") rfl T.vB (by decide +kernel) rfl) (mY (v:=.ty "tuple") rfl T.Af (by decide +kernel) rfl) rfl T.mG (by decide +kernel)))) (bM (jP (PW.pt (pO (gb (vp hr.units) vD (aG (oE (by decide) (aO (pv 0)) (mY (v:=.ty "list") rfl T.vB (by decide +kernel) rfl) rfl T.mG (by decide +kernel))) (aG (oE (by decide) (aO (pv 1)) (mY (v:=.ty "list") rfl T.vB (by decide +kernel) rfl) rfl T.mG (by decide +kernel))) (f9 _)) (vq (gb (vp hr.units) vD (aG (oE (by decide) (aO (pv 0)) (mY (v:=.ty "tuple") rfl T.Af (by decide +kernel) rfl) rfl T.mG (by decide +kernel))) (aG (oE (by decide) (aO (pv 1)) (mY (v:=.ty "tuple") rfl T.Af (by decide +kernel) rfl) rfl T.mG (by decide +kernel))) (f9 _))))) (cC (fY (aV qI))) jO) (cC (fY (yE (oh (ou hr.units) oF (aG (iM nY oA rfl T.lX (by decide +kernel) (dG (aO (pv 0)) fO))) (aG (iM nY oA rfl T.lX (by decide +kernel) (dG (aO (pv 1)) fO))) (f9 _)) (yD (iM (Sx rfl) Vd rfl T.HB (by decide +kernel) (dG (aG (sO (T:=(.many 2)) (NT:=(["_law_one","_law_other"]:List Str)) (NF:=([]:List Str)) (js:=[]) (oM.ok (N0:=zas) (lY:=cX GP) (by decide +kernel) rfl rfl) (⟨_,_,_,rfl,(.cons ⟨_,rfl⟩ (.cons ⟨_,rfl⟩ .nil)),rfl⟩) rfl (adA rfl T.M4 (dG (aO (pv 0)) (dG (aO (pv 1)) fO))) (λb=>⟨su,(bT yz hr rfl (aD (aU (pv 0)) (aD (aU (pv 1)) aZ)))⟩))) fO))))))) jO) (bM (jP (PW.pt (pO (gb amD am3 (aO (pv 1)) (aG (aV Dw)) (f9 _)) (vq (lU (aG (oE (by decide) (aO (pv 1)) (mY (v:=.ty "str") rfl T.HD (by decide +kernel) rfl) rfl T.mG (by decide +kernel))))))) (cC (fY (yE (oh (ou hr.units) oF (aO (pv 0)) (aO (pv 1)) (f9 _)) (yD (oh (ou hr.units) oF (aG (oE (by decide) (aO (pv 0)) (mY (v:=.ty "str") rfl T.HD (by decide +kernel) rfl) rfl T.mG (by decide +kernel))) (aG (oE (by decide) (aO (pv 1)) (mY (v:=.ty "str") rfl T.HD (by decide +kernel) rfl) rfl T.mG (by decide +kernel))) (f9 _)))))) jO) (bM (jP (lU (aG (oE (by decide) (aO (pv 1)) (mY (v:=.ty "bool") rfl T.Ak (by decide +kernel) rfl) rfl T.mG (by decide +kernel)))) (cC (fY (yE (oE (by decide) (aO (pv 0)) (mY (v:=.ty "bool") rfl T.Ak (by decide +kernel) rfl) rfl T.mG (by decide +kernel)) (yD (oh (ou hr.units) oF (aO (pv 0)) (aO (pv 1)) (f9 _)))))) jO) (cC (fY (yE (oE (by decide) (aO (pv 0)) (mY (v:=.ty "int") rfl T.yP (by decide +kernel) rfl) rfl T.mG (by decide +kernel)) (yE (adn (oE (by decide) (aO (pv 0)) (mY (v:=.ty "bool") rfl T.Ak (by decide +kernel) rfl) rfl T.mG (by decide +kernel))) (yD (oh (ou hr.units) oF (aO (pv 0)) (aO (pv 1)) (f9 _))))))))))
theorem aaW{P:bQ}{w:bK}{K:aQ}{mg:Str->Option Value}{base:bw}{f:aq}{fd:dO}(hm:mg "_law_same"=aa (.ref f))(hk:xW K (.ref f)=ao)(hb:Binds K fd zas [])(F:gf K "_law_same" "_law_same" GP f fd)(T:Txt K mg):
  ∀n,dg P w K mg base "_law_same" n zas (spT K (vf n))
 |0=>⟨f,fd,hm,hk,hb,alH⟩
 |n+1=>⟨f,fd,hm,hk,hb,akC n F T (aaW hm hk hb F T n)⟩
theorem aiw{P:bQ}{w:bK}{K:aQ}{mg:Str->Option Value}{base:bw}{f:aq}{fd:dO}(F:gf K "is_side" "is_side" RV f fd)(T:Txt K mg):dI P w K mg base fP 1 f fd zaf (spT K tZ):=
 iQ (body:=R3) F ait λcdv A outer s H E hr=>(cC (fY (oh (uh hr.bR) uw (aO (pv 1)) (aG (kY (aO (pv 0)) (jt (aG (aV aY))) (jt (aG (aV aY))))) (by with_unfolding_all rfl))))
theorem ahc{P:bQ}{w:bK}{K:aQ}{mg:Str->Option Value}{base:bw}{f:aq}{fd:dO}(F:gf K "last_taker" "last_taker" Qx f fd)(T:Txt K mg):dI P w K mg base fP 1 f fd zao (spT K JS):=
 iQ (body:=JR) F Ck λcdv A outer s H E hr=>(bM (eX (i:=3) Ck.nd rfl (cG rfl) (aU (pv 1))) (bM (qH nG rfl (Ew (aU (pv 2))) (gJ (i:=4) Ck.nd rfl (cG rfl)) jB (bM (jP (gb (CZ hr.bR) Di (aO (pv 4)) (aO (pv 0)) (by with_unfolding_all rfl)) (cC (fY (aV Dw))) jO) (bM (Mm (cD (cB hr.bR) cF (aO (pv 0)) (aO (pv 4)) (λ_ _=>rfl)) (vh rfl (jY (gJ (i:=5) Ck.nd rfl (cG rfl)) (jY (gJ (i:=6) Ck.nd rfl (cG rfl)) u9))) (DQ (pJ jB (pJ jB Dq)))) (bM (jP (gb (vp hr.units) vD (aO (pv 5)) (aO (pv 3)) (f9 _)) (cC (fY (aV Dw))) jO) (cC (eX (i:=3) Ck.nd rfl (cG rfl) (aU (pv 6)))))))) (cC (ue (pv 3)))))
theorem ahE{P:bQ}{w:bK}{K:aQ}{mg:Str->Option Value}{base:bw}{f:aq}{fd:dO}(F:gf K "is_rising" "is_rising" JZ f fd)(T:Txt K mg):dI P w K mg base fP 1 f fd zab (spT K J1):=
 iQ (body:=Q8) F ahx λcdv A outer s H E hr=>(cC (fY (iM (Sx rfl) Vd rfl T.HB (by decide +kernel) (dG (aG (sO (T:=(.many 2)) (NT:=(["low","high"]:List Str)) (NF:=([]:List Str)) (js:=[]) (oM.ok (N0:=zab) (lY:=cX JZ) (by decide +kernel) rfl rfl) (⟨_,_,_,rfl,(.cons ⟨_,rfl⟩ (.cons ⟨_,rfl⟩ .nil)),rfl⟩) rfl (adA rfl T.M4 (dG (aO (pv 0)) (dG (aG (kY (aO (pv 0)) (jt (aG (aV aY))) nq)) fO))) (λb=>⟨su,(oh (Kc hr.Mi) MF (aO (pv 0)) (aO (pv 1)) (f9 _))⟩))) fO))))
theorem ahF{P:bQ}{w:bK}{K:aQ}{mg:Str->Option Value}{base:bw}{f:aq}{fd:dO}(F:gf K "is_number" "is_number" QT f fd)(T:Txt K mg):dI P w K mg base fP 1 f fd zaa (spT K J2):=
 iQ (body:=Q9) F ahw λcdv A outer s H E hr=>(cC (fY (yE (oE (by decide) (aO (pv 0)) (mY (v:=.ty "int") rfl T.yP (by decide +kernel) rfl) rfl T.mG (by decide +kernel)) (yD (adn (oE (by decide) (aO (pv 0)) (mY (v:=.ty "bool") rfl T.Ak (by decide +kernel) rfl) rfl T.mG (by decide +kernel)))))))
theorem afN{P:bQ}{w:bK}{K:aQ}{mg:Str->Option Value}{base:bw}{f:aq}{fd:dO}(F:gf K "are_unlike_numbers" "are_unlike_numbers" Jf f fd)(T:Txt K mg)(Ra:dg P w K mg base "is_rising" 1 zab (spT K J1))(Rb:dg P w K mg base "is_number" 1 zaa (spT K J2)):dI P w K mg base fP 2 f fd zaa (spT K Jg):=
 iQ (body:=OD) F afM λcdv A outer s H E hr=>(bM (jP (PW.pt (pO (um (lU (aG (oE (by decide) (aO (pv 0)) (mY (v:=.ty "list") rfl T.vB (by decide +kernel) rfl) rfl T.mG (by decide +kernel))))) (vq (um (lU (aG (iM (Sx rfl) Vd rfl T.HB (by decide +kernel) (dG (aG (sO (T:=.one) (NT:=(["number"]:List Str)) (NF:=([]:List Str)) (js:=[]) (oM.ok (N0:=zaa) (lY:=cX Jf) (by decide +kernel) rfl rfl) (⟨_,⟨_,rfl⟩,rfl⟩) rfl (HQ (aO (pv 0))) (λb=>⟨su,(bT Rb (hr.mono (by decide)) rfl (aD (aU (pv 0)) aZ))⟩))) fO)))))))) (cC (fY (aV qI))) jO) (cC (fY (bT Ra (hr.mono (by decide)) rfl (aD (iM (aaf rfl) abC rfl T.yp (by decide +kernel) (dG (aO (pv 0)) fO)) aZ)))))
theorem ahd{P:bQ}{w:bK}{K:aQ}{mg:Str->Option Value}{base:bw}{f:aq}{fd:dO}(F:gf K "parts_over" "parts_over" JP f fd)(T:Txt K mg):dI P w K mg base fP 1 f fd zad (spT K JT):=
 iQ (body:=Qz) F JF λcdv A outer s H E hr=>(bM (abz (i:=2) (T:=(.many 2)) (NT:=(["name","within"]:List Str)) (NF:=([]:List Str)) (js:=[]) (oM.ok (N0:=zac) (lY:=cX JP) (by decide +kernel) rfl rfl) (⟨_,_,_,rfl,(.cons ⟨_,rfl⟩ (.cons ⟨_,rfl⟩ .nil)),rfl⟩) rfl hr.bR (Hs (aG (cD (cB hr.bR) cF (aO (pv 0)) (aG (aV aY)) (λ_ _=>rfl)))) (λb=>⟨su,(aU (pv 0)),(aU (pv 1))⟩) (by rfl) JF.nd rfl rfl) (bM (eX (i:=3) JF.nd rfl (cG rfl) (fH aZ)) (bM (Gq nG (gb (uh hr.bR) uw (aO (pv 1)) (aO (pv 2)) (by with_unfolding_all rfl)) (bM (wO (pv 3) (aU (pv 1))) (cC (eX (i:=1) JF.nd rfl (cG rfl) (cD (cB hr.bR) cF (aO (pv 2)) (aO (pv 1)) (λ_ _=>rfl)))))) (cC (ue (pv 3))))))
theorem aix{P:bQ}{w:bK}{K:aQ}{mg:Str->Option Value}{base:bw}{f:aq}{fd:dO}(F:gf K "ways_on" "ways_on" KC f fd)(T:Txt K mg)(rY:dg P w K mg base "is_side" 1 zaf (spT K tZ))(QJ:dg P w K mg base "parts_over" 1 zad (spT K JT)):dI P w K mg base fP 2 f fd zah (spT K zZ):=
 iQ (body:=R4) F aao λcdv A outer s H E hr=>(bM (eX (i:=3) aao.nd rfl (qF rfl) (bT QJ (hr.mono (by decide)) rfl (aD (aU (pv 0)) (aD (cD (cB hr.bR) cF (aO (pv 1)) (aG (aV aY)) (λ_ _=>rfl)) aZ)))) (cC (fY (sO (T:=(.many 7)) (NT:=(["number","giver","taker","part","first","last","most"]:List Str)) (NF:=(["over","day","paper"]:List Str)) (js:=[3,2,1]) (oM.ok (N0:=zag) (lY:=cX KC) (by decide +kernel) rfl rfl) (⟨_,_,_,rfl,(.cons ⟨_,rfl⟩ (.cons ⟨_,rfl⟩ (.cons ⟨_,rfl⟩ (.cons ⟨_,rfl⟩ (.cons ⟨_,rfl⟩ (.cons ⟨_,rfl⟩ (.cons ⟨_,rfl⟩ .nil))))))),rfl⟩) rfl (Hs (aG (cD (cB hr.bR) cF (aO (pv 0)) (aG (aV aY)) (λ_ _=>rfl)))) (λb=>⟨(GD (PW.pt (uo (gb (uh hr.bR) uw (aO (pv 3)) (aO (pv 7)) (by with_unfolding_all rfl)) (uo (am7 DK Ef DK Ef (aO (pv 4)) (aO (pv 8)) (aO (pv 5))) (uo (gb DK Ef (aG (cD (cB hr.bR) cF (aO (pv 9)) (aG (aV aY)) (λ_ _=>rfl))) (aO (pv 6)) (f9 _)) (uo (um (lU (aG (bT rY (hr.mono (by decide)) rfl (aD (aU (pv 9)) (aD (aU (pv 1)) aZ)))))) (Aa (um (lU (aG (bT rY (hr.mono (by decide)) rfl (aD (aU (pv 9)) (aD (aU (pv 2)) aZ))))))))))))),(jg (aD (aU (pv 0)) (aD (aU (pv 1)) (aD (aU (pv 2)) aZ))))⟩)))))
theorem ajq{P:bQ}{w:bK}{K:aQ}{mg:Str->Option Value}{base:bw}{f:aq}{fd:dO}(F:gf K "is_row" "is_row" Lh f fd)(T:Txt K mg)(rY:dg P w K mg base "is_side" 1 zaf (spT K tZ))(QK:dg P w K mg base "last_taker" 1 zao (spT K JS))(OJ:dg P w K mg base "are_unlike_numbers" 2 zaa (spT K Jg))(Df:dg P w K mg base "ways_on" 2 zah (spT K zZ)):dI P w K mg base fP 3 f fd zan (spT K wI):=
 iQ (body:=yq) F aaV λcdv A outer s H E hr=>(bM (jP (PW.pt (pO (lU (aG (bT rY (hr.mono (by decide)) rfl (aD (aU (pv 1)) (aD (aU (pv 2)) aZ))))) (pO (lU (aG (bT rY (hr.mono (by decide)) rfl (aD (aU (pv 1)) (aD (aU (pv 3)) aZ))))) (vq (um (lU (aG (bT OJ (hr.mono (by decide)) rfl (aD (aU (pv 5)) aZ))))))))) (cC (fY (aV qI))) jO) (bM (jP (gb (ou hr.units) oF (aO (pv 2)) (aO (pv 3)) (f9 _)) (cC (fY (oh (ou hr.units) oF (aO (pv 5)) (aG (fH aZ)) (f9 _)))) jO) (bM (abz (i:=6) (T:=(.many 3)) (NT:=zbb) (NF:=([]:List Str)) (js:=[]) (oM.ok (N0:=zam) (lY:=cX Lh) (by decide +kernel) rfl rfl) (⟨_,_,_,rfl,(.cons ⟨_,rfl⟩ (.cons ⟨_,rfl⟩ (.cons ⟨_,rfl⟩ .nil))),rfl⟩) rfl hr.bR (Hs (aG (bT Df (hr.mono (by decide)) rfl (aD (aU (pv 0)) (aD (aU (pv 1)) (aD (aU (pv 4)) aZ)))))) (λb=>⟨su,(aU (pv 0)),(jg (aD (aU (pv 1)) (aD (aU (pv 2)) aZ)))⟩) (by rfl) aaV.nd rfl rfl) (cC (fY (oh (ou hr.units) oF (aG (bT QK (hr.mono (by decide)) rfl (aD (aU (pv 6)) (aD (aU (pv 2)) (aD (aU (pv 5)) aZ))))) (aO (pv 3)) (f9 _)))))))
theorem ag1{P:bQ}{w:bK}{K:aQ}{mg:Str->Option Value}{base:bw}{f:aq}{fd:dO}(F:gf K "_law_ring_right" "_law_ring_right" Qm f fd)(T:Txt K mg)(Cu:dg P w K mg base "_law_some_names" 3 zar (spT K Cm))(De:dg P w K mg base "_law_rising" 3 zar (spT K Dc))(Rc:dg P w K mg base "_law_shuffled" 3 zau (spT K J0))(CQ:dg P w K mg base "_law_house_of" 1 zaz (spT K zX))(yz:dg P w K mg base "_law_same" 3 zas (spT K (vf 3)))(z7:dg P w K mg base "is_row" 3 zan (spT K wI)):dI P w K mg base fP 4 f fd zav (spT K JK):=
 iQ (body:=Qq) F tV λcdv A outer s H E hr=>(bM (vz (i:=1) (j:=2) rfl tV.nd rfl rfl (by decide) rfl rfl (gU (bT Cu (hr.mono (by decide)) rfl (aD (aU (pv 0)) (aD (aV aY) aZ))) (gU (bT Rc (hr.mono (by decide)) rfl (aD (aU (pv 0)) (aD (bT De (hr.mono (by decide)) rfl (aD (aU (pv 0)) (aD (aV aY) aZ))) aZ))) oZ)) rfl) (bM (Ly (is:=[3,4,5,6]) (gU (cD (cB hr.bR) cF (aO (pv 1)) (aG (aV aY)) (λ_ _=>rfl)) (gU (cD (cB hr.bR) cF (aO (pv 1)) (aG (aV aY)) (λ_ _=>rfl)) (gU (cD (cB hr.bR) cF (aO (pv 2)) (aG (aV aY)) (λ_ _=>rfl)) (gU (cD (cB hr.bR) cF (aO (pv 2)) (aG (aV aY)) (λ_ _=>rfl)) oZ)))) (vh rfl (jY (gJ (i:=3) tV.nd rfl (cG rfl)) (jY (gJ (i:=4) tV.nd rfl (cG rfl)) (jY (gJ (i:=5) tV.nd rfl (cG rfl)) (jY (gJ (i:=6) tV.nd rfl (cG rfl)) u9)))))) (bM (eX (i:=7) tV.nd rfl (cG rfl) (iM (aaf rfl) abC rfl T.yp (by decide +kernel) (dG (aG (fH (aD (jg (aD (aU (pv 5)) (aD (aU (pv 3)) (aD (aU (pv 4)) (aD (cD (cB hr.bR) cF (aO (pv 1)) (aG (aV aY)) (λ_ _=>rfl)) (aD (aV aY) (aD (aV aY) (aD (aV aY) aZ)))))))) (aD (jg (aD (aU (pv 6)) (aD (aU (pv 4)) (aD (aU (pv 3)) (aD (cD (cB hr.bR) cF (aO (pv 1)) (aG (aV aY)) (λ_ _=>rfl)) (aD (aV aY) (aD (aV aY) (aD (aV aY) aZ)))))))) aZ)))) fO))) (bM (vz (i:=8) (j:=9) rfl tV.nd rfl rfl (by decide) rfl rfl (gU (bT CQ (hr.mono (by decide)) rfl (aD (abJ (aG (cD (cB hr.bR) cF (aO (pv 1)) (aG (aV aY)) (λ_ _=>rfl))) (aV Dy)) (aD (aU (pv 7)) aZ))) (gU (jg (aD (cD (cB hr.bR) cF (aO (pv 1)) (aG (aV aY)) (λ_ _=>rfl)) (aD (aV aY) (aD (cD (cB hr.bR) cF (aO (pv 1)) (aG (aV aY)) (λ_ _=>rfl)) (aD (cD (cB hr.bR) cF (aO (pv 1)) (aG (aV aY)) (λ_ _=>rfl)) aZ))))) oZ)) rfl) (bM (qH nG rfl (Ew (jg (aD (fH aZ) (aD (fH (aD (aU (pv 5)) aZ)) (aD (fH (aD (aU (pv 6)) aZ)) (aD (fH (aD (aU (pv 5)) (aD (aU (pv 6)) aZ))) (aD (fH (aD (aU (pv 6)) (aD (aU (pv 5)) aZ))) (aD (fH (aD (aU (pv 5)) (aD (aU (pv 6)) (aD (aU (pv 5)) aZ)))) (aD (fH (aD (aU (pv 6)) (aD (aU (pv 5)) (aD (aU (pv 6)) aZ)))) (aD (fH (aD (aU (pv 5)) (aD (aU (pv 5)) aZ))) (aD (fH (aD (aU (pv 5)) (aD (aU (pv 6)) (aD (aU (pv 5)) (aD (aU (pv 6)) aZ))))) (aD (fH (aD (aU (pv 5)) (aD (aU (pv 6)) (aD (aU (pv 6)) aZ)))) aZ)))))))))))) (gJ (i:=10) tV.nd rfl (cG rfl)) jB (cC (qH nG rfl (aoa (fH (aD (jg (aD (jg (aD (aU (pv 3)) (aD (aU (pv 4)) aZ))) (aD (fH (aD (aU (pv 5)) aZ)) aZ))) (aD (jg (aD (jg (aD (aU (pv 4)) (aD (aU (pv 3)) aZ))) (aD (fH (aD (aU (pv 6)) aZ)) aZ))) (aD (jg (aD (jg (aD (aU (pv 3)) (aD (aU (pv 3)) aZ))) (aD (fH aZ) aZ))) (aD (jg (aD (jg (aD (aU (pv 4)) (aD (aU (pv 4)) aZ))) (aD (fH aZ) aZ))) aZ)))))) (vh rfl (jY (gJ (i:=11) tV.nd rfl (cG rfl)) (jY (gJ (i:=12) tV.nd rfl (cG rfl)) u9))) (DQ (pJ jB (pJ jB Dq))) (cC (jP (um (lU (aG (bT yz (hr.mono (by decide)) rfl (aD (bT z7 (hr.mono (by decide)) rfl (aD (aU (pv 8)) (aD (aU (pv 9)) (aD (cD (cB hr.bR) cF (aO (pv 11)) (aG (aV aY)) (λ_ _=>rfl)) (aD (cD (cB hr.bR) cF (aO (pv 11)) (aG (aV aY)) (λ_ _=>rfl)) (aD (aV aY) (aD (wG (Rn rfl) Tp rfl T.vB (by decide +kernel) (dG (aO (pv 10)) fO)) aZ))))))) (aD (oh (ou hr.units) oF (aO (pv 10)) (aO (pv 12)) (f9 _)) aZ)))))) (cC (fY (aV qI))) jO))))) (cC (fY (aV qI))))))))
theorem akD{P:bQ}{w:bK}{K:aQ}{mg:Str->Option Value}{base:bw}{f:aq}{fd:dO}(F:gf K "_law_lets" "_law_lets" Uu f fd)(T:Txt K mg)(Cq:dg P w K mg base "_law_parts_over" 1 zax (spT K Cp)):dI P w K mg base fP 2 f fd za1 (spT K Ds):=
 iQ (body:=Dr) F akz λcdv A outer s H E hr=>(bM (jP (PW.pt (pO (gb (uh hr.bR) uw (aG (cD (cB hr.bR) cF (aO (pv 3)) (aG (aV aY)) (λ_ _=>rfl))) (aG (kY (aO (pv 1)) (jt (aG (aV aY))) nq)) (by with_unfolding_all rfl)) (pO (gb (uh hr.bR) uw (aG (cD (cB hr.bR) cF (aO (pv 3)) (aG (aV aY)) (λ_ _=>rfl))) (aG (kY (aO (pv 1)) (jt (aG (aV aY))) nq)) (by with_unfolding_all rfl)) (vq (gb (CZ hr.bR) Di (aG (cD (cB hr.bR) cF (aO (pv 3)) (aG (aV aY)) (λ_ _=>rfl))) (aG (bT Cq (hr.mono (by decide)) rfl (aD (aU (pv 0)) (aD (cD (cB hr.bR) cF (aO (pv 1)) (aG (aV aY)) (λ_ _=>rfl)) aZ)))) (by with_unfolding_all rfl)))))) (cC (fY (aV qI))) jO) (cC (fY (yE (am6 DK Ef DK Ef (aG (cD (cB hr.bR) cF (aO (pv 3)) (aG (aV aY)) (λ_ _=>rfl))) (aO (pv 2)) (aG (cD (cB hr.bR) cF (aO (pv 3)) (aG (aV aY)) (λ_ _=>rfl)))) (yD (oh DK Ef (aG (cD (cB hr.bR) cF (aO (pv 1)) (aG (aV aY)) (λ_ _=>rfl))) (aG (cD (cB hr.bR) cF (aO (pv 3)) (aG (aV aY)) (λ_ _=>rfl))) (f9 _)))))))
theorem aiy{P:bQ}{w:bK}{K:aQ}{mg:Str->Option Value}{base:bw}{f:aq}{fd:dO}(F:gf K "_law_walked" "_law_walked" Gj f fd)(T:Txt K mg)(cI:dg P w K mg base "_law_pick" 2 zar (spT K cA))(Dt:dg P w K mg base "_law_lets" 2 za1 (spT K Ds)):dI P w K mg base fP 3 f fd za5 (spT K KJ):=
 iQ (body:=R7) F yj λcdv A outer s H E hr=>(bM (Ly (is:=[6,7]) (gU (aU (pv 4)) (gU (fH aZ) oZ)) (vh rfl (jY (gJ (i:=6) yj.nd rfl (qF rfl)) (jY (gJ (i:=7) yj.nd rfl (qF rfl)) u9)))) (bM (qH nG rfl (u6 rfl T.rm (aG (bT cI (hr.mono (by decide)) rfl (aD (aU (pv 0)) (aD (aV aY) aZ))))) (gJ (i:=8) yj.nd rfl (cG rfl)) jB (bM (abv (i:=9) (T:=.one) (NT:=zbc) (NF:=(["_law_here","_law_found"]:List Str)) (js:=[6,7]) (oM.ok (N0:=za4) (lY:=cX Gj) (by decide +kernel) rfl rfl) (⟨_,⟨_,rfl⟩,rfl⟩) rfl (HQ (aO (pv 2))) (λb=>⟨(GD (PW.pt (uo (gb (ou hr.units) oF (aG (cD (cB hr.bR) cF (aO (pv 0)) (aG (aV aY)) (λ_ _=>rfl))) (aO (pv 1)) (f9 _)) (Aa (gb (CZ hr.bR) Di (aG (cD (cB hr.bR) cF (aO (pv 0)) (aG (aV aY)) (λ_ _=>rfl))) (aO (pv 2)) (by with_unfolding_all rfl)))))),(aU (pv 0))⟩) (by rfl) yj.nd rfl rfl) (bM (abv (i:=9) (T:=.one) (NT:=zbc) (NF:=(["_law_parts","_law_paper","_law_day"]:List Str)) (js:=[1,3,5]) (oM.ok (N0:=za4) (lY:=cX Gj) (by decide +kernel) rfl rfl) (⟨_,⟨_,rfl⟩,rfl⟩) rfl (HQ (aO (pv 9))) (λb=>⟨(GD (lU (aG (bT Dt (hr.mono (by decide)) rfl (aD (aU (pv 1)) (aD (aU (pv 2)) (aD (aU (pv 3)) (aD (aU (pv 0)) aZ)))))))),(aU (pv 0))⟩) (by rfl) yj.nd rfl rfl) (cC (jP (gb (vp hr.units) vD (aO (pv 9)) (aG (fH aZ)) (f9 _)) (bM (eX (i:=10) yj.nd rfl (cG rfl) (cD (cB hr.bR) cF (aO (pv 9)) (aG (bT cI (hr.mono (by decide)) rfl (aD (aU (pv 0)) (aD (iM nY oA rfl T.lX (by decide +kernel) (dG (aO (pv 9)) fO)) aZ)))) (λ_ _=>rfl))) (bM (wO (pv 7) (cD (cB hr.bR) cF (aO (pv 10)) (aG (aV aY)) (λ_ _=>rfl))) (cC (eX (i:=6) yj.nd rfl (qF rfl) (cD (cB hr.bR) cF (aO (pv 10)) (aG (aV aY)) (λ_ _=>rfl)))))) jO))))) (cC (fY (jg (aD (aU (pv 7)) (aD (aU (pv 6)) aZ)))))))
theorem ahV{P:bQ}{w:bK}{K:aQ}{mg:Str->Option Value}{base:bw}{f:aq}{fd:dO}(F:gf K "steps_to" "steps_to" Kf f fd)(T:Txt K mg):dI P w K mg base fP 1 f fd zal (spT K Kl):=
 iQ (body:=Rq) F zW λcdv A outer s H E hr=>(bM (eX (i:=2) zW.nd rfl (qF rfl) (abJ (aO (pv 1)) (aV aY))) (bM (eX (i:=3) zW.nd rfl (qF rfl) (fH (aD (aU (pv 1)) aZ))) (bM (eX (i:=4) zW.nd rfl (cG rfl) (aV aY)) (bM (Gq nG (lU (aO (pv 3))) (bM (am9 (i:=4) zW.nd rfl (cG rfl) (aG (aV aY))) (bM (eX (i:=3) zW.nd rfl (qF rfl) (aoc (T:=(.many 3)) (NT:=zbb) (NF:=(["newest","steps"]:List Str)) (js:=[3,2]) (oM.ok (N0:=zak) (lY:=cX Kf) (by decide +kernel) rfl rfl) (⟨_,_,_,rfl,(.cons ⟨_,rfl⟩ (.cons ⟨_,rfl⟩ (.cons ⟨_,rfl⟩ .nil))),rfl⟩) rfl rfl T.yp (Hs (aO (pv 0))) (λb=>⟨(GD (PW.pt (uo (gb (uh hr.bR) uw (aO (pv 2)) (aO (pv 3)) (by with_unfolding_all rfl)) (Aa (gb (CZ hr.bR) Di (aO (pv 1)) (aO (pv 4)) (by with_unfolding_all rfl)))))),(aU (pv 1))⟩))) (cC (qH nG rfl (Ew (aU (pv 3))) (gJ (i:=5) zW.nd rfl (cG rfl)) jB (cC (Mq hr.bR (pv 2) (aO (pv 5)) (aU (pv 4))))))))) (cC (ue (pv 2)))))))
theorem ahe{P:bQ}{w:bK}{K:aQ}{mg:Str->Option Value}{base:bw}{f:aq}{fd:dO}(F:gf K "nearer_way" "nearer_way" JQ f fd)(T:Txt K mg):dI P w K mg base fP 1 f fd zaj (spT K JV):=
 iQ (body:=QF) F ahb λcdv A outer s H E hr=>(cC (fY (iM (aha rfl hr.bR) alV rfl T.Ax (by decide +kernel) (dG (aG (sO (T:=(.many 3)) (NT:=zbb) (NF:=(["person","steps"]:List Str)) (js:=[2,1]) (oM.ok (N0:=zaj) (lY:=cX JQ) (by decide +kernel) rfl rfl) (⟨_,_,_,rfl,(.cons ⟨_,rfl⟩ (.cons ⟨_,rfl⟩ (.cons ⟨_,rfl⟩ .nil))),rfl⟩) rfl (Hs (aO (pv 0))) (λb=>⟨(GD (PW.pt (uo (gb (ou hr.units) oF (aO (pv 1)) (aO (pv 3)) (f9 _)) (uo (gb (uh hr.bR) uw (aO (pv 2)) (aO (pv 4)) (by with_unfolding_all rfl)) (Aa (gb (Kc hr.Mi) MF (aG (cD (cB hr.bR) cF (aO (pv 4)) (aO (pv 2)) (λ_ _=>rfl))) (aG (cD (cB hr.bR) cF (aO (pv 4)) (aO (pv 3)) (λ_ _=>rfl))) (f9 _))))))),(jg (aD (aU (pv 0)) (aD (aU (pv 2)) aZ)))⟩))) fO))))
theorem ahG{P:bQ}{w:bK}{K:aQ}{mg:Str->Option Value}{base:bw}{f:aq}{fd:dO}(F:gf K "first_row" "first_row" QV f fd)(T:Txt K mg)(Rr:dg P w K mg base "steps_to" 1 zal (spT K Kl))(QL:dg P w K mg base "nearer_way" 1 zaj (spT K JV)):dI P w K mg base fP 2 f fd zai (spT K J6):=
 iQ (body:=J5) F Gf λcdv A outer s H E hr=>(bM (eX (i:=3) Gf.nd rfl (cG rfl) (bT Rr (hr.mono (by decide)) rfl (aD (aU (pv 0)) (aD (aU (pv 2)) aZ)))) (bM (jP (gb (CZ hr.bR) Di (aO (pv 1)) (aO (pv 3)) (by with_unfolding_all rfl)) (cC (fY (aV Dw))) jO) (bM (eX (i:=4) Gf.nd rfl (cG rfl) (fH aZ)) (bM (Gq nG (gb (vp hr.units) vD (aO (pv 1)) (aO (pv 2)) (f9 _)) (bM (Mm (bT QL (hr.mono (by decide)) rfl (aD (aU (pv 0)) (aD (aU (pv 3)) (aD (aU (pv 1)) aZ)))) (vh rfl (jY (gJ (i:=5) Gf.nd rfl (cG rfl)) (jY (gJ (i:=1) Gf.nd rfl (cG rfl)) u9))) (DQ (pJ jB (pJ jB Dq)))) (cC (wO (pv 4) (aU (pv 5)))))) (cC (ue (pv 4)))))))
theorem ajr{P:bQ}{w:bK}{K:aQ}{mg:Str->Option Value}{base:bw}{f:aq}{fd:dO}(F:gf K "row_of" "row_of" Tu f fd)(T:Txt K mg)(rY:dg P w K mg base "is_side" 1 zaf (spT K tZ))(Df:dg P w K mg base "ways_on" 2 zah (spT K zZ))(Rf:dg P w K mg base "first_row" 2 zai (spT K J6)):dI P w K mg base fP 3 f fd zae (spT K Dj):=
 iQ (body:=Gv) F ajp λcdv A outer s H E hr=>(bM (jP (PW.pt (pO (lU (aG (bT rY (hr.mono (by decide)) rfl (aD (aU (pv 1)) (aD (aU (pv 2)) aZ))))) (vq (lU (aG (bT rY (hr.mono (by decide)) rfl (aD (aU (pv 1)) (aD (aU (pv 3)) aZ)))))))) (cC (fY (aV Dw))) jO) (cC (fY (bT Rf (hr.mono (by decide)) rfl (aD (bT Df (hr.mono (by decide)) rfl (aD (aU (pv 0)) (aD (aU (pv 1)) (aD (aU (pv 4)) aZ)))) (aD (aU (pv 2)) (aD (aU (pv 3)) aZ)))))))
theorem aiz{P:bQ}{w:bK}{K:aQ}{mg:Str->Option Value}{base:bw}{f:aq}{fd:dO}(F:gf K "_law_spoilt" "_law_spoilt" KH f fd)(T:Txt K mg)(cI:dg P w K mg base "_law_pick" 2 zar (spT K cA)):dI P w K mg base fP 3 f fd za7 (spT K Dd):=
 iQ (body:=R8) F CV λcdv A outer s H E hr=>(bM (eX (i:=3) CV.nd rfl (cG rfl) (bY dU dX (aG (sO (T:=.one) (NT:=zbc) (NF:=([]:List Str)) (js:=[]) (oM.ok (N0:=za6) (lY:=cX KH) (by decide +kernel) rfl rfl) (⟨_,⟨_,rfl⟩,rfl⟩) rfl (HQ (aO (pv 2))) (λb=>⟨su,(cD (cB hr.bR) cF (aO (pv 0)) (aG (aV aY)) (λ_ _=>rfl))⟩))) (aG (fH (aD (aV aY) (aD (DP (aG (aV aY))) aZ)))))) (bM (vz (i:=4) (j:=5) rfl CV.nd rfl rfl (by decide) rfl rfl (gU (cD (cB hr.bR) cF (aO (pv 3)) (aG (bT cI (hr.mono (by decide)) rfl (aD (aU (pv 0)) (aD (iM nY oA rfl T.lX (by decide +kernel) (dG (aO (pv 3)) fO)) aZ)))) (λ_ _=>rfl)) (gU (bT cI (hr.mono (by decide)) rfl (aD (aU (pv 0)) (aD (bY dU dX (aG (iM nY oA rfl T.lX (by decide +kernel) (dG (aO (pv 1)) fO))) (aG (aV aY))) aZ))) oZ)) rfl) (bM (vz (i:=6) (j:=7) rfl CV.nd rfl rfl (by decide) rfl rfl (gU (kY (aO (pv 1)) nq (jt (aO (pv 5)))) (gU (kY (aO (pv 1)) (jt (aO (pv 5))) nq) oZ)) rfl) (bM (eX (i:=8) CV.nd rfl (cG rfl) (fH (aD (aU (pv 1)) (aD (bY dU dX (aG (kY (aO (pv 1)) nq (jt (aO (pv 5))))) (aG (kY (aO (pv 1)) (jt (aG (bY dU dX (aO (pv 5)) (aG (aV aY))))) nq))) (aD (bY dU dX (aG (bY dU dX (aO (pv 6)) (aG (kY (aO (pv 6)) (jt (aG (DP (aG (aV aY))))) nq)))) (aO (pv 7))) (aD (al0 (aO (pv 1)) (aG (DP (aG (aV aY))))) aZ)))))) (bM (wO (pv 8) (bY dU dX (aG (bY dU dX (aG (bY dU dX (aG (kY (aO (pv 6)) nq (jt (aG (DP (aG (aV aY))))))) (aG (kY (aO (pv 7)) nq (jt (aG (aV aY))))))) (aG (kY (aO (pv 6)) (jt (aG (DP (aG (aV aY))))) nq)))) (aG (kY (aO (pv 7)) (jt (aG (aV aY))) nq)))) (bM (eX (i:=8) CV.nd rfl (cG rfl) (bY dU dX (aO (pv 8)) (aG (fH (aD (bY dU dX (aG (bY dU dX (aG (kY (aO (pv 6)) nq (jt (aG (DP (aG (aV aY))))))) (aG (fH (aD (aU (pv 4)) aZ))))) (aO (pv 7))) (aD (bY dU dX (aG (bY dU dX (aO (pv 6)) (aG (fH (aD (aU (pv 4)) aZ))))) (aO (pv 7))) aZ)))))) (cC (fY (cD (cB hr.bR) cF (aO (pv 8)) (aG (bT cI (hr.mono (by decide)) rfl (aD (aU (pv 0)) (aD (aV aY) aZ)))) (λ_ _=>rfl))))))))))
theorem aiA{P:bQ}{w:bK}{K:aQ}{mg:Str->Option Value}{base:bw}{f:aq}{fd:dO}(F:gf K "_law_is_row" "_law_is_row" KD f fd)(T:Txt K mg)(Dt:dg P w K mg base "_law_lets" 2 za1 (spT K Ds)):dI P w K mg base fP 3 f fd za3 (spT K Gk):=
 iQ (body:=KN) F Kh λcdv A outer s H E hr=>(bM (jP (PW.pt (pO (um (lU (aG (oE (by decide) (aO (pv 5)) (mY (v:=.ty "list") rfl T.vB (by decide +kernel) rfl) rfl T.mG (by decide +kernel))))) (pO (gb (uh hr.bR) uw (aG (cD (cB hr.bR) cF (aO (pv 3)) (aG (aV aY)) (λ_ _=>rfl))) (aG (kY (aO (pv 2)) (jt (aG (aV aY))) nq)) (by with_unfolding_all rfl)) (vq (gb (uh hr.bR) uw (aG (cD (cB hr.bR) cF (aO (pv 3)) (aG (aV aY)) (λ_ _=>rfl))) (aG (kY (aO (pv 2)) (jt (aG (aV aY))) nq)) (by with_unfolding_all rfl)))))) (cC (fY (aV qI))) jO) (bM (acP (i:=6) (j:=7) (k:=8) rfl Kh.nd rfl rfl rfl (by decide) (by decide) (by decide) rfl rfl rfl (gU (wG (ais rfl) al3 rfl T.Vp (by decide +kernel) (dG (aG (sO (T:=.one) (NT:=zbc) (NF:=([]:List Str)) (js:=[]) (oM.ok (N0:=za2) (lY:=cX KD) (by decide +kernel) rfl rfl) (⟨_,⟨_,rfl⟩,rfl⟩) rfl (HQ (aO (pv 1))) (λb=>⟨su,(jg (aD (cD (cB hr.bR) cF (aO (pv 0)) (aG (aV aY)) (λ_ _=>rfl)) (aD (aU (pv 0)) aZ)))⟩))) fO)) (gU (cD (cB hr.bR) cF (aO (pv 3)) (aG (aV aY)) (λ_ _=>rfl)) (gU (fH aZ) oZ))) rfl) (bM (qH nG rfl (Ew (aU (pv 5))) (gJ (i:=9) Kh.nd rfl (cG rfl)) jB (bM (jP (PW.pt (pO (um (lU (aG (oE (by decide) (aO (pv 9)) (mY (v:=.ty "int") rfl T.yP (by decide +kernel) rfl) rfl T.mG (by decide +kernel))))) (pO (lU (aG (oE (by decide) (aO (pv 9)) (mY (v:=.ty "bool") rfl T.Ak (by decide +kernel) rfl) rfl T.mG (by decide +kernel)))) (pO (gb (uh hr.bR) uw (aO (pv 9)) (aO (pv 8)) (by with_unfolding_all rfl)) (vq (gb (CZ hr.bR) Di (aO (pv 9)) (aO (pv 6)) (by with_unfolding_all rfl))))))) (cC (fY (aV qI))) jO) (bM (jP (PW.pt (pO (gb (vp hr.units) vD (aG (cD (cB hr.bR) cF (aG (cD (cB hr.bR) cF (aO (pv 6)) (aO (pv 9)) (λ_ _=>rfl))) (aG (aV aY)) (λ_ _=>rfl))) (aO (pv 7)) (f9 _)) (vq (um (lU (aG (bT Dt (hr.mono (by decide)) rfl (aD (aU (pv 0)) (aD (aU (pv 2)) (aD (aU (pv 4)) (aD (cD (cB hr.bR) cF (aO (pv 6)) (aO (pv 9)) (λ_ _=>rfl)) aZ))))))))))) (cC (fY (aV qI))) jO) (bM (wO (pv 8) (aU (pv 9))) (cC (eX (i:=7) Kh.nd rfl (cG rfl) (cD (cB hr.bR) cF (aG (cD (cB hr.bR) cF (aO (pv 6)) (aO (pv 9)) (λ_ _=>rfl))) (aG (aV aY)) (λ_ _=>rfl)))))))) (cC (fY (yE (oh (ou hr.units) oF (aO (pv 7)) (aG (cD (cB hr.bR) cF (aO (pv 3)) (aG (aV aY)) (λ_ _=>rfl))) (f9 _)) (yD (an8 (oh (ou hr.units) oF (aO (pv 5)) (aG (fH aZ)) (f9 _)) (yD (oh (vp hr.units) vD (aG (cD (cB hr.bR) cF (aO (pv 3)) (aG (aV aY)) (λ_ _=>rfl))) (aG (cD (cB hr.bR) cF (aO (pv 3)) (aG (aV aY)) (λ_ _=>rfl))) (f9 _)))))))))))
theorem anx{P:bQ}{w:bK}{K:aQ}{mg:Str->Option Value}{base:bw}{f:aq}{fd:dO}(F:gf K "law" "law" VR f fd)(T:Txt K mg)(Qt:dg P w K mg base "_law_drawn_from" 1 zaq (spT K JG))(cI:dg P w K mg base "_law_pick" 2 zar (spT K cA))(Ux:dg P w K mg base "_law_case" 5 za0 (spT K Mf))(CQ:dg P w K mg base "_law_house_of" 1 zaz (spT K zX))(yz:dg P w K mg base "_law_same" 3 zas (spT K (vf 3)))(z7:dg P w K mg base "is_row" 3 zan (spT K wI))(Qu:dg P w K mg base "_law_ring_right" 4 zav (spT K JK))(R9:dg P w K mg base "_law_walked" 3 za5 (spT K KJ))(Tz:dg P w K mg base "row_of" 3 zae (spT K Dj))(Sd:dg P w K mg base "_law_spoilt" 3 za7 (spT K Dd))(Sg:dg P w K mg base "_law_is_row" 3 za3 (spT K Gk)):dI P w K mg base fP 6 f fd za8 (spT K Eo):=
 iQ (body:=V1) F nM λcdv A outer s H E hr=>(bM (qH nG rfl (u6 rfl T.rm (aG (bY dU dX (aG (aV aY)) (aG (iM (Kr rfl) LK rfl T.Ax (by decide +kernel) (dG (aG (aV aY)) (dG (aG (acG (pv 0) rfl T.lX (by decide +kernel))) fO))))))) (gJ (i:=1) nM.nd rfl (cG rfl)) jB (bM (am8 (i:=2) nM.nd rfl (cG rfl) (bT Qt (hr.mono (by decide)) rfl (aD (aU (pv 0)) (aD (aU (pv 1)) aZ)))) (bM (jP (um (lU (aG (bT Qu (hr.mono (by decide)) rfl (aD (aU (pv 2)) aZ))))) (cC (fY (aV qI))) jO) (bM (Mm (bT Ux (hr.mono (by decide)) rfl (aD (aU (pv 2)) (aD (aV aY) aZ))) (vh rfl (jY (gJ (i:=3) nM.nd rfl (cG rfl)) (jY (gJ (i:=4) nM.nd rfl (cG rfl)) (jY (gJ (i:=5) nM.nd rfl (cG rfl)) (jY (gJ (i:=6) nM.nd rfl (cG rfl)) (jY (gJ (i:=7) nM.nd rfl (cG rfl)) u9)))))) (DQ (pJ jB (pJ jB (pJ jB (pJ jB (pJ jB Dq))))))) (bM (vz (i:=8) (j:=9) rfl nM.nd rfl rfl (by decide) rfl rfl (gU (bT CQ (hr.mono (by decide)) rfl (aD (aU (pv 3)) (aD (aU (pv 5)) aZ))) (gU (bY dU dX (aO (pv 4)) (aG (fH (aD (cD (cB hr.bR) cF (aO (pv 6)) (aG (aV aY)) (λ_ _=>rfl)) aZ)))) oZ)) rfl) (cC (qH nG rfl (u6 rfl T.rm (aG (aV aY))) (gJ (i:=10) nM.nd rfl (cG rfl)) jB (bM (eX (i:=11) nM.nd rfl (cG rfl) (cD (cB hr.bR) cF (aO (pv 9)) (aG (bT cI (hr.mono (by decide)) rfl (aD (aU (pv 2)) (aD (iM nY oA rfl T.lX (by decide +kernel) (dG (aO (pv 9)) fO)) aZ)))) (λ_ _=>rfl))) (bM (Mm (bT R9 (hr.mono (by decide)) rfl (aD (aU (pv 2)) (aD (aU (pv 3)) (aD (aU (pv 5)) (aD (aU (pv 6)) (aD (aU (pv 11)) (aD (aU (pv 7)) aZ))))))) (vh rfl (jY (gJ (i:=12) nM.nd rfl (cG rfl)) (jY (gJ (i:=13) nM.nd rfl (cG rfl)) u9))) (DQ (pJ jB (pJ jB Dq)))) (bM (jP (gb (ou hr.units) oF (aG (bT cI (hr.mono (by decide)) rfl (aD (aU (pv 2)) (aD (aV aY) aZ)))) (aG (aV aY)) (f9 _)) (cC (eX (i:=13) nM.nd rfl (cG rfl) (cD (cB hr.bR) cF (aO (pv 9)) (aG (bT cI (hr.mono (by decide)) rfl (aD (aU (pv 2)) (aD (iM nY oA rfl T.lX (by decide +kernel) (dG (aO (pv 9)) fO)) aZ)))) (λ_ _=>rfl)))) jO) (bM (qH nG rfl (Ew (jg (aD (aU (pv 12)) (aD (bT Sd (hr.mono (by decide)) rfl (aD (aU (pv 2)) (aD (aU (pv 12)) (aD (aU (pv 5)) aZ)))) aZ)))) (gJ (i:=14) nM.nd rfl (cG rfl)) jB (bM (vz (i:=15) (j:=16) rfl nM.nd rfl rfl (by decide) rfl rfl (gU (wG (Rn rfl) Tp rfl T.vB (by decide +kernel) (dG (aO (pv 14)) fO)) (gU (bT Sg (hr.mono (by decide)) rfl (aD (aU (pv 3)) (aD (aU (pv 5)) (aD (aU (pv 6)) (aD (jg (aD (aU (pv 11)) (aD (aU (pv 13)) aZ))) (aD (aU (pv 7)) (aD (aU (pv 14)) aZ))))))) oZ)) rfl) (bM (eX (i:=17) nM.nd rfl (cG rfl) (bT z7 (hr.mono (by decide)) rfl (aD (aU (pv 8)) (aD (aU (pv 6)) (aD (aU (pv 11)) (aD (aU (pv 13)) (aD (aU (pv 7)) (aD (aU (pv 14)) aZ)))))))) (cC (jP (PW.pt (pO (um (lU (aG (bT yz (hr.mono (by decide)) rfl (aD (aU (pv 17)) (aD (aU (pv 16)) aZ)))))) (vq (gb (vp hr.units) vD (aO (pv 14)) (aO (pv 15)) (f9 _))))) (cC (fY (aV qI))) jO))))) (bM (eX (i:=18) nM.nd rfl (cG rfl) (bT Tz (hr.mono (by decide)) rfl (aD (aU (pv 8)) (aD (aU (pv 6)) (aD (aU (pv 11)) (aD (aU (pv 13)) (aD (aU (pv 7)) aZ))))))) (cC (jP (PW.pt (uo (gb akX alw (aO (pv 18)) (aG (aV Dw)) (f9 _)) (Aa (gb ag5 al1 (aG (bT z7 (hr.mono (by decide)) rfl (aD (aU (pv 8)) (aD (aU (pv 6)) (aD (aU (pv 11)) (aD (aU (pv 13)) (aD (aU (pv 7)) (aD (aU (pv 18)) aZ)))))))) (aG (aV qI)) (f9 _))))) (cC (fY (aV qI))) jO)))))))))))))) (cC (fY (aV qI))))
local macro_rules|`(tactic|simp_arith[$ts,*])=>`(tactic|simp only[aod,aoe,apd,aof,ape,aog,apf,aoh,aM,c7,j0,HJ,aN,dat,still,bH,eY,au,aR,cZ,eN,fJ,cQ,bD,eO,pQ,iC,vM,dj,fV,Eg,iB,iV,vV,Iv,WY,Wh,j5,frB,jQ,setM,Be,vU,mK,vG,dF,gM,add_int,sub_int,le_int,lt_int,ge_int,gt_int,eq_int,alO,Ae,alN,api,apj,Wj,Wk,aeA,ao9,apa,apb,apc,akp,apg,anl,aoi,aoj,aph,Option.bind_some,Option.map_some,List.getElem?_cons_zero,List.getElem?_cons_succ,List.set_cons_zero,List.set_cons_succ,List.map_cons,List.map_nil,List.length_cons,List.length_nil,Bool.not_true,Bool.not_false,if_true,if_false,ite_self,Bool.false_eq_true,Option.join,id_eq,Nat.reduceAdd,Nat.reduceLeDiff,Nat.reduceLT,and_true,true_and,and_self,String.reduceBEq,Bool.or_false,Bool.or_true,Bool.false_or,Bool.true_or,Bool.and_true,Bool.and_false,Bool.true_and,Bool.false_and,decide_true,decide_false,reduceCtorEq,eq_bool,ne_bool,ne_int,aok,aol,beq_self_eq_true,List.length_map,aom,aon,aoo,aop,aoq,aor,aos,aot,aou,aov,aaM,aaP,uF,Eu,intD,M9,cond_true,cond_false,$ts,*])
theorem adE{C:Ce}{c k:Int}(k0:0<=k)(k1:k<=1000000):∃r:Int,Hf [.im (.int c),.im (.int k)] C=aa (.im (.int r),C)/\0<=r:=by
 obtain⟨m,hm⟩:∃m,(c%2147483629+k*k*7919+11)*48271%2147483647=m:=⟨_,rfl⟩
 have m0:0<=m:=by rw[<-hm];exact pG _ (by decide)
 have m1:m<2147483647:=by rw[<-hm];exact uO _ (by decide)
 refine⟨m*m%1999999973,gw [aa (.im (.int c)),aa (.im (.int k)),aj] rfl rfl ?_ rfl rfl,pG _ (by decide)⟩
 simp_arith[Vq,mod_eq (i:=c) (j:=2147483629) (by decide),mul_eq (i:=k) (j:=k) (.inl (by lia)),mul_eq (i:=k*k) (j:=7919) (.inr (by decide)),mul_eq (i:=c%2147483629+k*k*7919+11) (j:=48271) (.inr (by decide)),mod_eq (i:=(c%2147483629+k*k*7919+11)*48271) (j:=2147483647) (by decide),hm,mul_eq (i:=m) (j:=m) (.inl (by lia)),mod_eq (i:=m*m) (j:=1999999973) (by decide)]
theorem dW{C:Ce}{b L k:Nat}{m:Int}(h:Bl L C b (k+1))(h0:0<m)(h1:m<1073741824):
  ∃t C',cA [.ce b,.im (.int m)] C=aa (.im (.int t),C')/\0<=t/\t<m/\Bl L C' b k:=by
 obtain⟨hL,x,y,z,hc,hx,hz,hz2⟩:=h
 have i0:qb 3 0=aa 0:=rfl;have i2:qb 3 2=aa 2:=rfl;have c2:(C.set b [x,y,z+1])[b]?=aa [x,y,z+1]:=adC hc;by_cases hp:0<x
 .refine⟨x%m,(C.set b [x,y,z+1]).set b [x / m,y,z+1],gw [aa (.ce b),aa (.im (.int m)),aj] rfl rfl ?_ rfl (by simp),pG _ (by lia),uO _ h0,⟨by simpa using hL,x / m,y,z+1,adC c2,agR hx (by lia),by lia,by lia⟩⟩
  simp_arith[Ma,uC,hc,c2,hp,mod_eq h0,fdiv_eq h0 h1,vN,wV,i0,i2]
 .obtain⟨r1,e1,p1⟩:=adE (C:=C.set b [x,y,z+1]) (c:=y) (k:=z+1) (by lia) (by lia)
  obtain⟨r2,e2,p2⟩:=adE (C:=C.set b [x,y,z+1]) (c:=r1) (k:=z+1+64) (by lia) (by lia)
  refine⟨r2 / 64%m,C.set b [x,y,z+1],gw [aa (.ce b),aa (.im (.int m)),aj] rfl rfl ?_ rfl (by simp),pG _ (by lia),uO _ h0,⟨by simpa using hL,x,y,z+1,c2,hx,by lia,by lia⟩⟩
  simp_arith[Ma,uC,hc,c2,hp,vN,wV,i0,i2,e1,e2,fdiv_eq (j:=64) (by lia) (by lia),mod_eq h0]
theorem akE{C:Ce}{ns:List Int}{k:Int}(k0:0<=k)(k9:k<=100):∃x y:Int,JG [.sc ns,.im (.int k)] C=aa (.ow (.list [.int x,.int y,.int 0]),C)/\0<=x:=by
 obtain⟨c,hc⟩:∃c:Int,Bc (c7 (aP vL (aH 1) (az (yL 0)))) (HR 0 (aH 1)) (aN (.int 0)) [aa (.sc ns),aa (.im (.int k)),aj] C=aa (.im (.int c),[aa (.sc ns),aa (.im (.int k)),aj],C):=by
  by_cases h:k<ns.length
  .obtain⟨c,hc,_⟩:=Mu (xs:=ns) k0 h
   exact⟨c,by simp_arith[yL,HR,h,hc]⟩
  .exact⟨0,by simp_arith[yL,h]⟩
 have a0:0<=(if c<0 then -c else c):=by split<;>lia
 obtain⟨a,hA⟩:∃a,(if c<0 then -c else c)=a:=⟨_,rfl⟩
 rw[hA] at a0;have pw:yK (.int 10) (.int 18)=aa (.im (.int 1000000000000000000)):=rfl
 obtain⟨j,x,hj,hx,x0⟩:∃(j x:Int),(if decide (1000000000000000000<=a)=ao then(1:Int) else 0)=j/\fK [dN 0,.int a] j=aa (.int x)/\0<=x:=by
  by_cases h:1000000000000000000<=a
  .exact⟨1,a,by rw[bC (dZ h)],rfl,a0⟩
  .exact⟨0,0,by rw[bJ (by simpa using h)],rfl,ye _⟩
 refine⟨x,c+1000003*k,gw [aa (.sc ns),aa (.im (.int k)),aj] rfl rfl ?_ rfl rfl,x0⟩
 simp_arith[Qn,↓hc,Hr,hA,pw,yM,hj,hx,mul_eq (i:=1000003) (j:=k) (.inl (by decide))]
theorem al5{fe:FE}(he:fe=aP bI (aH 1) (az (bH cA (au (aM 2) (au (aN (.int 26)) aR))))){C:Ce}{b L j:Nat}{size:Int}(h:Bl L C b (j+3))(h0:0<=size)(h1:size<=3):
  ∃(cs:List Nat)(C':Ce),oG .one gC fe [aa (.im (.str abc)),aa (.ce b)] (jG 0 size.toNat) C=aa ((cs.map λc=>.str ⟨#[c]⟩),C')/\cs.length=size.toNat/\(∀c∈cs,97<=c/\c<=122)/\Bl L C' b j:=by
 subst he;refine hide λGG gg=>?_
 obtain⟨ys,C',e,hB,hl,hr⟩:=aaJ (T:=.one) (fe:=aP bI (aH 1) (az (bH cA (au (aM 2) (au (aN (.int 26)) aR))))) (fs:=[aa (.im (.str abc)),aa (.ce b)]) (λi C1=>Bl L C1 b (j+(3-i))) (λ_ y=>∃c:Nat,y=.str ⟨#[c]⟩/\97<=c/\c<=122) (its:=jG 0 size.toNat) (C:=C) (k:=0) h (λi d C1 hd hB=>by
  obtain⟨rfl,hi⟩:=Ac hd
  rw[JM] at hB⊢;rw[ano j (by lia:i<3)] at hB
  obtain⟨k1,C2,e1,a1,b1,iY⟩:=dW (m:=26) hB (by decide) (by decide)
  refine⟨_,.im (.str ⟨#[97+k1.toNat]⟩),[aa (.im (.int (0+i))),aa (.im (.str abc)),aa (.ce b)],C2,.str ⟨#[97+k1.toNat]⟩,rfl,?_,rfl,⟨_,rfl,by lia,by lia⟩,iY⟩
  simp_arith[fM,lQ,jM,e1,bI,letters k1 a1 b1])
 rw[Lb] at hB hl
 obtain⟨cs,rfl,hcs⟩:∃cs:List Nat,ys=cs.map (λc=>.str ⟨#[c]⟩)/\∀c∈cs,97<=c/\c<=122:=by
  clear e hl hB gg;induction ys with
  |nil=>exact⟨[],rfl,λ_ m=>(nomatch m)⟩
  |cons y ys ih=>
   obtain⟨c,rfl,c1,c2⟩:=hr 0 y rfl
   obtain⟨cs,rfl,h2⟩:=ih λi z hz=>hr (i+1) z (by simpa using hz)
   exact⟨c::cs,rfl,λx hx=>by
    rcases cM.mp hx with rfl|hx
    .exact⟨c1,c2⟩
    .exact h2 x hx⟩
 exact gg ⟨cs,C',e,by simpa using hl,hcs,hB.mono (Pr _ _)⟩
theorem acS{cs:List Nat}(h:cs.length<=100):∃z:Str,Mt (.str (eZ "")) (.list (cs.map λc=>.str ⟨#[c]⟩))=aa (.im (.str z))/\z.cps.toList=cs/\z.length=cs.length:=by
 refine⟨Txt.join (eZ "") (cs.map λc=>⟨#[c]⟩),?_,aah cs,?_⟩
 .simp only[Mt,Zv];refine bC ?_;rw[gZ,acJ,ajj,Nat.mul_zero];unfold gM;lia
 .have:=congrArg qx (aah cs);rw[<-this];show _=(Txt.join (eZ "") (cs.map λc=>⟨#[c]⟩)).cps.toList.length;simp;rfl
theorem Uy(n:Nat):jG 0 n=(fj n).map λ(i:Nat)=>dN (i:Int):=by
 unfold jG;refine xR λi _=>?_
 rw[ahH]
theorem ajs{C:Ce}(f:Int):oG .one gC Jr [aa (.im (.str abc)),aa (.im (.int f))] (jG 0 8) C=aa ((oJ f).map (λc=>.str ⟨#[c]⟩),C):=by
 rw[Uy];have:=qX (T:=.one) (ft:=gC) (fe:=Jr) (fs:=[aa (.im (.str abc)),aa (.im (.int f))]) (C:=C) (λ(i:Nat)=>dN (i:Int)) (λ_=>ao) (λ(k:Nat)=>.str ⟨#[97+((f+5*(k:Int))%26).toNat]⟩) (l:=fj 8) λk _=>by
  have a1:0<=(f+5*(k:Int))%26:=pG _ (by decide);have a2:(f+5*(k:Int))%26<26:=uO _ (by decide)
  refine⟨[.int (k:Int)],rfl,rfl,λ_=>⟨.im (.str ⟨#[97+((f+5*(k:Int))%26).toNat]⟩),[aa (.im (.int (k:Int))),aa (.im (.str abc)),aa (.im (.int f))],?_,rfl⟩⟩
  simp_arith[fM,lQ,jM,mul_eq (i:=5) (j:=(k:Int)) (.inl (by decide)),mod_eq (i:=f+5*(k:Int)) (j:=26) (by decide),bI,letters _ a1 a2]
 rw[zB.mpr λ_ _=>rfl] at this;unfold oJ;rw[gZ];exact this
theorem akF{C:Ce}{f s:Int}(s0:0<s)(s1:s<=675)(n:Nat):oG .one gC Jq [aa (.im (.str abc)),aa (.im (.int f)),aa (.im (.int s))] (jG 0 n) C=aa (((fj n).map (n1 f s)).map .str,C):=by
 rw[Uy];have:=qX (T:=.one) (ft:=gC) (fe:=Jq) (fs:=[aa (.im (.str abc)),aa (.im (.int f)),aa (.im (.int s))]) (C:=C) (λ(i:Nat)=>dN (i:Int)) (λ_=>ao) (λ(k:Nat)=>.str (n1 f s k)) (l:=fj n) λk _=>by
  have a1:0<=(f+s*(k:Int))%26:=pG _ (by decide);have a2:(f+s*(k:Int))%26<26:=uO _ (by decide)
  refine⟨[.int (k:Int)],rfl,rfl,λ_=>⟨.im (.str (n1 f s k)),[aa (.im (.int (k:Int))),aa (.im (.str abc)),aa (.im (.int f)),aa (.im (.int s))],?_,rfl⟩⟩
  simp_arith[fM,lQ,jM,mul_eq (i:=s) (j:=(k:Int)) (.inl (by lia)),mod_eq (i:=f+s*(k:Int)) (j:=26) (by decide),bI,letters _ a1 a2];rfl
 rw[zB.mpr λ_ _=>rfl] at this;rw[gZ];exact this
theorem akG{C:Ce}{z:Str}(hz:z.length<=8)(n:Nat):oG .one gC Pj [aa (.im (.str z)),aa (.im (.int (1+(n:Int))))] (jG 0 (8-n)) C=aa ((sb z n).map .str,C):=by
 rw[Uy];have hl:(z.length<=1000000)=True:=eq_true (by lia);have:=qX (T:=.one) (ft:=gC) (fe:=Pj) (fs:=[aa (.im (.str z)),aa (.im (.int (1+(n:Int))))]) (C:=C) (λ(i:Nat)=>dN (i:Int)) (λ_=>ao) (λ(k:Nat)=>.str (sl z (n+1) k)) (l:=fj (8-n)) λk _=>by
  refine⟨[.int (k:Int)],rfl,rfl,λ_=>⟨.im (.str (sl z (n+1) k)),[aa (.im (.int (k:Int))),aa (.im (.str z)),aa (.im (.int (1+(n:Int))))],?_,rfl⟩⟩
  have e:(k:Int)+(1+(n:Int))=(k:Int)+((n+1:Nat):Int):=by lia
  simp_arith[fM,lQ,jM,fD,dJ,nP,hl,e];rfl
 rw[zB.mpr λ_ _=>rfl] at this;unfold sb;rw[gZ];exact this
theorem V2{x y:Str}(h:x.length+y.length<=1000000):cu (.str x) (.str y)=aa (.im (.str (x++y))):=bC h
abbrev gP(b:Nat)(m:Int)(hd tl:Str)(f s:Int)(v7 v8 v9 v10 v11 cL:Option Vl):En:=
 [aa (.ce b),aa (.im (.int m)),aa (.im (.str abc)),aa (.im (.str hd)),aa (.im (.str tl)),aa (.im (.int f)),aa (.im (.int s)),v7,v8,v9,v10,v11,cL]
theorem aoz{C:Ce}{b:Nat}{m f s k q:Int}{hd tl:Str}{v7 v8 v9 v11 cL:Option Vl}(k0:0<=k)(k1:k<40)(hq:(k*k+f)%4=q):aP lW (az (aP cu (az (aP lF (aH 10) (aH 10))) (aH 5))) (az (aN (.int 4))) (gP b m hd tl f s v7 v8 v9 (aa (.im (.int k))) v11 cL) C=aa (.im (.int q),gP b m hd tl f s v7 v8 v9 (aa (.im (.int k))) v11 cL,C):=by
 have m1:lF (.int k) (.int k)=aa (.im (.int (k*k))):=mul_eq (.inl (by lia));generalize k*k=kk at m1 hq;have m2:lW (.int (kk+f)) (.int 4)=aa (.im (.int ((kk+f)%4))):=mod_eq (by lia);rw[hq] at m2;simp_arith[gP,m1,m2]
theorem aoA{C:Ce}{b:Nat}{m f s k q:Int}{hd tl cut:Str}{v7 v8 v9 v11 cL:Option Vl}(k0:0<=k)(k1:k<40)(hq:(k*k+f)%4=q)(ht:tl.length<=3)(hc:Txt.slice tl aj (aa q)=cut):fD (aH 4) gB (dJ (az (aP lW (az (aP cu (az (aP lF (aH 10) (aH 10))) (aH 5))) (az (aN (.int 4)))))) (gP b m hd tl f s v7 v8 v9 (aa (.im (.int k))) v11 cL) C=aa (.im (.str cut),gP b m hd tl f s v7 v8 v9 (aa (.im (.int k))) v11 cL,C):=by
 have e:=aoz (C:=C) (b:=b) (m:=m) (s:=s) (hd:=hd) (tl:=tl) (v7:=v7) (v8:=v8) (v9:=v9) (v11:=v11) (cL:=cL) k0 k1 hq;have q1:(tl.length<=1000000)=True:=eq_true (by lia);simp only[gP] at e⊢;simp_arith[fD,gB,dJ,↓e,nP,q1,hc]
theorem anz{C:Ce}{b:Nat}{m f s k q v:Int}{hd tl cut tw ht nm:Str}{acc:List aC}{v7 v9:Option Vl}(k0:0<=k)(k1:k<40)(hq:(k*k+f)%4=q)(hl:tl.length<=3)(hc:Txt.slice tl aj (aa q)=cut)(t2:cu (.str hd) (.str tw)=aa (.im (.str ht)))(t3:cu (.str ht) (.str cut)=aa (.im (.str nm)))(la:(acc.length<1000000)=True):
  lG 8 (aP cu (az (aP cu (aH 3) (aH 12))) (az (fD (aH 4) gB (dJ (az (aP lW (az (aP cu (az (aP lF (aH 10) (aH 10))) (aH 5))) (az (aN (.int 4))))))))) (gP b m hd tl f s v7 (aa (.ow (.list acc))) v9 (aa (.im (.int k))) (aa (.im (.int v))) (aa (.im (.str tw)))) C=aa (.nx,gP b m hd tl f s v7 (aa (.ow (.list (acc++[.str nm])))) v9 (aa (.im (.int k))) (aa (.im (.int v))) (aa (.im (.str tw))),C):=by
 have e:=aoA (C:=C) (b:=b) (m:=m) (s:=s) (hd:=hd) (tl:=tl) (v7:=v7) (v8:=aa (.ow (.list acc))) (v9:=v9) (v11:=aa (.im (.int v))) (cL:=aa (.im (.str tw))) k0 k1 hq hl hc;simp only[gP] at e⊢;simp_arith[lG,o8,t2,↓e,t3,la]
theorem anA{C:Ce}{b:Nat}{m f s:Int}{hd tl z:Str}{i:Nat}{v10 v11 cL:Option Vl}(hz:z.length=8)(hi:i<8):
  BR (gP b m hd tl f s (aa (.im (.str z))) (aa (.ow (.list ((subs z i).map .str)))) (aa (.im (.int (1+(i:Int))))) v10 v11 cL) C=aa (.nx,gP b m hd tl f s (aa (.im (.str z))) (aa (.ow (.list ((subs z (i+1)).map .str)))) (aa (.im (.int (1+(i:Int))))) v10 v11 cL,C):=by
 have e:=akG (C:=C) (z:=z) (by lia) i;have e1:(9-(1+(i:Int))).toNat=8-i:=by lia
 have l1:(sb z i).length<=8:=by unfold sb;rw[bz,mU];lia
 have l2:(subs z i).length<=64:=by
  unfold subs sb;rw[afV];have:∀n,n<=8->((fj n).map λa=>((fj (8-a)).map (sl z (a+1))).length).sum<=8*n:=by
   intro n;induction n with
   |zero=>intro _;exact cz _
   |succ n ih=>
    intro h;rw[YF,jf,List.sum_append];have:=ih (by lia);simp only[cO,kj,ag9,List.sum_nil,bz,mU] at this⊢;lia
  have:=this i (by lia);lia
 have q1:((sb z i).length<=1000000)=True:=eq_true (by lia);have q2:((subs z i).length+(sb z i).length<=1000000)=True:=eq_true (by lia);have es:subs z (i+1)=subs z i++sb z i:=by
  unfold subs;rw[YF,List.flatMap_append,List.flatMap_singleton]
 rw[es,jf];simp_arith[BR,gP,Ni,o8,jH,xu (m:=9-(1+(i:Int))) (by lia) (by lia),e1,e,q1,q2]
theorem anB{C:Ce}{b:Nat}{m f s:Int}{hd tl:Str}{i:Nat}{v7 v9 v11 cL:Option Vl}(f0:0<=f)(f1:f<676)(s0:0<s)(s1:s<=675)(hi:i<40)(hh:hd.length<=3)(ht:tl.length<=3):
  ∃w11 w12,BP (gP b m hd tl f s v7 (aa (.ow (.list (((fj i).map (n2 hd tl f s λk=>((k:Int)*k+f)%4)).map .str)))) v9 (aa (.im (.int (i:Int)))) v11 cL) C
   =aa (.nx,gP b m hd tl f s v7 (aa (.ow (.list (((fj (i+1)).map (n2 hd tl f s λk=>((k:Int)*k+f)%4)).map .str)))) v9 (aa (.im (.int (i:Int)))) w11 w12,C):=by
 obtain⟨v,hv⟩:∃v,v2 f s i=v:=⟨_,rfl⟩
 have hv':(f+s*(i:Int))%676=v:=hv;have v0:0<=v:=by rw[<-hv];exact pG _ (by decide)
 have v1:v<676:=by rw[<-hv];exact uO _ (by decide)
 have a1:0<=v / 26:=agR v0 (by decide);have a2:v / 26<26:=by lia
 have a3:0<=v%26:=pG _ (by decide);have a4:v%26<26:=uO _ (by decide);have t1:cu (.str ⟨#[97+(v / 26).toNat]⟩) (.str ⟨#[97+(v%26).toNat]⟩)=aa (.im (.str (two v))):=V2 (by show 1+1<=1000000;lia);have lt:(two v).length=2:=by
  show((#[97+(v / 26).toNat]:Array Nat)++#[97+(v%26).toNat]).size=2
  rw[Yi];rfl
 have t2:cu (.str hd) (.str (two v))=aa (.im (.str (hd++two v))):=V2 (by rw[lt];lia);have l3:=PyProof.Txt.length_slice_le tl aj (aa (((i:Int)*i+f)%4));have l4:(hd++two v).length=hd.length+2:=by
  show(hd.cps++(two v).cps).size=hd.cps.size+2
  rw[Yi,show(two v).cps.size=2 from lt]
 have t3:cu (.str (hd++two v)) (.str (Txt.slice tl aj (aa (((i:Int)*i+f)%4))))=aa (.im (.str (n2 hd tl f s (λk=>((k:Int)*k+f)%4) i))):=by
  unfold n2;rw[hv];exact V2 (by rw[l4];lia)
 have q1:(tl.length<=1000000)=True:=eq_true (by lia);have q2:(i<1000000)=True:=eq_true (by lia)
 obtain⟨acc,hacc⟩:∃acc,acc=((fj i).map (n2 hd tl f s λk=>((k:Int)*k+f)%4)).map fB:=⟨_,rfl⟩
 have la:(acc.length<1000000)=True:=eq_true (by rw[hacc,bz,bz,mU];lia);have hn:((fj (i+1)).map (n2 hd tl f s λk=>((k:Int)*k+f)%4)).map fB=acc++[.str (n2 hd tl f s (λk=>((k:Int)*k+f)%4) i)]:=by
  rw[YF,jf,jf,hacc];rfl
 rw[hn,<-hacc];clear hn hacc;generalize n2 hd tl f s (λk=>((k:Int)*k+f)%4) i=nm at t3⊢
 obtain⟨cut,Wl⟩:∃c,Txt.slice tl aj (aa (((i:Int)*i+f)%4))=c:=⟨_,rfl⟩
 rw[Wl] at t3;have s1:cQ 11 (aP lW (az (aP cu (aH 5) (az (aP lF (aH 6) (aH 10))))) (az (aN (.int 676)))) (gP b m hd tl f s v7 (aa (.ow (.list acc))) v9 (aa (.im (.int (i:Int)))) v11 cL) C=aa (.nx,gP b m hd tl f s v7 (aa (.ow (.list acc))) v9 (aa (.im (.int (i:Int)))) (aa (.im (.int v))) cL,C):=by
  simp_arith[gP,mul_eq (i:=s) (j:=(i:Int)) (.inl (by lia)),mod_eq (i:=f+s*(i:Int)) (j:=676) (by lia),hv']
 have s2:cQ 12 (aP cu (az (aP bI (aH 2) (az (aP yC (aH 11) (az (aN (.int 26))))))) (az (aP bI (aH 2) (az (aP lW (aH 11) (az (aN (.int 26)))))))) (gP b m hd tl f s v7 (aa (.ow (.list acc))) v9 (aa (.im (.int (i:Int)))) (aa (.im (.int v))) cL) C=aa (.nx,gP b m hd tl f s v7 (aa (.ow (.list acc))) v9 (aa (.im (.int (i:Int)))) (aa (.im (.int v))) (aa (.im (.str (two v)))),C):=by
  simp_arith[gP,fdiv_eq (i:=v) (j:=26) (by lia) (by lia),mod_eq (i:=v) (j:=26) (by lia),bI,letters _ a1 a2,letters _ a3 a4,t1]
 obtain⟨q,hq⟩:∃q,((i:Int)*(i:Int)+f)%4=q:=⟨_,rfl⟩
 rw[hq] at Wl;have s3:=anz (C:=C) (b:=b) (m:=m) (s:=s) (v:=v) (v7:=v7) (v9:=v9) (by lia) (by lia) hq ht Wl t2 t3 la
 refine⟨aa (.im (.int v)),aa (.im (.str (two v))),?_⟩
 unfold BP;simp only[bD,s1,s2,s3]
theorem acT{fe:FE}(he:fe=aP bI (aH 1) (az (bH cA (au (aM 2) (au (aN (.int 26)) aR))))){C:Ce}{b L j:Nat}{v1 v3 v4 v5 v6 v7 v8 v9 v10 v11 cL:Option Vl}(h:Bl L C b (j+4)):
  ∃(z:Str)(C':Ce),ux (az (aN (.str (eZ "")))) (az (j5 (jH (az (bH cA (au (aM 0) (au (aN (.int 4)) aR))))) .one gC fe [2,0])) [aa (.ce b),v1,aa (.im (.str abc)),v3,v4,v5,v6,v7,v8,v9,v10,v11,cL] C=aa (.im (.str z),[aa (.ce b),v1,aa (.im (.str abc)),v3,v4,v5,v6,v7,v8,v9,v10,v11,cL],C')/\z.length<=3/\(∀c∈z.cps.toList,97<=c/\c<=122)/\Bl L C' b j:=by
 refine hide λGG gg=>?_
 obtain⟨k1,C1,e1,a1,b1,iY⟩:=dW (m:=4) h (by decide) (by decide)
 obtain⟨cs,C2,e2,l2,hc,hB2⟩:=al5 he (j:=j) (size:=k1) iY a1 (by lia)
 obtain⟨z,e3,e4,e5⟩:=acS (cs:=cs) (by lia)
 have g5:(k1.toNat<=1000000)=True:=eq_true (by lia);refine gg ⟨z,C2,?_,by lia,by rw[e4];exact hc,hB2⟩;simp_arith[ux,jH,e1,xu (m:=k1) (by lia) (by lia),e2,l2,g5,Rp,e3]
theorem anC{C:Ce}{b L j:Nat}{m:Int}(R:FS)(h:Bl L C b (j+10)):
  ∃(hd tl:Str)(f s:Int)(C':Ce),(bD (cQ 2 (aN (.str (eZ "abcdefghijklmnopqrstuvwxyz")))) (bD (cQ 3 (ux (az (aN (.str (eZ "")))) (az (j5 (jH (az (bH cA (au (aM 0) (au (aN (.int 4)) aR))))) .one gC Pn [2,0])))) (bD (cQ 4 (ux (az (aN (.str (eZ "")))) (az (j5 (jH (az (bH cA (au (aM 0) (au (aN (.int 4)) aR))))) .one gC Pk [2,0])))) (bD (jQ [5,6] (fJ (bH cA (au (aM 0) (au (aN (.int 676)) aR))) (fJ (aP bI (az (dj (au (aN (.int 1)) (au (aN (.int 3)) (au (aN (.int 5)) (au (aN (.int 7)) (au (aN (.int 25)) (au (aN (.int 675)) aR)))))))) (az (bH cA (au (aM 0) (au (aN (.int 6)) aR))))) aR))) R)))) [aa (.ce b),aa (.im (.int m)),aj,aj,aj,aj,aj,aj,aj,aj,aj,aj,aj] C
   =R (gP b m hd tl f s aj aj aj aj aj aj) C'/\hd.length<=3/\tl.length<=3/\(∀c∈hd.cps.toList,97<=c/\c<=122)/\(∀c∈tl.cps.toList,97<=c/\c<=122)/\0<=f/\f<676/\Hw s/\Bl L C' b j:=by
 refine hide λGG gg=>?_
 obtain⟨hd,C1,e1,l1,c1,iY⟩:=acT (fe:=Pn) rfl (j:=j+6) (v1:=aa (.im (.int m))) (v3:=aj) (v4:=aj) (v5:=aj) (v6:=aj) (v7:=aj) (v8:=aj) (v9:=aj) (v10:=aj) (v11:=aj) (cL:=aj) h
 obtain⟨tl,C2,e2,l2,c2,hB2⟩:=acT (fe:=Pk) rfl (j:=j+2) (v1:=aa (.im (.int m))) (v3:=aa (.im (.str hd))) (v4:=aj) (v5:=aj) (v6:=aj) (v7:=aj) (v8:=aj) (v9:=aj) (v10:=aj) (v11:=aj) (cL:=aj) iY
 obtain⟨f,C3,e3,f0,f1,hB3⟩:=dW (m:=676) hB2 (by decide) (by decide)
 obtain⟨k,C4,e4,k0,k1,qN⟩:=dW (m:=6) hB3 (by decide) (by decide)
 obtain⟨s,e5,hs⟩:=step_at k0 k1
 refine gg ⟨hd,tl,f,s,C4,?_,l1,l2,c1,c2,f0,f1,hs,qN⟩;simp_arith[↓e1,↓e2,e3,e4,e5]
section
variable{C:Ce}{b:Nat}{m f s:Int}{hd tl:Str}
theorem apn{v10 v11 cL:Option Vl}(z:Str)(hz:z.length=8)(v9:Option Vl):∃w9,kO (dF 9) BR (jG 1 8) (gP b m hd tl f s (aa (.im (.str z))) (aa (.ow (.list []))) v9 v10 v11 cL) C=aa (.nx,gP b m hd tl f s (aa (.im (.str z))) (aa (.ow (.list ((subs z 8).map .str)))) w9 v10 v11 cL,C):=by
 obtain⟨env',C',e,w9,he,hC⟩:=ym (g:=dF 9) (body:=BR) (its:=jG 1 8) (env:=gP b m hd tl f s (aa (.im (.str z))) (aa (.ow (.list []))) v9 v10 v11 cL) (C:=C)
  (λi env C1=>∃w9,env=gP b m hd tl f s (aa (.im (.str z))) (aa (.ow (.list ((subs z i).map .str)))) w9 v10 v11 cL/\C1=C) ⟨v9,rfl,rfl⟩ (λi d env C1 hd hI=>by
   obtain⟨w9,rfl,rfl⟩:=hI
   obtain⟨rfl,hi⟩:=Ac hd
   exact⟨_,.nx,_,C1,rfl,anA hz hi,.inl rfl,_,rfl,rfl⟩)
 rw[Lb] at he;subst he;subst hC
 exact⟨w9,e⟩
theorem apo{v7 v9 v11 cL:Option Vl}{n:Nat}(hn:n<=30)(f0:0<=f)(f1:f<676)(hs:Hw s)(hh:hd.length<=3)(ht:tl.length<=3)(v10:Option Vl):
  ∃w10 w11 w12,kO (dF 10) BP (jG 0 n) (gP b m hd tl f s v7 (aa (.ow (.list []))) v9 v10 v11 cL) C=aa (.nx,gP b m hd tl f s v7 (aa (.ow (.list (((fj n).map (n2 hd tl f s λk=>((k:Int)*k+f)%4)).map .str)))) v9 w10 w11 w12,C):=by
 obtain⟨env',C',e,w10,w11,w12,he,hC⟩:=ym (g:=dF 10) (body:=BP) (its:=jG 0 n) (env:=gP b m hd tl f s v7 (aa (.ow (.list []))) v9 v10 v11 cL) (C:=C)
  (λi env C1=>∃w10 w11 w12,env=gP b m hd tl f s v7 (aa (.ow (.list (((fj i).map (n2 hd tl f s λk=>((k:Int)*k+f)%4)).map .str)))) v9 w10 w11 w12/\C1=C) ⟨v10,v11,cL,rfl,rfl⟩ (λi d env C1 hd' hI=>by
   obtain⟨w10,w11,w12,rfl,rfl⟩:=hI
   obtain⟨rfl,hi⟩:=Ac hd'
   rw[ahH]
   obtain⟨u11,u12,e⟩:=anB (C:=C1) (b:=b) (m:=m) (v7:=v7) (v9:=v9) (v11:=w11) (cL:=w12) (i:=i) f0 f1 hs.1.1 hs.1.2 (by lia) hh ht
   exact⟨_,.nx,_,C1,rfl,e,.inl rfl,_,u11,u12,rfl,rfl⟩)
 rw[Lb] at he;subst he;subst hC
 exact⟨w10,w11,w12,e⟩
end
theorem Vr{zs:List Str}{m:Int}(m0:0<=m)(m1:m<=zs.length):jx (zs.map fB) aj (aa m)=(zs.take m.toNat).map .str:=by
 obtain⟨k,rfl⟩:∃k:Nat,m=(k:Int):=⟨m.toNat,by lia⟩
 unfold jx;rw[bz,HT.Lk,show HT.cP zs.length 0 aj=0 from rfl,List.drop_zero,Nat.sub_zero,Zg,zE,PK (by lia)]
theorem abT{C:Ce}{b L j:Nat}{m:Int}(h:Bl L C b (j+12))(m0:0<=m)(m1:m<=30):
  ∃(zs:List Str)(C':Ce),Cm [.ce b,.im (.int m)] C=aa (.ow (.list (zs.map .str)),C')/\Names zs/\zs.length=m.toNat/\Bl L C' b j:=by
 refine hide λGG gg=>?_
 obtain⟨R,hR⟩:∃R:FS,R=bD (gY (c7 (aP iD (az (bH cA (au (aM 0) (au (aN (.int 4)) aR)))) (az (aN (.int 0))))) (bD (jQ [7,8] (fJ (ux (az (aN (.str (eZ "")))) (az (j5 (jH (az (aN (.int 8)))) .one gC Jr [2,5]))) (fJ (dj aR) aR))) (bD (iJ (HX (az (aN (.int 1))) (az (aN (.int 9)))) (dF 9) BR) (eO (fD (aH 8) gB (dJ (aH 1)))))) iC) (bD (gY (ni (c7 (aP vL (aH 1) (az (aN (.int 27))))) (c7 (aP iD (az (bH cA (au (aM 0) (au (aN (.int 3)) aR)))) (az (aN (.int 0)))))) (eO (j5 (jH (aH 1)) .one gC Jq [2,5,6])) iC) (bD (cQ 8 (dj aR)) (bD (iJ (jH (aH 1)) (dF 10) BP) (pQ 8)))):=⟨_,rfl⟩
 obtain⟨hd,tl,f,s,C1,e1,l1,l2,c1,c2,f0,f1,hs,iY⟩:=anC (m:=m) (j:=j+2) R h
 rw[hR] at e1
 obtain⟨k,C2,e2,a2,b2,hB2⟩:=dW (m:=4) iY (by decide) (by decide)
 by_cases hk:k=0
 .subst hk
  obtain⟨z,e3,e4,e5⟩:=acS (cs:=oJ f) (by simp[oJ])
  have hz:z.length=8:=by rw[e5];simp[oJ]
  have st:=ajs (C:=C2) f
  obtain⟨w9,e6⟩:=apn (C:=C2) (b:=b) (m:=m) (f:=f) (s:=s) (hd:=hd) (tl:=tl) (v10:=aj) (v11:=aj) (cL:=aj) z hz aj
  have ct:=Vr (zs:=subs z 8) m0 (by rw[abO];lia);have nm:=aiq e4;have q:((oJ f).length<=1000000)=True:=eq_true (by simp[oJ]);refine gg ⟨(subs z 8).take m.toNat,C2,gw [aa (.ce b),aa (.im (.int m)),aj,aj,aj,aj,aj,aj,aj,aj,aj,aj,aj] rfl rfl ?_ rfl (h.eq hB2),⟨nm.1.sublist (Jm _ _),λx hx=>nm.2 x (xO hx)⟩,by rw[qu,abO];lia,hB2.mono (by lia)⟩;unfold Gb;rw[e1];have i8:aaX 8=8:=rfl;have i9:aaX (9-1)=8:=rfl;have rg2:(-(2^62)<=(1:Int)/\(1:Int)<2^62/\-(2^62)<=(9:Int)/\(9:Int)<2^62)=True:=eq_true (by decide);simp only[gP] at e6;simp_arith[gP,e2,ux,jH,xu (m:=(8:Int)) (by decide) (by decide),i8,st,q,Rp,e3,HX,rg2,i9,iJ,e6,fD,gB,dJ,nP,ct]
 .have hk':(k==0)=aL:=beq_eq_false_iff_ne.mpr hk;have fin:∀C3,Bl L C3 b j->ni (c7 (aP vL (aH 1) (az (aN (.int 27))))) (c7 (aP iD (az (bH cA (au (aM 0) (au (aN (.int 3)) aR)))) (az (aN (.int 0))))) (gP b m hd tl f s aj aj aj aj aj aj) C2=aa (aL,C3)->GG:=λC3 hB3 ht=>by
   obtain⟨w10,w11,w12,e7⟩:=apo (C:=C3) (b:=b) (m:=m) (v7:=aj) (v9:=aj) (v11:=aj) (cL:=aj) (n:=m.toNat) (by lia) f0 f1 hs l1 l2 aj
   refine gg ⟨_,C3,gw [aa (.ce b),aa (.im (.int m)),aj,aj,aj,aj,aj,aj,aj,aj,aj,aj,aj] rfl rfl ?_ rfl (h.eq hB3),akt (f:=f) (q:=λk=>((k:Int)*k+f)%4) (n:=m.toNat) hs (by lia) l1 l2 c1 c2,by rw[bz,mU],hB3⟩;unfold Gb;rw[e1];simp only[gP] at e7 ht;simp_arith[gP,e2,hk',↓ht,iJ,jH,xu (m:=m) (by lia) (by lia),e7]
  by_cases W9:m<27
  .obtain⟨k6,C3,e3,a3,b3,hB3⟩:=dW (m:=3) hB2 (by decide) (by decide)
   by_cases hk6:k6=0
   .subst hk6;have lc:=akF (C:=C3) (f:=f) (s:=s) hs.1.1 hs.1.2 m.toNat;have q:(m.toNat<=1000000)=True:=eq_true (by lia);refine gg ⟨_,C3,gw [aa (.ce b),aa (.im (.int m)),aj,aj,aj,aj,aj,aj,aj,aj,aj,aj,aj] rfl rfl ?_ rfl (h.eq hB3),aks (f:=f) (n:=m.toNat) hs (by lia),by rw[bz,mU],hB3⟩;unfold Gb;rw[e1];simp_arith[gP,e2,hk',W9,e3,jH,xu (m:=m) (by lia) (by lia),lc,mU,q]
   .have apq:(k6==0)=aL:=beq_eq_false_iff_ne.mpr hk6;exact fin C3 hB3 (by simp_arith[gP,W9,e3,apq])
  .exact fin C2 hB2.dec (by simp_arith[gP,W9])
theorem ajt{C:Ce}{b L j:Nat}{zs:List Str}(h:Bl L C b (j+16))(h8:zs.length<=8)(hz:Names zs):
  ∃(ps:List (Str×Str))(C':Ce),JH [.ce b,.im (.list (zs.map .str))] C=aa (.ow (.dict (bL (bZ ps))),C')/\iH zs ps/\ps.length=zs.length/\Bl L C' b j:=by
 refine hide λGG gg=>?_
 obtain⟨env',C',e,ps,v3,v4,he,hl,hP,hB⟩:=ym (g:=vU 2 (mK (dF 3) (mK (dF 4) vG))) (body:=Fv) (its:=Aw (zs.map .str)) (env:=[aa (.ce b),aa (.im (.list (zs.map .str))),aa (.ow (.dict [])),aj,aj]) (C:=C)
  (λi env C2=>∃(ps:List (Str×Str))(v3 v4:Option Vl),env=[aa (.ce b),aa (.im (.list (zs.map .str))),aa (.ow (.dict (bL (bZ ps)))),v3,v4]/\ps.length=i/\iH zs ps/\Bl L C2 b (j+2*(8-i)))
  ⟨[],aj,aj,rfl,rfl,(λi x e=>by simp at e),h⟩ (λi d env C2 hd hI=>by
   obtain⟨ps,v3,v4,rfl,hl,hP,hB⟩:=hI
   obtain⟨x,hx,rfl⟩:=abK hd
   obtain⟨z,hz1,rfl⟩:=anm hx
   refine hide λGG gg=>?_
   have hi:i<zs.length:=(jW.mp hz1).1;rw[MP j 2 (by lia:i<8)] at hB
   obtain⟨k1,C3,e1,a1,b1,iY⟩:=dW (m:=4) hB (by decide) (by decide)
   have ct:=Vr (zs:=zs) (m:=(i:Int)) (by lia) (by lia);rw[zE] at ct;have ad:cu (.list [.str (eZ "")]) (.list ((zs.take i).map .str))=aa (.ow (.list (fB (eZ "")::(zs.take i).map .str))):=add_l (xs:=[.str (eZ "")]) (by rw[bz,qu];show 1+_<=_;lia);have g:((bL (bZ ps)).length<1000000)=True:=eq_true (by unfold bL bZ;rw[bz,bz];lia);have fin:∀(t:Int)(C4:Ce),0<=t->t<=i->Bl L C4 b (j+2*(8-(i+1)))->(∀y:Str,fK (fB (eZ "")::(zs.take i).map .str) t=aa (.str y)->putD (bL (bZ ps)) (.str z) (.str y)=aa (bL (bZ (ps++[(z,y)])))->
     Fv [aa (.ce b),aa (.im (.list (zs.map .str))),aa (.ow (.dict (bL (bZ ps)))),aa (.im (.int (i:Int))),aa (.im (.str z))] C2=aa (.nx,[aa (.ce b),aa (.im (.list (zs.map .str))),aa (.ow (.dict (bL (bZ (ps++[(z,y)]))))),aa (.im (.int (i:Int))),aa (.im (.str z))],C4))->GG:=λt C4 t0 t1 hB2 run=>by
    obtain⟨y,my,hy1,iy⟩:=q9 (zs:=eZ ""::zs.take i) (k:=t) t0 (by rw[dw,qu];lia)
    have hy2:y=eZ ""\/∃j,j<ps.length/\zs[j]?=aa y:=by
     rcases cM.mp my with rfl|my
     .exact .inl rfl
     .obtain⟨jj,hj,e⟩:=xQ my
      rw[qu] at hj;refine .inr ⟨jj,by lia,?_⟩;rw[agk] at e;rw[<-e];exact j7 (by lia)
    have pu:putD (bL (bZ ps)) (.str z) (.str y)=aa (bL (bZ (ps++[(z,y)]))):=by
     rw[abH (l:=bZ ps) (z:=z) (d:=.str y)]
     .unfold bZ;rw[jf];rfl
     .unfold bZ;rw[gZ];intro hm
      obtain⟨q,hq,e⟩:=gQ.mp hm
      obtain⟨jj,hj,rfl⟩:=xQ hq
      have g1:=(hP jj ps[jj] (j7 hj)).1;have e:ps[jj].1=z:=e;rw[e] at g1
      obtain⟨x1,y1⟩:=jW.mp g1
      obtain⟨x2,y2⟩:=jW.mp hz1
      exact Jd.mp hz.1 jj i x1 x2 (by lia) (y1.trans y2.symm)
    rw[cO] at iy;exact gg ⟨_,.nx,_,C4,rfl,run y iy pu,.inl rfl,ps++[(z,y)],_,_,rfl,by simp[hl],hP.snoc (by rw[hl];exact hz1) hy2,hB2⟩
   by_cases hk:0<k1
   .obtain⟨t,C4,e3,t0,t1,hB2⟩:=dW (m:=(i:Int)+1) iY (by lia) (by lia)
    exact fin t C4 t0 (by lia) hB2 λy iy pu=>by simp_arith[Fv,fD,gB,dJ,nP,ct,ad,e1,hk,e3,iy,vN,wV,pu,g]
   .exact fin 0 C3 (by lia) (by lia) iY.dec λy iy pu=>by simp_arith[Fv,fD,gB,dJ,nP,ct,ad,e1,hk,iy,vN,wV,pu,g])
 rw[aaQ,bz] at hl hB;subst he;refine gg ⟨ps,C',gw [aa (.ce b),aa (.im (.list (zs.map .str))),aj,aj,aj] rfl rfl ?_ rfl (h.eq hB),hP,hl,hB.mono (Pr _ _)⟩;simp_arith[Qo,Va,iJ,N8,e]
theorem akH{C:Ce}{ps:List (Str×Str)}:∀{z:Str}{os:List Str},Over (jh ps) z os->∀(n:Nat)(acc:List Str),os.length<n->acc.length+os.length<1000->
  ∃z',lB Yq Yr n [aa (.im (.dict (bL (bZ ps)))),aa (.im (.str z)),aa (.ow (.list (acc.map .str)))] C=aa (.nx,[aa (.im (.dict (bL (bZ ps)))),aa (.im (.str z')),aa (.ow (.list ((acc++os).map .str)))],C):=by
 have hin:∀z,jF (.str z) (.dict (bL (bZ ps)))=aa (.im (.bool (jh ps z).isSome)):=λz=>by
  show((qJ (bL (bZ ps)) (.str z)).map (·.isSome)).map (λb=>Vl.im (.bool b))=_
  rw[Lg];cases jh ps z<;>rfl
 intro z os ho;induction ho with
 |@stop z h=>
  intro n acc hn ha;cases n with
  |zero=>exact absurd hn (zL _)
  |succ n=>
   refine⟨z,?_⟩
   unfold lB;simp_arith[hin,h,af7,lq]
 |@step z y r h _ ih=>
  intro n acc hn ha;cases n with
  |zero=>exact absurd hn (zL _)
  |succ n=>
   rw[dw] at hn ha
   obtain⟨z',e⟩:=ih n (acc++[z]) (by lia) (by rw[dM];show acc.length+1+_<_;lia)
   refine⟨z',?_⟩
   have g:(acc.length<1000000)=True:=eq_true (by lia);have i:bI (.dict (bL (bZ ps))) (.str z)=aa (.im (.str y)):=by
    unfold bI vR;simp only[Lg,h,mW]
   simp only[jf,cO,kj,mF,lQ,jM] at e⊢;unfold lB;simp_arith[hin,h,X3,g,lG,o8,i,e]
theorem abU{C:Ce}{zs:List Str}{ps:List (Str×Str)}(hN:Names zs)(hP:iH zs ps)(h8:ps.length<=8)(z:Str):
  Cp [.im (.dict (bL (bZ ps))),.im (.str z)] C=aa (.ow (.list ((up ps z).map .str)),C):=by
 have hul:=Vh ps z
 obtain⟨z',e⟩:=akH (C:=C) (GJ hN hP z) Eh [] (by show _<100000;lia) (by show 0+_<1000;lia)
 rw[kj,jM] at e;refine gw [aa (.im (.dict (bL (bZ ps)))),aa (.im (.str z)),aj] rfl rfl ?_ rfl rfl;simp_arith[Qp,uH,e]
theorem aaY{C:Ce}{b L j:Nat}{m:Int}(h:Bl L C b (j+101))(h0:0<=m)(h1:m<=50):
  ∃(ns:List Int)(C':Ce),Dc [.ce b,.im (.int m)] C=aa (.ow (.list (ns.map .int)),C')/\ns.length=m.toNat/\(∀x∈ns,0<=x/\x<=2000)/\ns.Pairwise (·<·)/\Bl L C' b j:=by
 refine hide λGG gg=>?_
 obtain⟨k0,C0,e0,a0,b0,hB0⟩:=dW (m:=3) (k:=j+100) h (by decide) (by decide)
 obtain⟨env',C',e,ns,nx,v4,he,hl,hr,hp,hx0,hx1,hB⟩:=ym (g:=dF 4) (body:=Qy) (its:=jG 0 m.toNat) (env:=[aa (.ce b),aa (.im (.int m)),aa (.ow (.list [])),aa (.im (.int k0)),aj]) (C:=C0)
  (λi env C1=>∃(ns:List Int)(nx:Int)(v4:Option Vl),env=[aa (.ce b),aa (.im (.int m)),aa (.ow (.list (ns.map .int))),aa (.im (.int nx)),v4]/\ns.length=i/\(∀x∈ns,0<=x/\x<nx)/\ns.Pairwise (·<·)/\0<=nx/\nx<=2+3*i/\Bl L C1 b (j+2*(50-i)))
  ⟨[],k0,aj,rfl,rfl,(λ_ m=>nomatch m),Bw,a0,by lia,hB0⟩ (λi d env C1 hd hI=>by
   obtain⟨ns,nx,v4,rfl,hl,hr,hp,hx0,hx1,hB⟩:=hI
   obtain⟨rfl,hi⟩:=Ac hd
   refine hide λGG gg=>?_
   rw[MP j 2 (by lia:i<50)] at hB
   obtain⟨k1,C2,e1,a1,b1,iY⟩:=dW (m:=2) hB (by decide) (by decide)
   obtain⟨k2,C3,e2,a2,b2,hB2⟩:=dW (m:=3) iY (by decide) (by decide)
   obtain⟨y,hy,y0,y2⟩:∃y,k1*k2=y/\0<=y/\y<=2:=by
    have hk:k1=0\/k1=1:=by lia
    rcases hk with rfl|rfl
    .exact⟨0,by rw[Int.zero_mul],by decide,by decide⟩
    .exact⟨k2,by rw[Int.one_mul],a2,by lia⟩
   have lm:(ns.length<1000000)=True:=eq_true (by lia);refine gg ⟨_,.nx,[aa (.ce b),aa (.im (.int m)),aa (.ow (.list ((ns++[nx]).map .int))),aa (.im (.int (nx+1+y))),aa (.im (.int (0+i)))],C3,rfl,?_,.inl rfl,ns++[nx],nx+1+y,_,rfl,by simp[hl],λx hx=>?_,?_,by lia,by lia,hB2⟩
   .simp_arith[Qy,e1,e2,mul_eq (i:=k1) (j:=k2) (.inl (by lia)),hy,lG,o8,lm,jf]
   .rcases dR.mp hx with hx|hx
    .have:=hr x hx;lia
    .rw[j8.mp hx];lia
   .rw[XN]
    refine⟨hp,by simp,λx hx z hz=>?_⟩
    rw[j8.mp hz]
    exact(hr x hx).2)
 rw[Lb] at hl hx1 hB;subst he;refine gg ⟨ns,C',gw [aa (.ce b),aa (.im (.int m)),aj,aj,aj] rfl rfl ?_ rfl (h.eq hB),hl,λx hx=>?_,hp,hB.mono (Pr _ _)⟩
 .simp_arith[R0,e0,iJ,jH,xu (m:=m) (by lia) (by lia),e]
 .have:=hr x hx;lia
theorem abV{C:Ce}:∀(l q:List (Str×Str)),((q++l).map (·.1)).Nodup->(q++l).length<=8->sU (.many 2) gC PB PJ [] (l.map vJ) (bL (bZ q)) C=aa (bL (bZ (q++l)),C)
 |[],q,_,_=>by rw[lq];rfl
 |x::l,q,nd,h8=>by
  have ih:=abV (C:=C) l (q++[x]) (by rw[mF];exact nd) (by rw[mF];exact h8);have hx:x.1∉(bZ q).map (·.1):=by
   unfold bZ;rw[gZ];show x.1∉q.map (·.1);rw[jf,lO] at nd;exact λhm=>nd.2.2 _ hm _ dH rfl
  have hl:(bL (bZ q)).length<gM:=by
   unfold bL bZ;rw[dM] at h8;rw[bz,bz];show _<1000000;lia
  rw[cO];unfold sU;rw[show zp (.many 2) (vJ x)=aa [.str x.1,.str x.2] from rfl]
  show(if(bL (bZ q)).length<gM then sU (.many 2) gC PB PJ [] (l.map vJ) (pW dm (.inr x.1) (.str x.1) (.str x.2) (bL (bZ q))) C else aj)=_
  rw[bC hl,abG hx];have e:bZ q++[(x.1,.str x.2)]=bZ (q++[x]):=by unfold bZ;rw[jf];rfl
  rw[e,ih,mF];rfl
theorem al6{C:Ce}{hs:Option Vl}{q ps:List (Str×Str)}(hl:∀z,jh q z=jh ps z):∀{z:Str}{os:List Str},Over (jh ps) z os->∀(n:Nat)(acc:List Str),os.length<n->acc.length+os.length<1000->
  ∃z',lB Yz YB n [hs,aa (.im (.str z)),aa (.ow (.dict (bL (bZ q)))),aa (.ow (.list (acc.map .str)))] C=aa (.nx,[hs,aa (.im (.str z')),aa (.ow (.dict (bL (bZ q)))),aa (.ow (.list ((acc++os).map .str)))],C):=by
 have hin:∀z,jF (.str z) (.dict (bL (bZ q)))=aa (.im (.bool (jh ps z).isSome)):=λz=>by
  show((qJ (bL (bZ q)) (.str z)).map (·.isSome)).map (λb=>Vl.im (.bool b))=_
  rw[Lg,hl];cases jh ps z<;>rfl
 intro z os ho;induction ho with
 |@stop z h=>
  intro n acc hn ha;cases n with
  |zero=>exact absurd hn (zL _)
  |succ n=>
   refine⟨z,?_⟩
   unfold lB;simp_arith[hin,h,af7,lq]
 |@step z y r h _ ih=>
  intro n acc hn ha;cases n with
  |zero=>exact absurd hn (zL _)
  |succ n=>
   rw[dw] at hn ha
   obtain⟨z',e⟩:=ih n (acc++[z]) (by lia) (by rw[dM];show acc.length+1+_<_;lia)
   refine⟨z',?_⟩
   have g:(acc.length<1000000)=True:=eq_true (by lia);have i:bI (.dict (bL (bZ q))) (.str z)=aa (.im (.str y)):=by
    unfold bI vR;simp only[Lg,hl,h,mW]
   simp only[jf,cO,kj,mF,lQ,jM] at e⊢;unfold lB;simp_arith[hin,h,X3,g,lG,o8,i,e]
theorem ahf{C:Ce}{zs:List Str}{ps:List (Str×Str)}{ht:lV}(hN:Names zs)(hP:iH zs ps)(hG:pK zs ps ht)(z:Str):
  JT [.im (lC ht),.im (.str z)] C=aa (.ow (.list ((up ps z).map .str)),C):=by
 have nd:=Cz hN hP;have nd':(ht.ps.map (·.1)).Nodup:=(hG.parts.map (·.1)).nodup_iff.mpr nd;have hL:ht.ps.length<=8:=by rw[hG.parts.length_eq];exact hG.p8
 have t:=abV (C:=C) ht.ps [] nd' hL;rw[show bL (bZ [])=[] from rfl,jM] at t;have hul:=Vh ps z;have h8:=hG.p8
 obtain⟨z',e⟩:=al6 (C:=C) (hs:=aa (.im (lC ht))) (aio hG.parts nd) (GJ hN hP z) Eh [] (by show _<100000;lia) (by show 0+_<1000;lia)
 rw[kj,jM] at e;refine gw [aa (.im (lC ht)),aa (.im (.str z)),aj,aj] rfl rfl ?_ rfl rfl;simp_arith[Qz,zq,t,abI,uH,e]
theorem Du{C:Ce}{z a1 b1 p:Str}{n:Int}:tZ [.im (.tuple [.str z,.int n,.str a1,.str b1]),.im (.str p)] C=aa (.im (.bool (decide (p=a1\/p=b1))),C):=by
 have ct:jx [fB z,.int n,.str a1,.str b1] (aa 2) (aa 4)=[.str a1,.str b1]:=rfl;have i1:jF (.str p) (.tuple [.str a1,.str b1])=aa (.im (.bool (decide (p=a1\/p=b1)))):=by
  have:inB (.str p) (.tuple [.str a1,.str b1])=aa (inD (.str p) ([a1,b1].map .str)):=bC (c:=(lD (.str p)&&[fB a1,.str b1].all lD)=ao) (e:=aj) rfl;unfold jF;rw[this,Ld];simp
 refine gw [aa (.im (.tuple [.str z,.int n,.str a1,.str b1])),aa (.im (.str p))] rfl rfl ?_ rfl rfl;simp_arith[R3,fD,dJ,nP,ct,i1]
def jl(os:List Str)(n day:Int)(a1 b1:Str)(r:fU):Bool:=decide (r.2.2.2.1∈os)&&((decide (r.2.2.2.2.1<=day)&&decide (day<=r.2.2.2.2.2.1))&&(decide (n<=r.2.2.2.2.2.2)&&(!decide (r.2.1=a1\/r.2.1=b1)&&!decide (r.2.2.1=a1\/r.2.2.1=b1))))
def Ex(r:fU):aC:=.tuple [.int r.1,.str r.2.1,.str r.2.2.1]
abbrev fZ(z a1 b1:Str)(n:Int):aC:=.tuple [.str z,.int n,.str a1,.str b1]
theorem al7{C:Ce}{zs:List Str}{ps:List (Str×Str)}{ht:lV}(hN:Names zs)(hP:iH zs ps)(hG:pK zs ps ht)(z a1 b1:Str)(n day:Int):
  zZ [.im (lC ht),.im (fZ z a1 b1 n),.im (.int day)] C=aa (.ow (.list ((ht.leaves.filter (jl (up ps z) n day a1 b1)).map Ex)),C):=by
 have p:=ahf (C:=C) hN hP hG z;have h16:=hG.lM
 obtain⟨l,lE⟩:∃l,l=ht.leaves.filter (jl (up ps z) n day a1 b1):=⟨_,rfl⟩
 have ll:l.length<=16:=by rw[lE];exact lR (Fo _ _) h16
 have t:oG (.many 7) QB QC [aa (.im (.list ((up ps z).map .str))),aa (.im (.int day)),aa (.im (fZ z a1 b1 n))] (ht.leaves.map bN) C=aa (l.map Ex,C):=by
  rw[lE];refine qX (T:=.many 7) (ft:=QB) (fe:=QC) (fs:=[aa (.im (.list ((up ps z).map .str))),aa (.im (.int day)),aa (.im (fZ z a1 b1 n))]) (C:=C) bN (jl (up ps z) n day a1 b1) Ex (l:=ht.leaves) λr _=>?_
  refine⟨[.int r.1,.str r.2.1,.str r.2.2.1,.str r.2.2.2.1,.int r.2.2.2.2.1,.int r.2.2.2.2.2.1,.int r.2.2.2.2.2.2],rfl,?_,λ_=>⟨.im (Ex r),[aa (.im (.int r.1)),aa (.im (.str r.2.1)),aa (.im (.str r.2.2.1)),aa (.im (.str r.2.2.2.1)),aa (.im (.int r.2.2.2.2.1)),aa (.im (.int r.2.2.2.2.2.1)),aa (.im (.int r.2.2.2.2.2.2)),aa (.im (.list ((up ps z).map .str))),aa (.im (.int day)),aa (.im (fZ z a1 b1 n))],by simp_arith[fM,lQ,jM];rfl,rfl⟩⟩
  have c:=ad0 rG rG (aH 4) (aH 8) (aH 5) (env:=[aa (.im (.int r.1)),aa (.im (.str r.2.1)),aa (.im (.str r.2.2.1)),aa (.im (.str r.2.2.2.1)),aa (.im (.int r.2.2.2.2.1)),aa (.im (.int r.2.2.2.2.2.1)),aa (.im (.int r.2.2.2.2.2.2)),aa (.im (.list ((up ps z).map .str))),aa (.im (.int day)),aa (.im (fZ z a1 b1 n))]) (C:=C) (a:=decide (r.2.2.2.2.1<=day)) (b:=decide (day<=r.2.2.2.2.2.1)) rfl rfl rfl rfl rfl;have s1:=Du (C:=C) (z:=z) (a1:=a1) (b1:=b1) (n:=n) (p:=r.2.1);have s2:=Du (C:=C) (z:=z) (a1:=a1) (b1:=b1) (n:=n) (p:=r.2.2.1);simp_arith[fM,lQ,jM,c,s1,s2];unfold jl;cases decide (r.2.2.2.1∈up ps z)<;>cases decide (r.2.2.2.2.1<=day)<;>cases decide (day<=r.2.2.2.2.2.1)<;>cases decide (n<=r.2.2.2.2.2.2)<;>cases decide (r.2.1=a1\/r.2.1=b1)<;>rfl
 have q:(l.length<=1000000)=True:=eq_true (by lia);have nl:iR (l.map Ex)=ao:=by
  clear t lE ll q;induction l with
  |nil=>rfl
  |cons r l ih=>show(ao&&iR (l.map Ex))=ao;rw[ih];rfl
 refine gw [aa (.im (lC ht)),aa (.im (fZ z a1 b1 n)),aa (.im (.int day)),aj] rfl rfl ?_ rfl rfl;simp_arith[R4,p,t,q,nl];rw[lE]
theorem Ea(p a1 b1:Str):jF (.str p) (.tuple [.str a1,.str b1])=aa (.im (.bool (decide (p=a1\/p=b1)))):=by
 have:inB (.str p) (.tuple [.str a1,.str b1])=aa (inD (.str p) ([a1,b1].map .str)):=bC (c:=(lD (.str p)&&[fB a1,.str b1].all lD)=ao) (e:=aj) rfl;unfold jF;rw[this,Ld];simp
theorem aap(o:Str)(zs:List Str):qC (.str o) (.list (zs.map .str))=aa (.im (.bool (!decide (o∈zs)))):=by
 have:inB (.str o) (.list (zs.map .str))=aa (inD (.str o) (zs.map .str)):=bC (by rw[RT];rfl);unfold qC;rw[this,Ld,mW]
theorem abW:∀ps:List (Str×Str),HY (bL (bZ ps))=aa (ps.map λp=>(.inr p.1,.inr p.2))
 |[]=>rfl
 |p::ps=>by
  show((aa (lA p.1):Option Key).bind λk=>(aa (lA p.2):Option Key).bind λv=>(HY (bL (bZ ps))).map λt=>(k,v)::t)=_
  rw[abW ps];rfl
theorem ahW(ps:List (Str×Str))(h0:0<ps.length)(h8:ps.length<=8):∃ps':List (Str×Str),ps'.Perm ps/\Vi (bL (bZ ps))=aa (ps'.map vJ):=by
 have em:(bL (bZ ps)).map (λp=>oV [p.1,p.2])=ps.map vJ:=by
  unfold bL bZ;rw[gZ,gZ];rfl
 obtain⟨ps',p1,p2⟩:=Zu (aaH (ds:=ps.map vJ) λd hd=>by obtain⟨p,_,rfl⟩:=gQ.mp hd;rfl)
 refine⟨ps',p1,?_⟩
 unfold Vi;rw[abW,em];cases ps with
 |nil=>cases h0
 |cons p r=>
  rw[ir,cO,List.head?_cons,ir,bC,p2]
  refine⟨by rw[dw,bz];rw[dw] at h8;lia,λq hq=>?_⟩
  rw[<-cO (f:=λp:Str×Str=>((lA p.1,lA p.2):Key×Key))] at hq
  obtain⟨x,_,rfl⟩:=gQ.mp hq
  exact⟨rfl,rfl⟩
theorem ZZ{C:Ce}{ps:List (Str×Str)}(h0:0<ps.length)(h8:ps.length<=8)(lv:List fU):∃ps':List (Str×Str),ps'.Perm ps/\zX [.im (.dict (bL (bZ ps))),.im (.list (lv.map bN))] C=aa (.im (lC ⟨ps',[],lv,[]⟩),C):=by
 obtain⟨ps',p1,e⟩:=ahW ps h0 h8
 refine⟨ps',p1,gw [aa (.im (.dict (bL (bZ ps)))),aa (.im (.list (lv.map bN)))] rfl rfl ?_ rfl rfl⟩
 simp_arith[Q7,Uq,VN,e,GF];rfl
def stL(st:List (Str×Int)):List (Str×aC):=st.map λx=>(x.1,.int x.2)
abbrev wD(w:Int×Str×Str):aC:=.tuple [.int w.1,.str w.2.1,.str w.2.2]
theorem Uz(st:List (Str×Int))(z:Str):qJ (bL (stL st)) (.str z)=aa ((gO st z).map .int):=by
 rw[aaL];unfold stL gO;rw[agV,Qa,Qa];rfl
theorem M5(st:List (Str×Int))(z:Str):((gO st z).map dN).isSome=decide (z∈st.map (·.1)):=by
 by_cases h:z∈st.map (·.1)
 .cases e:gO st z with
  |none=>exact absurd h (rZ.mp e)
  |some d=>rw[dZ h];rfl
 .rw[rZ.mpr h,dY h];rfl
theorem ad4(st:List (Str×Int))(z:Str):jF (.str z) (.dict (bL (stL st)))=aa (.im (.bool (decide (z∈st.map (·.1))))):=by
 show((qJ (bL (stL st)) (.str z)).map (·.isSome)).map (λb=>Vl.im (.bool b))=_
 rw[Uz,mW,M5];rfl
theorem TF(st:List (Str×Int))(z:Str):qC (.str z) (.dict (bL (stL st)))=aa (.im (.bool (!decide (z∈st.map (·.1))))):=by
 show((qJ (bL (stL st)) (.str z)).map (·.isSome)).map (λb=>Vl.im (.bool (!b)))=_
 rw[Uz,mW,M5];rfl
theorem ad5{st:List (Str×Int)}{z:Str}{d:Int}(h:gO st z=aa d):bI (.dict (bL (stL st))) (.str z)=aa (.im (.int d)):=by
 unfold bI vR;simp only[Uz,h,mW]
theorem acU{C:Ce}{v0 v1 nw:Option Vl}{k:Int}:∀(new:List Str)(st:List (Str×Int))(v5:Option Vl),(st.map (·.1)++new).Nodup->st.length+new.length<=1000->
  ∃IW,kO (dF 5) Zb (new.map .str) [v0,v1,aa (.ow (.dict (bL (stL st)))),nw,aa (.im (.int k)),v5] C=aa (.nx,[v0,v1,aa (.ow (.dict (bL (stL (st++new.map λg=>(g,k)))))),nw,aa (.im (.int k)),IW],C)
 |[],st,v5,_,_=>⟨v5,by rw[kj,kj,lq];rfl⟩
 |g::new,st,v5,nd,hl=>by
  rw[dw] at hl
  obtain⟨IW,e⟩:=acU (C:=C) (v0:=v0) (v1:=v1) (nw:=nw) (k:=k) new (st++[(g,k)]) (aa (.im (.str g))) (by rw[jf,mF];exact nd) (by rw[dM];show st.length+1+_<=_;lia)
  refine⟨IW,?_⟩
  have hn:g∉(stL st).map (·.1):=by
   unfold stL;rw[gZ];exact λhm=>(lO.mp nd).2.2 _ hm _ dH rfl
  have pu:putD (bL (stL st)) (.str g) (.int k)=aa (bL (stL (st++[(g,k)]))):=by
   rw[abH hn];unfold stL;rw[jf];rfl
  have q:((bL (stL st)).length<1000000)=True:=eq_true (by unfold bL stL;rw[bz,bz];lia);rw[mF] at e;rw[cO];unfold kO;simp_arith[vN,wV,pu,q];exact e
theorem aaq{C:Ce}{ws:List (Int×Str×Str)}{s:Str}(hl:ws.length<=60):∀(n:Nat)(st:List (Str×Int))(new:List Str)(k:Nat)(nv:Vl)(v5:Option Vl),(nv=.ow (.list (new.map .str))\/nv=.im (.list (new.map .str)))->uJ ws s st new k->(new=[]->0<n)->(new≠[]->ws.length+2-st.length<n)->
  ∃(st':List (Str×Int))(e':En),lB Ze Zf n [aa (.im (.list (ws.map wD))),aa (.im (.str s)),aa (.ow (.dict (bL (stL st)))),aa nv,aa (.im (.int k)),v5] C=aa (.nx,e',C)/\e'[2]?=aa (aa (.ow (.dict (bL (stL st')))))/\uK ws s st'
 |0,st,new,k,nv,v5,hv,B,h0,h1=>by
  by_cases h:new=[]
  .exact absurd (h0 h) (xY _)
  .exact absurd (h1 h) (zL _)
 |n+1,st,new,k,nv,v5,hv,B,h0,h1=>by
  by_cases hnew:new=[]
  .subst hnew
   refine⟨st,[aa (.im (.list (ws.map wD))),aa (.im (.str s)),aa (.ow (.dict (bL (stL st)))),aa nv,aa (.im (.int k)),v5],?_,rfl,B.done⟩
   unfold lB;rcases hv with rfl|rfl<;>simp_arith[]<;>rfl
  have h1:=h1 hnew;have ht:(new.map fB).isEmpty=aL:=by cases new with|nil=>exact absurd rfl hnew|cons _ _=>rfl
  have c:=qX (T:=.many 3) (ft:=Zc) (fe:=Zd) (fs:=[aa (.im (.list (new.map .str))),aa (.im (.dict (bL (stL st))))]) (C:=C) wD (λw=>decide (w.2.2∈new)&&!decide (w.2.1∈st.map (·.1))) (λw=>.str w.2.1) (l:=ws) λw _=>by
   refine⟨[.int w.1,.str w.2.1,.str w.2.2],rfl,?_,λ_=>⟨.im (.str w.2.1),_,by simp_arith[fM,lQ,jM];rfl,rfl⟩⟩
   simp_arith[fM,lQ,jM,TF];cases decide (w.2.2∈new)<;>rfl
  obtain⟨gs,Xa⟩:∃gs,gs=(ws.filter λw=>decide (w.2.2∈new)&&!decide (w.2.1∈st.map (·.1))).map (·.2.1):=⟨_,rfl⟩
  have c2:(ws.filter λw=>decide (w.2.2∈new)&&!decide (w.2.1∈st.map (·.1))).map (λw=>fB w.2.1)=gs.map .str:=by rw[Xa,gZ];rfl
  rw[c2] at c;have gl:gs.length<=60:=by rw[Xa,bz];exact lR (Fo _ _) hl
  have sS:La (gs.map .str)=aa ((nj strLt (dedup gs)).map .str):=by
   unfold La;rw[bC (by rw[bz];lia),Ro]
  obtain⟨ns,nsE⟩:∃ns,ns=nj strLt (dedup gs):=⟨_,rfl⟩
  rw[<-nsE] at sS;have hm:∀g,g∈ns↔∃w∈ws,w.2.2∈new/\w.2.1∉st.map (·.1)/\w.2.1=g:=λg=>by
   rw[nsE,(yh _).mem_iff,ai5,Xa,gQ];constructor
   .rintro⟨w,h1,h2⟩
    obtain⟨h1,h3⟩:=tU.mp h1
    rw[jX,decide_eq_true_eq,agp,decide_eq_false_iff_not] at h3
    exact⟨w,h1,h3.1,h3.2,h2⟩
   .rintro⟨w,h1,h2,h3,h4⟩
    exact⟨w,tU.mpr ⟨h1,by rw[dZ h2,dY h3];rfl⟩,h4⟩
  have hn:ns.Nodup:=by rw[nsE];exact(yh _).nodup_iff.mpr (ahR _)
  have B2:=B.step hn hm;have f1:=B.few;have f2:=B2.few;have nd:=B2.nd;rw[jf,gZ,show((λx:Str×Int=>x.1) ∘ λg=>(g,(k:Int)+1))=id from rfl,JX] at nd;rw[dM,bz] at f2
  obtain⟨IW,e1⟩:=acU (C:=C) (v0:=aa (.im (.list (ws.map wD)))) (v1:=aa (.im (.str s))) (nw:=aa (.im (.list (ns.map .str)))) (k:=(k:Int)+1) ns st v5 nd (by lia)
  obtain⟨st',e',e2,e3,e4⟩:=aaq (C:=C) hl n (st++ns.map λg=>(g,(k:Int)+1)) ns (k+1) (.im (.list (ns.map .str))) IW (.inr rfl) B2 (λz=>by lia) (λz=>by
   rw[dM,bz];have:=O1.mpr z;lia)
  refine⟨st',e',?_,e3,e4⟩
  unfold lB;rcases hv with rfl|rfl<;>simp_arith[ht,Nh,Iw,↓c,sS,iJ,e1]<;>exact e2
theorem abX{C:Ce}{ws:List (Int×Str×Str)}{s:Str}(hl:ws.length<=60):∃st:List (Str×Int),Kl [.im (.list (ws.map wD)),.im (.str s)] C=aa (.ow (.dict (bL (stL st))),C)/\uK ws s st:=by
 obtain⟨st,e',e1,e2,e3⟩:=aaq (C:=C) hl Eh [(s,0)] [s] 0 (.ow (.list [.str s])) aj (.inl rfl) (uJ.init ws s) (λz=>nomatch z) (λ_=>by show _+2-1<100000;lia)
 rw[show(((0:Nat):Nat):Int)=0 from rfl] at e1
 refine⟨st,gw [aa (.im (.list (ws.map wD))),aa (.im (.str s)),aj,aj,aj,aj] rfl rfl ?_ rfl rfl,e3⟩
 simp_arith[Rq,Ek,uH,dm];rw[show[(fB s,dN 0)]=bL (stL [(s,0)]) from rfl];simp only[e1];simp_arith[e2]
def wX(st:List (Str×Int))(d:Int)(p:Str)(w:Int×Str×Str):Bool:=decide (w.2.1=p)&&(decide (w.2.2∈st.map (·.1))&&(gO st w.2.2).any λe=>decide (e<d))
theorem Sh{st:List (Str×Int)}{d:Int}{p:Str}{w:Int×Str×Str}:wX st d p w=ao↔w.2.1=p/\∃e,gO st w.2.2=aa e/\e<d:=by
 unfold wX;rw[jX,jX,decide_eq_true_eq,decide_eq_true_eq];refine and_congr_right λ_=>⟨λh=>?_,λ⟨e,h1,h2⟩=>⟨?_,by rw[h1];exact dZ h2⟩⟩
 .cases e:gO st w.2.2 with
  |none=>exact absurd h.1 (rZ.mp e)
  |some x=>
   have:=h.2;rw[e] at this
   exact⟨x,rfl,of_decide_eq_true this⟩
 .apply afr;intro n;rw[rZ.mpr n] at h1;cases h1
theorem acV(bt:Nat->Nat->Bool)(val:Nat->Int)(h1:∀i j,bt i j=ao->val i<=val j)(h2:∀i j,bt i j=aL->val j<=val i):∀k,n6 bt k<=k/\∀i,i<=k->val (n6 bt k)<=val i
 |0=>⟨cz _,λi hi=>by rw[Nat.le_zero.mp hi];exact ye _⟩
 |k+1=>by
  obtain⟨a,b⟩:=acV bt val h1 h2 k
  unfold n6;cases e:bt (k+1) (n6 bt k) with
  |true=>
   rw[bC rfl]
   refine⟨cz _,λi hi=>?_⟩
   rcases af8 hi with hi|rfl
   .exact Int.le_trans (h1 _ _ e) (b i (agr hi))
   .exact ye _
  |false=>
   rw[bJ jo]
   refine⟨Nat.le_succ_of_le a,λi hi=>?_⟩
   rcases af8 hi with hi|rfl
   .exact b i (agr hi)
   .exact h2 _ _ e
theorem aju(cs:List (Int×Str))(h:cs≠[]):∃c∈cs,Mv [.list (cs.map λc=>.tuple [.int c.1,.str c.2])]=aa (.im (.tuple [.int c.1,.str c.2]))/\∀c'∈cs,c.1<=c'.1:=by
 obtain⟨c0,hc0⟩:∃c0,cs.head?=aa c0:=by
  cases cs with
  |nil=>exact absurd rfl h
  |cons c _=>exact⟨c,rfl⟩
 have ek:(cs.map λc=>oV [.int c.1,.str c.2]).map yN=cs.map λc=>[mH c.1,lA c.2]:=by
  rw[gZ];rfl
 have hd:(cs.map λc=>([mH c.1,lA c.2]:List Key)).headD []=[mH c0.1,lA c0.2]:=by
  cases cs with
  |nil=>cases hc0
  |cons c _=>cases hc0;rfl
 have gt:∀i,(cs.map λc=>([mH c.1,lA c.2]:List Key)).getD i [mH c0.1,lA c0.2]=[mH (cs.getD i c0).1,lA (cs.getD i c0).2]:=λi=>by
  rw[Ol,Ol,iG];cases cs[i]?<;>rfl
 obtain⟨b1,b2⟩:=acV (λi j=>jE ((cs.map λc=>([mH c.1,lA c.2]:List Key)).getD i [mH c0.1,lA c0.2]) ((cs.map λc=>([mH c.1,lA c.2]:List Key)).getD j [mH c0.1,lA c0.2])) (λi=>(cs.getD i c0).1) (λi j e=>by
   simp only[gt,jE] at e;split at e
   .rename_i z;have:=ZJ z;lia
   .exact Int.le_of_lt (of_decide_eq_true e)) (λi j e=>by
   simp only[gt,jE] at e;split at e
   .rename_i z;have:=ZJ z;lia
   .have:=of_decide_eq_false e;lia) (cs.length-1)
 have pos:0<cs.length:=O1.mpr h
 obtain⟨k,hk⟩:∃k,k=Hv (cs.map λc=>([mH c.1,lA c.2]:List Key)):=⟨_,rfl⟩
 have hk':=hk;unfold Hv at hk';rw[hd,bz] at hk';rw[<-hk'] at b1 b2;have lt:k<cs.length:=by lia
 refine⟨cs[k],zJ lt,?_,λc' hc'=>?_⟩
 .show Vj (cs.map λc=>.tuple [.int c.1,.str c.2])=_;unfold Vj;rw[List.head?_map,hc0,ek,<-hk,iG,j7 lt];refine bC λd hd=>?_
  obtain⟨c,_,rfl⟩:=gQ.mp hd
  rfl
 .obtain⟨i,hi,rfl⟩:=xQ hc'
  have:=b2 i (by lia);rw[Ol,Ol,j7 lt,j7 hi] at this;exact this
theorem ajv{C:Ce}{ws:List (Int×Str×Str)}{st:List (Str×Int)}{p:Str}{d:Int}(hl:ws.length<=60)(hp:gO st p=aa d)(hne:∃w∈ws,wX st d p w=ao):
  ∃(n:Int)(t:Str),JV [.im (.list (ws.map wD)),.im (.dict (bL (stL st))),.im (.str p)] C=aa (.im (.tuple [.int n,.str t]),C)/\(n,p,t)∈ws/\(∃e,gO st t=aa e/\e<d)/\∀n' q' e,(n',p,q')∈ws->gO st q'=aa e->e<d->n<=n':=by
 have c:=qX (T:=.many 3) (ft:=YC) (fe:=YD) (fs:=[aa (.im (.str p)),aa (.im (.dict (bL (stL st))))]) (C:=C) wD (wX st d p) (λw=>.tuple [.int w.1,.str w.2.2]) (l:=ws) λw _=>by
  refine⟨[.int w.1,.str w.2.1,.str w.2.2],rfl,?_,λ_=>⟨.im (.tuple [.int w.1,.str w.2.2]),_,by simp_arith[fM,lQ,jM];rfl,rfl⟩⟩
  have ip:=ad5 hp;unfold wX;cases h1:decide (w.2.1=p) with
  |false=>simp_arith[fM,lQ,jM,h1]
  |true=>
   cases e:gO st w.2.2 with
   |none=>
    have h2:=dY (rZ.mp e);simp_arith[fM,lQ,jM,h1,ad4,h2]
   |some x=>
    have h2:decide (w.2.2∈st.map (·.1))=ao:=by rw[<-M5,e];rfl
    have iw:=ad5 e;simp_arith[fM,lQ,jM,h1,ad4,h2,ip,iw,Option.any_some]
 obtain⟨cs,I9⟩:∃cs:List (Int×Str),cs=(ws.filter (wX st d p)).map λw=>(w.1,w.2.2):=⟨_,rfl⟩
 have c2:(ws.filter (wX st d p)).map (λw=>oV [.int w.1,.str w.2.2])=cs.map λc=>.tuple [.int c.1,.str c.2]:=by rw[I9,gZ];rfl
 rw[c2] at c;have cl:(cs.length<=1000000)=True:=eq_true (by rw[I9,bz];have:=Fo (wX st d p) ws;lia);have mem:∀n t,(n,t)∈cs↔(n,p,t)∈ws/\∃e,gO st t=aa e/\e<d:=λn t=>by
  rw[I9,gQ];constructor
  .rintro⟨w,hw,e⟩
   cases e
   obtain⟨h1,h2⟩:=tU.mp hw
   obtain⟨h3,h4⟩:=Sh.mp h2
   rw[<-h3]
   exact⟨h1,h4⟩
  .rintro⟨h1,h2⟩
   exact⟨(n,p,t),tU.mpr ⟨h1,Sh.mpr ⟨rfl,h2⟩⟩,rfl⟩
 have ne:cs≠[]:=λz=>by
  obtain⟨w,hw,h⟩:=hne
  have:(w.1,w.2.2)∈cs:=by rw[I9];exact gQ.mpr ⟨w,tU.mpr ⟨hw,h⟩,rfl⟩
  rw[z] at this;cases this
 have nl:iR (cs.map λc=>oV [.int c.1,.str c.2])=ao:=by
  clear c c2 I9 cl mem ne;induction cs with
  |nil=>rfl
  |cons r l ih=>show(ao&&iR (l.map _))=ao;rw[ih];rfl
 obtain⟨⟨n,t⟩,m,e,hmin⟩:=aju cs ne
 obtain⟨m1,m2⟩:=(mem n t).mp m
 refine⟨n,t,gw [aa (.im (.list (ws.map wD))),aa (.im (.dict (bL (stL st)))),aa (.im (.str p))] rfl rfl ?_ rfl rfl,m1,m2,λn' q' e' h1 h2 h3=>hmin (n',q') ((mem n' q').mpr ⟨h1,e',h2,h3⟩)⟩
 simp_arith[QF,c,cl,nl,e]
theorem akI{C:Ce}{ws:List (Int×Str×Str)}{s:Str}{st:List (Str×Int)}(hl:ws.length<=60)(hU:∀w∈ws,∀w'∈ws,w.1=w'.1->w=w')(B:uK ws s st):∀(m:Nat)(p:Str)(d:Int),gO st p=aa d->d<=m->∀(n:Nat)(acc:List Int)(v5:Option Vl),m<n->acc.length+m<=100000->
  ∃(r:List Int)(e':En),lB YX YZ n [aa (.im (.list (ws.map wD))),aa (.im (.str p)),aa (.im (.str s)),aa (.ow (.dict (bL (stL st)))),aa (.ow (.list (acc.map .int))),v5] C=aa (.nx,e',C)/\e'[4]?=aa (aa (.ow (.list ((acc++r).map .int))))/\nA ws p s r:=by
 intro m;induction m with
 |zero=>
  intro p d hp hd n acc v5 hn ha;have:p=s:=by
   obtain⟨r,h1,h2⟩:=B.sound p d hp
   cases h1 with
   |nil=>rfl
   |cons _ _=>rw[dw] at h2;lia
  subst this;cases n with
  |zero=>exact absurd hn (xY _)
  |succ n=>
   refine⟨[],[aa (.im (.list (ws.map wD))),aa (.im (.str p)),aa (.im (.str p)),aa (.ow (.dict (bL (stL st)))),aa (.ow (.list (acc.map .int))),v5],?_,by rw[lq];rfl,nA.self ws p⟩
   unfold lB;simp_arith[Ae]
 |succ m ih=>
  intro p d hp hd n acc v5 hn ha;cases n with
  |zero=>exact absurd hn (zL _)
  |succ n=>
   by_cases hs:p=s
   .subst hs
    refine⟨[],[aa (.im (.list (ws.map wD))),aa (.im (.str p)),aa (.im (.str p)),aa (.ow (.dict (bL (stL st)))),aa (.ow (.list (acc.map .int))),v5],?_,by rw[lq];rfl,nA.self ws p⟩
    unfold lB;simp_arith[Ae]
   .have hne:∃w∈ws,wX st d p w=ao:=by
     obtain⟨r,h1,h2⟩:=B.sound p d hp
     cases h1 with
     |nil=>exact absurd rfl hs
     |cons hw hr=>
      rename_i n q r
      obtain⟨e,h3,h4⟩:=B.whole q r hr
      rw[dw] at h2
      exact⟨_,hw,Sh.mpr ⟨rfl,e,h3,by lia⟩⟩
    obtain⟨n1,t,e1,m1,⟨e,m2,m3⟩,hmin⟩:=ajv (C:=C) hl hp hne
    obtain⟨r,e',e2,e3,e4⟩:=ih t e m2 (by lia) n (acc++[n1]) (aa (.im (.int n1))) (by lia) (by rw[dM];show acc.length+1+_<=_;lia)
    have R:=nA.go hU B hp m1 ⟨e,m2,m3⟩ hmin e4;rw[mF] at e3
    refine⟨n1::r,e',?_,e3,R⟩
    have g:(acc.length<1000000)=True:=eq_true (by lia);have q:(p=s)=False:=eq_false hs;rw[jf] at e2;unfold lB;have rp:∀e e',rst (.im (.tuple [.int n1,.str t])) e e'=e:=λ_ _=>rfl
    simp_arith[Ae,q,e1,lG,o8,g,rp];exact e2
def Ey:Option (List Int)->Vl
 |none=>.im .none
 |some r=>.ow (.list (r.map .int))
def HF(ws:List (Int×Str×Str))(h s:Str):Option (List Int)->Prop
 |none=>∀r,¬jK ws h r s
 |some r=>nA ws h s r
theorem akJ{C:Ce}{ws:List (Int×Str×Str)}{h s:Str}(hl:ws.length<=60)(hU:∀w∈ws,∀w'∈ws,w.1=w'.1->w=w'):∃o,J6 [.im (.list (ws.map wD)),.im (.str h),.im (.str s)] C=aa (Ey o,C)/\HF ws h s o:=by
 obtain⟨st,e1,B⟩:=abX (C:=C) (s:=s) hl
 cases e:gO st h with
 |none=>
  have hn:=rZ.mp e
  refine⟨aj,gw [aa (.im (.list (ws.map wD))),aa (.im (.str h)),aa (.im (.str s)),aj,aj,aj] rfl rfl ?_ rfl rfl,λr p=>hn ((B.iff h).mpr ⟨r,p⟩)⟩
  have q:=dY hn;simp_arith[J5,e1,TF,q];rfl
 |some d=>
  obtain⟨r0,h1,h2⟩:=B.sound h d e
  have q:decide (h∈st.map (·.1))=ao:=by rw[<-M5,e];rfl
  obtain⟨r,e',e2,e3,e4⟩:=akI (C:=C) hl hU B d.toNat h d e (by lia) Eh [] aj (by have:=B.few h d e;show _<100000;lia) (by have:=B.few h d e;show 0+_<=_;lia)
  refine⟨aa r,gw [aa (.im (.list (ws.map wD))),aa (.im (.str h)),aa (.im (.str s)),aj,aj,aj] rfl rfl ?_ rfl rfl,e4⟩
  rw[kj] at e2;rw[jM] at e3;simp_arith[J5,e1,TF,q,uH,e2,e3];rfl
def pY(r:fU):Int×Str×Str:=(r.1,r.2.1,r.2.2.1)
theorem acW:∀{l:List fU},(l.map (·.1)).Nodup->∀r∈l,∀r'∈l,r.1=r'.1->r=r'
 |[],_,_,h,_,_,_=>nomatch h
 |a::l,hp,r,h,r',h',e=>by
  rw[cO,jL] at hp;rcases cM.mp h with h1|h1<;>rcases cM.mp h' with h2|h2
  .rw[h1,h2]
  .exact absurd (gQ.mpr ⟨r',h2,by rw[<-h1,e]⟩) hp.1
  .exact absurd (gQ.mpr ⟨r,h1,by rw[<-h2,e]⟩) hp.1
  .exact acW hp.2 r h1 r' h2 e
theorem HF.unique{ws:List (Int×Str×Str)}{h s:Str}:∀{o o':Option (List Int)},HF ws h s o->HF ws h s o'->o=o'
 |none,none,_,_=>rfl
 |none,some r,a,b=>absurd b.1 (a r)
 |some r,none,a,b=>absurd a.1 (b r)
 |some r,some r',a,b=>congrArg aa (nA.unique a b)
def mL(ht:lV)(os:List Str)(n day:Int)(a1 b1:Str):List (Int×Str×Str):=(ht.leaves.filter (jl os n day a1 b1)).map pY
theorem TJ{zs:List Str}{ps:List (Str×Str)}{ht:lV}(hG:pK zs ps ht)(os:List Str)(n day:Int)(a1 b1:Str):(mL ht os n day a1 b1).length<=60:=by
 unfold mL;rw[bz];have:=Fo (jl os n day a1 b1) ht.leaves;have:=hG.lM;lia
theorem Z0{zs:List Str}{ps:List (Str×Str)}{ht:lV}(hG:pK zs ps ht)(os:List Str)(n day:Int)(a1 b1:Str):∀w∈mL ht os n day a1 b1,∀w'∈mL ht os n day a1 b1,w.1=w'.1->w=w':=λw h w' h' e=>by
 obtain⟨r,m,rfl⟩:=gQ.mp h
 obtain⟨r',m',rfl⟩:=gQ.mp h'
 rw[acW hG.N7 r (tU.mp m).1 r' (tU.mp m').1 e]
theorem adF{C:Ce}{zs:List Str}{ps:List (Str×Str)}{ht:lV}(hN:Names zs)(hP:iH zs ps)(hG:pK zs ps ht)(z a1 b1:Str)(n day:Int):
  zZ [.im (lC ht),.im (fZ z a1 b1 n),.im (.int day)] C=aa (.ow (.list ((mL ht (up ps z) n day a1 b1).map wD)),C):=by
 rw[al7 hN hP hG];unfold mL;rw[gZ];rfl
theorem akK{C:Ce}{zs:List Str}{ps:List (Str×Str)}{ht:lV}(hN:Names zs)(hP:iH zs ps)(hG:pK zs ps ht)(z a1 b1:Str)(n day:Int)(h s:Str):
  ∃o,Dj [.im (lC ht),.im (fZ z a1 b1 n),.im (.str h),.im (.str s),.im (.int day)] C=aa (Ey o,C)/\(((h=a1\/h=b1)\/(s=a1\/s=b1))->o=aj)/\(¬((h=a1\/h=b1)\/(s=a1\/s=b1))->HF (mL ht (up ps z) n day a1 b1) h s o):=by
 have s1:=Du (C:=C) (z:=z) (a1:=a1) (b1:=b1) (n:=n) (p:=h);have s2:=Du (C:=C) (z:=z) (a1:=a1) (b1:=b1) (n:=n) (p:=s);have w:=adF (C:=C) hN hP hG z a1 b1 n day
 obtain⟨o,e,ho⟩:=akJ (C:=C) (h:=h) (s:=s) (TJ hG (up ps z) n day a1 b1) (Z0 hG (up ps z) n day a1 b1)
 have ok:Ei C.length (Ey o)=ao:=by cases o<;>rfl
 by_cases h1:h=a1\/h=b1
 .refine⟨aj,gw [aa (.im (lC ht)),aa (.im (fZ z a1 b1 n)),aa (.im (.str h)),aa (.im (.str s)),aa (.im (.int day))] rfl rfl ?_ rfl rfl,λ_=>rfl,λz=>absurd (.inl h1) z⟩
  rw[dZ h1] at s1;simp_arith[Gv,s1];rfl
 .rw[dY h1] at s1;by_cases h2:s=a1\/s=b1
  .refine⟨aj,gw [aa (.im (lC ht)),aa (.im (fZ z a1 b1 n)),aa (.im (.str h)),aa (.im (.str s)),aa (.im (.int day))] rfl rfl ?_ rfl rfl,λ_=>rfl,λz=>absurd (.inr h2) z⟩
   rw[dZ h2] at s2;simp_arith[Gv,s1,s2];rfl
  .rw[dY h2] at s2
   refine⟨o,gw [aa (.im (lC ht)),aa (.im (fZ z a1 b1 n)),aa (.im (.str h)),aa (.im (.str s)),aa (.im (.int day))] rfl rfl ?_ ok rfl,λz=>absurd z λz=>z.elim h1 h2,λ_=>ho⟩
   simp_arith[Gv,s1,s2,w,e]
theorem wQ{α:Type}{f:α->aC}(h:∀a,mj (f a)=ao):∀l:List α,iR (l.map f)=ao
 |[]=>rfl
 |a::l=>by
  show(mj (f a)&&iR (l.map f))=ao
  rw[h a,wQ h l];rfl
theorem acX(h:lV)(e f:En):rst (.im (lC h)) e f=e:=by
 refine bC ?_
 show(iR (h.ps.map vJ)&&(iR (h.yO.map vI)&&(iR (h.leaves.map bN)&&(iR (h.rules.map Hu)&&ao))))=ao
 rw[wQ (λ_=>rfl),wQ (λ_=>rfl),wQ (λ_=>rfl),aaO];rfl
theorem aaZ(ps:List (Str×Str)):kW [.dict (bL (bZ ps))]=aa (.im (.int ps.length)):=by
 have:HS (.dict (bL (bZ ps)))=aa ps.length:=by
  show(if(cW dm (bL (bZ ps))).isSome then aa (bL (bZ ps)).length else aj)=_
  rw[Lf];unfold bL bZ;rw[bz,bz];rfl
 unfold kW;simp only[this];rfl
theorem GQ{zs:List Str}{k:Nat}(h:k<zs.length):∃z,z∈zs/\zs[k]?=aa z/\fK (zs.map fB) (k:Int)=aa (.str z):=by
 obtain⟨z,h1,h2,h3⟩:=q9 (zs:=zs) (k:=(k:Int)) (by lia) (by lia)
 exact⟨z,h1,by rw[zE] at h2;exact h2,h3⟩
theorem aiB{zs:List Str}{m:Nat}{ps:List (Str×Str)}(h:iH (zs.take m) ps):iH zs ps:=λi x e=>by
 have up:∀j z,(zs.take m)[j]?=aa z->zs[j]?=aa z:=λj z e=>by
  rw[X5] at e;split at e
  .exact e
  .cases e
 obtain⟨h1,h2⟩:=h i x e
 exact⟨up i _ h1,h2.imp_right λ⟨j,a,b⟩=>⟨j,a,up j _ b⟩⟩
theorem akL{f:Str->Option Str}{z:Str}{os:List Str}(h:Over f z os):∀y∈os,∃w,f y=aa w:=by
 induction h with
 |stop _=>exact λy hy=>absurd hy mV
 |step h _ ih=>
  intro y hy;rcases cM.mp hy with rfl|hy
  .exact⟨_,h⟩
  .exact ih y hy
theorem adG{zs:List Str}{ps:List (Str×Str)}(hN:Names zs)(hP:iH zs ps){z y:Str}(h:y∈up ps z):y∈ps.map (·.1):=by
 obtain⟨w,e⟩:=akL (GJ hN hP z) y h
 exact gQ.mpr ⟨(y,w),(uX (Cz hN hP)).mp e,rfl⟩
theorem adH{zs:List Str}{ps ps':List (Str×Str)}{lv:List fU}(p1:ps'.Perm ps)(p8:ps.length<=8)(lM:lv.length<=16)(hl:∀r∈lv,Ad zs (ps.map (·.1)) r)(up:(lv.map (·.1)).Nodup):pK zs ps ⟨ps',[],lv,[]⟩ where
 parts:=p1
 p8:=p8
 r20:=nH _
 lM:=lM
 u10:=nH _
 yO:=λr h=>absurd h mV
 rup:=Bw
 leaves:=hl
 N7:=up
 rules:=λr h=>absurd h mV
 unlike:=pH
theorem lay_ints:∀ns:List Int,zG (ns.map dN)=ao/\BX (ns.map dN)=0/\sZ (ns.map dN)=ao
 |[]=>⟨by simp[zG],by simp[BX],rfl⟩
 |z::zs=>by
  obtain⟨h1,h2,h3⟩:=lay_ints zs
  refine⟨by simp[zG,Cj];simpa using h1,by simp only[cO,BX,Gd,h2];rfl,?_⟩
  show(ao&&sZ (zs.map dN))=ao
  rw[h3];rfl
theorem shaped_ints(ns:List Int):je (.list (ns.map dN))=ao:=by
 obtain⟨h1,h2,_⟩:=lay_ints ns
 unfold je;simp only[Cj,h1,Gd,h2];decide
theorem al8(x:Int)(l:List Int):ji (.list ((x::l).map .int)) (.list [])=aa (.im (.bool ao)):=by
 have e:vQ (.list ((x::l).map .int)) (.list [])=aa aL:=by
  show(if lg (.list ((x::l).map dN))&&lg (.list [])&&(je (.list ((x::l).map dN))&&je (.list [])) then aa (yg (.list ((x::l).map .int)) (.list [])) else aj)=_
  rw[shaped_ints,show lg (.list ((x::l).map dN))=ao from(lay_ints (x::l)).2.2];rfl
 simp only[ji,e,mW];rfl
theorem akM(l:List Int):ji (.list (l.map .int)) (.list [])=aa (.im (.bool (!l.isEmpty))):=by
 cases l with
 |nil=>rfl
 |cons x l=>exact al8 x l
theorem adI{α:Type}{zs:List α}(h:zs.Nodup){i j:Nat}{x:α}(hi:zs[i]?=aa x)(hj:zs[j]?=aa x):i=j:=by
 obtain⟨x1,y1⟩:=jW.mp hi
 obtain⟨x2,y2⟩:=jW.mp hj
 have hp:=Jd.mp h;rcases ago i j with l|l|l
 .exact absurd (y1.trans y2.symm) (hp i j x1 x2 l)
 .exact l
 .exact absurd (y2.trans y1.symm) (hp j i x2 x1 l)
theorem UG{α:Type}(D:α->aC){xs:List α}{a b:Nat}(h:a<=b)(hb:b<=xs.length):jx (xs.map D) (aa (a:Int)) (aa (b:Int))=((xs.drop a).take (b-a)).map D:=by
 unfold jx;rw[bz,HT.Lk,HT.Lk,PK (show a<=xs.length by lia),PK hb,Zg,Zh]
theorem acY{C:Ce}{zs:List Str}{ps:List (Str×Str)}(hN:Names zs)(hP:iH zs ps)(h8:ps.length<=8)(z a1 b1:Str)(n day:Int)(r:fU):
  Ds [.im (.dict (bL (bZ ps))),.im (fZ z a1 b1 n),.im (.int day),.im (bN r)] C=aa (.im (.bool (jl (up ps z) n day a1 b1 r)),C):=by
 have p:=abU (C:=C) hN hP h8 z;have ct:jx [fB z,.int n,.str a1,.str b1] (aa 2) aj=[.str a1,.str b1]:=rfl;have c:=ad0 rG rG (az (aP bI (aH 3) (az (aN (.int 4))))) (aH 2) (az (aP bI (aH 3) (az (aN (.int 5))))) (env:=[aa (.im (.dict (bL (bZ ps)))),aa (.im (fZ z a1 b1 n)),aa (.im (.int day)),aa (.im (bN r))]) (e1:=[aa (.im (.dict (bL (bZ ps)))),aa (.im (fZ z a1 b1 n)),aa (.im (.int day)),aa (.im (bN r))]) (e2:=[aa (.im (.dict (bL (bZ ps)))),aa (.im (fZ z a1 b1 n)),aa (.im (.int day)),aa (.im (bN r))]) (e3:=[aa (.im (.dict (bL (bZ ps)))),aa (.im (fZ z a1 b1 n)),aa (.im (.int day)),aa (.im (bN r))]) (C:=C) (C1:=C) (C2:=C) (x:=.int r.2.2.2.2.1) (y:=.int day) (z:=.int r.2.2.2.2.2.1) (a:=decide (r.2.2.2.2.1<=day)) (b:=decide (day<=r.2.2.2.2.2.1)) (by simp_arith[bN]) rfl rfl (by simp_arith[bN]) rfl;refine gw [aa (.im (.dict (bL (bZ ps)))),aa (.im (fZ z a1 b1 n)),aa (.im (.int day)),aa (.im (bN r))] rfl rfl ?_ rfl rfl;simp only[bN] at c⊢;unfold jl;cases hA:decide (r.2.1=a1\/r.2.1=b1) with
 |true=>
  simp_arith[Dr,fD,dJ,gB,nP,ct,Ea,hA]
 |false=>
  cases hB:decide (r.2.2.1=a1\/r.2.2.1=b1) with
  |true=>
   simp_arith[Dr,fD,dJ,gB,nP,ct,Ea,hA,hB]
  |false=>
   cases hC:decide (r.2.2.2.1∈up ps z) with
   |false=>simp_arith[Dr,fD,dJ,gB,nP,ct,Ea,hA,hB,p,aap,hC]
   |true=>
    simp_arith[Dr,fD,dJ,gB,nP,ct,Ea,hA,hB,p,aap,hC,pP,c];cases decide (r.2.2.2.2.1<=day)<;>cases decide (day<=r.2.2.2.2.2.1)<;>rfl
theorem aa0{α:Type}(D:α->aC):∀(l:List α)(n:Nat),(l.map D).eraseIdx n=(l.eraseIdx n).map D
 |[],_=>rfl
 |_::_,0=>rfl
 |x::l,n+1=>congrArg (D x::·) (aa0 D l n)
theorem aar{α:Type}:∀{l:List α}{n:Nat}{x:α},l[n]?=aa x->(x::l.eraseIdx n).Perm l
 |[],_,_,h=>by cases h
 |y::l,0,x,h=>by cases h;exact .refl _
 |y::l,n+1,x,h=>(P0 y x _).trans ((aar (l:=l) (n:=n) h).cons y)
theorem aa1{α:Type}{D:α->aC}(hne:∀l:List α,ji (.list (l.map D)) (.list [])=aa (.im (.bool (!l.isEmpty)))){b L j:Nat}{v1:Option Vl}:∀(n:Nat)(rest found:List α)(C:Ce),rest.length<n->found.length+rest.length<=100->Bl L C b (j+rest.length)->
  ∃(ys:List α)(C':Ce),lB YS YT n [aa (.ce b),v1,aa (.ow (.list (rest.map D))),aa (.ow (.list (found.map D)))] C=aa (.nx,[aa (.ce b),v1,aa (.ow (.list [])),aa (.ow (.list ((found++ys).map D)))],C')/\ys.Perm rest/\Bl L C' b j
 |0,rest,found,C,h,_,_=>absurd h (zL _)
 |n+1,rest,found,C,hn,hl,hB=>by
  have e0:=hne rest;by_cases hr:rest=[]
  .subst hr
   refine⟨[],C,?_,.refl _,hB⟩
   unfold lB;rw[lq];simp only[kj,Yp] at e0;simp_arith[e0]
  .have hp:0<rest.length:=O1.mpr hr;have e0:ji (.list (rest.map D)) (.list [])=aa (.im (.bool ao)):=by
    rw[e0];cases rest with
    |nil=>exact absurd rfl hr
    |cons _ _=>rfl
   obtain⟨t,C1,e1,t0,t1,iY⟩:=dW (m:=(rest.length:Int)) (k:=j+(rest.length-1)) (by rw[show j+(rest.length-1)+1=j+rest.length by lia];exact hB) (by lia) (by lia)
   have hk:t.toNat<rest.length:=by lia
   have q1:(rest.map D)[t.toNat]?=aa (D rest[t.toNat]):=by rw[iG,j7 hk];rfl
   have q2:(rest.map D).eraseIdx t.toNat=(rest.eraseIdx t.toNat).map D:=aa0 D _ _;have pm:(rest[t.toNat]::rest.eraseIdx t.toNat).Perm rest:=aar (j7 hk);have ll:(rest.eraseIdx t.toNat).length=rest.length-1:=List.length_eraseIdx_of_lt hk
   obtain⟨ys,C',e2,p2,hB2⟩:=aa1 hne n (rest.eraseIdx t.toNat) (found++[rest[t.toNat]]) C1 (by lia) (by rw[dM];show found.length+1+_<=_;lia) (by rw[ll];exact iY)
   refine⟨rest[t.toNat]::ys,C',?_,(p2.cons _).trans pm,hB2⟩
   have g1:(0<=t/\t<((1000000:Nat):Int))=True:=eq_true ⟨t0,by lia⟩;have g2:(found.length<1000000)=True:=eq_true (by lia);rw[mF,jf (l₁:=found)] at e2;unfold lB;simp_arith[e0,VP,Bh,intD,e1,g1,q1,g2,q2,ne_eq,not_false_eq_true,Nat.reduceEqDiff];exact e2
theorem al9{α:Type}{D:α->aC}(hne:∀l:List α,ji (.list (l.map D)) (.list [])=aa (.im (.bool (!l.isEmpty)))){C:Ce}{b L j:Nat}{xs:List α}(hl:xs.length<=100)(hB:Bl L C b (j+xs.length)):
  ∃(ys:List α)(C':Ce),J0 [.ce b,.im (.list (xs.map D))] C=aa (.ow (.list (ys.map D)),C')/\ys.Perm xs/\Bl L C' b j:=by
 obtain⟨ys,C',e,p,hB'⟩:=aa1 hne (v1:=aa (.im (.list (xs.map D)))) Eh xs [] C (by show _<100000;lia) (by show 0+_<=_;lia) hB
 rw[kj,jM] at e
 refine⟨ys,C',gw [aa (.ce b),aa (.im (.list (xs.map D))),aj,aj] rfl rfl ?_ rfl (hB.eq hB'),p,hB'⟩
 simp_arith[Q6,yx,uH,e]
theorem Ff(a b c:aC){k:Int}(h0:0<=k)(h1:k<3):∃x,fK [a,b,c] k=aa x/\(x=a\/x=b\/x=c):=by
 have:k=0\/k=1\/k=2:=by lia
 rcases this with rfl|rfl|rfl
 .exact⟨a,Wj _ _,.inl rfl⟩
 .exact⟨b,Wk _ _ _,.inr (.inl rfl)⟩
 .exact⟨c,aeA _ _ _ _,.inr (.inr rfl)⟩
theorem UJ(a b:Int):∃v,vA [.int a,.int b]=aa (.im (.int v))/\v<=a/\v<=b/\(v=a\/v=b):=by
 by_cases h:b<a
 .exact⟨b,by simp only[vA,bC h],by lia,by lia,.inr rfl⟩
 .exact⟨a,by simp only[vA,bJ h],by lia,by lia,.inl rfl⟩
theorem ama(a b:Int):∃v,DX [.int a,.int b]=aa (.im (.int v))/\a<=v/\b<=v/\(v=a\/v=b):=by
 by_cases h:b>a
 .exact⟨b,by simp only[DX,bC h],by lia,by lia,.inr rfl⟩
 .exact⟨a,by simp only[DX,bJ h],by lia,by lia,.inl rfl⟩
theorem acZ{C:Ce}{b L j:Nat}(h:Bl L C b (j+6)):∃(f l:Int)(C':Ce),CJ [.ce b] C=aa (.im (.tuple [.int f,.int l]),C')/\0<=f/\f<=l/\l<=99999/\Bl L C' b j:=by
 refine hide λGG gg=>?_
 obtain⟨t1,C1,e1,a1,b1,iY⟩:=dW (m:=9) (k:=j+5) h (by decide) (by decide)
 obtain⟨t2,C2,e2,a2,b2,hB2⟩:=dW (m:=9) (k:=j+4) iY (by decide) (by decide)
 obtain⟨t3,C3,e3,a3,b3,hB3⟩:=dW (m:=9) (k:=j+3) hB2 (by decide) (by decide)
 obtain⟨t4,C4,e4,a4,b4,qN⟩:=dW (m:=3) (k:=j+2) hB3 (by decide) (by decide)
 obtain⟨t5,C5,e5,a5,b5,tO⟩:=dW (m:=12) (k:=j+1) qN (by decide) (by decide)
 obtain⟨t6,C6,e6,a6,b6,Fg⟩:=dW (m:=3) (k:=j) tO (by decide) (by decide)
 obtain⟨x,i1,hx⟩:=Ff (.int t1) (.int t2) (.int (99990-t3)) a4 b4
 obtain⟨y,i2,hy⟩:=Ff (.int 0) (.int t5) (.int 99999) a6 b6
 obtain⟨f,rfl,f0,f1⟩:∃f,x=.int f/\0<=f/\f<=99990:=by rcases hx with rfl|rfl|rfl<;>exact⟨_,rfl,by lia,by lia⟩
 obtain⟨g,rfl,g0⟩:∃g,y=.int g/\0<=g:=by rcases hy with rfl|rfl|rfl<;>exact⟨_,rfl,by lia⟩
 obtain⟨l,e7,l1,l2,l3⟩:=UJ 99999 (f+g)
 refine gg ⟨f,l,C6,gw [aa (.ce b),aj] rfl rfl ?_ rfl (h.eq Fg),f0,by lia,l1,Fg⟩;simp_arith[Q4,e1,e2,e3,e4,i1,e5,e6,i2,e7]
theorem adJ{C:Ce}{b L j:Nat}(h:Bl L C b (j+4)):∃(n:Int)(C':Ce),CK [.ce b] C=aa (.im (.int n),C')/\0<=n/\n<=1000000000/\Bl L C' b j:=by
 refine hide λGG gg=>?_
 obtain⟨t1,C1,e1,a1,b1,iY⟩:=dW (m:=4) (k:=j+3) h (by decide) (by decide)
 obtain⟨t2,C2,e2,a2,b2,hB2⟩:=dW (m:=4) (k:=j+2) iY (by decide) (by decide)
 obtain⟨t3,C3,e3,a3,b3,hB3⟩:=dW (m:=3) (k:=j+1) hB2 (by decide) (by decide)
 obtain⟨t4,C4,e4,a4,b4,qN⟩:=dW (m:=3) (k:=j) hB3 (by decide) (by decide)
 obtain⟨x,i1,hx⟩:=Ff (.int t1) (.int (100+t2)) (.int (1000000000-t3)) a4 b4
 obtain⟨f,rfl,f0,f1⟩:∃f,x=.int f/\0<=f/\f<=1000000000:=by rcases hx with rfl|rfl|rfl<;>exact⟨_,rfl,by lia,by lia⟩
 have pw:yK (.int 10) (.int 9)=aa (.im (.int 1000000000)):=rfl;refine gg ⟨f,C4,gw [aa (.ce b)] rfl rfl ?_ rfl (h.eq qN),f0,f1,qN⟩;simp_arith[Q5,e1,e2,pw,e3,e4,i1]
theorem ZG(ps:List (Str×Str))(h:ps.length<=60):∃qs:List Str,qs.Perm (ps.map (·.1))/\GK [.dict (bL (bZ ps))]=aa (.ow (.list (qs.map .str))):=by
 refine⟨nj strLt (ps.map (·.1)),yh _,?_⟩
 have e:(bL (bZ ps)).map (·.1)=(ps.map (·.1)).map fB:=by
  unfold bL bZ;rw[gZ,gZ,gZ];rfl
 show((strsOf ((bL (bZ ps)).map (·.1))).bind _)=_
 rw[e,Ro,ir,dZ (by rw[bz];lia)];rfl
theorem amb{a d m:Int}(a0:0<=a)(a1:a<m)(d0:1<=d)(d1:d<m):0<=(a+d)%m/\(a+d)%m<m/\(a+d)%m≠a:=by
 refine⟨pG _ (by lia),uO _ (by lia),?_⟩
 by_cases h:a+d<m
 .rw[Pa (by lia) h];lia
 .have e:(a+d)%m=a+d-m:=by
   rw[show a+d=m+(a+d-m) by lia,Int.add_emod_left,Pa (by lia) (by lia)];lia
  lia
abbrev vW(b:Nat)(ps:List (Str×Str))(pe:List Str)(many:Int)(pap:aC)(day:Int)(lv:List fU)(os:List Str)(v8 v9 v10 v11 cL lN:Option Vl):En:=
 [aa (.ce b),aa (.im (.dict (bL (bZ ps)))),aa (.im (.list (pe.map .str))),aa (.im (.int many)),aa (.im pap),aa (.im (.int day)),aa (.ow (.list (lv.map bN))),aa (.ow (.list (os.map .str))),v8,v9,v10,v11,cL,lN]
structure aeB(zs own pe:List Str)(num:Int)(r:fU):Prop where
 num:r.1=num
 ok:Ad zs own r
 giver:r.2.1∈pe
 taker:r.2.2.1∈pe
theorem ahX{C:Ce}{b L j:Nat}{zs pe:List Str}{ps:List (Str×Str)}{z a1 b1:Str}{n day num many:Int}{lv:List fU}(hB:Bl L C b (j+19))(hN:Names zs)(hP:iH zs ps)(p0:0<ps.length)(p8:ps.length<=8)(pl:2<=pe.length)(pl2:pe.length<=20)(pn:pe.Nodup)(pz:∀x∈pe,x∈zs)(n0:0<=n)(n1:n<=1000000000)(d0:0<=day)(d1:day<=99999)(nb:0<=num/\num<=2000)(ll:lv.length<=16)(v9 v10 v11 cL lN:Option Vl):
  ∃(r:fU)(C':Ce)(w9 w10 w11 w12 w13:Option Vl),zH (vW b ps pe many (fZ z a1 b1 n) day lv (up ps z) (aa (.im (.int num))) v9 v10 v11 cL lN) C=aa (.nx,vW b ps pe many (fZ z a1 b1 n) day (lv++[r]) (up ps z) (aa (.im (.int num))) w9 w10 w11 w12 w13,C')/\aeB zs (ps.map (·.1)) pe num r/\Bl L C' b j:=by
 refine hide λGG gg=>?_
 obtain⟨t1,C1,e1,a1',Xb,iY⟩:=dW (m:=(pe.length:Int)) (k:=j+18) hB (by lia) (by lia)
 obtain⟨t2,C2,e2,a2,b2,hB2⟩:=dW (m:=(pe.length:Int)-1) (k:=j+17) iY (by lia) (by lia)
 obtain⟨t3,C3,e3,a3,b3,hB3⟩:=dW (m:=2) (k:=j+16) hB2 (by decide) (by decide)
 have mu:lF (.int t2) (.int t3)=aa (.im (.int (t2*t3))):=mul_eq (.inl (by lia));have md:=mod_eq (i:=t1+1+t2*t3) (j:=(pe.length:Int)) (by lia)
 obtain⟨d,hd,dl,dh⟩:∃d:Int,t1+1+t2*t3=t1+d/\1<=d/\d<pe.length:=by
  have:t3=0\/t3=1:=by lia
  rcases this with rfl|rfl
  .exact⟨1,by rw[Int.mul_zero];lia,by lia,by lia⟩
  .exact⟨1+t2,by rw[ZL];lia,by lia,by lia⟩
 obtain⟨r0,r1,r2⟩:=amb a1' Xb dl dh
 rw[<-hd] at r0 r1 r2
 generalize(t1+1+t2*t3)%(pe.length:Int)=to at md r0 r1 r2
 obtain⟨g,mg,ig,xg⟩:=q9 (zs:=pe) a1' Xb
 obtain⟨t,mt,it,xt⟩:=q9 (zs:=pe) r0 r1
 have hne:g≠t:=λz=>by
  subst z;have:=adI pn ig it;lia
 obtain⟨qs,qp,so⟩:=ZG ps (by lia)
 have ln:=aaZ ps
 obtain⟨t4,C4,e4,a4,b4,qN⟩:=dW (m:=(ps.length:Int)) (k:=j+15) hB3 (by lia) (by lia)
 obtain⟨y,my,_,xy⟩:=q9 (zs:=qs) a4 (by rw[qp.length_eq,bz];exact b4)
 have oy:y∈ps.map (·.1):=qp.mem_iff.mp my
 obtain⟨f,l,C5,e5,f0,f1,f2,tO⟩:=acZ (j:=j+9) qN
 obtain⟨s,C6,e6,s0,s1,Fg⟩:=adJ (j:=j+5) tO
 obtain⟨t7,C7,e7,a7,b7,Ja⟩:=dW (m:=3) (k:=j+4) Fg (by decide) (by decide)
 have q:(lv.length<1000000)=True:=eq_true (by lia);have Xc:∀a b c d e f:aC,cu (.tuple [a,b,c,d]) (.tuple [e,f])=aa (.im (.tuple [a,b,c,d,e,f])):=λ_ _ _ _ _ _=>VM (tQ rfl)
 have Xd:∀a b c d e f g:aC,cu (.tuple [a,b,c,d,e,f]) (.tuple [g])=aa (.im (.tuple [a,b,c,d,e,f,g])):=λ_ _ _ _ _ _ _=>VM (tQ rfl)
 have pw:yK (.int 10) (.int 9)=aa (.im (.int 1000000000)):=rfl;have nn:=ne_nil (up ps z) λx hx=>aai hN hP (adG hN hP hx)
 have gr:∀(y:Str)(f l m:Int)(w9:Option Vl),y∈ps.map (·.1)->(0<=f/\f<=l/\l<=99999)->(0<=m/\m<=1000000000)->aeB zs (ps.map (·.1)) pe num (num,g,t,y,f,l,m):=λy f l m w9 hy hd hm=>⟨rfl,⟨nb,pz _ mg,pz _ mt,hne,hy,hd,hm⟩,mg,mt⟩
 have other:∀C8,Bl L C8 b j->(zH (vW b ps pe many (fZ z a1 b1 n) day lv (up ps z) (aa (.im (.int num))) v9 v10 v11 cL lN) C=aa (.nx,vW b ps pe many (fZ z a1 b1 n) day (lv++[(num,g,t,y,f,l,s)]) (up ps z) (aa (.im (.int num))) (aa (.im (.int t1))) (aa (.im (.int to))) (aa (.im (.str y))) (aa (.im (.tuple [.int f,.int l]))) (aa (.im (.int s))),C8))->GG:=λC8 h8 run=>gg ⟨_,C8,_,_,_,_,_,run,gr y f l s aj oy ⟨f0,f1,f2⟩ ⟨s0,s1⟩,h8⟩
 by_cases h7:0<t7
 .have Oa:=dZ h7;by_cases hu:up ps z=[]
  .rw[hu] at nn;refine other C7 (Ja.mono (by lia)) ?_;simp only[vW,hu,kj,Yp] at nn⊢;simp_arith[zH,e1,e2,e3,mu,md,so,ln,e4,xy,e5,e6,e7,Oa,nn,xg,xt,Xc,Xd,lG,o8,q];simp only[jf,cO,kj,bN]
  .have u0:0<(up ps z).length:=O1.mpr hu;have ul:=Vh ps z;have nn:ji (.list ((up ps z).map .str)) (.list [])=aa (.im (.bool ao)):=by
    rw[nn];cases hh:up ps z with
    |nil=>exact absurd hh hu
    |cons _ _=>rfl
   obtain⟨t8,C8,e8,a8,b8,hB8⟩:=dW (m:=((up ps z).length:Int)) (k:=j+3) Ja (by lia) (by lia)
   obtain⟨y2,my2,_,xy2⟩:=q9 (zs:=up ps z) a8 b8
   obtain⟨t9,C9,e9,a9,b9,hB9⟩:=dW (m:=2) (k:=j+2) hB8 (by decide) (by decide)
   obtain⟨tA,CA,eA,aA,bA,Xe⟩:=dW (m:=2) (k:=j+1) hB9 (by decide) (by decide)
   obtain⟨tB,CB,eB,aB,bB,Xf⟩:=dW (m:=2) (k:=j) Xe (by decide) (by decide)
   obtain⟨f',x1,x2,x3,x4⟩:=ama 0 (day-t9)
   obtain⟨l',x5,x6,x7,x8⟩:=UJ 99999 (day+tA)
   obtain⟨m',x9,xA,xB,xC⟩:=UJ 1000000000 (n+tB)
   refine gg ⟨(num,g,t,y2,f',l',m'),CB,aa (.im (.int t1)),aa (.im (.int to)),aa (.im (.str y2)),aa (.im (.tuple [.int f',.int l'])),aa (.im (.int m')),?_,gr y2 f' l' m' aj (adG hN hP my2) ⟨x2,by lia,x6⟩ ⟨by lia,xA⟩,Xf⟩;simp_arith[zH,e1,e2,e3,mu,md,so,ln,e4,xy,e5,e6,e7,Oa,nn,e8,xy2,e9,x1,eA,x5,pw,eB,x9,xg,xt,Xc,Xd,lG,o8,q];simp only[vW,jf,cO,kj,bN]
 .have Oa:=dY h7;refine other C7 (Ja.mono (by lia)) ?_;simp_arith[zH,e1,e2,e3,mu,md,so,ln,e4,xy,e5,e6,e7,Oa,xg,xt,Xc,Xd,lG,o8,q];simp only[vW,jf,cO,kj,bN]
theorem ajw{C:Ce}{b L j:Nat}{zs pe:List Str}{ps:List (Str×Str)}{z a1 b1:Str}{n day:Int}{many:Int}(hB:Bl L C b (j+405))(hN:Names zs)(hP:iH zs ps)(p0:0<ps.length)(p8:ps.length<=8)(pl:2<=pe.length)(pl2:pe.length<=20)(pn:pe.Nodup)(pz:∀x∈pe,x∈zs)(n0:0<=n)(n1:n<=1000000000)(d0:0<=day)(d1:day<=99999)(m0:0<=many)(m1:many<=16):
  ∃(lv:List fU)(C':Ce),Jz [.ce b,.im (.dict (bL (bZ ps))),.im (.list (pe.map .str)),.im (.int many),.im (fZ z a1 b1 n),.im (.int day)] C=aa (.ow (.list (lv.map bN)),C')/\lv.length<=16/\(∀r∈lv,Ad zs (ps.map (·.1)) r/\r.2.1∈pe/\r.2.2.1∈pe)/\(lv.map (·.1)).Pairwise (·<·)/\Bl L C' b j:=by
 refine hide λGG gg=>?_
 have o1:=abU (C:=C) hN hP p8 z;have ig:decide ((1:Int)<(pe.length:Int))=ao:=dZ (by lia);have mu:lF (.int many) (.int 1)=aa (.im (.int (many*1))):=mul_eq (.inl (by lia));rw[ZL] at mu
 obtain⟨ns,C1,e1,nl,hn,rise,iY⟩:=aaY (j:=j+304) (m:=many) hB m0 (by lia)
 obtain⟨env',C',e,lv,w8,w9,w10,w11,w12,w13,he,hm,hr,hB'⟩:=ym (g:=dF 8) (body:=zH) (its:=ns.map .int) (env:=vW b ps pe many (fZ z a1 b1 n) day [] (up ps z) aj aj aj aj aj aj) (C:=C1)
  (λi env C2=>∃(lv:List fU)(w8 w9 w10 w11 w12 w13:Option Vl),env=vW b ps pe many (fZ z a1 b1 n) day lv (up ps z) w8 w9 w10 w11 w12 w13/\lv.map (·.1)=ns.take i/\(∀r∈lv,Ad zs (ps.map (·.1)) r/\r.2.1∈pe/\r.2.2.1∈pe)/\Bl L C2 b (j+19*(16-i)))
  ⟨[],aj,aj,aj,aj,aj,aj,rfl,rfl,(λ_ h=>nomatch h),iY⟩ (λi d env C2 hd hI=>by
   obtain⟨lv,w8,w9,w10,w11,w12,w13,rfl,hm,hr,hB⟩:=hI
   obtain⟨x,rfl,hx,mx,hi⟩:=alM hd
   rw[MP j 19 (by lia:i<16)] at hB;have ll:lv.length<=16:=by
    have:=congrArg qx hm;rw[bz,qu] at this;lia
   obtain⟨r,C3,w9,w10,w11,w12,w13,e,h1,hB3⟩:=ahX (z:=z) (a1:=a1) (b1:=b1) (many:=many) (lv:=lv) hB hN hP p0 p8 pl pl2 pn pz n0 n1 d0 d1 (hn x mx) ll w9 w10 w11 w12 w13
   refine⟨_,.nx,_,C3,rfl,e,.inl rfl,lv++[r],_,_,_,_,_,_,rfl,?_,λq hq=>?_,hB3⟩
   .rw[jf,hm,take_snoc hx,cO,h1.num];rfl
   .rcases dR.mp hq with hq|hq
    .exact hr q hq
    .rw[j8.mp hq]
     exact⟨h1.ok,h1.giver,h1.taker⟩)
 rw[bz] at hm hB';rw[List.take_length] at hm;subst he;have ll:lv.length<=16:=by
  have:=congrArg qx hm;rw[bz] at this;lia
 have hB2:Bl L C' b j:=hB'.mono (Pr _ _);refine gg ⟨lv,C',gw [aa (.ce b),aa (.im (.dict (bL (bZ ps)))),aa (.im (.list (pe.map .str))),aa (.im (.int many)),aa (.im (fZ z a1 b1 n)),aa (.im (.int day)),aj,aj,aj,aj,aj,aj,aj,aj] rfl rfl ?_ rfl (hB.eq hB2),ll,hr,by rw[hm];exact rise,hB2⟩;simp only[vW,kj] at e;simp_arith[Qe,o1,ig,yM,mu,e1,iJ,e]
structure anD(zs:List Str)(ps:List (Str×Str))(pe:List Str)(lv:List fU)(z a1 b1:Str)(n day:Int):Prop where
 names:Names zs
 len:zs.length=24
 parts:iH zs ps
 p0:0<ps.length
 p8:ps.length<=8
 two:2<=pe.length
 few:pe.length<=17
 arM:pe.Nodup
 aoB:∀x∈pe,x∈zs
 arN:z∈zs
 apr:a1∈zs
 arO:b1∈zs
 n0:0<=n
 n1:n<=1000000000
 d0:0<=day
 d1:day<=99999
 lM:lv.length<=16
 leaves:∀r∈lv,Ad zs (ps.map (·.1)) r/\r.2.1∈pe/\r.2.2.1∈pe
 rise:(lv.map (·.1)).Pairwise (·<·)
abbrev aoC(ps:List (Str×Str))(pe:List Str)(lv:List fU)(z a1 b1:Str)(n day:Int):aC:=.tuple [.dict (bL (bZ ps)),.list (pe.map .str),.list (lv.map bN),fZ z a1 b1 n,.int day]
theorem amc{C:Ce}{b L j:Nat}{most:Int}(hB:Bl L C b (j+460))(m0:0<=most)(m1:most<=16):
  ∃(zs:List Str)(ps:List (Str×Str))(pe:List Str)(lv:List fU)(z a1 b1:Str)(n day:Int)(C':Ce),Mf [.ce b,.im (.int most)] C=aa (.im (aoC ps pe lv z a1 b1 n day),C')/\anD zs ps pe lv z a1 b1 n day/\Bl L C' b j:=by
 refine hide λGG gg=>?_
 obtain⟨zs,C1,e1,hN,Xg,iY⟩:=abT (m:=24) (j:=j+448) hB (by decide) (by decide)
 have Xg:zs.length=24:=Xg
 obtain⟨t2,C2,e2,a2,b2,hB2⟩:=dW (m:=8) (k:=j+447) iY (by decide) (by decide)
 have ct:=Vr (zs:=zs) (m:=1+t2) (by lia) (by lia);have tl:(zs.take (1+t2).toNat).length=(1+t2).toNat:=by rw[qu];lia
 obtain⟨ps,C3,e3,hP,pl,hB3⟩:=ajt (j:=j+431) (zs:=zs.take (1+t2).toNat) hB2 (by lia) ⟨hN.1.sublist (Jm _ _),λz hz=>hN.2 z (xO hz)⟩
 have hP:=aiB hP;have p0:0<ps.length:=by lia
 have p8:ps.length<=8:=by lia
 have ln:=aaZ ps
 obtain⟨t4,C4,e4,a4,b4,qN⟩:=dW (m:=3) (k:=j+430) hB3 (by decide) (by decide)
 obtain⟨x4,i4,h4⟩:=Ff (.int 4) (.int 9) (.int 16) a4 b4
 obtain⟨w,rfl,w0,w1⟩:∃w,x4=.int w/\0<w/\w<=16:=by rcases h4 with rfl|rfl|rfl<;>exact⟨_,rfl,by lia,by lia⟩
 obtain⟨t5,C5,e5,a5,b5,tO⟩:=dW (m:=w) (k:=j+429) qN w0 (by lia)
 obtain⟨k5,hk5⟩:∃k5:Nat,2+2+t5=((2+(2+k5):Nat):Int):=⟨t5.toNat,by lia⟩
 have Jb:=UG fB (xs:=zs) (a:=2) (b:=2+(2+k5)) (by lia) (by lia);rw[<-hk5,show 2+(2+k5)-2=2+k5 by lia] at Jb;have Jb:jx (zs.map fB) (aa 2) (aa (2+2+t5))=_:=Jb
 obtain⟨pe,hpe⟩:∃pe,pe=(zs.drop 2).take (2+k5):=⟨_,rfl⟩
 rw[<-hpe] at Jb;have pl1:pe.length=2+k5:=by rw[hpe,qu,BJ];lia
 have pnd:pe.Nodup:=by rw[hpe];exact hN.1.sublist ((Jm _ _).trans (List.drop_sublist _ _))
 have pin:∀x∈pe,x∈zs:=λx hx=>by rw[hpe] at hx;exact Oz (xO hx)
 have Oc:=UG fB (xs:=zs) (a:=18) (b:=20) (by decide) (by lia);have Oc:jx (zs.map fB) (aa 18) (aa 20)=_:=Oc
 obtain⟨ex,hex⟩:∃ex,ex=(zs.drop 18).take (20-18):=⟨_,rfl⟩
 rw[<-hex] at Oc;have exl:ex.length<=2:=by rw[hex,qu];lia
 have xin:∀x∈ex,x∈zs:=λx hx=>by rw[hex] at hx;exact Oz (xO hx)
 have ad1:cu (.list (pe.map .str)) (.list (ex.map .str))=aa (.ow (.list ((pe++ex).map .str))):=by
  rw[jf];exact add_l (by rw[bz,bz];lia)
 obtain⟨sm,hsm⟩:∃sm,sm=pe++ex:=⟨_,rfl⟩
 rw[<-hsm] at ad1;have sl:0<sm.length/\sm.length<=100:=by rw[hsm,dM];lia
 have sin:∀x∈sm,x∈zs:=λx hx=>by
  rw[hsm] at hx;rcases dR.mp hx with hx|hx
  .exact pin x hx
  .exact xin x hx
 obtain⟨t6,C6,e6,a6,b6,Fg⟩:=dW (m:=(sm.length:Int)) (k:=j+428) tO (by lia) (by lia)
 obtain⟨s1,m1',_,x1⟩:=q9 (zs:=sm) a6 b6
 obtain⟨t7,C7,e7,a7,b7,Ja⟩:=dW (m:=(sm.length:Int)) (k:=j+427) Fg (by lia) (by lia)
 obtain⟨s2,m2',_,x2⟩:=q9 (zs:=sm) a7 b7
 have fin:∀(C9:Ce)(a1 b1:Str),a1∈zs->b1∈zs->Bl L C9 b (j+425)->(gY (c7 (aP xq (az (bH cA (au (aM 0) (au (aN (.int 3)) aR)))) (az (aN (.int 0))))) (cQ 6 (fV (au (aP bI (aH 2) (az (aN (.int 20)))) (au (aP bI (aH 2) (az (aP cu (az (aN (.int 20))) (az (bH cA (au (aM 0) (au (aN (.int 2)) aR))))))) aR)))) iC [aa (.ce b),aa (.im (.int most)),aa (.ow (.list (zs.map .str))),aa (.ow (.dict (bL (bZ ps)))),aa (.ow (.list (pe.map .str))),aa (.ow (.list (sm.map .str))),aa (.im (.tuple [.str s1,.str s2])),aj,aj,aj] C7=aa (.nx,[aa (.ce b),aa (.im (.int most)),aa (.ow (.list (zs.map .str))),aa (.ow (.dict (bL (bZ ps)))),aa (.ow (.list (pe.map .str))),aa (.ow (.list (sm.map .str))),aa (.im (.tuple [.str a1,.str b1])),aj,aj,aj],C9))->GG:=λC9 a1 b1 ha hb hB9 e9=>by
  obtain⟨qs,qp,so⟩:=ZG ps (by lia)
  have Od:=UG fB (xs:=zs) (a:=22) (b:=23) (by decide) (by lia);have Od:jx (zs.map fB) (aa 22) (aa 23)=_:=Od
  obtain⟨ey,Xh⟩:∃ey,ey=(zs.drop 22).take (23-22):=⟨_,rfl⟩
  rw[<-Xh] at Od;have eyl:ey.length=1:=by rw[Xh,qu,BJ];lia
  have yin:∀x∈ey,x∈zs:=λx hx=>by rw[Xh] at hx;exact Oz (xO hx)
  have ql:qs.length=ps.length:=by rw[qp.length_eq,bz]
  have ad2:cu (.list (qs.map .str)) (.list (ey.map .str))=aa (.ow (.list ((qs++ey).map .str))):=by
   rw[jf];exact add_l (by rw[bz,bz];lia)
  obtain⟨qy,Xi⟩:∃qy,qy=qs++ey:=⟨_,rfl⟩
  rw[<-Xi] at ad2;have qyl:qy.length=ps.length+1:=by rw[Xi,dM];lia
  have qin:∀x∈qy,x∈zs:=λx hx=>by
   rw[Xi] at hx;rcases dR.mp hx with hx|hx
   .have:=qp.mem_iff.mp hx;rw[Ke hP] at this;exact xO this
   .exact yin x hx
  obtain⟨tA,CA,eA,aA,bA,Xe⟩:=dW (m:=9) (k:=j+424) hB9 (by decide) (by decide)
  obtain⟨u,hu,u0,u1⟩:∃u:Int,(if(tA==0)=ao then(1:Int) else 0)=u/\0<=u/\u<=1:=⟨_,rfl,by split<;>lia,by split<;>lia⟩
  obtain⟨tB,CB,eB,aB,bB,Xf⟩:=dW (m:=(ps.length:Int)+u) (k:=j+423) Xe (by lia) (by lia)
  obtain⟨z,mz,_,xz⟩:=q9 (zs:=qy) aB (by lia)
  obtain⟨n,CC,eC,n0,n1,hBC⟩:=adJ (j:=j+419) Xf
  obtain⟨f,l,CD,eD,f0,f1,f2,hBD⟩:=acZ (j:=j+413) hBC
  obtain⟨tE,CE,eE,aE,bE,hBE⟩:=dW (m:=2) (k:=j+412) hBD (by decide) (by decide)
  obtain⟨day,iE,d0,d1⟩:∃day:Int,fK [dN f,.int l] tE=aa (.int day)/\0<=day/\day<=99999:=by
   have:tE=0\/tE=1:=by lia
   rcases this with rfl|rfl
   .exact⟨f,Wj _ _,f0,by lia⟩
   .exact⟨l,Wk _ _ _,by lia,f2⟩
  obtain⟨tF,CF,eF,aF,bF,hBF⟩:=dW (m:=most+1) (k:=j+411) hBE (by lia) (by lia)
  obtain⟨lv,CG,eG,lM,hr,rise,hBG⟩:=ajw (many:=tF) (j:=j+6) (z:=z) (a1:=a1) (b1:=b1) (n:=n) (day:=day) hBF hN hP p0 p8 (by lia) (by lia) pnd pin n0 n1 d0 d1 aF (by lia)
  refine gg ⟨zs,ps,pe,lv,z,a1,b1,n,day,CG,gw [aa (.ce b),aa (.im (.int most)),aj,aj,aj,aj,aj,aj,aj,aj] rfl rfl ?_ rfl (hB.eq hBG),⟨hN,Xg,hP,p0,p8,by lia,by lia,pnd,pin,qin z mz,ha,hb,n0,n1,d0,d1,lM,hr,rise⟩,hBG.mono (by lia)⟩;have t22:∀a b c d:aC,cu (.tuple [a,b]) (.tuple [c,d])=aa (.im (.tuple [a,b,c,d])):=λ_ _ _ _=>VM (tQ rfl)
  simp_arith[Uv,e1,e2,fD,dJ,gB,nP,ct,e3,e4,i4,e5,Jb,Oc,ad1,e6,x1,e7,x2,↓e9,so,Od,ad2,ln,eA,yM,hu,eB,xz,eC,t22,eD,eE,iE,eF,eG]
 obtain⟨t8,C8,e8,a8,b8,hB8⟩:=dW (m:=3) (k:=j+426) Ja (by decide) (by decide)
 by_cases h8:0<t8
 .have Xj:=dZ h8
  obtain⟨t9,C9,e9,a9,b9,hB9⟩:=dW (m:=2) (k:=j+425) hB8 (by decide) (by decide)
  obtain⟨y0,n0,_,z0⟩:=q9 (zs:=zs) (k:=20) (by lia) (by lia)
  obtain⟨y1,n1,_,z1⟩:=q9 (zs:=zs) (k:=20+t9) (by lia) (by lia)
  exact fin C9 y0 y1 n0 n1 hB9 (by simp_arith[e8,Xj,z0,e9,z1])
 .have Xj:=dY h8;exact fin C8 s1 s2 (sin _ m1') (sin _ m2') hB8.dec (by simp_arith[e8,Xj])
def gm{α:Type}(D:α->aC)(l:List (Int×α)):List (aC×aC):=l.map λx=>(.int x.1,D x.2)
def j6{α:Type}(l:List (Int×α))(n:Int):Option α:=(l.find? λx=>decide (x.1=n)).map (·.2)
theorem wJ{α:Type}(x:Int×α)(l:List (Int×α))(n:Int):j6 (x::l) n=if x.1=n then aa x.2 else j6 l n:=by
 unfold j6;rw[qR];by_cases h:x.1=n
 .rw[dZ h,bC h];rfl
 .rw[dY h,bJ h]
theorem Vs{α:Type}(D:α->aC):∀l:List (Int×α),cW dm (gm D l)=aa (l.map λx=>.inl x.1)
 |[]=>rfl
 |x::l=>by
  unfold gm;rw[cO,cW];have:=Vs D l;unfold gm at this;rw[this];rfl
theorem ac0{α:Type}(D:α->aC)(l:List (Int×α))(n:Int):qJ (gm D l) (.int n)=aa ((j6 l n).map D):=by
 have e:∀l:List (Int×α),pN dm (.inl n) (gm D l)=(j6 l n).map D:=λl=>by
  induction l with
  |nil=>rfl
  |cons x l ih=>
   show(if dm (.int x.1)=aa (.inl n) then aa (D x.2) else pN dm (.inl n) (gm D l))=_
   rw[ih,wJ];by_cases h:x.1=n
   .rw[bC (by rw[h];rfl),bC h];rfl
   .rw[bJ (λk=>h (by injection k with k;injection k)),bJ h]
 show(if(cW dm (gm D l)).isSome then aa (pN dm (.inl n) (gm D l)) else aj)=_
 rw[Vs,e];rfl
theorem abY{α:Type}(D:α->aC)(l:List (Int×α))(n:Int):qC (.int n) (.dict (gm D l))=aa (.im (.bool (j6 l n).isNone)):=by
 show((qJ (gm D l) (.int n)).map (·.isSome)).map (λb=>Vl.im (.bool (!b)))=_
 rw[ac0];cases j6 l n<;>rfl
theorem ad6{α:Type}(D:α->aC){l:List (Int×α)}{n:Int}{x:α}(h:j6 l n=aa x):bI (.dict (gm D l)) (.int n)=aa (.im (D x)):=by
 unfold bI vR;simp only[ac0,h,mW]
theorem abZ:∀xs ys:List Int,Zi (xs.map .int) (ys.map .int)=decide (xs=ys)
 |[],[]=>rfl
 |[],y::ys=>rfl
 |x::xs,[]=>rfl
 |x::xs,y::ys=>by
  show((x==y)&&Zi (xs.map .int) (ys.map .int))=_
  rw[abZ xs ys,oU];simp
theorem Li(xs ys:List Int):vQ (.list (xs.map .int)) (.list (ys.map .int))=aa (decide (xs=ys)):=by
 show(if lg (.list (xs.map dN))&&lg (.list (ys.map dN))&&(je (.list (xs.map dN))&&je (.list (ys.map dN))) then aa (yg (.list (xs.map .int)) (.list (ys.map .int))) else aj)=_
 rw[shaped_ints,shaped_ints,show lg (.list (xs.map dN))=ao from(lay_ints xs).2.2,show lg (.list (ys.map dN))=ao from(lay_ints ys).2.2];show aa (Zi (xs.map .int) (ys.map .int))=_;rw[abZ]
def Nk:List Int->Bool
 |a::b::r=>decide (a<b)&&Nk (b::r)
 |_=>ao
theorem adK:∀{l:List Int},l.Pairwise (λa b=>ltI b a=aL)->Nk l=decide l.Nodup
 |[],_=>rfl
 |[a],_=>rfl
 |a::b::r,h=>by
  have h2:=(rR.mp h).2;have h1:∀x∈b::r,a<=x:=λx hx=>by
   have:=(rR.mp h).1 x hx;unfold ltI at this;simpa using this
  have h3:∀x∈r,b<=x:=λx hx=>by
   have:=(rR.mp h2).1 x hx;unfold ltI at this;simpa using this
  rw[Nk,adK h2,oU,jX,decide_eq_true_iff,decide_eq_true_iff,decide_eq_true_iff,jL (a:=a)]
  refine⟨λk=>⟨λm=>?_,k.2⟩,λk=>⟨?_,k.2⟩⟩
  .rcases cM.mp m with e|m
   .lia
   .have:=h3 a m;lia
  .have:=h1 b dH;have:a≠b:=λe=>k.1 (by rw[e];exact dH)
   lia
theorem ajx(l:List Int)(h:l.length<64):Ab [.list (l.map .int)]=aa (.ow (.list ((nj ltI l).map .int))):=by
 have hs:Av (l.map .int)=aa ((nj ltI l).map .int):=by
  unfold Av;rw[bC (by rw[bz];exact h)];simp only[aak]
 unfold Ab Gr;simp only[hs,mW]
theorem tail_zip:∀l:List Int,qL (l.map .int) ((l.drop 1).map .int)=(l.zip (l.drop 1)).map λp=>.tuple [.int p.1,.int p.2]
 |[]=>rfl
 |[a]=>rfl
 |a::b::r=>by
  have:=tail_zip (b::r);show .tuple [.int a,.int b]::qL ((b::r).map .int) (((b::r).drop 1).map .int)=_;rw[this];rfl
theorem Sq{α:Type}(f:α->Bool):∀l:List α,boolsOf (l.map λx=>.bool (f x))=aa (l.map f)
 |[]=>rfl
 |x::l=>by
  rw[cO,boolsOf,Sq f l];rfl
theorem ac1:∀l:List Int,((l.zip (l.drop 1)).map λp=>decide (p.1<p.2)).all id=Nk l
 |[]=>rfl
 |[a]=>rfl
 |a::b::r=>by
  show(decide (a<b)&&(((b::r).zip ((b::r).drop 1)).map λp=>decide (p.1<p.2)).all id)=_
  rw[ac1 (b::r)];rfl
theorem ajy{C:Ce}{xs:List Int}(hl:xs.length<=60):Jg [.im (.list (xs.map .int))] C=aa (.im (.bool (decide xs.Nodup)),C):=by
 have num:∀x:Int,J2 [.im (.int x)] C=aa (.im (.bool ao),C):=λx=>gw [aa (.im (.int x))] rfl rfl (by simp_arith[Q9,jk,pX,pP,Ho]) rfl rfl
 have c:=qX (T:=.one) (ft:=gC) (fe:=Xy) (fs:=[]) (C:=C) dN (λ_=>ao) (λ_=>.bool ao) (l:=xs) λx _=>⟨[.int x],rfl,rfl,λ_=>⟨.im (.bool ao),_,by have:=num x;simp_arith[fM,lq,this];rfl,rfl⟩⟩
 rw[zB.mpr λ_ _=>rfl] at c;have a1:Ar [.list (xs.map λ_=>.bool ao)]=aa (.im (.bool ao)):=by
  show(boolsOf (xs.map λ_=>.bool ao)).map (λbs=>Vl.im (.bool (bs.all id)))=_
  rw[Sq (λ_=>ao)];simp
 have so:=ajx xs (by lia);have sl:(nj ltI xs).length=xs.length:=(yh xs).length_eq;have up:=Th (lt:=ltI) aex (l:=xs) λ_ _=>trivial
 have nd:decide (nj ltI xs).Nodup=decide xs.Nodup:=decide_eq_decide.mpr (yh xs).nodup_iff;have ra:=ac1 (nj ltI xs);rw[adK up,nd] at ra;generalize nj ltI xs=ys at so sl ra;have ct:jx (ys.map dN) (aa 1) aj=(ys.drop 1).map .int:=by
  unfold jx;rw[show HT.cP (ys.map dN).length 0 (aa 1)=min 1 ys.length by rw[bz];exact HT.Lk _ _ 1,show HT.cP (ys.map dN).length (ys.map dN).length aj=(ys.map dN).length from rfl,afB (by rw[BJ];exact cz _)];cases ys with
  |nil=>rfl
  |cons y ys=>rw[PK (by rw[dw];lia),Zh]
 have c2:=qX (T:=.many 2) (ft:=gC) (fe:=YW) (fs:=[]) (C:=C) (λp:Int×Int=>.tuple [.int p.1,.int p.2]) (λ_=>ao) (λp=>.bool (decide (p.1<p.2))) (l:=ys.zip (ys.drop 1)) λp _=>⟨[.int p.1,.int p.2],rfl,rfl,λ_=>⟨.im (.bool (decide (p.1<p.2))),_,by simp_arith[fM,lq,lt_int];rfl,rfl⟩⟩
 rw[zB.mpr λ_ _=>rfl] at c2;have a2:Ar [.list ((ys.zip (ys.drop 1)).map λp=>.bool (decide (p.1<p.2)))]=aa (.im (.bool (decide xs.Nodup))):=by
  show(boolsOf ((ys.zip (ys.drop 1)).map λp=>.bool (decide (p.1<p.2)))).map (λbs=>Vl.im (.bool (bs.all id)))=_
  rw[Sq λp:Int×Int=>decide (p.1<p.2)];show aa (Vl.im (.bool _))=_;rw[ra]
 have zl:(ys.zip (ys.drop 1)).length<=60:=by rw[Ju];lia
 have tz:=tail_zip ys;generalize ys.zip (ys.drop 1)=zs at c2 a2 zl tz;have q1:(xs.length<=1000000)=True:=eq_true (by lia);have q2:(zs.length<=1000000)=True:=eq_true (by lia);have n1:iR (xs.map λ_=>ahY ao)=ao:=wQ (λ_=>rfl) _;have n2:iR (zs.map λp=>ahY (decide (p.1<p.2)))=ao:=wQ (λ_=>rfl) _;have ri:J1 [.im (.list (ys.map .int))] C=aa (.im (.bool (decide xs.Nodup)),C):=by
  refine gw [aa (.im (.list (ys.map .int)))] rfl rfl ?_ rfl rfl;simp_arith[Q8,Iu,fD,dJ,gB,nP,ct,tz,c2,q2,n2,a2]
 refine gw [aa (.im (.list (xs.map .int)))] rfl rfl ?_ rfl rfl;simp_arith[OD,jk,pX,c,q1,n1,a1,so,ri]
abbrev Wy:=Int×Str×Str
abbrev oR(p:Str×Str):aC:=.tuple [.str p.1,.str p.2]
def jw(ws:List Wy):Str->List Int->Option Str
 |h,[]=>aa h
 |h,n::r=>(j6 ws n).bind λp=>if p.1=h then jw ws p.2 r else aj
def Bj:Option Str->aC
 |none=>.none
 |some s=>.str s
section
variable{C:Ce}{v1 v2:Option Vl}{ws:List Wy}
theorem aas:∀(xs:List Int)(h:Str)(v4 v5 v6:Option Vl),∃fl e',kO (dF 4) Yy (xs.map .int) [aa (.im (.dict (gm oR ws))),v1,v2,aa (.im (.str h)),v4,v5,v6] C=aa (fl,e',C)/\((fl=.nx/\∃s,jw ws h xs=aa s/\e'[3]?=aa (aa (.im (.str s))))\/(fl=.rt (.im .none)/\jw ws h xs=aj))
 |[],h,v4,v5,v6=>⟨_,_,rfl,.inl ⟨rfl,h,rfl,rfl⟩⟩
 |n::xs,h,v4,v5,v6=>by
  have i1:=abY oR ws n;rw[cO,kO];cases hn:j6 ws n with
  |none=>
   rw[hn] at i1
   refine⟨.rt (.im .none),[aa (.im (.dict (gm oR ws))),v1,v2,aa (.im (.str h)),aa (.im (.int n)),v5,v6],?_,.inr ⟨rfl,by rw[jw,hn];rfl⟩⟩
   simp_arith[dF,i1,af9]
  |some p=>
   rw[hn] at i1;have x1:bI (.dict (gm oR ws)) (.int n)=aa (.im (.tuple [.str p.1,.str p.2])):=ad6 oR hn;have ne:=Ae p.1 h;by_cases c:p.1=h
   .rw[dZ c] at ne
    obtain⟨fl,e',e,k⟩:=aas xs p.2 (aa (.im (.int n))) (aa (.im (.str p.1))) (aa (.im (.str p.2)))
    refine⟨fl,e',?_,?_⟩
    .simp_arith[dF,i1,Jk,x1,ne];exact e
    .rw[jw,hn,ir,bC c];exact k
   .rw[dY c] at ne
    refine⟨.rt (.im .none),[aa (.im (.dict (gm oR ws))),v1,v2,aa (.im (.str h)),aa (.im (.int n)),aa (.im (.str p.1)),aa (.im (.str p.2))],?_,.inr ⟨rfl,by rw[jw,hn,ir,bJ c]⟩⟩
    simp_arith[dF,i1,Jk,x1,ne]
theorem akN(xs:List Int)(h:Str):JS [.im (.dict (gm oR ws)),.im (.str h),.im (.list (xs.map .int))] C=aa (.im (Bj (jw ws h xs)),C):=by
 obtain⟨fl,e',e,k⟩:=aas (C:=C) (ws:=ws) (v1:=aa (.im (.str h))) (v2:=aa (.im (.list (xs.map .int)))) xs h aj aj aj
 rcases k with⟨rfl,s,hs,h3⟩|⟨rfl,hs⟩
 .rw[hs];refine gw [aa (.im (.dict (gm oR ws))),aa (.im (.str h)),aa (.im (.list (xs.map .int))),aj,aj,aj,aj] rfl rfl ?_ rfl rfl;simp_arith[JR,iJ,e,h3,Bj]
 .rw[hs];refine gw [aa (.im (.dict (gm oR ws))),aa (.im (.str h)),aa (.im (.list (xs.map .int))),aj,aj,aj,aj] rfl rfl ?_ rfl rfl;simp_arith[JR,iJ,e,Bj]
theorem amd{α:Type}(D:α->aC){l:List (Int×α)}{n:Int}(x:α)(h:n∉l.map (·.1)):pW dm (.inl n) (.int n) (D x) (gm D l)=gm D (l++[(n,x)]):=by
 unfold pW;rw[bJ]
 .unfold gm;rw[jf];rfl
 .simp only[gm,Qv,Ph,Function.comp,decide_eq_true_eq,not_exists,not_and];intro y hy k;have k:aa (mH y.1:Key)=aa (.inl n):=k;injection k with k
  injection k with k
  exact h (gQ.mpr ⟨y,hy,k⟩)
theorem aa2:∀(ws acc:List Wy),((acc++ws).map (·.1)).Nodup->acc.length+ws.length<=1000->sU (.many 3) gC J3 J4 [] (ws.map wD) (gm oR acc) C=aa (gm oR (acc++ws),C)
 |[],acc,_,_=>by rw[lq];rfl
 |w::ws,acc,nd,hl=>by
  rw[dw] at hl;have nw:w.1∉acc.map (·.1):=λm=>by
   rw[jf,cO] at nd
   exact(lO.mp nd).2.2 _ m _ dH rfl
  have ih:=aa2 ws (acc++[w]) (by rw[mF];exact nd) (by rw[dM];show _+1+_<=_;lia);have q:((gm oR acc).length<1000000)=True:=eq_true (by unfold gm;rw[bz];lia);have pm:=amd oR w.2 nw;rw[mF] at ih;have ih:sU (.many 3) gC J3 J4 [] (ws.map wD) (gm oR (acc++[w])) C=aa (gm oR (acc++w::ws),C):=ih;rw[cO,sU];have kd:dm (.int w.1)=aa (.inl w.1):=rfl;have td:zp (.many 3) (wD w)=aa [.int w.1,.str w.2.1,.str w.2.2]:=rfl;simp only[td];simp_arith[fM,lq,gC,kd,q,pm,ih]
end
def rK(ws:List Wy)(side:Prop)[Decidable side](h s:Str)(xs:List Int):Bool:=!decide side&&(decide xs.Nodup&&(if h=s then decide (xs=[]) else decide (jw ws h xs=aa s)))
theorem eq_str(x y:Str):iD (.str x) (.str y)=aa (.im (.bool (decide (x=y)))):=by
 show aa (Vl.im (.bool (x==y)))=_;rw[show(x==y)=decide (x=y) by rw[oU];simp]
theorem ame(o:Option Str){s:Str}(hs:nameB s=ao):iD (Bj o) (.str s)=aa (.im (.bool (decide (o=aa s)))):=by
 cases o with
 |none=>
  have sh:je (.str s)=ao:=by
   unfold je;simp only[Cj,CT hs,Gd];rfl
  show(if lg .none&&lg (.str s)&&(je .none&&je (.str s)) then aa (yg .none (.str s)) else aj).map (λb=>Vl.im (.bool b))=_
  rw[sh];rfl
 |some x=>
  rw[Bj,eq_str];congr 3;exact decide_eq_decide.mpr ⟨congrArg aa,gH⟩
theorem aa3{zs:List Str}{ps:List (Str×Str)}{ht:lV}(hG:pK zs ps ht)(os:List Str)(n day:Int)(a1 b1:Str):((mL ht os n day a1 b1).map (·.1)).Nodup:=by
 unfold mL;rw[gZ];exact hG.N7.sublist (List.filter_sublist.map _)
theorem aoD(ws:List Wy):yV (gm oR ws)=ao:=by
 induction ws with
 |nil=>rfl
 |cons w ws ih=>exact ih
theorem TQ{C:Ce}{zs:List Str}{ps:List (Str×Str)}{ht:lV}(hN:Names zs)(hP:iH zs ps)(hG:pK zs ps ht)(z a1 b1:Str)(n day:Int)(h s:Str)(xs:List Int)(hl:xs.length<=60)(ns:nameB s=ao):
  wI [.im (lC ht),.im (fZ z a1 b1 n),.im (.str h),.im (.str s),.im (.int day),.im (.list (xs.map .int))] C=aa (.im (.bool (rK (mL ht (up ps z) n day a1 b1) ((h=a1\/h=b1)\/(s=a1\/s=b1)) h s xs)),C):=by
 have s1:=Du (C:=C) (z:=z) (a1:=a1) (b1:=b1) (n:=n) (p:=h);have s2:=Du (C:=C) (z:=z) (a1:=a1) (b1:=b1) (n:=n) (p:=s);have un:=ajy (C:=C) hl;have es:=eq_str h s;have el:iD (.list (xs.map .int)) (.list [])=aa (.im (.bool (decide (xs=[])))):=by
  have:=Li xs [];unfold iD;rw[show(.list []:aC)=.list (([]:List Int).map .int) from rfl,this];rfl
 have w:=adF (C:=C) hN hP hG z a1 b1 n day;have wf:=TJ hG (up ps z) n day a1 b1;have nd:=aa3 hG (up ps z) n day a1 b1;generalize mL ht (up ps z) n day a1 b1=ws at w wf nd;have c:=aa2 (C:=C) ws [] nd (by show 0+_<=_;lia);have c:sU (.many 3) gC J3 J4 [] (ws.map wD) [] C=aa (gm oR ws,C):=c;have t:=akN (C:=C) (ws:=ws) xs h;have et:=ame (jw ws h xs) ns;have nl:=aoD ws;unfold rK;refine gw [aa (.im (lC ht)),aa (.im (fZ z a1 b1 n)),aa (.im (.str h)),aa (.im (.str s)),aa (.im (.int day)),aa (.im (.list (xs.map .int))),aj] rfl rfl ?_ rfl rfl;by_cases h1:h=a1\/h=b1
 .rw[dZ h1] at s1;rw[dZ (.inl h1:(h=a1\/h=b1)\/(s=a1\/s=b1))];simp_arith[yq,s1,Ga,wg]
 rw[dY h1] at s1;by_cases h2:s=a1\/s=b1
 .rw[dZ h2] at s2;rw[dZ (.inr h2:(h=a1\/h=b1)\/(s=a1\/s=b1))];simp_arith[yq,s1,s2,Ga,wg]
 rw[dY h2] at s2;rw[dY (λk=>k.elim h1 h2:¬((h=a1\/h=b1)\/(s=a1\/s=b1)))];by_cases h3:xs.Nodup
 .rw[dZ h3] at un;rw[dZ h3];by_cases h4:h=s
  .rw[dZ h4] at es;rw[bC h4];simp_arith[yq,s1,s2,un,es,el,uR,uT]
  .rw[dY h4] at es;rw[bJ h4];generalize jw ws h xs=o at t et⊢;cases o with
   |none=>
    simp only[Bj] at t et;have rn:∀e f:En,rst (.im .none) e f=e:=λ_ _=>rfl
    simp_arith[rn,yq,s1,s2,un,es,w,vV,zq,frB,c,nl,t,et,uR,uT]
   |some o=>
    simp only[Bj] at t et;simp_arith[yq,s1,s2,un,es,w,vV,zq,frB,c,nl,t,et,uR,uT]
 .rw[dY h3] at un;rw[dY h3];simp_arith[yq,s1,s2,un,uR,uT,wg]
theorem vC{f g:FS}{env e1:En}{C C1:Ce}(h:f env C=aa (.nx,e1,C1)):bD f g env C=g e1 C1:=by
 unfold bD;rw[h]
theorem Hg{fi:FI}{g:FG}{b:FS}{env e1:En}{C C1:Ce}{its:List aC}(h:fi env C=aa (its,e1,C1)):iJ fi g b env C=kO g b its e1 C1:=by
 unfold iJ;rw[h]
theorem anE{f g:FS}{env e1:En}{C C1:Ce}{r:Vl}(h:f env C=aa (.rt r,e1,C1)):bD f g env C=aa (.rt r,e1,C1):=by
 unfold bD;rw[h]
abbrev qi(lv:List fU):List (Int×fU):=lv.map λr=>(r.1,r)
theorem ab0{os:List Str}{n day:Int}{a1 b1:Str}:∀{lv:List fU},(lv.map (·.1)).Nodup->∀k:Int,j6 ((lv.filter (jl os n day a1 b1)).map pY) k=(j6 (qi lv) k).bind λr=>if jl os n day a1 b1 r then aa (r.2.1,r.2.2.1) else aj
 |[],_,k=>rfl
 |r::lv,nd,k=>by
  have ih:=ab0 (os:=os) (n:=n) (day:=day) (a1:=a1) (b1:=b1) (jL.mp nd).2 k;show _=(j6 ((r.1,r)::qi lv) k).bind _;rw[wJ];by_cases e:r.1=k
  .rw[bC e,ir];have no:j6 ((lv.filter (jl os n day a1 b1)).map pY) k=aj:=by
    unfold j6;rw[XF,O5];intro w hw
    obtain⟨q,hq,rfl⟩:=gQ.mp hw
    simp only[decide_eq_true_eq];intro h
    exact(jL.mp nd).1 (gQ.mpr ⟨q,(tU.mp hq).1,h.trans e.symm⟩)
   cases b:jl os n day a1 b1 r with
   |true=>rw[afx b,cO,wJ,bC (show(pY r).1=k from e)];rfl
   |false=>rw[afy (by rw[b];exact jo),no];rfl
  .rw[bJ e,<-ih];cases b:jl os n day a1 b1 r with
   |true=>rw[afx b,cO,wJ,bJ (show ¬(pY r).1=k from e)]
   |false=>rw[afy (by rw[b];exact jo)]
theorem ac2(x:Int)(l:List Int):jF (.int x) (.list (l.map .int))=aa (.im (.bool (decide (x∈l)))):=by
 have fl:∀l:List Int,(l.map dN).all lD=ao:=λl=>by simp[lD]
 have:inB (.int x) (.list (l.map .int))=aa (inD (.int x) (l.map .int)):=bC (by rw[fl];rfl);unfold jF;rw[this];have e:inD (.int x) (l.map .int)=decide (x∈l):=by
  unfold inD;rw[oU,Qv];simp[Ph,tH,toV]
 rw[e];rfl
abbrev qj(ps:List (Str×Str))(lv:List fU)(z a1 b1:Str)(n day:Int)(h s:Str)(xs:List Int)(nv:Vl)(here:Str)(gone:List Int)(v9:Option Vl):En:=
 [aa (.im (.dict (bL (bZ ps)))),aa (.im (.list (lv.map bN))),aa (.im (fZ z a1 b1 n)),aa (.im (.tuple [.str h,.str s])),aa (.im (.int day)),aa (.im (.list (xs.map .int))),aa nv,aa (.im (.str here)),aa (.ow (.list (gone.map .int))),v9]
section
variable{C:Ce}{zs:List Str}{ps:List (Str×Str)}{lv:List fU}(hN:Names zs)(hP:iH zs ps)(p8:ps.length<=8)(nd:(lv.map (·.1)).Nodup){z a1 b1 h s:Str}{n day:Int}{all:List Int}
include hN hP p8 nd
theorem aa4:∀(xs:List Int)(here:Str)(gone:List Int)(v9:Option Vl),gone.length+xs.length<=1000->∃fl e',kO (dF 9) QG (xs.map .int) (qj ps lv z a1 b1 n day h s all (.ow (.dict (gm bN (qi lv)))) here gone v9) C=aa (fl,e',C)/\
  ((fl=.nx/\(xs.Nodup/\∀x∈xs,x∉gone)/\∃t g' w9,jw ((lv.filter (jl (up ps z) n day a1 b1)).map pY) here xs=aa t/\e'=qj ps lv z a1 b1 n day h s all (.ow (.dict (gm bN (qi lv)))) t g' w9)\/
   (fl=.rt (.im (.bool aL))/\¬((xs.Nodup/\∀x∈xs,x∉gone)/\∃t,jw ((lv.filter (jl (up ps z) n day a1 b1)).map pY) here xs=aa t)))
 |[],here,gone,v9,_=>⟨_,_,rfl,.inl ⟨rfl,⟨pH,λ_ m=>nomatch m⟩,here,gone,v9,rfl,rfl⟩⟩
 |k::xs,here,gone,v9,hl=>by
  refine hide λGG gg=>?_
  rw[dw] at hl;have i1:=ac2 k gone;have i2:=abY bN (qi lv) k;have lw:=ab0 (os:=up ps z) (n:=n) (day:=day) (a1:=a1) (b1:=b1) nd k;rw[cO,kO] at gg;have stop:¬(((k::xs).Nodup/\∀x∈k::xs,x∉gone)/\∃t,jw ((lv.filter (jl (up ps z) n day a1 b1)).map pY) here (k::xs)=aa t)->QG (qj ps lv z a1 b1 n day h s all (.ow (.dict (gm bN (qi lv)))) here gone (aa (.im (.int k)))) C=aa (.rt (.im (.bool aL)),qj ps lv z a1 b1 n day h s all (.ow (.dict (gm bN (qi lv)))) here gone (aa (.im (.int k))),C)->GG:=λno run=>by
   refine gg ⟨.rt (.im (.bool aL)),qj ps lv z a1 b1 n day h s all (.ow (.dict (gm bN (qi lv)))) here gone (aa (.im (.int k))),?_,.inr ⟨rfl,no⟩⟩;simp only[qj,dF,aga,agb] at run⊢;simp only[run]
  by_cases m:k∈gone
  .rw[dZ m] at i1;refine stop (λc=>c.1.2 k dH m) ?_;simp only[qj];simp_arith[jk,pX,i1]
  rw[dY m] at i1;cases hr:j6 (qi lv) k with
  |none=>
   rw[hr] at i2 lw;refine stop (λc=>?_) ?_
   .obtain⟨_,t,ht⟩:=c
    rw[jw,lw] at ht;cases ht
   .simp only[qj];simp_arith[jk,pX,i1,i2,af9]
  |some r=>
   rw[hr,ir] at lw;rw[hr] at i2;have x1:bI (.dict (gm bN (qi lv))) (.int k)=aa (.im (bN r)):=ad6 bN hr;have le:=acY (C:=C) hN hP p8 z a1 b1 n day r;have ne:=Ae r.2.1 here;simp only[bN] at x1 le;by_cases c:r.2.1=here
   .rw[dZ c] at ne;cases b:jl (up ps z) n day a1 b1 r with
    |false=>
     rw[b] at le lw;refine stop (λc=>?_) ?_
     .obtain⟨_,t,ht⟩:=c
      rw[jw,lw] at ht;cases ht
     .simp only[qj];simp_arith[jk,pX,i1,i2,Jk,x1,ne,le]
    |true=>
     rw[b] at le lw;have lw:j6 ((lv.filter (jl (up ps z) n day a1 b1)).map pY) k=aa (r.2.1,r.2.2.1):=lw;have wk:jw ((lv.filter (jl (up ps z) n day a1 b1)).map pY) here (k::xs)=jw ((lv.filter (jl (up ps z) n day a1 b1)).map pY) r.2.2.1 xs:=by
      rw[jw,lw,ir,bC c]
     obtain⟨fl,e',e,cs⟩:=aa4 xs r.2.2.1 (gone++[k]) (aa (.im (.int k))) (by rw[dM];show _+1+_<=_;lia)
     have q:(gone.length<1000000)=True:=eq_true (by lia);have iff:(xs.Nodup/\∀x∈xs,x∉gone++[k])↔((k::xs).Nodup/\∀x∈k::xs,x∉gone):=by
      rw[jL]
      refine⟨λu=>⟨⟨λmm=>u.2 k mm (gn _ dH),u.1⟩,λx hx=>?_⟩,λu=>⟨u.1.2,λx hx mm=>?_⟩⟩
      .rcases cM.mp hx with rfl|hx
       .exact m
       .exact λmm=>u.2 x hx (jd _ mm)
      .rcases dR.mp mm with mm|mm
       .exact u.2 x (gh _ hx) mm
       .rw[j8.mp mm] at hx;exact u.1.1 hx
     refine gg ⟨fl,e',?_,?_⟩
     .simp only[qj,jf,cO,kj] at e⊢;simp_arith[dF,jk,pX,i1,i2,Jk,x1,ne,le,lG,o8,bz,q];exact e
     .rw[wk,<-iff];exact cs
   .rw[dY c] at ne;refine stop (λu=>?_) ?_
    .obtain⟨_,t,ht⟩:=u
     rw[jw,lw] at ht;cases b:jl (up ps z) n day a1 b1 r with
     |false=>rw[b] at ht;cases ht
     |true=>
      rw[b] at ht;have ht:(if r.2.1=here then jw ((lv.filter (jl (up ps z) n day a1 b1)).map pY) r.2.2.1 xs else aj)=aa t:=ht;rw[bJ c] at ht;cases ht
    .simp only[qj];simp_arith[jk,pX,i1,i2,Jk,x1,ne]
theorem ajz(lM:lv.length<=100)(nh:nameB h=ao)(hs:nameB s=ao)(xs:List Int)(hl:xs.length<=60):
  Gk [.im (.dict (bL (bZ ps))),.im (.list (lv.map bN)),.im (fZ z a1 b1 n),.im (.tuple [.str h,.str s]),.im (.int day),.im (.list (xs.map .int))] C=aa (.im (.bool (rK ((lv.filter (jl (up ps z) n day a1 b1)).map pY) ((h=a1\/h=b1)\/(s=a1\/s=b1)) h s xs)),C):=by
 refine hide λGG gg=>?_
 have ct:jx [fB z,.int n,.str a1,.str b1] (aa 2) aj=[.str a1,.str b1]:=rfl;have s1:=Ea h a1 b1;have s2:=Ea s a1 b1;have c:=qX (T:=.one) (ft:=gC) (fe:=QH) (fs:=[]) (C:=C) bN (λ_=>ao) (λr=>.tuple [.int r.1,bN r]) (l:=lv) λr _=>⟨[bN r],rfl,rfl,λ_=>⟨.im (.tuple [.int r.1,bN r]),_,by simp only[bN];simp_arith[fM,lq];rfl,rfl⟩⟩
 rw[zB.mpr λ_ _=>rfl] at c;have nl:iR (lv.map λr=>oV [.int r.1,bN r])=ao:=wQ (λ_=>rfl) _;have q:((lv.map λr=>oV [.int r.1,bN r]).length<=1000000)=True:=eq_true (by rw[bz];lia);have pr:∀lv:List fU,pairsOf (lv.map λr=>oV [.int r.1,bN r])=aa (gm bN (qi lv)):=λlv=>by
  induction lv with
  |nil=>rfl
  |cons r lv ih=>rw[cO,pairsOf,ih];rfl
 have dp:DY [.list (lv.map λr=>oV [.int r.1,bN r])]=aa (.ow (.dict (gm bN (qi lv)))):=by
  unfold DY;simp only[pr,ir,Vs];refine bC ?_;rw[gZ,show((λx:Int×fU=>(mH x.1:Key)) ∘ λr:fU=>(r.1,r))=mH ∘ (·.1) from rfl,<-gZ];exact nd.map _ λa b k e=>k (by injection e)
 obtain⟨fl,e',e,cs⟩:=aa4 (C:=C) hN hP p8 nd (z:=z) (a1:=a1) (b1:=b1) (h:=h) (s:=s) (n:=n) (day:=day) (all:=xs) xs h [] aj (by show 0+_<=_;lia)
 have el:iD (.list (xs.map .int)) (.list [])=aa (.im (.bool (decide (xs=[])))):=by
  have:=Li xs [];unfold iD;rw[show(.list []:aC)=.list (([]:List Int).map .int) from rfl,this];rfl
 have hn:=Ae h s;unfold rK at gg
 generalize(lv.map λr=>oV [.int r.1,bN r])=pl at c nl dp q
 by_cases h1:h=a1\/h=b1
 .rw[dZ h1] at s1;rw[dZ (.inl h1:(h=a1\/h=b1)\/(s=a1\/s=b1))] at gg;refine gg (gw [aa (.im (.dict (bL (bZ ps)))),aa (.im (.list (lv.map bN))),aa (.im (fZ z a1 b1 n)),aa (.im (.tuple [.str h,.str s])),aa (.im (.int day)),aa (.im (.list (xs.map .int))),aj,aj,aj,aj] rfl rfl ?_ rfl rfl);simp_arith[KN,jk,pX,fD,dJ,gB,nP,ct,s1,Ga,wg]
 rw[dY h1] at s1;by_cases h2:s=a1\/s=b1
 .rw[dZ h2] at s2;rw[dZ (.inr h2:(h=a1\/h=b1)\/(s=a1\/s=b1))] at gg;refine gg (gw [aa (.im (.dict (bL (bZ ps)))),aa (.im (.list (lv.map bN))),aa (.im (fZ z a1 b1 n)),aa (.im (.tuple [.str h,.str s])),aa (.im (.int day)),aa (.im (.list (xs.map .int))),aj,aj,aj,aj] rfl rfl ?_ rfl rfl);simp_arith[KN,jk,pX,fD,dJ,gB,nP,ct,s1,s2,Ga,wg]
 rw[dY h2] at s2;rw[dY (λk=>k.elim h1 h2:¬((h=a1\/h=b1)\/(s=a1\/s=b1)))] at gg;refine gg (gw [aa (.im (.dict (bL (bZ ps)))),aa (.im (.list (lv.map bN))),aa (.im (fZ z a1 b1 n)),aa (.im (.tuple [.str h,.str s])),aa (.im (.int day)),aa (.im (.list (xs.map .int))),aj,aj,aj,aj] rfl rfl ?_ rfl rfl);clear gg;have it:iV (aM 5) (qj ps lv z a1 b1 n day h s xs (.ow (.dict (gm bN (qi lv)))) h [] aj) C=aa (xs.map .int,qj ps lv z a1 b1 n day h s xs (.ow (.dict (gm bN (qi lv)))) h [] aj,C):=rfl;have st:∀G:FS,bD (gY (lK (o7 (j0 (az (jk "list" (aH 5))))) (lK (c7 (aP jF (az (aP bI (aH 3) (az (aN (.int 0))))) (az (fD (aH 2) (dJ (az (aN (.int 2)))) gB)))) (c7 (aP jF (az (aP bI (aH 3) (az (aN (.int 1))))) (az (fD (aH 2) (dJ (az (aN (.int 2)))) gB)))))) (eO (aN (.bool aL))) iC) (bD (jQ [6,7,8] (fJ (eY DY (cZ (az (j5 (iB (aH 1)) .one gC QH [])) eN)) (fJ (aP bI (aH 3) (az (aN (.int 0)))) (fJ (dj aR) aR)))) G) [aa (.im (.dict (bL (bZ ps)))),aa (.im (.list (lv.map bN))),aa (.im (fZ z a1 b1 n)),aa (.im (.tuple [.str h,.str s])),aa (.im (.int day)),aa (.im (.list (xs.map .int))),aj,aj,aj,aj] C=G (qj ps lv z a1 b1 n day h s xs (.ow (.dict (gm bN (qi lv)))) h [] aj) C:=λG=>by
  simp only[qj,kj];simp_arith[jk,pX,fD,dJ,gB,nP,ct,s1,s2,c,q,nl,dp]
 rcases cs with⟨rfl,⟨n1,_⟩,t,g',w9,hw,rfl⟩|⟨rfl,no⟩
 .refine(congrArg (Kd λp=>(p.1,p.2.2)) ((st _).trans (vC ((Hg it).trans e)))).trans ?_
  have et:=eq_str t s;rw[dZ n1,hw];have fin:(if h=s then decide (xs=[]) else decide (aa t=aa s))=(decide (t=s)&&(decide (xs=[])||!decide (h=s))):=by
   by_cases k:h=s
   .rw[bC k,dZ k];by_cases k2:xs=[]
    .subst k2;have:t=h:=(gH hw).symm;rw[this,k];simp
    .simp[k2]
   .rw[bJ k,dY k];simp
  rw[fin];clear st e fin;cases k1:decide (t=s) with
  |false=>
   rw[k1] at et;simp_arith[pP,Et,et,uR,uT,wg]
  |true=>
   rw[k1] at et;cases k2:decide (xs=[]) with
   |true=>
    rw[k2] at el;simp_arith[pP,Et,et,el,uR,uT,ahp]
   |false=>
    rw[k2] at el;simp_arith[pP,Et,et,el,hn,uR,uT,ag3]
 .refine(congrArg (Kd λp=>(p.1,p.2.2)) ((st _).trans (anE ((Hg it).trans e)))).trans ?_
  have fin:(decide xs.Nodup&&if h=s then decide (xs=[]) else decide (jw ((lv.filter (jl (up ps z) n day a1 b1)).map pY) h xs=aa s))=aL:=by
   by_cases n1:xs.Nodup
   .have nw:∀t,jw ((lv.filter (jl (up ps z) n day a1 b1)).map pY) h xs≠aa t:=λt k=>no ⟨⟨n1,λ_ _ m=>nomatch m⟩,t,k⟩
    rw[dZ n1];by_cases k:h=s
    .rw[bC k,dY λk2=>nw h (by rw[k2];rfl)];rfl
    .rw[bJ k,dY (nw s)];rfl
   .rw[dY n1];rfl
  rw[fin];rfl
end
theorem aiC(x:Int)(l:List Int):qC (.int x) (.list (l.map .int))=aa (.im (.bool (!decide (x∈l)))):=by
 have:=ac2 x l;unfold jF at this;unfold qC;cases hh:inB (.int x) (.list (l.map .int)) with
 |none=>rw[hh] at this;cases this
 |some v=>rw[hh] at this;cases this;rfl
def Fi(lv:List fU):Prop:=∀r∈lv,nameB r.2.1=ao/\nameB r.2.2.1=ao/\nameB r.2.2.2.1=ao
theorem aat:∀{lv:List fU},Fi lv->zG (lv.map bN)=ao/\BX (lv.map bN)<=1/\sZ (lv.map bN)=ao
 |[],_=>⟨rfl,nH _,rfl⟩
 |r::lv,h=>by
  obtain⟨a,b,c⟩:=aat (lv:=lv) λq hq=>h q (gh _ hq)
  obtain⟨h1,h2,h3⟩:=h r dH
  have s1:=CT h1;have s2:=CT h2;have s3:=CT h3;rw[cO]
  refine⟨?_,?_,?_⟩
  .simp only[zG,bN,Cj,s1,s2,s3,a,ahg]
  .exact Nat.max_le.mpr ⟨by show 0+1<=1;decide,b⟩
  .simp only[sZ,bN,lg,c,ahg]
theorem ajA{lv:List fU}(h:Fi lv):ji (.list (lv.map bN)) (.list [])=aa (.im (.bool (!lv.isEmpty))):=by
 obtain⟨a,b,c⟩:=aat h
 have sh:je (.list (lv.map bN))=ao:=by
  unfold je;simp only[Cj,a,Gd,uT];exact dZ (by lia)
 have e:vQ (.list (lv.map bN)) (.list [])=aa lv.isEmpty:=by
  show(if lg (.list (lv.map bN))&&lg (.list [])&&(je (.list (lv.map bN))&&je (.list [])) then aa (yg (.list (lv.map bN)) (.list [])) else aj)=_
  rw[sh,show lg (.list (lv.map bN))=ao from c];cases lv<;>rfl
 simp only[ji,e,mW]
section
variable{C:Ce}{b L:Nat}{zs:List Str}{ps:List (Str×Str)}{lv:List fU}(hN:Names zs)(hP:iH zs ps)(p8:ps.length<=8)(lM:lv.length<=16)(nm:Fi lv){z a1 b1 h0:Str}{n day:Int}
include hN hP p8 lM nm
abbrev Bt(b:Nat)(ps:List (Str×Str))(lv:List fU)(z a1 b1 h0:Str)(n day:Int)(here:Str)(xs:List Int)(v8 v9 v10:Option Vl):En:=
 [aa (.ce b),aa (.im (.dict (bL (bZ ps)))),aa (.im (.list (lv.map bN))),aa (.im (fZ z a1 b1 n)),aa (.im (.str h0)),aa (.im (.int day)),aa (.im (.str here)),aa (.ow (.list (xs.map .int))),v8,v9,v10]
theorem akO{j:Nat}{here:Str}{xs:List Int}(hB:Bl L C b (j+1))(hl:xs.length<=100)(hh:nameB here=ao)(v8 v9 v10:Option Vl):
  ∃C' M6 xs' w9 w10,QD (Bt b ps lv z a1 b1 h0 n day here xs v8 v9 v10) C=aa (.nx,Bt b ps lv z a1 b1 h0 n day M6 xs' v8 w9 w10,C')/\nameB M6=ao/\xs'.length<=xs.length+1/\Bl L C' b j:=by
 refine hide λGG gg=>?_
 have c1:=qX (T:=.one) (ft:=ZC) (fe:=ZD) (fs:=[aa (.im (.str here)),aa (.im (.list (xs.map .int)))]) (C:=C) bN (λr=>decide (r.2.1=here)&&!decide (r.1∈xs)) bN (l:=lv) λr _=>⟨[bN r],rfl,by
  have e1:=eq_str r.2.1 here;have e2:=aiC r.1 xs;simp only[bN];cases k:decide (r.2.1=here) with
  |false=>
   rw[k] at e1;simp_arith[fM,lQ,jM,e1,wg]
  |true=>
   rw[k] at e1;simp_arith[fM,lQ,jM,e1,e2,uT],λ_=>⟨.im (bN r),_,rfl,rfl⟩⟩
 obtain⟨l1,h1⟩:∃l1,l1=lv.filter (λr=>decide (r.2.1=here)&&!decide (r.1∈xs)):=⟨_,rfl⟩
 rw[<-h1] at c1;have c2:=qX (T:=.one) (ft:=Zy) (fe:=Zz) (fs:=[aa (.im (.dict (bL (bZ ps)))),aa (.im (fZ z a1 b1 n)),aa (.im (.int day))]) (C:=C) bN (jl (up ps z) n day a1 b1) bN (l:=l1) λr _=>⟨[bN r],rfl,by
  have q:=acY (C:=C) hN hP p8 z a1 b1 n day r;simp_arith[fM,lQ,jM,q],λ_=>⟨.im (bN r),_,rfl,rfl⟩⟩
 obtain⟨l2,h2⟩:∃l2,l2=l1.filter (jl (up ps z) n day a1 b1):=⟨_,rfl⟩
 rw[<-h2] at c2;have sub:∀r∈l2,r∈lv:=λr hr=>by
  rw[h2] at hr;have:=(tU.mp hr).1;rw[h1] at this
  exact(tU.mp this).1
 have ll1:l1.length<=16:=by rw[h1];exact lR (Fo _ _) lM
 have ll2:l2.length<=16:=by rw[h2];exact lR (Fo _ _) ll1
 have q1:(l1.length<=1000000)=True:=eq_true (by lia);have q2:(l2.length<=1000000)=True:=eq_true (by lia);have nle:∀l:List fU,iR (l.map bN)=ao:=λl=>wQ (λ_=>rfl) _
 have n1:=nle l1;have n2:=nle l2;have ne:=ajA (lv:=l2) λr hr=>nm r (sub r hr)
 clear h1 h2;cases l2 with
 |nil=>
  have ne:ji (.list (([]:List fU).map bN)) (.list [])=aa (.im (.bool aL)):=ne;refine gg ⟨C,here,xs,aa (.ow (.list [])),v10,?_,hh,wA _,hB.dec⟩;simp only[kj,BW] at c2 q2 n2 ne;simp only[Bt];simp_arith[c1,q1,n1,c2,q2,n2,ne]
 |cons r l2=>
  have ne:ji (.list ((r::l2).map bN)) (.list [])=aa (.im (.bool ao)):=ne
  obtain⟨t,C',e,t0,t1,hB'⟩:=dW (m:=((r::l2).length:Int)) (k:=j) hB (by rw[dw];lia) (by lia)
  obtain⟨x,ex,ix⟩:=Mu (xs:=(r::l2).map bN) t0 (by rw[bz];exact t1)
  rw[iG] at ix;cases hz:(r::l2)[t.toNat]? with
  |none=>rw[hz] at ix;cases ix
  |some q=>
   rw[hz] at ix;cases ix;have mq:=sub q (qm hz);have g:(xs.length<1000000)=True:=eq_true (by lia);generalize hl2:r::l2=NQ at c2 q2 n2 ne e ex;refine gg ⟨C',q.2.2.1,xs++[q.1],aa (.ow (.list (NQ.map bN))),aa (.im (bN q)),?_,(nm q mq).2.1,by rw[dM];exact cz _,hB'⟩;simp only[bN] at ex;simp only[Bt,jf,cO,kj];simp_arith[c1,q1,n1,c2,q2,n2,ne,bz,e,ex,lG,o8,g];rfl
end
theorem ajB{C:Ce}{b L j:Nat}{zs:List Str}{ps:List (Str×Str)}{lv:List fU}(hB:Bl L C b (j+9))(hN:Names zs)(hP:iH zs ps)(p8:ps.length<=8)(lM:lv.length<=16)(nm:Fi lv){z a1 b1 h0:Str}{n day:Int}(hh:nameB h0=ao):
  ∃(xs:List Int)(here:Str)(C':Ce),KJ [.ce b,.im (.dict (bL (bZ ps))),.im (.list (lv.map bN)),.im (fZ z a1 b1 n),.im (.str h0),.im (.int day)] C=aa (.im (.tuple [.list (xs.map .int),.str here]),C')/\xs.length<=8/\nameB here=ao/\Bl L C' b j:=by
 refine hide λGG gg=>?_
 obtain⟨t,C1,e1,t0,t1,iY⟩:=dW (m:=9) (k:=j+8) hB (by decide) (by decide)
 obtain⟨env',C2,e2,here,xs,w8,w9,w10,he,hn,hl,hB2⟩:=ym (g:=dF 8) (body:=QD) (its:=jG 0 t.toNat) (env:=Bt b ps lv z a1 b1 h0 n day h0 [] aj aj aj) (C:=C1)
  (λi env C1=>∃here xs w8 w9 w10,env=Bt b ps lv z a1 b1 h0 n day here xs w8 w9 w10/\nameB here=ao/\xs.length<=i/\Bl L C1 b (j+(8-i)))
  ⟨h0,[],aj,aj,aj,rfl,hh,cz _,iY⟩ (λi d env C4 hd hI=>by
   obtain⟨here,xs,w8,w9,w10,rfl,hn,hl,hB⟩:=hI
   obtain⟨rfl,hi⟩:=Ac hd
   rw[show j+(8-i)=j+(8-(i+1))+1 by lia] at hB
   obtain⟨C5,M6,xs',x9,x10,e,hn',hl',tO⟩:=akO (z:=z) (a1:=a1) (b1:=b1) (h0:=h0) (n:=n) (day:=day) hN hP p8 lM nm hB (show xs.length<=100 by lia) hn (aa (.im (.int (0+(i:Int))))) w9 w10
   exact⟨_,.nx,_,C5,rfl,e,.inl rfl,M6,xs',_,_,_,rfl,hn',by lia,tO⟩)
 subst he;have rl:(jG 0 t.toNat).length=t.toNat:=by simp[jG]
 rw[rl] at hl;refine gg ⟨xs,here,C2,gw [aa (.ce b),aa (.im (.dict (bL (bZ ps)))),aa (.im (.list (lv.map bN))),aa (.im (fZ z a1 b1 n)),aa (.im (.str h0)),aa (.im (.int day)),aj,aj,aj,aj,aj] rfl rfl ?_ rfl (hB.eq hB2),by lia,hn,hB2.mono (by lia)⟩;simp only[Bt,kj] at e2;simp_arith[R7,e1,iJ,jH,xu (m:=t) (by lia) (by lia),e2]
theorem Ag{α:Type}(D:α->aC)(xs:List α)(lo hi:Option Int):jx (xs.map D) lo hi=(jx xs lo hi).map D:=by
 unfold jx;rw[bz,Zg,Zh]
theorem Ah{α:Type}(xs:List α)(lo hi:Option Int):(jx xs lo hi).length<=xs.length:=by
 unfold jx;rw[qu,BJ];lia
theorem uc(xs ys:List Int)(h:xs.length+ys.length<=1000):cu (.list (xs.map .int)) (.list (ys.map .int))=aa (.ow (.list ((xs++ys).map .int))):=by
 rw[jf];exact add_l (by rw[bz,bz];lia)
theorem ajC{C:Ce}{b L j:Nat}{xs:List Int}{lv:List fU}(hB:Bl L C b (j+3))(hl:xs.length<=8)(lM:lv.length<=16):
  ∃(ys:List Int)(C':Ce),Dd [.ce b,.im (.list (xs.map .int)),.im (.list (lv.map bN))] C=aa (.im (.list (ys.map .int)),C')/\ys.length<=50/\Bl L C' b j:=by
 refine hide λGG gg=>?_
 have c:=qX (T:=.one) (ft:=gC) (fe:=ZF) (fs:=[]) (C:=C) bN (λ_=>ao) (λr=>.int r.1) (l:=lv) λr _=>⟨[bN r],rfl,rfl,λ_=>⟨.im (.int r.1),_,by simp only[bN];simp_arith[fM,lq];rfl,rfl⟩⟩
 rw[zB.mpr λ_ _=>rfl,show lv.map (λr=>dN r.1)=(lv.map (·.1)).map .int by rw[gZ];rfl] at c;have nl:iR ((lv.map (·.1)).map dN)=ao:=wQ (λ_=>rfl) _;have q:((lv.map (·.1)).length<=1000000)=True:=eq_true (by rw[bz];lia);have nl1:(lv.map (·.1)).length<=16:=by rw[bz];exact lM
 generalize lv.map (·.1)=ns at c nl q nl1;have ad:cu (.list (ns.map .int)) (.list [.int 99,.int (-1)])=aa (.ow (.list ((ns++[99,-1]).map .int))):=uc ns [99,-1] (by show _+2<=_;lia);have ln:(ns++[99,-1]).length=ns.length+2:=by rw[dM];rfl
 generalize ns++[99,-1]=ms at ad ln
 obtain⟨t1,C1,e1,a1,b1,iY⟩:=dW (m:=(ms.length:Int)) (k:=j+2) hB (by lia) (by lia)
 obtain⟨x,ex,ix⟩:=Mu (xs:=ms.map dN) a1 (by rw[bz];exact b1)
 rw[iG] at ix
 obtain⟨k,hk,rfl⟩:=Bu.mp ix
 obtain⟨t2,C2,e2,a2,b2,hB2⟩:=dW (m:=(xs.length:Int)+1) (k:=j+1) iY (by lia) (by lia)
 obtain⟨t3,C3,e3,a3,b3,hB3⟩:=dW (m:=7) (k:=j) hB2 (by decide) (by decide)
 have d1:=Ag dN xs aj (aa t2);have l1:=Ah xs aj (aa t2);have d2:=Ag dN xs (aa t2) aj;have l2:=Ah xs (aa t2) aj;have d3:=Ag dN xs (aa (t2+1)) aj;have l3:=Ah xs (aa (t2+1)) aj;generalize jx xs aj (aa t2)=ah at d1 l1;generalize jx xs (aa t2) aj=be at d2 l2;generalize jx xs (aa (t2+1)) aj=bf at d3 l3;have d4:=Ag dN ah (aa (-1)) aj;have l4:=Ah ah (aa (-1)) aj;have d5:=Ag dN ah aj (aa (-1));have l5:=Ah ah aj (aa (-1));have d6:=Ag dN be aj (aa 1);have l6:=Ah be aj (aa 1);have d7:=Ag dN be (aa 1) aj;have l7:=Ah be (aa 1) aj;generalize jx ah (aa (-1)) aj=al at d4 l4;generalize jx ah aj (aa (-1))=ai at d5 l5;generalize jx be aj (aa 1)=b0 at d6 l6;generalize jx be (aa 1) aj=bs at d7 l7;have p1:=uc ah bf (by lia);have p2:=uc ah al (by lia);have p3:=uc (ah++al) be (by rw[dM];lia);have p4:=uc ai b0 (by lia);have p5:=uc (ai++b0) al (by rw[dM];lia);have p6:=uc (ai++b0++al) bs (by rw[dM,dM];lia);have p7:cu (.list (ai.map .int)) (.list [.int k])=aa (.ow (.list ((ai++[k]).map .int))):=uc ai [k] (by show _+1<=_;lia);have p8:=uc (ai++[k]) be (by rw[dM];show _+1+_<=_;lia);have p9:cu (.list (ah.map .int)) (.list [.int k])=aa (.ow (.list ((ah++[k]).map .int))):=uc ah [k] (by show _+1<=_;lia);have p10:=uc (ah++[k]) be (by rw[dM];show _+1+_<=_;lia);have rv:(xs.map dN).reverse=xs.reverse.map .int:=(List.map_reverse ..).symm;have ng:cu (.list [.list (xs.map .int),.list ((ah++bf).map .int),.list ((ah++al++be).map .int),.list (xs.reverse.map .int),.list ((ai++b0++al++bs).map .int)]) (.list [.list ((ai++[k]++be).map .int),.list ((ah++[k]++be).map .int)])=aa (.ow (.list [.list (xs.map .int),.list ((ah++bf).map .int),.list ((ah++al++be).map .int),.list (xs.reverse.map .int),.list ((ai++b0++al++bs).map .int),.list ((ai++[k]++be).map .int),.list ((ah++[k]++be).map .int)])):=add_l (tQ rfl);have m1:(ah++bf).length<=50:=by rw[dM];lia
 have m2:(ah++al++be).length<=50:=by rw[dM,dM];lia
 have m3:(ai++b0++al++bs).length<=50:=by rw[dM,dM,dM];lia
 have m4:(ai++[k]++be).length<=50:=by rw[dM,dM];show _+1+_<=_;lia
 have m5:(ah++[k]++be).length<=50:=by rw[dM,dM];show _+1+_<=_;lia
 have m6:xs.reverse.length<=50:=by rw[afW];lia
 generalize ah++bf=y1 at p1 ng m1;generalize ah++al++be=y2 at p3 ng m2;generalize ai++b0++al++bs=y3 at p6 ng m3;generalize ai++[k]++be=y4 at p8 ng m4;generalize ah++[k]++be=y5 at p10 ng m5;generalize xs.reverse=y6 at rv ng m6;have fin:∀(ys:List Int),ys.length<=50->fK [PyData.list (xs.map .int),.list (y1.map .int),.list (y2.map .int),.list (y6.map .int),.list (y3.map .int),.list (y4.map .int),.list (y5.map .int)] t3=aa (.list (ys.map .int))->GG:=λys yl Ff=>by
  refine gg ⟨ys,C3,gw [aa (.ce b),aa (.im (.list (xs.map .int))),aa (.im (.list (lv.map bN))),aj,aj,aj,aj,aj,aj] rfl rfl ?_ rfl (hB.eq hB3),yl,hB3⟩;simp_arith[R8,c,q,nl,vM,ad,bz,e1,ex,e2,fD,dJ,gB,nP,d1,d2,d3,d4,d5,d6,d7,p1,p2,p3,p4,p5,p6,p7,p8,p9,p10,MT,rv,lG,o8,lQ,jM,ng,e3,Ff]
 have cs:t3=0\/t3=1\/t3=2\/t3=3\/t3=4\/t3=5\/t3=6:=by lia
 rcases cs with rfl|rfl|rfl|rfl|rfl|rfl|rfl
 .exact fin xs (by lia) rfl
 .exact fin y1 m1 rfl
 .exact fin y2 m2 rfl
 .exact fin y6 m6 rfl
 .exact fin y3 m3 rfl
 .exact fin y4 m4 rfl
 .exact fin y5 m5 rfl
theorem aa5{C:Ce}(n:Nat):∀x:Bool,vf (n+1) [.im (.bool x),.im (.bool x)] C=aa (.im (.bool ao),C)
 |true=>ad3 (k:=2) (n:=2) (en:=[aa (.im (.bool ao)),aa (.im (.bool ao))]) (e1:=[aa (.im (.bool ao)),aa (.im (.bool ao))]) rfl rfl rfl rfl rfl
 |false=>ad3 (k:=2) (n:=2) (en:=[aa (.im (.bool aL)),aa (.im (.bool aL))]) (e1:=[aa (.im (.bool aL)),aa (.im (.bool aL))]) rfl rfl rfl rfl rfl
theorem amf:∀(lv:List fU),0<lv.length->lv.length<=16->∃lv':List fU,lv'.Perm lv/\Ab [.list (lv.map bN)]=aa (.ow (.list (lv'.map bN))):=by
 intro lv h0 h8;have hall:∀p∈lv.map bN,rH p=aa [ao,aL,aL,aL,ao,ao,ao]:=λp hp=>by
  obtain⟨q,_,rfl⟩:=gQ.mp hp
  rfl
 have hs:Av (lv.map bN)=aa (rJ (lv.map bN)):=by
  cases lv with
  |nil=>cases h0
  |cons r rs=>
   unfold Av;rw[bC (by rw[bz];lia),show intsOf ((r::rs).map bN)=aj from rfl,show strsOf ((r::rs).map bN)=aj from rfl]
   show(if(((r::rs).map bN).all λp=>decide (rH p=aa [ao,aL,aL,aL,ao,ao,ao]))=ao then aa (rJ ((r::rs).map bN)) else aj)=_
   exact bC (qw.mpr λp hp=>dZ (hall p hp))
 obtain⟨lv',p1,p2⟩:=Zu (aaH (ds:=lv.map bN) λd hd=>by obtain⟨p,_,rfl⟩:=gQ.mp hd;rfl)
 refine⟨lv',p1,?_⟩
 unfold Ab Gr;simp only[hs,p2,mW]
theorem akP{ws:List Wy}{n m:Int}{a c:Str}(nm:n≠m)(hw:ws=[(n,a,c),(m,c,a)]\/ws=[(m,c,a),(n,a,c)])(k:Int):j6 ws k=if k=n then aa (a,c) else if k=m then aa (c,a) else aj:=by
 have e1:(k=n)=(n=k):=propext eq_comm;have e2:(k=m)=(m=k):=propext eq_comm;simp only[e1,e2];rcases hw with rfl|rfl
 .rw[wJ,wJ];rfl
 .rw[wJ,wJ]
  show(if m=k then aa (c,a) else if n=k then aa (a,c) else aj)=_
  by_cases h:n=k
  .rw[bJ (λh2=>nm (h.trans h2.symm)),bC h,bC h]
  .rw[bJ h,bJ h]
theorem aa6{ws:List Wy}{n m:Int}{a c:Str}(nm:n≠m)(ac:a≠c)(hw:∀k,j6 ws k=if k=n then aa (a,c) else if k=m then aa (c,a) else aj){xs:List Int}(nd:xs.Nodup):jw ws a xs=aa c↔xs=[n]:=by
 match xs,nd with
 |[],_=>exact⟨λe=>absurd (gH e) ac,λe=>by cases e⟩
 |k::r,nd=>
  rw[jw,hw];by_cases h:k=n
  .subst h;rw[bC rfl,ir,bC rfl]
   match r,nd with
   |[],_=>exact⟨λ_=>rfl,λ_=>rfl⟩
   |k2::r,nd=>
    refine⟨λe=>?_,λe=>by cases e⟩
    rw[jw,hw] at e;have n1:k2≠k:=λe=>by subst e;simp at nd
    rw[bJ n1] at e;by_cases h2:k2=m
    .subst h2;rw[bC rfl,ir,bC rfl] at e
     match r,nd,e with
     |[],_,e=>exact absurd (gH e) ac
     |k3::r,nd,e=>
      rw[jw,hw,bJ (λe=>by subst e;simp at nd),bJ (λe=>by subst e;simp at nd)] at e;cases e
    .rw[bJ h2] at e;cases e
  .rw[bJ h]
   refine⟨λe=>?_,λe=>absurd (FW e).1 h⟩
   by_cases h2:k=m
   .rw[bC h2,ir,bJ (λe=>ac e.symm)] at e;cases e
   .rw[bJ h2] at e;cases e
theorem ab1{ws:List Wy}{n m:Int}{a c:Str}{side:Prop}[Decidable side](ns:¬side)(nm:n≠m)(ac:a≠c)(hw:∀k,j6 ws k=if k=n then aa (a,c) else if k=m then aa (c,a) else aj)(xs:List Int):rK ws side a c xs=decide (xs=[n]):=by
 unfold rK;rw[dY ns,bJ ac,oU];simp only[uR,uT,jX,decide_eq_true_eq]
 refine⟨λk=>(aa6 nm ac hw k.1).mp k.2,λk=>?_⟩
 subst k
 exact⟨by simp,(aa6 nm ac hw (by simp)).mpr rfl⟩
theorem ab2{ws:List Wy}{a:Str}{side:Prop}[Decidable side](ns:¬side)(xs:List Int):rK ws side a a xs=decide (xs=[]):=by
 unfold rK;rw[dY ns,bC rfl,oU];simp only[uR,uT,jX,decide_eq_true_eq]
 exact⟨λk=>k.2,λk=>⟨by rw[k];exact pH,k⟩⟩
abbrev rQ(b:Nat)(v1 v2:Option Vl)(a c:Str)(n m:Int)(v7:Option Vl)(ht:lV)(z a1 b1:Str)(v10 v11 cL:Option Vl):En:=
 [aa (.ce b),v1,v2,aa (.im (.str a)),aa (.im (.str c)),aa (.im (.int n)),aa (.im (.int m)),v7,aa (.im (lC ht)),aa (.im (fZ z a1 b1 5)),v10,v11,cL]
section
variable{C:Ce}{b:Nat}{v1 v2 v7:Option Vl}{zs:List Str}{ps:List (Str×Str)}{ht:lV}(hN:Names zs)(hP:iH zs ps)(hG:pK zs ps ht){a c z a1 b1:Str}{n m:Int}
include hN hP hG
theorem Mg{h s:Str}{xs due:List Int}(ns:nameB s=ao)(hl:xs.length<=60)(e:rK (mL ht (up ps z) 5 3 a1 b1) ((h=a1\/h=b1)\/(s=a1\/s=b1)) h s xs=decide (xs=due)):Ys (rQ b v1 v2 a c n m v7 ht z a1 b1 (aa (.im (.list (xs.map .int)))) (aa (.im (.tuple [.str h,.str s]))) (aa (.im (.list (due.map .int))))) C=aa (.nx,rQ b v1 v2 a c n m v7 ht z a1 b1 (aa (.im (.list (xs.map .int)))) (aa (.im (.tuple [.str h,.str s]))) (aa (.im (.list (due.map .int)))),C):=by
 have r:=TQ (C:=C) hN hP hG z a1 b1 5 3 h s xs hl ns;rw[e] at r;have q:iD (.list (xs.map .int)) (.list (due.map .int))=aa (.im (.bool (decide (xs=due)))):=by
  unfold iD;rw[Li];rfl
 have sm:=aa5 (C:=C) 2 (decide (xs=due));simp only[rQ];simp_arith[yx,r,q,sm]
end
theorem Dg{g:FG}{b:FS}{d:aC}{r:List aC}{env e1 e2:En}{C C2:Ce}(h1:g d env=aa e1)(h2:b e1 C=aa (.nx,e2,C2)):kO g b (d::r) env C=kO g b r e2 C2:=by
 rw[kO];simp only[h1,h2]
section
variable{C:Ce}{b:Nat}{v1 v2 v7:Option Vl}{zs:List Str}{ps:List (Str×Str)}{ht:lV}(hN:Names zs)(hP:iH zs ps)(hG:pK zs ps ht){a c z a1 b1:Str}{n m:Int}
include hN hP hG
theorem ajD(na:nameB a=ao)(nc:nameB c=ao)(sa:¬(a=a1\/a=b1))(sc:¬(c=a1\/c=b1))(nm:n≠m)(ac:a≠c)(hw:∀k,j6 (mL ht (up ps z) 5 3 a1 b1) k=if k=n then aa (a,c) else if k=m then aa (c,a) else aj){xs:List Int}(hl:xs.length<=60)(v11 cL:Option Vl):∃w11 w12,Pq (rQ b v1 v2 a c n m v7 ht z a1 b1 (aa (.im (.list (xs.map .int)))) v11 cL) C=aa (.nx,rQ b v1 v2 a c n m v7 ht z a1 b1 (aa (.im (.list (xs.map .int)))) w11 w12,C):=by
 have hw':∀k,j6 (mL ht (up ps z) 5 3 a1 b1) k=if k=m then aa (c,a) else if k=n then aa (a,c) else aj:=λk=>by
  rw[hw];by_cases h:k=n
  .rw[bC h,bJ (λh2=>nm (h.symm.trans h2)),bC h]
  .rw[bJ h,bJ h]
 have nn:∀{x y:Str},¬(x=a1\/x=b1)->¬(y=a1\/y=b1)->¬((x=a1\/x=b1)\/(y=a1\/y=b1)):=λh1 h2 k=>k.elim h1 h2
 have r1:=Mg (C:=C) (b:=b) (v1:=v1) (v2:=v2) (v7:=v7) (a:=a) (c:=c) (n:=n) (m:=m) hN hP hG (h:=a) (s:=c) (due:=[n]) nc hl (ab1 (nn sa sc) nm ac hw xs);have r2:=Mg (C:=C) (b:=b) (v1:=v1) (v2:=v2) (v7:=v7) (a:=a) (c:=c) (n:=n) (m:=m) hN hP hG (h:=c) (s:=a) (due:=[m]) na hl (ab1 (nn sc sa) (kI nm) (kI ac) hw' xs);have r3:=Mg (C:=C) (b:=b) (v1:=v1) (v2:=v2) (v7:=v7) (a:=a) (c:=c) (n:=n) (m:=m) hN hP hG (z:=z) (h:=a) (s:=a) (due:=[]) na hl (ab2 (nn sa sa) xs);have r4:=Mg (C:=C) (b:=b) (v1:=v1) (v2:=v2) (v7:=v7) (a:=a) (c:=c) (n:=n) (m:=m) hN hP hG (z:=z) (h:=c) (s:=c) (due:=[]) nc hl (ab2 (nn sc sc) xs)
 refine⟨aa (.im (.tuple [.str c,.str c])),aa (.im (.list [])),?_⟩
 have it:Iv (dj (au (fV (au (fV (au (aM 3) (au (aM 4) aR))) (au (dj (au (aM 5) aR)) aR))) (au (fV (au (fV (au (aM 4) (au (aM 3) aR))) (au (dj (au (aM 6) aR)) aR))) (au (fV (au (fV (au (aM 3) (au (aM 3) aR))) (au (dj aR) aR))) (au (fV (au (fV (au (aM 4) (au (aM 4) aR))) (au (dj aR) aR))) aR))))) (rQ b v1 v2 a c n m v7 ht z a1 b1 (aa (.im (.list (xs.map .int)))) v11 cL) C=aa ([.tuple [.tuple [.str a,.str c],.list [.int n]],.tuple [.tuple [.str c,.str a],.list [.int m]],.tuple [.tuple [.str a,.str a],.list []],.tuple [.tuple [.str c,.str c],.list []]],rQ b v1 v2 a c n m v7 ht z a1 b1 (aa (.im (.list (xs.map .int)))) v11 cL,C):=rfl
 exact(Hg it).trans ((Dg rfl r1).trans ((Dg rfl r2).trans ((Dg rfl r3).trans ((Dg rfl r4).trans rfl))))
theorem aau(na:nameB a=ao)(nc:nameB c=ao)(sa:¬(a=a1\/a=b1))(sc:¬(c=a1\/c=b1))(nm:n≠m)(ac:a≠c)(hw:∀k,j6 (mL ht (up ps z) 5 3 a1 b1) k=if k=n then aa (a,c) else if k=m then aa (c,a) else aj):∀(ts:List (List Int))(v10 v11 cL:Option Vl),(∀xs∈ts,xs.length<=60)->∃w10 w11 w12,kO (dF 10) Pq (ts.map λxs=>.list (xs.map .int)) (rQ b v1 v2 a c n m v7 ht z a1 b1 v10 v11 cL) C=aa (.nx,rQ b v1 v2 a c n m v7 ht z a1 b1 w10 w11 w12,C)
 |[],v10,v11,cL,_=>⟨v10,v11,cL,rfl⟩
 |xs::ts,v10,v11,cL,hl=>by
  obtain⟨x11,x12,e⟩:=ajD (C:=C) (b:=b) (v1:=v1) (v2:=v2) (v7:=v7) hN hP hG na nc sa sc nm ac hw (hl xs dH) v11 cL
  obtain⟨w10,w11,w12,e2⟩:=aau na nc sa sc nm ac hw ts (aa (.im (.list (xs.map .int)))) x11 x12 (λx h=>hl x (gh _ h))
  refine⟨w10,w11,w12,?_⟩
  rw[cO,kO];simp only[rQ,dF,aga,agb] at e e2⊢;simp only[e,e2]
end
theorem adL{α:Type}{l:List α}(h:l.length=2):∃a b,l=[a,b]:=by
 cases l with
 |nil=>cases h
 |cons a l=>
  cases l with
  |nil=>cases h
  |cons b l=>
   cases l with
   |nil=>exact⟨a,b,rfl⟩
   |cons c l=>cases h
theorem amg{α:Type}{l:List α}(h:l.length=4):∃a b c d,l=[a,b,c,d]:=by
 cases l with
 |nil=>cases h
 |cons a l=>
  cases l with
  |nil=>cases h
  |cons b l=>
   obtain⟨c,d,rfl⟩:=adL (l:=l) (Ge (Ge h))
   exact⟨a,b,c,d,rfl⟩
theorem amh{C:Ce}{b L j:Nat}(hB:Bl L C b (j+120)):∃C',JK [.ce b] C=aa (.im (.bool ao),C')/\Bl L C' b j:=by
 refine hide λGG gg=>?_
 obtain⟨zs,C1,e1,hN,h8,iY⟩:=abT (m:=8) (j:=j+108) hB (by decide) (by decide)
 have h8:zs.length=8:=h8
 obtain⟨ns,C2,e2,nl,hn,rise,hB2⟩:=aaY (j:=j+7) (m:=4) iY (by decide) (by decide)
 have nl:ns.length=4:=nl
 obtain⟨nu,C3,e3,pn,hB3⟩:=al9 (D:=dN) akM (xs:=ns) (j:=j+3) (by lia) (hB2.mono (by lia))
 have nul:nu.length=4:=by rw[pn.length_eq,nl]
 have aps:nu.Nodup:=pn.nodup_iff.mpr (rise.imp λh=>ahI h)
 obtain⟨z,mz,iz,xz⟩:=GQ (zs:=zs) (k:=0) (by lia)
 obtain⟨a,ma,ia,xa⟩:=GQ (zs:=zs) (k:=1) (by lia)
 obtain⟨c,mc,ic,xc⟩:=GQ (zs:=zs) (k:=2) (by lia)
 obtain⟨a1,m1,i1,x1⟩:=GQ (zs:=zs) (k:=3) (by lia)
 obtain⟨b1,m2,i2,x2⟩:=GQ (zs:=zs) (k:=4) (by lia)
 have xz:fK (zs.map fB) 0=aa (.str z):=xz;have xa:fK (zs.map fB) 1=aa (.str a):=xa;have xc:fK (zs.map fB) 2=aa (.str c):=xc;have x1:fK (zs.map fB) 3=aa (.str a1):=x1;have x2:fK (zs.map fB) 4=aa (.str b1):=x2;have uL:∀{i j x y},zs[i]?=aa x->zs[j]?=aa y->i≠j->x≠y:=λ{i j x y} h1 h2 k e=>k (adI hN.1 h1 (by rw[e];exact h2))
 obtain⟨n,m,n3,n4,rfl⟩:=amg nul
 have nm:n≠m:=λe=>by subst e;simp at aps
 have hn1:=hn n (pn.mem_iff.mp dH);have hm1:=hn m (pn.mem_iff.mp (gh _ dH))
 obtain⟨lv,pm,e4⟩:=amf [(n,a,c,z,0,9,9),(m,c,a,z,0,9,9)] (tQ rfl) (tQ rfl)
 have cs:lv=[(n,a,c,z,0,9,9),(m,c,a,z,0,9,9)]\/lv=[(m,c,a,z,0,9,9),(n,a,c,z,0,9,9)]:=by
  have l2:lv.length=2:=pm.length_eq
  obtain⟨x,y,rfl⟩:=adL l2
  .have hx:=pm.mem_iff.mp (dH (a:=x) (l:=[y]));have hy:=pm.mem_iff.mp (gh x (dH (a:=y) (l:=[])));have nd:[x,y].Nodup:=pm.nodup_iff.mpr (by simp[nm]);simp only[cM,mV,or_false] at hx hy;rcases hx with rfl|rfl
   .rcases hy with rfl|rfl
    .simp at nd
    .exact .inl rfl
   .rcases hy with rfl|rfl
    .exact .inr rfl
    .simp at nd
 have hP:iH zs [(z,eZ "")]:=λi x e=>by
  cases i with
  |zero=>cases e;exact⟨iz,.inl rfl⟩
  |succ i=>cases e
 obtain⟨ps',p1,e5⟩:=ZZ (C:=C3) (ps:=[(z,eZ "")]) (tQ rfl) (tQ rfl) lv
 have ok:∀r∈lv,Ad zs [z] r/\jl [z] 5 3 a1 b1 r=ao:=λr hr=>by
  have hr:=pm.mem_iff.mp hr;simp only[cM,mV,or_false] at hr;have lt:∀{k:Int}{x y:Str},¬(x=a1\/x=b1)->¬(y=a1\/y=b1)->jl [z] 5 3 a1 b1 (k,x,y,z,0,9,9)=ao:=λ{k x y} h1 h2=>by
   unfold jl;rw[dY (show ¬((k,x,y,z,(0:Int),(9:Int),(9:Int)).2.1=a1\/_) from h1),dY (show ¬((k,x,y,z,(0:Int),(9:Int),(9:Int)).2.2.1=a1\/_) from h2),dZ (show(k,x,y,z,(0:Int),(9:Int),(9:Int)).2.2.2.1∈[z] from dH)];rfl
  have sa:¬(a=a1\/a=b1):=λk=>k.elim (uL ia i1 (by decide)) (uL ia i2 (by decide))
  have sc:¬(c=a1\/c=b1):=λk=>k.elim (uL ic i1 (by decide)) (uL ic i2 (by decide))
  rcases hr with rfl|rfl
  .exact⟨⟨hn1,ma,mc,uL ia ic (by decide),dH,⟨ye 0,by show(0:Int)<=9;decide,by show(9:Int)<=99999;decide⟩,⟨by show(0:Int)<=9;decide,by show(9:Int)<=1000000000;decide⟩⟩,lt sa sc⟩
  .exact⟨⟨hm1,mc,ma,uL ic ia (by decide),dH,⟨ye 0,by show(0:Int)<=9;decide,by show(9:Int)<=99999;decide⟩,⟨by show(0:Int)<=9;decide,by show(9:Int)<=1000000000;decide⟩⟩,lt sc sa⟩
 have hG:pK zs [(z,eZ "")] ⟨ps',[],lv,[]⟩:=adH p1 (tQ rfl) (by rw[pm.length_eq];exact(tQ rfl)) (λr h=>(ok r h).1) ((pm.map (·.1)).nodup_iff.mpr (by simp[nm]));have up0:up [(z,eZ "")] z=[z]:=by
  have u:=alJ hN hP (z:=z) (w:=eZ "") ((uX (Cz hN hP)).mpr dH);rw[u,alK];have:z≠eZ "":=λe=>by
   have:=hN.2 z mz;rw[e] at this;cases this
  unfold jh;simp[this]
 have hw:∀k,j6 (mL ⟨ps',[],lv,[]⟩ (up [(z,eZ "")] z) 5 3 a1 b1) k=if k=n then aa (a,c) else if k=m then aa (c,a) else aj:=by
  rw[up0];unfold mL;rw[zB.mpr λr hr=>(ok r hr).2];refine akP nm ?_;rcases cs with rfl|rfl
  .exact .inl rfl
  .exact .inr rfl
 obtain⟨w10,w11,w12,e6⟩:=aau (C:=C3) (b:=b) (v1:=aa (.ow (.list (zs.map .str)))) (v2:=aa (.ow (.list ([n,m,n3,n4].map .int)))) (v7:=aa (.ow (.list (lv.map bN)))) hN hP hG (hN.2 a ma) (hN.2 c mc) (λk=>k.elim (uL ia i1 (by decide)) (uL ia i2 (by decide))) (λk=>k.elim (uL ic i1 (by decide)) (uL ic i2 (by decide))) nm (uL ia ic (by decide)) hw [[],[n],[m],[n,m],[m,n],[n,m,n],[m,n,m],[n,n],[n,m,n,m],[n,m,m]] aj aj aj (by simp)
 refine gg ⟨C3,gw [aa (.ce b),aj,aj,aj,aj,aj,aj,aj,aj,aj,aj,aj,aj] rfl rfl ?_ rfl (hB.eq hB3),hB3.mono (by lia)⟩
 refine(congrArg (Kd λp=>(p.1,p.2.2)) (?_:Qq _ C=aa (.rt (.im (.bool ao)),rQ b (aa (.ow (.list (zs.map .str)))) (aa (.ow (.list ([n,m,n3,n4].map .int)))) a c n m (aa (.ow (.list (lv.map bN)))) ⟨ps',[],lv,[]⟩ z a1 b1 w10 w11 w12,C3))).trans rfl
 refine(vC (e1:=[aa (.ce b),aa (.ow (.list (zs.map .str))),aa (.ow (.list ([n,m,n3,n4].map .int))),aj,aj,aj,aj,aj,aj,aj,aj,aj,aj]) (C1:=C3) ?_).trans ?_
 .simp_arith[e1,e2,e3]
 refine(vC (e1:=[aa (.ce b),aa (.ow (.list (zs.map .str))),aa (.ow (.list ([n,m,n3,n4].map .int))),aa (.im (.str a)),aa (.im (.str c)),aa (.im (.int n)),aa (.im (.int m)),aj,aj,aj,aj,aj,aj]) (C1:=C3) ?_).trans ?_
 .have y0:fK ([n,m,n3,n4].map dN) 0=aa (.int n):=rfl;have y1:fK ([n,m,n3,n4].map dN) 1=aa (.int m):=rfl
  generalize[n,m,n3,n4].map dN=nd at y0 y1
  simp_arith[xa,xc,y0,y1]
 generalize[n,m,n3,n4].map dN=nd at e6⊢
 refine(vC (e1:=[aa (.ce b),aa (.ow (.list (zs.map .str))),aa (.ow (.list nd)),aa (.im (.str a)),aa (.im (.str c)),aa (.im (.int n)),aa (.im (.int m)),aa (.ow (.list (lv.map bN))),aj,aj,aj,aj,aj]) (C1:=C3) ?_).trans ?_
 .simp only[cO,kj,bN] at e4;simp_arith[xz,e4]
 refine(vC (e1:=rQ b (aa (.ow (.list (zs.map .str)))) (aa (.ow (.list nd))) a c n m (aa (.ow (.list (lv.map bN)))) ⟨ps',[],lv,[]⟩ z a1 b1 aj aj aj) (C1:=C3) ?_).trans ?_
 .have e5:zX [.im (.dict [(.str z,.str (eZ ""))]),.im (.list (lv.map bN))] C3=aa (.im (lC ⟨ps',[],lv,[]⟩),C3):=e5;have kd:dm (.str z)=aa (.inr z):=rfl;generalize lv.map bN=ld at e5;simp only[rQ];simp_arith[xz,x1,x2,Ek,kd,e5,acX]
 refine(vC ((Hg ?_).trans e6)).trans ?_
 .rfl
 .rfl
theorem aa7{ws:List Wy}{n:Int}{b:Str}{l2:List Int}:∀{l1:List Int}{a:Str},jK ws a (l1++n::l2) b->∃x y,(n,x,y)∈ws/\jK ws y l2 b
 |[],a,h=>by
  cases h with
  |cons hw hr=>exact⟨_,_,hw,hr⟩
 |k::l1,a,h=>by
  cases h with
  |cons hw hr=>exact aa7 hr
theorem ajE{ws:List Wy}(hU:∀w∈ws,∀w'∈ws,w.1=w'.1->w=w'){a b:Str}{r:List Int}(h:jK ws a r b):∃r',jK ws a r' b/\r'.Nodup/\r'.length<=r.length/\(r'.length=r.length->r'=r):=by
 induction h with
 |nil p=>exact⟨[],.nil p,pH,cz _,λ_=>rfl⟩
 |cons hw _ ih=>
  rename_i n p q s r _
  obtain⟨r0,h0,nd,le,eq⟩:=ih
  by_cases m:n∈r0
  .obtain⟨l1,l2,rfl⟩:=List.append_of_mem m
   obtain⟨x,y,hxy,h2⟩:=aa7 h0
   have e:=hU _ hw _ hxy rfl;injection e with _ e
   injection e with e1 e2
   subst e1 e2
   refine⟨n::l2,.cons hw h2,(lO.mp nd).2.1,?_,λk=>?_⟩
   .rw[dM,dw] at le;rw[dw,dw];lia
   .rw[dM,dw] at le;rw[dw,dw] at k;lia
  .refine⟨n::r0,.cons hw h0,jL.mpr ⟨m,nd⟩,Yl le,λk=>?_⟩
   rw[eq (Ge k)]
theorem ami{ws:List Wy}(nd:(ws.map (·.1)).Nodup):∀{n:Int}{p q:Str},(n,p,q)∈ws->j6 ws n=aa (p,q):=by
 induction ws with
 |nil=>intro n p q h;cases h
 |cons w ws ih=>
  intro n p q h;rw[wJ];rw[cO,jL] at nd;rcases cM.mp h with rfl|h
  .rw[bC rfl]
  .rw[bJ λe=>nd.1 (gQ.mpr ⟨_,h,e.symm⟩)];exact ih nd.2 h
theorem akQ{ws:List Wy}(nd:(ws.map (·.1)).Nodup){a b:Str}{r:List Int}(h:jK ws a r b):jw ws a r=aa b:=by
 induction h with
 |nil p=>rfl
 |cons hw _ ih=>rw[jw,ami nd hw,ir,bC rfl];exact ih
theorem amj{C:Ce}{ws:List (Int×Str×Str)}{h s:Str}{r:List Int}(hl:ws.length<=60)(R:nA ws h s r):r.length<=60:=by
 obtain⟨st,_,B⟩:=abX (C:=C) (ws:=ws.map Hz) (s:=h) (by rw[bz];exact hl)
 obtain⟨p,hp,pl⟩:=B.aku ⟨r,R.1⟩
 rcases R.2 p hp with k|k<;>lia
theorem anF{ws:List Wy}{side:Prop}[Decidable side]{h s:Str}{r:List Int}(ns:¬side)(nd:(ws.map (·.1)).Nodup)(hU:∀w∈ws,∀w'∈ws,w.1=w'.1->w=w')(R:nA ws h s r):rK ws side h s r=ao:=by
 obtain⟨r',h1,h2,h3,h4⟩:=ajE hU R.1
 have:r.length<=r'.length:=by rcases R.2 r' h1 with k|k<;>lia
 have e:=h4 (by lia);rw[e] at h2;unfold rK;rw[dY ns,dZ h2];by_cases k:h=s
 .subst k;have:=nA.unique R (nA.self ws h);rw[bC rfl,this];rfl
 .rw[bJ k,akQ nd R.1];simp
abbrev jV(ns:List Int)(v1:Option Vl)(b:Nat)(ps:List (Str×Str))(v4:Option Vl)(lv:List fU)(z a1 b1:Str)(n day:Int)(ht:lV)(ev:List Str)(v10 v11 cL lN lH jR jT jU jn:Option Vl):En:=
 [aa (.sc ns),v1,aa (.ce b),aa (.im (.dict (bL (bZ ps)))),v4,aa (.im (.list (lv.map bN))),aa (.im (fZ z a1 b1 n)),aa (.im (.int day)),aa (.im (lC ht)),aa (.ow (.list (ev.map .str))),v10,v11,cL,lN,lH,jR,jT,jU,jn]
section
variable{C:Ce}{ns:List Int}{v1 v4:Option Vl}{b L:Nat}{zs ev:List Str}{ps ps':List (Str×Str)}{lv:List fU}(hN:Names zs)(hP:iH zs ps)(hG:pK zs ps ⟨ps',[],lv,[]⟩){z a1 b1:Str}{n day:Int}
include hN hP hG
theorem ab3{h s:Str}(nh:nameB h=ao)(hs:nameB s=ao){xs:List Int}(hl:xs.length<=60)(v10 cL jR jT jU jn:Option Vl):∃w15 w16 w17,Tv (jV ns v1 b ps v4 lv z a1 b1 n day ⟨ps',[],lv,[]⟩ ev v10 (aa (.im (.str h))) cL (aa (.im (.str s))) (aa (.im (.list (xs.map .int)))) jR jT jU jn) C=aa (.nx,jV ns v1 b ps v4 lv z a1 b1 n day ⟨ps',[],lv,[]⟩ ev v10 (aa (.im (.str h))) cL (aa (.im (.str s))) (aa (.im (.list (xs.map .int)))) w15 w16 w17 jn,C):=by
 have r1:=TQ (C:=C) hN hP hG z a1 b1 n day h s xs hl hs;have r2:=ajz (C:=C) hN hP hG.p8 hG.N7 (z:=z) (a1:=a1) (b1:=b1) (n:=n) (day:=day) (lR hG.lM (by decide)) nh hs xs hl;have r2:Gk [.im (.dict (bL (bZ ps))),.im (.list (lv.map bN)),.im (fZ z a1 b1 n),.im (.tuple [.str h,.str s]),.im (.int day),.im (.list (xs.map .int))] C=aa (.im (.bool (rK (mL ⟨ps',[],lv,[]⟩ (up ps z) n day a1 b1) ((h=a1\/h=b1)\/(s=a1\/s=b1)) h s xs)),C):=r2;generalize rK (mL ⟨ps',[],lv,[]⟩ (up ps z) n day a1 b1) ((h=a1\/h=b1)\/(s=a1\/s=b1)) h s xs=v at r1 r2;have sm:=aa5 (C:=C) 2 v;have ne:ji (.list (xs.map .int)) (.list (xs.map .int))=aa (.im (.bool aL)):=by
  unfold ji;rw[Li,dZ rfl];rfl
 refine⟨aa (.ow (.list (xs.map .int))),aa (.im (.bool v)),aa (.im (.bool v)),?_⟩
 simp only[jV];simp_arith[yx,r1,r2,sm,ne]
theorem amk{h s:Str}(hs:nameB s=ao):∃o,Dj [.im (lC ⟨ps',[],lv,[]⟩),.im (fZ z a1 b1 n),.im (.str h),.im (.str s),.im (.int day)] C=aa (Ey o,C)/\∀r,o=aa r->wI [.im (lC ⟨ps',[],lv,[]⟩),.im (fZ z a1 b1 n),.im (.str h),.im (.str s),.im (.int day),.im (.list (r.map .int))] C=aa (.im (.bool ao),C):=by
 obtain⟨o,e,h1,h2⟩:=akK (C:=C) hN hP hG z a1 b1 n day h s
 refine⟨o,e,λr ho=>?_⟩
 subst ho;have ad7:¬((h=a1\/h=b1)\/(s=a1\/s=b1)):=λk=>nomatch h1 k
 have R:nA (mL ⟨ps',[],lv,[]⟩ (up ps z) n day a1 b1) h s r:=h2 ad7;have hl:=amj (C:=C) (TJ hG (up ps z) n day a1 b1) R;have r1:=TQ (C:=C) hN hP hG z a1 b1 n day h s r hl hs;rw[anF ad7 (aa3 hG (up ps z) n day a1 b1) (Z0 hG (up ps z) n day a1 b1) R] at r1;exact r1
end
theorem aml{C:Ce}{ns:List Int}{v1 v4:Option Vl}{b L j:Nat}{zs ev:List Str}{ps ps':List (Str×Str)}{lv:List fU}(hB:Bl L C b (j+15))(hN:Names zs)(hP:iH zs ps)(hG:pK zs ps ⟨ps',[],lv,[]⟩)(nm:Fi lv)(rP:0<ev.length)(ev1:ev.length<=20)(en:∀x∈ev,nameB x=ao){z a1 b1:Str}{n day:Int}(v10 v11 cL lN lH jR jT jU jn:Option Vl):
  ∃C' w11 w12 w13 w14 w15 w16 w17 w18,Gw (jV ns v1 b ps v4 lv z a1 b1 n day ⟨ps',[],lv,[]⟩ ev v10 v11 cL lN lH jR jT jU jn) C=aa (.nx,jV ns v1 b ps v4 lv z a1 b1 n day ⟨ps',[],lv,[]⟩ ev v10 w11 w12 w13 w14 w15 w16 w17 w18,C')/\Bl L C' b j:=by
 refine hide λGG gg=>?_
 have lM:lv.length<=16:=hG.lM
 obtain⟨t1,C1,e1,a0,a1',iY⟩:=dW (m:=(ev.length:Int)) (k:=j+14) hB (by lia) (by lia)
 obtain⟨h,mh,_,xh⟩:=q9 (zs:=ev) a0 a1'
 have nh:=en h mh
 obtain⟨xs,here,C2,e2,xl,aoE,hB2⟩:=ajB (j:=j+5) iY hN hP hG.p8 lM nm (z:=z) (a1:=a1) (b1:=b1) (n:=n) (day:=day) nh
 obtain⟨t2,C3,e3,b0,Xb,hB3⟩:=dW (m:=6) (k:=j+4) hB2 (by decide) (by decide)
 have sub:∀(s:Str)(C4:Ce),nameB s=ao->Bl L C4 b (j+3)->(gY (c7 (aP iD (az (bH cA (au (aM 2) (au (aN (.int 6)) aR)))) (az (aN (.int 0))))) (cQ 13 (aP bI (aH 9) (az (bH cA (au (aM 2) (au (eY kW (cZ (aH 9) eN)) aR)))))) iC (jV ns v1 b ps v4 lv z a1 b1 n day ⟨ps',[],lv,[]⟩ ev v10 (aa (.im (.str h))) (aa (.im (.list (xs.map .int)))) (aa (.im (.str here))) lH jR jT jU jn) C2=aa (.nx,jV ns v1 b ps v4 lv z a1 b1 n day ⟨ps',[],lv,[]⟩ ev v10 (aa (.im (.str h))) (aa (.im (.list (xs.map .int)))) (aa (.im (.str s))) lH jR jT jU jn,C4))->GG:=λs C4 Xk qN run=>by
  obtain⟨ys,C5,e5,yl,tO⟩:=ajC (xs:=xs) (lv:=lv) qN xl lM
  obtain⟨x15,x16,x17,k1⟩:=ab3 (C:=C5) (ns:=ns) (v1:=v1) (v4:=v4) (b:=b) (ev:=ev) hN hP hG (z:=z) (a1:=a1) (b1:=b1) (n:=n) (day:=day) nh Xk (xs:=xs) (by lia) v10 (aa (.im (.list (xs.map .int)))) jR jT jU jn
  obtain⟨y15,y16,Oe,k2⟩:=ab3 (C:=C5) (ns:=ns) (v1:=v1) (v4:=v4) (b:=b) (ev:=ev) hN hP hG (z:=z) (a1:=a1) (b1:=b1) (n:=n) (day:=day) nh Xk (xs:=ys) (by lia) v10 (aa (.im (.list (xs.map .int)))) x15 x16 x17 jn
  obtain⟨o,e6,e7⟩:=amk (C:=C5) hN hP hG (z:=z) (a1:=a1) (b1:=b1) (n:=n) (day:=day) (h:=h) Xk
  have it:iV (fV (au (aM 12) (au (bH Dd (au (aM 2) (au (aM 12) (au (aM 5) aR)))) aR))) (jV ns v1 b ps v4 lv z a1 b1 n day ⟨ps',[],lv,[]⟩ ev v10 (aa (.im (.str h))) (aa (.im (.list (xs.map .int)))) (aa (.im (.str s))) lH jR jT jU jn) C4=aa ([.list (xs.map .int),.list (ys.map .int)],jV ns v1 b ps v4 lv z a1 b1 n day ⟨ps',[],lv,[]⟩ ev v10 (aa (.im (.str h))) (aa (.im (.list (xs.map .int)))) (aa (.im (.str s))) lH jR jT jU jn,C5):=by
   simp only[jV];simp_arith[e5]
  have lp:iJ (iV (fV (au (aM 12) (au (bH Dd (au (aM 2) (au (aM 12) (au (aM 5) aR)))) aR)))) (dF 14) Tv (jV ns v1 b ps v4 lv z a1 b1 n day ⟨ps',[],lv,[]⟩ ev v10 (aa (.im (.str h))) (aa (.im (.list (xs.map .int)))) (aa (.im (.str s))) lH jR jT jU jn) C4=aa (.nx,jV ns v1 b ps v4 lv z a1 b1 n day ⟨ps',[],lv,[]⟩ ev v10 (aa (.im (.str h))) (aa (.im (.list (xs.map .int)))) (aa (.im (.str s))) (aa (.im (.list (ys.map .int)))) y15 y16 Oe jn,C5):=by
   refine(Hg it).trans ?_
   exact(Dg rfl k1).trans ((Dg rfl k2).trans rfl)
  have st:Gw (jV ns v1 b ps v4 lv z a1 b1 n day ⟨ps',[],lv,[]⟩ ev v10 v11 cL lN lH jR jT jU jn) C=(bD (cQ 18 (bH Dj (au (aM 8) (au (aM 6) (au (aM 11) (au (aM 13) (au (aM 7) aR))))))) (gY (ni (c7 (aP DN (aH 18) (az (aN .none)))) (c7 (aP G9 (az (bH wI (au (aM 8) (au (aM 6) (au (aM 11) (au (aM 13) (au (aM 7) (au (aM 18) aR)))))))) (az (aN (.bool ao)))))) (eO (aN (.bool aL))) iC)) (jV ns v1 b ps v4 lv z a1 b1 n day ⟨ps',[],lv,[]⟩ ev v10 (aa (.im (.str h))) (aa (.im (.list (xs.map .int)))) (aa (.im (.str s))) (aa (.im (.list (ys.map .int)))) y15 y16 Oe jn) C5:=by
   refine(vC (e1:=jV ns v1 b ps v4 lv z a1 b1 n day ⟨ps',[],lv,[]⟩ ev v10 (aa (.im (.str h))) cL lN lH jR jT jU jn) (C1:=C1) ?_).trans ?_
   .simp only[jV];simp_arith[bz,e1,xh]
   refine(vC (e1:=jV ns v1 b ps v4 lv z a1 b1 n day ⟨ps',[],lv,[]⟩ ev v10 (aa (.im (.str h))) (aa (.im (.list (xs.map .int)))) (aa (.im (.str here))) lH jR jT jU jn) (C1:=C2) ?_).trans ?_
   .simp only[jV];simp_arith[e2]
   exact(vC run).trans (vC lp)
  cases o with
  |none=>
   simp only[Ey] at e6;refine gg ⟨C5,aa (.im (.str h)),aa (.im (.list (xs.map .int))),aa (.im (.str s)),aa (.im (.list (ys.map .int))),y15,y16,Oe,aa (.im .none),st.trans ?_,tO⟩;simp only[jV];simp_arith[e6,DN,isNone]
  |some r=>
   have e7:=e7 r rfl;have nb:G9 (.bool ao) (.bool ao)=aa (.im (.bool aL)):=rfl;simp only[Ey] at e6;refine gg ⟨C5,aa (.im (.str h)),aa (.im (.list (xs.map .int))),aa (.im (.str s)),aa (.im (.list (ys.map .int))),y15,y16,Oe,aa (.ow (.list (r.map .int))),st.trans ?_,tO⟩;simp only[jV];simp_arith[e6,DN,isNone,e7,nb]
 by_cases c:t2=0
 .have hd:(t2==0)=ao:=beq_iff_eq.mpr c
  obtain⟨t3,C4,e4,c0,c1,qN⟩:=dW (m:=(ev.length:Int)) (k:=j+3) hB3 (by lia) (by lia)
  obtain⟨s,ms,_,xs'⟩:=q9 (zs:=ev) c0 c1
  refine sub s C4 (en s ms) qN ?_;simp only[jV];simp_arith[e3,hd,bz,e4,xs']
 .have hd:(t2==0)=aL:=beq_eq_false_iff_ne.mpr c;refine sub here C3 aoE hB3.dec ?_;simp only[jV];simp_arith[e3,hd]
inductive LA(ns:List Int):En->Prop
 |mk (v1 v2 v3 v4 v5 v6 v7 v8 v9 v10 v11 cL lN lH jR jT jU jn:Option Vl):LA ns [aa (.sc ns),v1,v2,v3,v4,v5,v6,v7,v8,v9,v10,v11,cL,lN,lH,jR,jT,jU,jn]
inductive LB(ns:List Int)(v1:Option Vl)(b:Nat)(ps:List (Str×Str))(v4:Option Vl)(lv:List fU)(z a1 b1:Str)(n day:Int)(ht:lV)(ev:List Str):En->Prop
 |mk (v10 v11 cL lN lH jR jT jU jn:Option Vl):LB ns v1 b ps v4 lv z a1 b1 n day ht ev (jV ns v1 b ps v4 lv z a1 b1 n day ht ev v10 v11 cL lN lH jR jT jU jn)
theorem akR(ns:List Int)(h:ns.length<=63):∃C',Eo [.sc ns] []=aa (.im (.bool ao),C'):=by
 obtain⟨m,hm,m1,m2⟩:∃m:Int,(1+if(ns.length:Int)<5 then(ns.length:Int) else 5)=m/\0<=m/\m<=6:=⟨_,rfl,by split<;>lia,by split<;>lia⟩
 obtain⟨env',C',e,he⟩:=ym (g:=dF 1) (body:=Tw) (its:=jG 0 m.toNat) (env:=[aa (.sc ns),aj,aj,aj,aj,aj,aj,aj,aj,aj,aj,aj,aj,aj,aj,aj,aj,aj,aj]) (C:=[])
  (λi env C1=>LA ns env) (.mk aj aj aj aj aj aj aj aj aj aj aj aj aj aj aj aj aj aj) (λi d env C1 hd hI=>by
   obtain⟨v1,v2,v3,v4,v5,v6,v7,v8,v9,v10,v11,cL,lN,lH,jR,jT,jU,jn⟩:=hI
   obtain⟨rfl,hi⟩:=Ac hd
   refine hide λGG gg=>?_
   obtain⟨x,y,hb,x0⟩:=akE (C:=C1) (ns:=ns) (k:=0+(i:Int)) (by lia) (by lia)
   have hB:=anr (y:=y) C1 x0
   obtain⟨Cr,er,hBr⟩:=amh (j:=799880) hB
   obtain⟨zs,ps,pe,lv,z,a1,b1,n,day,C2,e2,K,hB2⟩:=amc (most:=16) (j:=799420) hBr (by decide) (by decide)
   obtain⟨ps',p1,e3⟩:=ZZ (C:=C2) K.p0 K.p8 lv
   have hG:pK zs ps ⟨ps',[],lv,[]⟩:=adH p1 K.p8 K.lM (λr h=>(K.leaves r h).1) (K.rise.imp λh=>ahI h);have kf:=K.few;have kt:=K.two;have ad:cu (.list (pe.map .str)) (.list [.str a1])=aa (.ow (.list ((pe++[a1]).map .str))):=by
    rw[jf];exact add_l (by rw[bz];show _+1<=_;lia)
   have evl:(pe++[a1]).length=pe.length+1:=by rw[dM];rfl
   have en:∀x∈pe++[a1],nameB x=ao:=λx hx=>by
    rcases dR.mp hx with hx|hx
    .exact K.names.2 x (K.aoB x hx)
    .rw[j8.mp hx];exact K.names.2 a1 K.apr
   have nm:Fi lv:=λr hr=>by
    obtain⟨ok,_,_⟩:=K.leaves r hr
    refine⟨K.names.2 _ ok.giver,K.names.2 _ ok.taker,K.names.2 _ ?_⟩
    have:=ok.part;rw[Ke K.parts] at this;exact xO this
   generalize pe++[a1]=ev at ad evl en
   obtain⟨aez,C3,e4,he2,hB3⟩:=ym (g:=dF 10) (body:=Gw) (its:=jG 0 24) (env:=jV ns (aa (.im (.int (0+(i:Int))))) C1.length ps (aa (.im (.list (pe.map .str)))) lv z a1 b1 n day ⟨ps',[],lv,[]⟩ ev v10 v11 cL lN lH jR jT jU jn) (C:=C2)
    (λt env C2=>LB ns (aa (.im (.int (0+(i:Int))))) C1.length ps (aa (.im (.list (pe.map .str)))) lv z a1 b1 n day ⟨ps',[],lv,[]⟩ ev env/\Bl (C1.length+1) C2 C1.length (799000+15*(24-t)))
    ⟨.mk _ _ _ _ _ _ _ _ _,hB2.mono (by decide)⟩ (λt d env C4 hd hI=>by
     obtain⟨⟨v10,v11,cL,lN,lH,jR,jT,jU,jn⟩,hB⟩:=hI
     obtain⟨rfl,ht⟩:=Ac hd
     rw[MP 799000 15 ht] at hB
     obtain⟨C5,w11,w12,w13,w14,w15,w16,w17,w18,e,tO⟩:=aml (ns:=ns) (v1:=aa (.im (.int (0+(i:Int))))) (v4:=aa (.im (.list (pe.map .str)))) hB K.names K.parts hG nm (by lia) (by lia) en (z:=z) (a1:=a1) (b1:=b1) (n:=n) (day:=day) (aa (.im (.int (0+(t:Int))))) v11 cL lN lH jR jT jU jn
     exact⟨_,.nx,_,C5,rfl,e,.inl rfl,.mk _ _ _ _ _ _ _ _ _,tO⟩)
   obtain⟨w10,w11,w12,w13,w14,w15,w16,w17,w18⟩:=he2
   refine gg ⟨_,.nx,jV ns (aa (.im (.int (0+(i:Int))))) C1.length ps (aa (.im (.list (pe.map .str)))) lv z a1 b1 n day ⟨ps',[],lv,[]⟩ ev w10 w11 w12 w13 w14 w15 w16 w17 w18,C3,rfl,?_,.inl rfl,.mk _ _ _ _ _ _ _ _ _ _ _ _ _ _ _ _ _ _⟩;have e4:kO (dF 10) Gw (jG 0 (aaX 24)) _ _=_:=e4;simp only[jV] at e4⊢;simp_arith[Tw,HN,hb,intsOf,er,e2,e3,acX,ad,iJ,jH,xu (m:=24) (by lia) (by lia),e4])
 refine⟨C'.take 0,?_⟩
 unfold Eo fN;rw[bC (show[Vl.sc ns].length=1 from rfl),show([Vl.sc ns].map aa++jz (19-[Vl.sc ns].length) aj)=[aa (.sc ns),aj,aj,aj,aj,aj,aj,aj,aj,aj,aj,aj,aj,aj,aj,aj,aj,aj,aj] from rfl];simp_arith[V1,iJ,jH,yL,vA,hm,xu (m:=m) (by lia) (by lia),e,Ei]
theorem all_mk{l:Yu}{w:bK}{K:aQ}{h:bw}{mg:Str->Option Value}{fa:aq}(X:K.In h)(G:h.Ns iZ mg)(hfa:mg "law"=aa (.ref fa))
  (d0:gA K "is_number" QT)
  (d1:gA K "is_rising" JZ)
  (d2:gA K "parts_over" JP)
  (d3:gA K "row_of" Tu)
  (d4:gA K "is_side" RV)
  (d5:gA K "ways_on" KC)
  (d6:gA K "first_row" QV)
  (d7:gA K "nearer_way" JQ)
  (d8:gA K "steps_to" Kf)
  (d9:gA K "is_row" Lh)
  (d10:gA K "are_unlike_numbers" Jf)
  (d11:gA K "last_taker" Qx)
  (d12:gA K "_law_mix" Vo)
  (d13:gA K "_law_drawn_from" Qj)
  (d14:gA K "_law_pick" Us)
  (d15:gA K "_law_same" GP)
  (d16:gA K "_law_some_names" xZ)
  (d17:gA K "_law_shuffled" QW)
  (d18:gA K "_law_two_days" QX)
  (d19:gA K "_law_some_sum" QZ)
  (d20:gA K "_law_some_parts" Qk)
  (d21:gA K "_law_parts_over" Ql)
  (d22:gA K "_law_rising" RW)
  (d23:gA K "_law_some_leaves" Qd)
  (d24:gA K "_law_house_of" Q0)
  (d25:gA K "_law_case" Ut)
  (d26:gA K "_law_lets" Uu)
  (d27:gA K "_law_is_row" KD)
  (d28:gA K "_law_walked" Gj)
  (d29:gA K "_law_spoilt" KH)
  (d30:gA K "_law_ring_right" Qm)
  (d31:gA K "law" VR)
  (M3:oW K iZ "abs"=aa aj)
  (HB:oW K iZ "all"=aa aj)
  (Ak:oW K iZ "bool"=aa aj)
  (Vp:oW K iZ "dict"=aa aj)
  (Q3:oW K iZ "enumerate"=aa aj)
  (yP:oW K iZ "int"=aa aj)
  (mG:oW K iZ "isinstance"=aa aj)
  (lX:oW K iZ "len"=aa aj)
  (vB:oW K iZ "list"=aa aj)
  (V0:oW K iZ "max"=aa aj)
  (Ax:oW K iZ "min"=aa aj)
  (rm:oW K iZ "range"=aa aj)
  (yp:oW K iZ "sorted"=aa aj)
  (HD:oW K iZ "str"=aa aj)
  (Af:oW K iZ "tuple"=aa aj)
  (M4:oW K iZ "zip"=aa aj)
  :∃fd:dO,(∀(s:aJ)(v:Value),z8 s fd ⟨[v],[]⟩ [("_law_script",v)])/\∀base:bw,K.In base->base.Ns iZ mg->dI l.prog w K mg base fP 6 fa fd ["_law_script"] (spT K Eo):=by
 have T:Txt K mg:=⟨pD X G M3,pD X G HB,pD X G Ak,pD X G Vp,pD X G Q3,pD X G yP,pD X G mG,pD X G lX,pD X G vB,pD X G V0,pD X G Ax,pD X G rm,pD X G yp,pD X G HD,pD X G Af,pD X G M4⟩
 refine d31.law X G hfa (λbase f fd F=>?_) (λ_ _ _ _ _ _=>(cj λ_=>(iW rfl)));have Qt:=d13.has X G (λf fd F=>agX (P:=l.prog) (w:=w) (base:=base) F T) (λ_ _ _ _ _ _=>(cj λ_=>(cj λ_=>(iW rfl))));have Mw:=d12.has X G (λf fd F=>al4 (P:=l.prog) (w:=w) (base:=base) F T) (λ_ _ _ _ _ _=>(cj λ_=>(cj λ_=>(iW rfl))));have cI:=d14.has X G (λf fd F=>akA (P:=l.prog) (w:=w) (base:=base) F T Mw) (λ_ _ _ _ _ _=>(cj λ_=>(cj λ_=>(iW rfl))));have Cu:=d16.has X G (λf fd F=>agY (P:=l.prog) (w:=w) (base:=base) F T cI) (λ_ _ _ _ _ _=>(cj λ_=>(cj λ_=>(iW rfl))));have Qs:=d20.has X G (λf fd F=>agZ (P:=l.prog) (w:=w) (base:=base) F T cI) (λ_ _ _ _ _ _=>(cj λ_=>(cj λ_=>(iW rfl))));have De:=d22.has X G (λf fd F=>aiv (P:=l.prog) (w:=w) (base:=base) F T cI) (λ_ _ _ _ _ _=>(cj λ_=>(cj λ_=>(iW rfl))));have Cq:=d21.has X G (λf fd F=>ag0 (P:=l.prog) (w:=w) (base:=base) F T) (λ_ _ _ _ _ _=>(cj λ_=>(cj λ_=>(iW rfl))));have CN:=d18.has X G (λf fd F=>ahA (P:=l.prog) (w:=w) (base:=base) F T cI) (λ_ _ _ _ _ _=>(cj λ_=>(iW rfl)));have CP:=d19.has X G (λf fd F=>ahB (P:=l.prog) (w:=w) (base:=base) F T cI) (λ_ _ _ _ _ _=>(cj λ_=>(iW rfl)));have Qf:=d23.has X G (λf fd F=>agQ (P:=l.prog) (w:=w) (base:=base) F T cI De Cq CN CP) (λ_ _ _ _ _ _=>(cj λ_=>(cj λ_=>(cj λ_=>(cj λ_=>(cj λ_=>(cj λ_=>(iW rfl))))))));have Ux:=d25.has X G (λf fd F=>akB (P:=l.prog) (w:=w) (base:=base) F T cI Cu Qs CN CP Qf) (λ_ _ _ _ _ _=>(cj λ_=>(cj λ_=>(iW rfl))));have Rc:=d17.has X G (λf fd F=>ahC (P:=l.prog) (w:=w) (base:=base) F T cI) (λ_ _ _ _ _ _=>(cj λ_=>(cj λ_=>(iW rfl))));have CQ:=d24.has X G (λf fd F=>ahD (P:=l.prog) (w:=w) (base:=base) F T) (λ_ _ _ _ _ _=>(cj λ_=>(cj λ_=>(iW rfl))));have yz:=d15.apl X G (λf fd hm hk hb F=>aaW (P:=l.prog) (w:=w) (base:=base) hm hk hb F T 3) (λ_ _ _ _ _ _=>(cj λ_=>(cj λ_=>(iW rfl))));have rY:=d4.has X G (λf fd F=>aiw (P:=l.prog) (w:=w) (base:=base) F T) (λ_ _ _ _ _ _=>(cj λ_=>(cj λ_=>(iW rfl))));have QK:=d11.has X G (λf fd F=>ahc (P:=l.prog) (w:=w) (base:=base) F T) (λ_ _ _ _ _ _=>(cj λ_=>(cj λ_=>(cj λ_=>(iW rfl)))));have Ra:=d1.has X G (λf fd F=>ahE (P:=l.prog) (w:=w) (base:=base) F T) (λ_ _ _ _ _ _=>(cj λ_=>(iW rfl)));have Rb:=d0.has X G (λf fd F=>ahF (P:=l.prog) (w:=w) (base:=base) F T) (λ_ _ _ _ _ _=>(cj λ_=>(iW rfl)));have OJ:=d10.has X G (λf fd F=>afN (P:=l.prog) (w:=w) (base:=base) F T Ra Rb) (λ_ _ _ _ _ _=>(cj λ_=>(iW rfl)));have QJ:=d2.has X G (λf fd F=>ahd (P:=l.prog) (w:=w) (base:=base) F T) (λ_ _ _ _ _ _=>(cj λ_=>(cj λ_=>(iW rfl))));have Df:=d5.has X G (λf fd F=>aix (P:=l.prog) (w:=w) (base:=base) F T rY QJ) (λ_ _ _ _ _ _=>(cj λ_=>(cj λ_=>(cj λ_=>(iW rfl)))));have z7:=d9.has X G (λf fd F=>ajq (P:=l.prog) (w:=w) (base:=base) F T rY QK OJ Df) (λ_ _ _ _ _ _=>(cj λ_=>(cj λ_=>(cj λ_=>(cj λ_=>(cj λ_=>(cj λ_=>(iW rfl))))))));have Qu:=d30.has X G (λf fd F=>ag1 (P:=l.prog) (w:=w) (base:=base) F T Cu De Rc CQ yz z7) (λ_ _ _ _ _ _=>(cj λ_=>(iW rfl)));have Dt:=d26.has X G (λf fd F=>akD (P:=l.prog) (w:=w) (base:=base) F T Cq) (λ_ _ _ _ _ _=>(cj λ_=>(cj λ_=>(cj λ_=>(cj λ_=>(iW rfl))))));have R9:=d28.has X G (λf fd F=>aiy (P:=l.prog) (w:=w) (base:=base) F T cI Dt) (λ_ _ _ _ _ _=>(cj λ_=>(cj λ_=>(cj λ_=>(cj λ_=>(cj λ_=>(cj λ_=>(iW rfl))))))));have Rr:=d8.has X G (λf fd F=>ahV (P:=l.prog) (w:=w) (base:=base) F T) (λ_ _ _ _ _ _=>(cj λ_=>(cj λ_=>(iW rfl))));have QL:=d7.has X G (λf fd F=>ahe (P:=l.prog) (w:=w) (base:=base) F T) (λ_ _ _ _ _ _=>(cj λ_=>(cj λ_=>(cj λ_=>(iW rfl)))));have Rf:=d6.has X G (λf fd F=>ahG (P:=l.prog) (w:=w) (base:=base) F T Rr QL) (λ_ _ _ _ _ _=>(cj λ_=>(cj λ_=>(cj λ_=>(iW rfl)))));have Tz:=d3.has X G (λf fd F=>ajr (P:=l.prog) (w:=w) (base:=base) F T rY Df Rf) (λ_ _ _ _ _ _=>(cj λ_=>(cj λ_=>(cj λ_=>(cj λ_=>(cj λ_=>(iW rfl)))))));have Sd:=d29.has X G (λf fd F=>aiz (P:=l.prog) (w:=w) (base:=base) F T cI) (λ_ _ _ _ _ _=>(cj λ_=>(cj λ_=>(cj λ_=>(iW rfl)))));have Sg:=d27.has X G (λf fd F=>aiA (P:=l.prog) (w:=w) (base:=base) F T Dt) (λ_ _ _ _ _ _=>(cj λ_=>(cj λ_=>(cj λ_=>(cj λ_=>(cj λ_=>(cj λ_=>(iW rfl))))))));exact anx F T Qt cI Ux CQ yz z7 Qu R9 Tz Sd Sg
theorem walk{l:Yu}{q:bQ}{loose:List Str}{XP:(Str->Option Value)->bw->Prop}{YP:bK->bw->Prop}{d:DefRec}{K:Params->aQ}(hn:l.most=aa 63)(hdf:d.params.defaults=[])
  (hY:∀(w:bK)(h:bw),YP w h->(K w.params).In h)
  (F:∀(w:bK)(mg:Str->Option Value)(fa:aq)(h:bw),(K w.params).In h->h.Ns iZ mg->mg d.name=aa (.ref fa)->
   ∃fd:dO,(∀(s:aJ)(u:Value),z8 s fd ⟨[u],[]⟩ [("_law_script",u)])/\∀base:bw,(K w.params).In base->base.Ns iZ mg->dI l.prog w (K w.params) mg base fP 6 fa fd ["_law_script"] (spT (K w.params) Eo)):
  ag4 q loose XP YP l.row.toRowW d [] (λf vs=>Z7 f vs):=
 L2.alb (n:=63) (k:=6) (x:="_law_script") (CX:=λ_=>fP) (sp:=λw=>spT (K w.params) Eo) hn (by decide) hdf ⟨rfl,by decide,by decide,rfl⟩ hY F (λ_ _ a ns hl _ hS=>let ⟨_,h⟩:=akR ns hl;ana hS h) λ_ _ _ _ _ z=>z
end W8
namespace PySem.W.Fast
def tw10254966289176161521:=0
def tw1077819905961284394:=0
def tw10849397858318867736:=0
def tw10891047260450384687:=0
def tw10962108115795785141:=0
def tw11211934683865794161:=0
def tw11458657302775587096:=0
def tw11634981524834704937:=0
def tw11798425793801637386:=0
def tw12030335462820514519:=0
def tw12210109624969427996:=0
def tw1260695155272362707:=0
def tw12833068191238431629:=0
def tw12852826066577981000:=0
def tw1326905424312824505:=0
def tw13339826048283827843:=0
def tw13628322862525660750:=0
def tw13655293170763331509:=0
def tw13754102943505378780:=0
def tw13858430127265612243:=0
def tw13928942773091725576:=0
def tw13984576709527679806:=0
def tw14111821597513559464:=0
def tw14411633190540745455:=0
def tw14528160966888561020:=0
def tw14788230618728614360:=0
def tw148928522882215175:=0
def tw14978206458857748961:=0
def tw14991909434370083426:=0
def tw15390247549509325579:=0
def tw15524512662653829649:=0
def tw161919153911661276:=0
def tw16207956839181428196:=0
def tw16487622828685148218:=0
def tw16587294739208304468:=0
def tw1693243950029716226:=0
def tw16957384778832886846:=0
def tw17061556917646380845:=0
def tw17257550922374120561:=0
def tw2049856982670390717:=0
def tw2055559785320082370:=0
def tw2258424406086704949:=0
def tw2718493698649989507:=0
def tw2900048735681075961:=0
def tw3831707977211018281:=0
def tw4114287037174195425:=0
def tw421124828578976799:=0
def tw4383519919271533777:=0
def tw4415899917143715378:=0
def tw4475802278915445389:=0
def tw5010933685525648213:=0
def tw5370580598662597981:=0
def tw5581513046866696539:=0
def tw5693590806849436480:=0
def tw5910680301101206621:=0
def tw6015216928898032560:=0
def tw6136502499821072384:=0
def tw6569604056120282190:=0
def tw6669683763375539247:=0
def tw6973451589758945289:=0
def tw7028955143499818250:=0
def tw7150186162706580977:=0
def tw7452935706845877222:=0
def tw7615028647924764727:=0
def tw7964511731349481672:=0
def tw8887503090669367714:=0
def tw898495674336662499:=0
def tw9087901256208529109:=0
def tw9234984689766435239:=0
def tw9575525610271729500:=0
end PySem.W.Fast
open PySem PySem.W PyProof.Rows
set_option maxRecDepth 100000 in
set_option maxHeartbeats 0 in
theorem PySem.Challenge.cw_rankseals_k18_rows_taken_and_spoilt_holds : PySem.Challenge.rw_rankseals_k18_rows_taken_and_spoilt.Holds := by
 w_on;o_law;k_head;(case hw=>w_witness2)
 k_fill
 refine W8.walk (l:=PySem.Challenge.rw_rankseals_k18_rows_taken_and_spoilt) rfl rfl (λw h Y=>PySem.W.kIn_of Y) ?F
 case F=>
  intro w mg fa h KX G hmg
  refine' W8.all_mk KX G hmg ?_ ?_ ?_ ?_ ?_ ?_ ?_ ?_ ?_ ?_ ?_ ?_ ?_ ?_ ?_ ?_ ?_ ?_ ?_ ?_ ?_ ?_ ?_ ?_ ?_ ?_ ?_ ?_ ?_ ?_ ?_ ?_ ?_ ?_ ?_ ?_ ?_ ?_ ?_ ?_ ?_ ?_ ?_ ?_ ?_ ?_ ?_ ?_
  all_goals try first|exact .mk (by k_is) (by k_is) (by k_is) (by k_is)|k_is
