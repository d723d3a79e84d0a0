import PyProof.Rows.All
import Wide.All
import OpenK.AllK
import Wide.FinOn
import Lean
import PyProof.EqAt
import PyProof.EqKinds
import PyProof.TupleCall
import PyProof.Rows.IntBool
import KE.KIntText
import PySem.Challenge.RW_rankseals_k69_rows_read
set_option Elab.async false
set_option linter.all false
set_option maxRecDepth 100000
set_option maxHeartbeats 4000000
set_option autoImplicit true
open PySem renaming Value->aA,World->bC,Program->bI,KeyKind->uw,Addr->aq,Heap->bw,sizeLine->bQ,sysModules->qu,tupleKind->Dd,Within->Z3,mainGlobals->fG,bootBuiltins->oA,Around->b7,Shared->aH,Scope->jj,wpAny->bu,backTo->gb,starEach->bG,Stmt->cZ,wpAny_mono->zg,wpAny_Name->QK,wpAny_truthy_bool->rK,wpAny_execs_nil->PL,wpAny_execs_cons->Y8,swapsWith->uG,assignInOrder->wC,assignEach->ni,wpAny_assign_Name->Ho,holding->uM,standAt->DK,wpAny_bind->aX,wpAny_holding->qj,wpAny_standAt->yQ,swapsWithSole->uy,swappedStores->uz,wpAny_pure->cj,wpAny_newObj_type->rM,unpackItems->Qz,bindName->qC,wpAny_rule->wM,wpAny_bindName->BZ,pyNext->qI,letOwnedTupleGo->um,wpAny_pyNext_list_item->X7,wpAny_pyNext_list_end->Ye,wpAny_pyIter_list->Hq,wpAny_pyIter_tuple->Hi,foldedSetIterable->yJ,wpAny_passesOwn->BV,binaryOp->kO,compareOp->dm,behindInMarks->wD,lastMarks->IK,sizeLine_eq->m6,cLine->gn,Result->xH,FuncData->di,BindsTo->xj,codeAny->xm,codeAny_mono->Qn,wpAny_Call_Name_kw->O8,Keyword->jU,NameKind->wW,bindL->u9,bindC->vd,mem_of_lookup->rH,concat_meets->Qo,noFill_tuple_add->Pu,seq_tuple_add->Qh,IsPart->pO,wpAny_field->jz,getItem->rZ,wpAny_sequenceKey->YZ,wpAny_callSpecial?_slot->vZ,wpAny_call_entry->wj,wpAny_typeOf->Qp,seqIndex_of->QD,seqIndex_neg->Qq,subscripted->QF,typeIs_str->wN,sliceBounds->wH,attributeBase->uA,backToKw->uK,keywordEach->uD,call_meets->wO,valueAt->xq,atKey->sX,wpAny_getItem_of->Ze,tupleKind_room_in1->Hj,callerA->xr,call->QS,DictEntry->uH,compTurn->Jp,wpAny_comprehension_free->XR,PyData->az,ZipApart->zA,IsZip->jH,IsPair->gQ,wpAny_pyIter_zip->yL,SetTable->zB,wpAny_seqItems->rQ,wpAny_attempt->Qj,wpAny_setField_rec->v9,wpAny_onRaise->Ca,wpAny_updateSeq_pair->O5,wpAny_letGo->QH,wpAny_isInstance->Zj,wpAny_letOwnedTupleGo_zip->XQ,wpAny_pyIter_enum->Y4,intText?->ZJ,toDigits_len_ge->Yn
open PySem.Value renaming isInt->aal,isStrOf->uv,int->CZ,str->Dc,none->qt,bool->pJ,float->Qy,ref->iZ
open Sum renaming inl->wZ,inr->xg
open PySem.SeqAt.EqAt renaming int_str->Yz,str_int->YB
open Option.some renaming inj->gG
open PySem.W renaming instObj->PK,methodObj->Pg,Frag->aJ,lookIn->Qe,plainGet->Y9,findIn->ZF,kitOne->wB,kia_one->pG,kitx_none->YT,kitx_bool->YW,kitx_int->Za,kitx_str->Zb,kitx_float->YD,kitx_list->Hr,kitx_tuple->YF,kitx_dict->Hs,kitx_own->Zc,keepIn->ur,cellsFrom_some->X8,fnOf->uC,codeIn->HH,OpenLaw->PN,WalkO->ZV,kitAny->HJ,kia_tup->pH,nsIn->jF,mg_of->yS,mg_none_of->lY
open PySem.Heap renaming lt_size->b8,SameBut->Cj,get?_push_of_some->cA,get?_push_size->gY,get?_update_self->Yg,get?_update_other->Yb,size_push->rP,ExtBut->wI,IsTuple->Qw
open Nat renaming lt_of_lt_of_le->jO,lt_irrefl->ux,ne_of_lt->iY,le_trans->kI,le_of_lt->Qm,ne_of_gt->yV,le_refl->cO,le_of_eq->Z8,sub_self->Ia,zero_le->Cp,not_lt->uE,lt_trichotomy->Pq,zero_add->wG,add_comm->aab,min_eq_left->ZC,toDigits->yZ,sub_zero->aaj
open List renaming range->wL,mem_filter->wu,mem_range->Qd,filterMap_cons->O6,mem_cons_self->gh,mem_cons_of_mem->fQ,mem_cons->cD,mem_append->cL,mem_append_left->gf,getElem?_eq_some_iff->iU,getElem?_set_self->X6,getElem?_set_ne->BL,set_comm->HR,mem_filterMap->YC,mem_append_right->dj,size_toArray->gw,any_eq_false->YS,append_nil->jP,nodup_cons->lE,of_mem_zip->BW,replicate->cM,length->QB,length_take->BR,getElem?_append_right->lB,getElem?_replicate->Ou,getElem?_append_left->kj,getElem?_map->jy,mem_of_getElem?->nW,length_append->gD,length_map->cV,length_replicate->O2,length_drop->yK,length_set->wz,all_cons->oh,any_cons->ou,length_singleton->BK,find?_cons->uo,length_cons->eE,length_nil->Zr,map_cons->fD,map_nil->H9,forIn_cons->HB,lookup_cons->nZ,append_assoc->nY,map_map->wF,all_eq_true->iW,getElem_of_mem->Yt,getElem?_eq_getElem->rG,getElem_mem->Zg,mem_singleton->gZ,not_mem_nil->gF,getD->wU,zip_cons_cons->YJ,take_zero->ZG,nodup_append->lD,Sublist->Qt,getElem?_set->Ht,nodup_nil->n6,any_map->aaa,all_map->Qu,length_zip->Zw,pairwise_iff_getElem->Ol,getElem?_range->Yv,getElem?_eq_none->Yh,length_range->Hu,getElem?_eq_none_iff->XN,drop_length->Py,drop_eq_getElem_cons->Om,getElem?_mapIdx->Yo,eq_of_mem_replicate->G9,getElem?_take->YK,take_of_length_le->yH,foldl_cons->Zx,sum_cons->ZX,any_eq_true->Zh,filter_cons->Zi,replicate_succ->Hh,zipIdx_cons->PB,zipIdx_nil->P0,forIn_nil->Qf,length_zipIdx->YM,mem_map->rR,drop_zero->HN,find?_toArray->YQ,findIdx?_eq_some_iff_getElem->Xy,cons_append->qi,cons_ne_nil->Hz,nil_append->rN,filter_eq_self->yI,filter_append->O9,cons_lt_cons_iff->Yj,getElem?_cons_zero->X3,zipWith->qm,map_zipWith->Zo,length_zipWith->O7,take_eq_take_min->Yk,drop_succ_cons->Yy,zipWith_cons_cons->O1,zipWith_nil_left->Yl,length_filter_le->O4,isEmpty_nil->PJ,isEmpty_cons->Hv,mem_of_mem_take->Yq,map_take->Z2,mem_of_mem_drop->Yr,map_append->yO,length_eq_zero_iff->X5,mem_zipIdx_iff_getElem?->Oi,pairwise_map->Y7,set_cons_succ->Pa,set_cons_zero->Pb
open Ne renaming symm->mD
open PySem.Calls renaming Name_function_global->XF
open Array renaming length_toList->lC,toList->Z4,toList_append->Yx
open False renaming elim->qw
open PySem.Flow renaming next->Iz
open Bool renaming false_and->ZD,eq_iff_iff->pF,false_ne_true->gq,and_eq_true->fU,false_eq_true->Hl,or_eq_true->PX,eq_false_iff->Y0,true->au,false->aF
open PySem.Builtin.Range renaming rangeSize->aiO
open PyProof.Rows renaming callWith_type1->yG,callWith_builtin1->aij,slot_tuple_getitem->G5,boot_zip->O3,boot_enumerate->aim,fact_partition->ain,split_le->Ym,part_short->aiQ,digit_range->aiN,partition_whole->XC,mem_iff_at->X4,strSub_mk->Yd,slice_closes_toL->aik,slice_closes_fromL->aii
open PySem.EqNone renaming eq_none_none->aip,eq_none_bool->aiq,eq_none_int->aiB,eq_none_str->aiC,eq_bool_none->air,eq_int_none->aiD,eq_str_none->aiF,ne_none_none->aiu,ne_none_bool->aiv,ne_none_int->aiH,ne_none_str->aiI,ne_bool_none->aiw,ne_int_none->aiJ,ne_str_none->aiL
open PySem.EqMixed renaming eq_bool_str->ais,eq_int_str->aiE,eq_str_bool->ait,eq_str_int->aiG,ne_bool_str->aix,ne_int_str->aiK,ne_str_bool->aiy,ne_str_int->aiM
open PySem.Str renaming empty->IW,ofString->aB,ofString_eq_toList->Yc,join->jR
open True renaming intro->mC
open Option renaming isSome_iff_exists->vY,getD_none->Zd,isSome_map->Pj,map_eq_some_iff->Hf,map_some->kE,getD_some->Zf,some_ne_none->rJ,none->mj,map->wQ,bind_some->qg,bind_eq_some_iff->Ox,some->aa,none->ak
open PySem.F renaming slot_tuple_add->OD,entry_tuple_add->Ov,args_tuple_add_2->Oo,slot_list_append->YG,slot_list_extend->YH,plainAttrs_list->Ow,plainAttrs_str->OJ,slot_tuple_iterator_next->G6,entry_tuple_iterator_next->XD,args_tuple_iterator_next_1->Xz,slot_zip_next->yM,entry_zip_next->Pz,args_zip_next_1->Pr,typeCall_zip_2->Zk,newCall_zip_2->Zy,args_object_init_3->Yp,entry_zip_new->Zz,slot_str_split->Hg,entry_str_split->Oz,args_str_split_2->Ot,slot_str_partition->XM,slot_list_index->XX
open Int renaming toNat_natCast->Ph,toNat_of_nonneg->Ys,emod_nonneg->rO,emod_lt_of_pos->uh,ofNat_le->aai,toNat->Ry,emod_eq_of_lt->Y6
open PySem.Builtin.Slice renaming sliceAdjust->Oj,slicePlaces->G7,slicePartIndex->ail,sliceApplied->XH,sliceFields->aiz
open PySem.Builtin.Tuple renaming tupleItemsOf->XJ,tupleExact->G8,tupleCompareSizes->aih,tupleIsExact->aio
open PySem.Heap.IsSliceOf renaming new->aiS
open PySem.Obj renaming mapSeq->Cy,data_mapFields->YL
open PySem.SeqAt renaming EqAt->Cz,in_listAt->Zq,shaped->lX
open PySem.Builtin.List renaming listTooLong->Oq
open List.Pairwise renaming nil->aiT,filter->aiR
open Or renaming inl->dz,inr->Ei
open PySem.NameKind renaming free->lZ,cell->HW
open ForInStep renaming yield->Zu
open PySem.Code renaming compLoop->yR
open PySem.P renaming mul_str->Zv
open PySem.Builtin.Str renaming tooLong->aiA,strSub->XS
open PySem.PyData renaming hasDict->yP,hasDictAll->Pk,eqv->zj,str->iM,int->CK,shown->Ib,showable->Qa,shown_int->Hw,depth->Ie,canLay0->ZP
open PySem.WalksT renaming zip2->aar
open List.cons renaming inj->Qi
open List.Sublist renaming refl->wg,append->BP
open PySem.Heap.SameBut renaming refl->Pn,update->Yw
open PySem.Builtin.SmallTypes renaming nextOf->rF,ownedTupleIsFree->yF,ownedTupleHandOut->Xx
open PySem.Shared renaming heap->Ii
open PySem.Heap.IsTuple renaming push->aiU
open Char renaming toNat->CN
open PySem.Draws renaming list->aaN
open PySem.StrLaws renaming glued_eq_join->Yi,subAt_one->Y5
open PySem.PassesOwn renaming never->yN
open PySem.NumText renaming digitsVal->aiP
theorem bB{c:Prop}[i:Decidable c](h:c){α:Sort _}{t e:α}:ite c t e=t:=if_pos h
theorem bK{c:Prop}[i:Decidable c](h:¬c){α:Sort _}{t e:α}:ite c t e=e:=if_neg h
theorem gH{p:Prop}[i:Decidable p](h:p):decide p=true:=decide_eq_true h
theorem lQ{p:Prop}[i:Decidable p](h:¬p):decide p=false:=decide_eq_false h
noncomputable section
theorem aM{p:Prop}(h:p:=by decide +kernel):p:=h
theorem aO{p:Prop}(h:p:=by decide):p:=h
theorem aP{p:Prop}(h:p:=by lia):p:=h
theorem bz{p:Prop}(h:p:=by simp):p:=h
theorem eqT{p:Prop}(h:p:=by lia):p=True:=eq_true h
namespace L2
open PySem PySem.Spec PyProof.Rows
abbrev Key:=Sum Int Str
def xQ:Key->aA->Bool
 |.inl k,v=>aal k v
 |.inr x,v=>uv x v
def agC(w:bC):Key->Int
 |.inl k=>hashInt k
 |.inr x=>hashStr w x
theorem qp:∀{k:Key}{v:aA},xQ k v=au->(∃i t,k=wZ i/\v=CZ i t)\/(∃x t,k=xg x/\v=Dc x t)
 |.inl i,v,h=>by
  obtain⟨t,e⟩:=Value.isInt_shape (k:=i) (v:=v) h
  exact .inl ⟨i,t,rfl,e⟩
 |.inr x,v,h=>by
  obtain⟨t,e⟩:=Value.isStrOf_shape (x:=x) (v:=v) h
  exact .inr ⟨x,t,rfl,e⟩
theorem aaX(i:Int)(t:Tok):xQ (.inl i) (.int i t)=au:=by simp[xQ,aal]
theorem aaY(x:Str)(t:Tok):xQ (.inr x) (.str x t)=au:=by simp[xQ,uv]
theorem ael(a b:Int):decide ((wZ a:Key)=wZ b)=(a==b):=by
 by_cases e:a=b
 .subst e;simp
 .have h:¬(wZ a:Key)=wZ b:=λq=>e (Sum.inl.inj q)
  rw[lQ h]
  exact(beq_eq_false_iff_ne.mpr e).symm
theorem aem(a b:Str):decide ((xg a:Key)=xg b)=decide (a=b):=by
 by_cases e:a=b
 .subst e;simp
 .have h:¬(xg a:Key)=xg b:=λq=>e (Sum.inr.inj q)
  rw[lQ h,lQ e]
theorem aen(a:Int)(b:Str):decide ((wZ a:Key)=xg b)=aF:=lQ (λq=>nomatch q)
theorem aeo(a:Str)(b:Int):decide ((xg a:Key)=wZ b)=aF:=lQ (λq=>nomatch q)
def lG(prog:bI)(w:bC):uw prog w Key where
 is:=xQ
 hash:=agC w
 inj:=λv a b ha hb=>by
  rcases qp ha with⟨i,t,rfl,rfl⟩|⟨x,t,rfl,rfl⟩
  .rcases qp hb with⟨j,u,rfl,e⟩|⟨y,u,rfl,e⟩
   .injection e with e1 _;rw[e1]
   .exact nomatch e
  .rcases qp hb with⟨j,u,rfl,e⟩|⟨y,u,rfl,e⟩
   .exact nomatch e
   .injection e with e1 _;rw[e1]
 byValue:=λk v h=>by
  rcases qp h with⟨i,t,rfl,rfl⟩|⟨x,t,rfl,rfl⟩<;>rfl
 pyHash:=λhv h=>by
  rcases qp hv with⟨i,t,rfl,rfl⟩|⟨x,t,rfl,rfl⟩
  .exact wpAny_pyHash_int h
  .exact wpAny_pyHash_str h
 eqBool:=λhu hv h=>by
  rcases qp hu with⟨i,t,rfl,rfl⟩|⟨x,t,rfl,rfl⟩
  .rcases qp hv with⟨j,u,rfl,rfl⟩|⟨y,u,rfl,rfl⟩
   .rw[ael] at h;exact wpAny_eqBool_int h
   .rw[aen] at h;exact Yz i t y u _ _ _ _ h
  .rcases qp hv with⟨j,u,rfl,rfl⟩|⟨y,u,rfl,rfl⟩
   .rw[aeo] at h;exact YB x t j u _ _ _ _ h
   .rw[aem] at h;exact wpAny_eqBool_str h
 «strs»:=λk x t v h=>by
  rcases qp h with⟨i,u,rfl,e⟩|⟨y,u,rfl,e⟩
  .exact nomatch e
  .injection e with e1 _
   subst e1;cases v<;>rfl
theorem aam(prog:bI)(w:bC)(i:Int)(t:Tok):(lG prog w).is (.inl i) (.int i t)=au:=aaX i t
theorem aan(prog:bI)(w:bC)(x:Str)(t:Tok):(lG prog w).is (.inr x) (.str x t)=au:=aaY x t
inductive V where
 |non|bl (b:Bool)|int (i:Int)|str (x:Str)|mV (b:Array UInt8)|flt (b:UInt64)|ref (a:aq)|ty (n:String)
 deriving DecidableEq
def RelV:V->aA->Prop
 |.non,u=>u=qt
 |.bl b,u=>u=pJ b
 |.int i,u=>∃t,u=CZ i t
 |.str x,u=>∃t,u=Dc x t
 |.mV b,u=>∃t,u=Value.bytes b t
 |.flt b,u=>∃t,u=Qy b t
 |.ref a,u=>u=iZ a
 |.ty n,u=>u=Value.type n
abbrev Vals:List V->List aA->Prop:=Paired RelV
theorem Vals.length{xs:List V}{us:List aA}(r:Vals xs us):xs.length=us.length:=Paired.length r
theorem Vals.get:∀{xs:List V}{us:List aA}{i:Nat}{x:V},Vals xs us->xs[i]?=aa x->∃u,us[i]?=aa u/\RelV x u
 |_,_,_,_,.nil,e=>by simp at e
 |_,_,0,_,.cons r _,e=>by simp at e;subst e;exact⟨_,rfl,r⟩
 |_,_,i+1,x,.cons _ t,e=>by
  obtain⟨u,h1,h2⟩:=Vals.get (i:=i) (x:=x) t (by simpa using e)
  exact⟨u,by simpa using h1,h2⟩
theorem Vals.set{x:V}{u:aA}(r:RelV x u):∀{xs:List V}{us:List aA}(i:Nat),Vals xs us->Vals (xs.set i x) (us.set i u)
 |_,_,_,.nil=>.nil
 |_,_,0,.cons _ t=>.cons r t
 |_,_,i+1,.cons q t=>.cons q (Vals.set r i t)
theorem Vals.append:∀{xs ys:List V}{us ws:List aA},Vals xs us->Vals ys ws->Vals (xs++ys) (us++ws)
 |_,_,_,_,.nil,s=>s
 |_,_,_,_,.cons r t,s=>.cons r (Vals.append t s)
theorem Vals.take:∀{xs:List V}{us:List aA}(n:Nat),Vals xs us->Vals (xs.take n) (us.take n)
 |_,_,0,_=>.nil
 |_,_,_+1,.nil=>.nil
 |_,_,n+1,.cons r t=>.cons r (Vals.take n t)
theorem Vals.drop:∀{xs:List V}{us:List aA}(n:Nat),Vals xs us->Vals (xs.drop n) (us.drop n)
 |_,_,0,r=>r
 |_,_,_+1,.nil=>.nil
 |_,_,n+1,.cons _ t=>Vals.drop n t
def oV:Option V->Option aA->Prop
 |some v,some u=>RelV v u
 |none,none=>True
 |_,_=>False
def KV{κ:Type}:List (κ×V)->List (κ×aA)->Prop:=Paired λ(p:κ×V)(q:κ×aA)=>p.1=q.1/\RelV p.2 q.2
def kV:Key->V
 |.inl i=>.int i
 |.inr x=>.str x
inductive HO where
 |lst (xs:List V)
 |tup (xs:List V)
 |dK (aC:List (Key×V)) (ep:Nat)|dT (aC:List (List Key×V)) (ep:Nat)
 |set (S:Int->Bool) (n:Nat)
 |ins (C dx:aq) (fs:List (Str×V))
 |own (x:aq)
 |xd (fs:List (Str×V))
 |met (f x:aq)
 |Ng (lo hi:Int)
 |j5 (o:Obj) (u:HO)
 |vN (ps:Array aA)
 |ext (φ:bw->Prop)
abbrev Hp:=aq->Option HO
def upd(H:Hp)(a:aq)(o:HO):Hp:=λb=>if b=a then aa o else H b
theorem fL{H:Hp}{a:aq}{o:HO}:upd H a o a=aa o:=by unfold upd;rw[bB rfl]
theorem cR{H:Hp}{a b:aq}{o:HO}(h:b≠a):upd H a o b=H b:=by unfold upd;rw[bK h]
theorem S7{H:Hp}{a:aq}{o u:HO}:upd (upd H a o) a u=upd H a u:=by
 funext b;unfold upd;split<;>rfl
theorem LQ{H:Hp}{a b:aq}{o u:HO}(h:H a=aa o)(h':H b=aa u)(d:o≠u):a≠b:=by
 intro e;subst e;rw[h] at h';exact d (gG h')
theorem pK{H:Hp}{a b:aq}{o:HO}(h:H a=aa o)(h':H b=ak):a≠b:=by
 intro e;subst e;rw[h] at h';cases h'
section
variable(P:bI)(w:bC)
def dU(H:Hp)(h:bw)(a:aq):HO->Prop
 |.lst xs=>xs.length<=bQ/\∃(aD:List aA)(n:Nat),Vals xs aD/\h.get? a=aa {cls:=.type "list",data:=.seq aD.toArray n}
 |.tup xs=>xs.length<=bQ/\∃aD:List aA,Vals xs aD/\IsTup h a aD.toArray
 |.dK aC ep=>aC.length<=bQ/\(a==qu)=aF/\∃vs,KV aC vs/\h.DictAt (lG P w) a vs ep
 |.dT aC ep=>aC.length<=bQ/\(a==qu)=aF/\∃xs:List (List Key×aq×aA),
   Paired (λ(p:List Key×V)(q:List Key×aq×aA)=>p.1=q.1/\H q.2.1=aa (.tup (p.1.map kV))/\RelV p.2 q.2.2) aC xs/\
   ∃o es,h.get? a=aa o/\o.ExactDict/\o.data=.dict es ep/\es.toList=xs.map (entryOfKey (Dd (lG P w)))/\(xs.map (·.1)).Nodup
 |.set S n=>h.SetOf (intKind P w) a S n
 |.ins C dx fs=>H dx=aa (.own a)/\fs.length<=1000/\dx≠a/\h.get? a=aa (PK C dx)/\
   ∃mA,h.Ns1 dx mA/\(∀f,oV (fs.lookup f) (mA f))/\Z3 mA (fs.map (·.1))
 |.own _=>∃o,h.get? a=aa o
 |.xd fs=>∃mA,h.Ns1 a mA/\∀f,oV (fs.lookup f) (mA f)
 |.Ng lo hi=>∃t u v,h.get? a=aa {cls:=.type "range",data:=.fields #[.int lo t,.int hi u,.int 1 v]}
 |.j5 o u=>h.get? a=aa o/\dU H h a u
 |.vN ps=>h.get? a=aa {cls:=.none,data:=.fields ps}
 |.met f x=>h.get? a=aa (Pg (.ref f) (.ref x))
 |.ext φ=>φ h/\(∃o,h.get? a=aa o)/\∀h1 h2:bw,φ h1->(∀o,h1.get? a=aa o->h2.get? a=aa o)->φ h2
def fY(H:Hp)(h:bw):Prop:=∀a o,H a=aa o->dU P w H h a o
end
section
variable{P:bI}{w:bC}{H H':Hp}{h h':bw}{a:aq}{o:HO}
theorem dU.lt(x:dU P w H h a o):a<h.objs.size:=by
 cases o with
 |lst xs=>obtain⟨_,_,_,_,e⟩:=x;exact b8 e
 |tup xs=>obtain⟨_,_,_,p⟩:=x;exact p.lt
 |dK aC ep=>obtain⟨_,_,_,_,o,_,e,_⟩:=x;exact b8 e
 |dT aC ep=>obtain⟨_,_,_,_,o,_,e,_⟩:=x;exact b8 e
 |set S n=>obtain⟨o,_,_,_,e,_⟩:=x;exact b8 e
 |ins C dx fs=>obtain⟨_,_,_,e,_⟩:=x;exact b8 e
 |own y=>obtain⟨_,e⟩:=x;exact b8 e
 |xd fs=>obtain⟨_,⟨_,_,_,e,_⟩,_⟩:=x;exact b8 e
 |Ng lo hi=>obtain⟨_,_,_,e⟩:=x;exact b8 e
 |j5 ob u=>obtain⟨e,_⟩:=x;exact b8 e
 |vN ps=>exact b8 (show h.get? a=aa _ from x)
 |met f y=>exact b8 (show h.get? a=aa _ from x)
 |ext φ=>obtain⟨_,⟨_,e⟩,_⟩:=x;exact b8 e
theorem Paired.Mu{α β:Type}{F G:α->β->Prop}:∀{l₁:List α}{l₂:List β},Paired F l₁ l₂->(∀a b,F a b->G a b)->Paired G l₁ l₂
 |_,_,.nil,_=>.nil
 |_,_,.cons r t,f=>.cons (f _ _ r) (Paired.Mu t f)
theorem dU.stay(x:dU P w H h a o)(k:∀b u,(b=a\/H b=aa (.own a))->h.get? b=aa u->h'.get? b=aa u)
  (ho:∀b,H b=aa (.own a)->H' b=aa (.own a))(ht:∀b xs,H b=aa (.tup xs)->H' b=aa (.tup xs)):dU P w H' h' a o:=by
 induction o with
 |lst xs=>obtain⟨z,aD,n,r,e⟩:=x;exact⟨z,aD,n,r,k _ _ (.inl rfl) e⟩
 |tup xs=>obtain⟨z,aD,r,ob,e,c⟩:=x;exact⟨z,aD,r,ob,k _ _ (.inl rfl) e,c⟩
 |dK aC ep=>obtain⟨z,y,vs,r,ob,es,e,c⟩:=x;exact⟨z,y,vs,r,ob,es,k _ _ (.inl rfl) e,c⟩
 |dT aC ep=>
  obtain⟨z,y,xs,r,ob,es,e,c⟩:=x
  exact⟨z,y,xs,Paired.Mu r λp q z=>⟨z.1,ht _ _ z.2.1,z.2.2⟩,ob,es,k _ _ (.inl rfl) e,c⟩
 |set S n=>obtain⟨ob,es,ep,t,e,c⟩:=x;exact⟨ob,es,ep,t,k _ _ (.inl rfl) e,c⟩
 |ins C dx fs=>
  obtain⟨d,z,ne,e,mA,⟨od,es,ep,e2,c⟩,r⟩:=x
  exact⟨ho _ d,z,ne,k _ _ (.inl rfl) e,mA,⟨od,es,ep,k _ _ (.inr d) e2,c⟩,r⟩
 |own y=>obtain⟨ob,e⟩:=x;exact⟨ob,k _ _ (.inl rfl) e⟩
 |xd fs=>obtain⟨mA,⟨od,es,ep,e,c⟩,r⟩:=x;exact⟨mA,⟨od,es,ep,k _ _ (.inl rfl) e,c⟩,r⟩
 |Ng lo hi=>obtain⟨t,u,v,e⟩:=x;exact⟨t,u,v,k _ _ (.inl rfl) e⟩
 |j5 ob u ih=>obtain⟨e,q⟩:=x;exact⟨k _ _ (.inl rfl) e,ih q⟩
 |vN ps=>
  have e:h.get? a=aa {cls:=.none,data:=.fields ps}:=x;show h'.get? a=aa {cls:=.none,data:=.fields ps};exact k a _ (.inl rfl) e
 |met f y=>
  have e:h.get? a=aa (Pg (.ref f) (.ref y)):=x;show h'.get? a=aa (Pg (.ref f) (.ref y));exact k a _ (.inl rfl) e
 |ext φ=>obtain⟨p,⟨o,e⟩,st⟩:=x;exact⟨st _ _ p λo q=>k _ _ (.inl rfl) q,⟨o,k _ _ (.inl rfl) e⟩,st⟩
theorem fY.lt(x:fY P w H h)(e:H a=aa o):a<h.objs.size:=(x a o e).lt
theorem fY.fresh(x:fY P w H h)(e:h.objs.size<=a):H a=ak:=by
 cases q:H a with
 |none=>rfl
 |some u=>exact absurd (jO (x.lt q) e) (ux _)
theorem fY.kept(x:fY P w H h)(k:∀b u,h.get? b=aa u->h'.get? b=aa u):fY P w H h':=λa o e=>
 (x a o e).stay (λb u _ q=>k b u q) (λ_ q=>q) λ_ _ q=>q
theorem fY.laid(x:fY P w H h)(k:∀b u,h.get? b=aa u->h'.get? b=aa u)(hp:h.objs.size<=a)(new:dU P w (upd H a o) h' a o):fY P w (upd H a o) h':=λb u e=>by
 have hn:=x.fresh hp;by_cases hb:b=a
 .subst hb;rw[fL] at e;cases e;exact new
 .rw[cR hb] at e
  exact(x b u e).stay (λc v _ q=>k c v q) (λc q=>by rw[cR (pK q hn)];exact q) λc xs q=>by rw[cR (pK q hn)];exact q
end
def Rd(H:Hp)(a:aq)(u:HO):Prop:=H a=aa u\/∃o,H a=aa (.j5 o u)
theorem Rd.ok{P:bI}{w:bC}{H:Hp}{h:bw}{a:aq}{u:HO}(r:Rd H a u)(x:fY P w H h):dU P w H h a u:=by
 rcases r with r|⟨o,r⟩
 .exact x a u r
 .obtain⟨_,q⟩:=x a _ r
  exact q
def Bh:Option HO->Prop
 |some (.lst _)=>True
 |some (.dK _ _)=>True
 |some (.dT _ _)=>True
 |some (.set _ _)=>True
 |some (.ins _ _ _)=>True
 |some (.ext _)=>True
 |_=>False
section
variable{P:bI}{w:bC}{H:Hp}{h h':bw}{x e:aq}{o':HO}
theorem fY.write(ok:fY P w H h)(mu:Bh (H x))(he:e=x\/H e=aa (.own x))(k:∀b u,b≠e->h.get? b=aa u->h'.get? b=aa u)(heo:∃u,h'.get? e=aa u)
  (new:dU P w (upd H x o') h' x o'):fY P w (upd H x o') h':=λb u q=>by
 have Wa:∀c y,H c=aa (.own y)->c≠x:=λc y r z=>by subst z;rw[r] at mu;exact mu
 have agD:∀c xs,H c=aa (.tup xs)->c≠x:=λc xs r z=>by subst z;rw[r] at mu;exact mu
 by_cases hb:b=x
 .subst hb;rw[fL] at q;cases q;exact new
 .rw[cR hb] at q;by_cases hbe:b=e
  .have q':H b=aa (.own x):=by
    rcases he with z|z
    .exact absurd (hbe.trans z) hb
    .rw[hbe];exact z
   rw[q] at q';cases q'
   obtain⟨v,hv⟩:=heo
   exact⟨v,by rw[hbe];exact hv⟩
  .refine(ok b u q).stay (λc v hc r=>k c v ?_ r) (λc r=>by rw[cR (Wa c b r)];exact r) λc xs r=>by rw[cR (agD c xs r)];exact r
   rcases hc with rfl|hc
   .exact hbe
   .rintro rfl;rcases he with z|z
    .exact Wa c b hc z
    .rw[hc] at z;cases z;exact hb rfl
end
structure Un(fs ex:List aq)(H H':Hp)(h h':bw):Prop where
 keep:∀b o,h.get? b=aa o->H b=ak->b∉fs->b∉ex->h'.get? b=aa o
 slot:∀b o,h.get? b=aa o->H b=ak->b∈fs->b∉ex->∃sl,h'.get? b=aa {o with slots:=sl}
 free:∀b o,h.get? b=aa o->H b=ak->b∉ex->H' b=ak
 there:∀b o,h.get? b=aa o->b∉ex->∃o',h'.get? b=aa o'
 tups:∀b xs,H b=aa (.tup xs)->H' b=aa (.tup xs)
 qU:∀b o u,H b=aa (.j5 o u)->H' b=aa (.j5 o u)
 tQ:∀b ps,H b=aa (.vN ps)->∃more,H' b=aa (.vN (ps++more))
section
variable{fs fs' ex ex':List aq}{H H1 H2:Hp}{h h1 h2 h':bw}{a x e:aq}{o:HO}
theorem Un.any(u:Un fs ex H H1 h h1){b:aq}{ob:Obj}(q:h.get? b=aa ob)(n:H b=ak)(hx:b∉ex):∃sl,h1.get? b=aa {ob with slots:=sl}:=by
 by_cases hb:b∈fs
 .exact u.slot b ob q n hb hx
 .exact⟨ob.slots,u.keep b ob q n hb hx⟩
theorem Un.kept(k:∀b u,h.get? b=aa u->h'.get? b=aa u):Un fs ex H H h h':=
 ⟨λb ob q _ _ _=>k b ob q,λb ob q _ _ _=>⟨ob.slots,k b ob q⟩,λ_ _ _ n _=>n,λb ob q _=>⟨ob,k b ob q⟩,λ_ _ q=>q,λ_ _ _ q=>q,λ_ ps q=>⟨#[],by rw[q];simp⟩⟩
theorem Un.refl:Un fs ex H H h h:=Un.kept λ_ _ q=>q
theorem Un.laid(k:∀b u,h.get? b=aa u->h'.get? b=aa u)(hp:h.objs.size<=a)(hn:H a=ak):Un fs ex H (upd H a o) h h' where
 keep:=λb u q _ _ _=>k b u q
 slot:=λb u q _ _ _=>⟨u.slots,k b u q⟩
 free:=λb u q n _=>by rw[cR (iY (jO (b8 q) hp))];exact n
 there:=λb u q _=>⟨u,k b u q⟩
 tups:=λb xs q=>by rw[cR (pK q hn)];exact q
 qU:=λb u xs q=>by rw[cR (pK q hn)];exact q
 tQ:=λb ps q=>⟨#[],by rw[cR (pK q hn),q];simp⟩
theorem Un.write(mu:Bh (H x))(he:e=x\/H e=aa (.own x))(k:∀b u,b≠e->h.get? b=aa u->h'.get? b=aa u)(heo:∃u,h'.get? e=aa u):Un fs ex H (upd H x o) h h':=by
 have hx:∀b,H b=ak->b≠x:=λb n z=>by subst z;rw[n] at mu;exact mu
 have hb:∀b,H b=ak->b≠e:=λb n z=>by
  subst z;rcases he with r|r
  .exact hx b n r
  .rw[n] at r;cases r
 have hm:∀b u,H b=aa u->¬Bh (aa u)->b≠x:=λb u q nm z=>by subst z;rw[q] at mu;exact nm mu
 refine⟨λb u q n _ _=>k b u (hb b n) q,λb u q n _ _=>⟨u.slots,k b u (hb b n) q⟩,λb u q n _=>by rw[cR (hx b n)];exact n,λb u q _=>?_,
  λb xs q=>by rw[cR (hm b _ q λz=>z)];exact q,λb u xs q=>by rw[cR (hm b _ q λz=>z)];exact q,λb ps q=>⟨#[],by rw[cR (hm b _ q λz=>z),q];simp⟩⟩
 by_cases hbe:b=e
 .subst hbe;exact heo
 .exact⟨u,k b u hbe q⟩
end
def Gj(h:bw)(H:Hp):List aq:=(wL h.objs.size).filter λa=>(H a).isSome
def qW(h:bw)(H:Hp):bw:=PySem.W.hideAll h (Gj h H)
theorem aaZ(h:bw)(H:Hp):(qW h H).objs.size=h.objs.size:=PySem.W.hideAll_size _ _
theorem abH{h:bw}{H:Hp}{b:aq}{o:Obj}(e:h.get? b=aa o)(n:H b=ak):(qW h H).get? b=aa o:=
 PySem.W.hideAll_get _ e λhm=>by
  have q:(H b).isSome=au:=(wu.mp hm).2;rw[n] at q;simp at q
theorem acT{h:bw}{H:Hp}{b:aq}{o:Obj}(e:(qW h H).get? b=aa o):h.get? b=aa o/\H b=ak:=by
 have e':h.get? b=aa o:=PySem.W.of_hideAll (Gj h H) e
 refine⟨e',?_⟩
 cases q:H b with
 |none=>rfl
 |some x=>
  have hm:b∈Gj h H:=wu.mpr ⟨Qd.mpr (b8 e'),by simp[q]⟩;have z:(qW h H).get? b=ak:=PySem.W.hideAll_none (Gj h H) hm;rw[z] at e;cases e
def acU(g h:bw)(L:aq):List (aq×Obj):=(wL h.objs.size).filterMap λa=>if a=L\/(g.get? a).isSome=au then ak else(h.get? a).map λo=>(a,o)
def rest(g h:bw)(L d:aq):List (aq×Obj):=(acU g h L).filter λp=>decide (p.1≠d)
structure Mod(K:aJ)(mg:Str->Option aA)(base:bw):Prop where
 Nh:K.In base
 glob:base.Ns fG mg
 blt:∃mb,base.Ns builtinsNs mb/\∀x:Str,x≠"__name__"->mb x=oA x
 nolimit:base.NoLimit
structure Cx where
 prog:bI
 w:bC
 K:aJ
 mg:Str->Option aA
 base:bw
 A:b7
 N:List Str
 s₀:aH
 H₀:Hp
 env:Env
 outer:List Env
 stack:List Env
 ex:List aq
 fn:Str->Bool
 calm:Bool
 pn:List (aq×Obj)
 xe:aA->aH->Prop
def frs(l:List Env):List aq:=l.filterMap (·.frame)
abbrev Cx.fs(X:Cx):List aq:=frs X.outer
def Ni(sc:jj)(x:Str):Prop:=sc.names.lookup x=aa .local\/sc.names.lookup x=aa .cell\/sc.names.lookup x=aa .free
def Loc(sc:jj)(x:Str):Prop:=sc.names.lookup x=aa .local\/sc.names.lookup x=aa .cell
def Look(aj:Env)(h:bw)(m:Str->Option aA)(x:Str)(u:aA):Prop:=
 (aj.kindOf x=aa .local/\m x=aa u)\/((aj.kindOf x=aa .cell\/aj.kindOf x=aa .free)/\∃c,aj.cells.lookup x=aa c/\h.IsCell c (aa u))
structure Cx.Ok(X:Cx):Prop where
 mod:Mod X.K X.mg X.base
 kind:X.env.scope.kind=.function
 glob:X.env.globals=fG
 blt:X.env.builtins=builtinsNs
 above:X.s₀.heap.objs.size<=X.env.locals
 inj:∀x y c,X.env.cells.lookup x=aa c->X.env.cells.lookup y=aa c->x=y
 has:∀x,(X.env.kindOf x=aa .cell\/X.env.kindOf x=aa .free)->∃c,X.env.cells.lookup x=aa c
 cab:∀x c,X.fn x=au->X.env.cells.lookup x=aa c->X.s₀.heap.objs.size<=c
 hd:X.calm=au->X.A.handled=ak
 frames:X.A.frames=aa X.stack
 stk:X.stack=X.outer\/(X.stack=X.env::X.outer/\X.env.frame=aa X.env.locals)
 WM:∀b∈X.ex,b≠X.env.locals/\∀x c,X.env.cells.lookup x=aa c->c≠b
 bs:∀b o,X.base.get? b=aa o->X.s₀.heap.get? b=aa o/\X.H₀ b=ak
 tX:X.base.objs.size<=X.s₀.heap.objs.size
 Am:∀b o,X.base.get? b=aa o->b∉X.ex
 FP:∀b∈X.ex,b∉X.fs
 oW:X.s₀.heap.FunFrames X.base X.outer
 yp:∀b∈X.fs,X.H₀ b=ak
structure Inv(X:Cx)(ao:List (aq×Obj))(σ:List (Option V))(H:Hp)(s:aH):Prop where
 ok:X.Ok
 os:s.os=X.s₀.os
 bare:AllBare s.gens
 base:Un X.fs X.ex X.H₀ H X.s₀.heap s.heap
 loc:∃m,s.heap.Ns X.env.locals m/\∀(i:Nat)(x:Str)(v:V),X.N[i]?=aa x->σ[i]?=aa (aa v)->Ni X.env.scope x->∃u,RelV v u/\Look X.env s.heap m x u
 cell:∀x c,X.env.cells.lookup x=aa c->∃v,s.heap.IsCell c v
 free:H X.env.locals=ak
 oO:∀x c,X.env.cells.lookup x=aa c->H c=ak
 pin:∀p∈X.pn++ao,s.heap.get? p.1=aa p.2/\H p.1=ak/\p.1≠X.env.locals/\p.1∉X.fs/\∀v,p.2.data≠.cell v
 hok:fY X.prog X.w H s.heap
 len:σ.length=X.N.length
section
variable{X:Cx}{ao:List (aq×Obj)}{σ:List (Option V)}{H H':Hp}{s:aH}{h':bw}
theorem Cx.Ok.agE(ok:X.Ok){b:aq}{o:Obj}(e:X.base.get? b=aa o):b∉X.fs:=λhb=>by
 have:=(ok.oW.mem hb).1;rw[e] at this;cases this
theorem Inv.bs(I:Inv X ao σ H s):∀b o,X.base.get? b=aa o->s.heap.get? b=aa o/\H b=ak:=λb o e=>
 ⟨I.base.keep b o (I.ok.bs b o e).1 (I.ok.bs b o e).2 (I.ok.agE e) (I.ok.Am b o e),I.base.free b o (I.ok.bs b o e).1 (I.ok.bs b o e).2 (I.ok.Am b o e)⟩
theorem Inv.bk(I:Inv X ao σ H s):∀b o,X.base.get? b=aa o->s.heap.get? b=aa o:=λb o e=>(I.bs b o e).1
theorem Inv.mod(I:Inv X ao σ H s):Mod X.K X.mg X.base:=I.ok.mod
theorem Inv.fZ(I:Inv X ao σ H s):X.K.In s.heap:=I.ok.mod.Nh.keeps I.bk
theorem Inv.lt(I:Inv X ao σ H s):X.env.locals<s.heap.objs.size:=let ⟨_,hn,_⟩:=I.loc;hn.lt
theorem Inv.sz(I:Inv X ao σ H s):X.s₀.heap.objs.size<=s.heap.objs.size:=kI I.ok.above (Qm I.lt)
theorem Inv.agF(I:Inv X ao σ H s){a:aq}(h:s.heap.objs.size<=a):a∉X.fs:=λhb=>by
 obtain⟨_,o,ho,_⟩:=I.ok.oW.mem hb
 exact absurd (jO (b8 ho) (kI I.sz h)) (ux _)
theorem Inv.vO(I:Inv X ao σ H s):∀x c,X.env.cells.lookup x=aa c->c≠X.env.locals:=λx c e z=>by
 obtain⟨v,o,ho,hd⟩:=I.cell x c e
 obtain⟨m,⟨o',es,ep,ho',hd',_⟩,_⟩:=I.loc
 rw[z,ho'] at ho;cases ho;rw[hd'] at hd;cases hd
theorem Inv.oW(I:Inv X ao σ H s):s.heap.FunFrames X.base X.outer:=by
 have all:∀(l:List Env),(∀b∈frs l,b∈X.fs)->X.s₀.heap.FunFrames X.base l->s.heap.FunFrames X.base l:=by
  intro l;induction l with
  |nil=>intro _ _;trivial
  |cons aj r ih=>
   intro hs hl
   obtain⟨hk,⟨L,o,hf,hn,ho,hd⟩,hr⟩:=hl
   have hL:L∈X.fs:=hs L (by unfold frs;rw[O6,hf];exact gh)
   obtain⟨sl,e⟩:=I.base.slot L o ho (I.ok.yp L hL) hL λz=>I.ok.FP L z hL
   exact⟨hk,⟨L,_,hf,hn,e,hd⟩,ih (λb hb=>hs b (by unfold frs;rw[O6,hf];exact fQ _ hb)) hr⟩
 exact all X.outer (λ_ hb=>hb) I.ok.oW
theorem Inv.stack(I:Inv X ao σ H s):s.heap.FunFrames X.base X.stack:=by
 rcases I.ok.stk with e|⟨e,hf⟩
 .rw[e];exact I.oW
 .rw[e]
  obtain⟨m,hn,_⟩:=I.loc
  refine .cons (by rw[I.ok.kind];decide) hf hn ?_ I.oW;exact Heap.get?_none_of_le (kI I.ok.tX I.ok.above)
theorem Inv.Eg(I:Inv X ao σ H s):∀b∈frs X.stack,b∈X.env.locals::X.fs:=λb hb=>by
 rcases I.ok.stk with e|⟨e,hf⟩
 .rw[e] at hb;exact fQ _ hb
 .rw[e] at hb;unfold frs at hb;rw[O6,hf] at hb;exact hb
theorem Inv.S8(I:Inv X ao σ H s):∀b∈frs X.stack,H b=ak:=λb hb=>by
 rcases cD.mp (I.Eg b hb) with e|hb
 .rw[e];exact I.free
 .obtain⟨_,o,ho,_⟩:=I.ok.oW.mem hb
  exact I.base.free b o ho (I.ok.yp b hb) λz=>I.ok.FP b z hb
theorem Inv.step{g':Array GenState}{t':Nat}{d':Drawn}{ch:List aq}(I:Inv X ao σ H s)
  (hch:∀b∈ch,(b∈X.ex\/X.s₀.heap.objs.size<=b)/\b≠X.env.locals/\(∀x c,X.env.cells.lookup x=aa c->c≠b)/\∀p∈X.pn++ao,p.1≠b)
  (keep:∀b o,b≠X.env.locals->b∉X.fs->b∉ch->s.heap.get? b=aa o->H b=ak->h'.get? b=aa o)
  (slot:∀b o,b≠X.env.locals->b∈X.fs->b∉ch->s.heap.get? b=aa o->H b=ak->∃sl,h'.get? b=aa {o with slots:=sl})(free:∀b o,b∉ch->s.heap.get? b=aa o->H b=ak->H' b=ak)
  (there:∀b o,b∉ch->s.heap.get? b=aa o->∃o',h'.get? b=aa o')
  (tups:∀b xs,H b=aa (.tup xs)->H' b=aa (.tup xs))(qU:∀b o u,H b=aa (.j5 o u)->H' b=aa (.j5 o u))(tQ:∀b ps,H b=aa (.vN ps)->∃more,H' b=aa (.vN (ps++more)))
  (ns:∀m,s.heap.Ns X.env.locals m->h'.Ns X.env.locals m)(hok:fY X.prog X.w H' h')(hg:AllBare g'):
  Inv X ao σ H' {s with heap:=h',gens:=g',drawn:=d',toks:=t'}:=by
 have WN:∀b o,X.s₀.heap.get? b=aa o->b≠X.env.locals:=λb o e=>iY (jO (b8 e) I.ok.above)
 have Gk:∀b o,X.s₀.heap.get? b=aa o->b∉X.ex->b∉ch:=λb o e hx hb=>by
  rcases(hch b hb).1 with z|z
  .exact hx z
  .exact absurd (jO (b8 e) z) (ux _)
 have cellK:∀x c,X.env.cells.lookup x=aa c->∀v,s.heap.IsCell c v->h'.IsCell c v:=λx c e v aR=>by
  obtain⟨o,ho,hd⟩:=aR
  have Bj:c∉ch:=λz=>(hch c z).2.2.1 x c e rfl
  by_cases hc:c∈X.fs
  .obtain⟨sl,q⟩:=slot c o (I.vO x c e) hc Bj ho (I.oO x c e)
   exact⟨_,q,hd⟩
  .exact⟨o,keep c o (I.vO x c e) hc Bj ho (I.oO x c e),hd⟩
 refine⟨I.ok,I.os,hg,⟨λb o e n hb hx=>?_,λb o e n hb hx=>?_,λb o e n hx=>?_,λb o e hx=>?_,λb xs e=>tups b xs (I.base.tups b xs e),λb o xs e=>qU b o xs (I.base.qU b o xs e),λb ps e=>?_⟩,?_,λx c e=>?_,?_,λx c e=>?_,λp hp=>?_,hok,I.len⟩
 .exact keep b o (WN b o e) hb (Gk b o e hx) (I.base.keep b o e n hb hx) (I.base.free b o e n hx)
 .obtain⟨sl,e1⟩:=I.base.slot b o e n hb hx
  obtain⟨sl',e2⟩:=slot b _ (WN b o e) hb (Gk b o e hx) e1 (I.base.free b o e n hx)
  exact⟨sl',e2⟩
 .obtain⟨o',e1⟩:=I.base.there b o e hx
  exact free b o' (Gk b o e hx) e1 (I.base.free b o e n hx)
 .obtain⟨o',e1⟩:=I.base.there b o e hx
  exact there b o' (Gk b o e hx) e1
 .obtain⟨m1,e1⟩:=I.base.tQ b ps e
  obtain⟨m2,e2⟩:=tQ b _ e1
  exact⟨m1++m2,by rw[e2,Array.append_assoc]⟩
 .obtain⟨m,hn,hl⟩:=I.loc
  refine⟨m,ns m hn,λi x v e1 e2 e3=>?_⟩
  obtain⟨u,r,l⟩:=hl i x v e1 e2 e3
  refine⟨u,r,?_⟩
  rcases l with l|⟨k,c,e,z⟩
  .exact .inl l
  .exact .inr ⟨k,c,e,cellK x c e _ z⟩
 .obtain⟨v,z⟩:=I.cell x c e
  exact⟨v,cellK x c e v z⟩
 .obtain⟨m,⟨o,_,_,ho,_⟩,_⟩:=I.loc
  exact free _ o (λz=>(hch _ z).2.1 rfl) ho I.free
 .obtain⟨v,o,ho,hd⟩:=I.cell x c e
  exact free c o (λz=>(hch c z).2.2.1 x c e rfl) ho (I.oO x c e)
 .obtain⟨e,n,ne,nf,d⟩:=I.pin p hp
  have Bj:p.1∉ch:=λz=>(hch p.1 z).2.2.2 p hp rfl
  exact⟨keep p.1 p.2 ne nf Bj e n,free p.1 p.2 Bj e n,ne,nf,d⟩
theorem Inv.un{t':Nat}(I:Inv X ao σ H s)(u:Un X.fs [] H H' s.heap h')(hok:fY X.prog X.w H' h'):Inv X ao σ H' {s with heap:=h',toks:=t'}:=by
 obtain⟨m,⟨o,es,ep,ho,r⟩,_⟩:=id I.loc
 obtain⟨sl,hL⟩:=u.any ho I.free bz
 exact I.step (g':=s.gens) (d':=s.drawn) (ch:=[]) (λ_ z=>nomatch z) (λb o _ hb _ e n=>u.keep b o e n hb bz) (λb o _ hb _ e n=>u.slot b o e n hb bz) (λb o _ e n=>u.free b o e n bz) (λb o _ e=>u.there b o e bz) u.tups u.qU u.tQ (λm' hm=>by
  obtain⟨o',es',ep',ho',r'⟩:=hm
  rw[ho] at ho';cases ho'
  exact⟨_,es',ep',hL,r'⟩) hok I.bare
theorem Inv.call{g':Array GenState}{t':Nat}{d':Drawn}{ch:List aq}(I:Inv X ao σ H s)(u:Un (frs X.stack) ch H H' s.heap h')(hok:fY X.prog X.w H' h')(hg:AllBare g')
  (hch:∀b∈ch,(b∈X.ex\/X.s₀.heap.objs.size<=b)/\b≠X.env.locals/\(∀x c,X.env.cells.lookup x=aa c->c≠b)/\∀p∈X.pn++ao,p.1≠b):
  Inv X ao σ H' {s with heap:=h',gens:=g',drawn:=d',toks:=t'}:=by
 obtain⟨m,⟨o,es,ep,ho,r⟩,_⟩:=id I.loc
 obtain⟨sl,hL⟩:=u.any ho I.free λz=>(hch _ z).2.1 rfl
 exact I.step (ch:=ch) hch (λb o hL hb hc e n=>u.keep b o e n (λz=>(cD.mp (I.Eg b z)).elim hL hb) hc) (λb o _ _ hc e n=>u.any e n hc) (λb o hc e n=>u.free b o e n hc) (λb o hc e=>u.there b o e hc) u.tups u.qU u.tQ (λm' hm=>by
  obtain⟨o',es',ep',ho',r'⟩:=hm
  rw[ho] at ho';cases ho'
  exact⟨_,es',ep',hL,r'⟩) hok hg
theorem Inv.turned{t':Nat}{it:aq}(I:Inv X ao σ H s)(k:∀b o,b≠it->s.heap.get? b=aa o->h'.get? b=aa o)(hn:H it=ak)(hL:it≠X.env.locals)
  (h1:it∈X.ex\/X.s₀.heap.objs.size<=it)(h2:∀x c,X.env.cells.lookup x=aa c->c≠it)(h3:∀p∈X.pn++ao,p.1≠it):Inv X ao σ H {s with heap:=h',toks:=t'}:=by
 have Bm:∀b u,H b=aa u->b≠it:=λb u e z=>by rw[z,hn] at e;cases e
 refine I.step (g':=s.gens) (d':=s.drawn) (ch:=[it]) (λb hb=>?_) (λb o _ _ hc e _=>k b o (λz=>hc (by simp[z])) e) (λb o _ _ hc e _=>⟨o.slots,k b o (λz=>hc (by simp[z])) e⟩) (λ_ _ _ _ n=>n)
  (λb o hc e=>⟨o,k b o (λz=>hc (by simp[z])) e⟩) (λ_ _ e=>e) (λ_ _ _ e=>e) (λb ps e=>⟨#[],by rw[e];simp⟩) (λm hm=>?_) (λb u e=>?_) I.bare
 .have e:b=it:=by simpa using hb
  subst e
  exact⟨h1,hL,h2,h3⟩
 .obtain⟨o,es,ep,ho,r⟩:=hm
  exact⟨o,es,ep,k _ o (mD hL) ho,r⟩
 .refine(I.hok b u e).stay (λc v hc q=>k c v ?_ q) (λ_ q=>q) λ_ _ q=>q
  rcases hc with z|z
  .rw[z];exact Bm b u e
  .exact Bm c _ z
theorem Inv.tok(I:Inv X ao σ H s)(t:Nat):Inv X ao σ H {s with toks:=t}:=I.un (h':=s.heap) (t':=t) Un.refl I.hok
theorem Inv.kept{t':Nat}(I:Inv X ao σ H s)(k:∀b u,s.heap.get? b=aa u->h'.get? b=aa u):Inv X ao σ H {s with heap:=h',toks:=t'}:=I.un (Un.kept k) (I.hok.kept k)
theorem Inv.laid{a:aq}{o:HO}{t':Nat}(I:Inv X ao σ H s)(k:∀b u,s.heap.get? b=aa u->h'.get? b=aa u)(hp:s.heap.objs.size<=a)(new:dU X.prog X.w (upd H a o) h' a o):
  Inv X ao σ (upd H a o) {s with heap:=h',toks:=t'}:=I.un (Un.laid k hp (I.hok.fresh hp)) (I.hok.laid k hp new)
theorem Inv.write{x e:aq}{o:HO}{t':Nat}(I:Inv X ao σ H s)(mu:Bh (H x))(he:e=x\/H e=aa (.own x))(k:∀b u,b≠e->s.heap.get? b=aa u->h'.get? b=aa u)(heo:∃u,h'.get? e=aa u)
  (new:dU X.prog X.w (upd H x o) h' x o):Inv X ao σ (upd H x o) {s with heap:=h',toks:=t'}:=I.un (Un.write mu he k heo) (I.hok.write mu he k heo new)
theorem Inv.weak{σ':List (Option V)}(I:Inv X ao σ H s)(hl:σ'.length=σ.length)(w:∀(i:Nat) v,σ'[i]?=aa (aa v)->σ[i]?=aa (aa v)):Inv X ao σ' H s:=
 ⟨I.ok,I.os,I.bare,I.base,let ⟨m,hn,hl'⟩:=I.loc;⟨m,hn,λi x v e1 e2 e3=>hl' i x v e1 (w i v e2) e3⟩,I.cell,I.free,I.oO,I.pin,I.hok,hl.trans I.len⟩
theorem Inv.S9{LR:List (aq×Obj)}(I:Inv X ao σ H s)(h:∀p∈LR,s.heap.get? p.1=aa p.2/\H p.1=ak/\p.1≠X.env.locals/\p.1∉X.fs/\∀v,p.2.data≠.cell v):Inv X LR σ H s:=
 ⟨I.ok,I.os,I.bare,I.base,I.loc,I.cell,I.free,I.oO,λp hp=>(cL.mp hp).elim (λz=>I.pin p (gf _ z)) (h p),I.hok,I.len⟩
theorem RC{N:List Str}(hN:N.Nodup){i j:Nat}{x:Str}(a:N[i]?=aa x)(b:N[j]?=aa x):i=j:=by
 obtain⟨h1,e1⟩:=iU.mp a
 obtain⟨h2,e2⟩:=iU.mp b
 exact(List.getElem_inj hN).mp (e1.trans e2.symm)
theorem Q8{M:Model}{A:b7}{E:aA->aH->Prop}{i:Nat}{x:Str}{v:V}{u:aA}{Q:Unit->aH->Prop}(I:Inv X ao σ H s)(hN:X.N.Nodup)(hi:X.N[i]?=aa x)(hx:Loc X.env.scope x)(r:RelV v u)
  (h:∀s',Inv X ao (σ.set i (aa v)) H s'->(∃a,Cj a s.heap s'.heap/\(a=X.env.locals\/X.env.cells.lookup x=aa a))->Q () s')(hf:X.fn x=au\/X.env.scope.names.lookup x=aa .local:=by first|exact .inl rfl|exact .inr rfl|assumption):bu M A (storeName X.env x u) Q E s:=by
 obtain⟨m,hn,hl⟩:=id I.loc
 have hcls:(X.env.scope.kind==.class||(X.env.scope.kind==.module&&X.env.locals != X.env.globals))=aF:=by rw[I.ok.kind];rfl
 have WQ:i<σ.length:=by rw[I.len];exact(iU.mp hi).1
 have vO:=I.vO;have tracked:∀{a:aq}{h':bw},(∃o,s.heap.get? a=aa o/\H a=ak)->Cj a s.heap h'->fY X.prog X.w H h':=λ{a h'} ha hs b ob e=>by
  obtain⟨_,_,hfree⟩:=ha
  refine(I.hok b ob e).stay (λc w' hc q=>(hs.2 c ?_).trans q) (λ_ q=>q) λ_ _ q=>q
  rintro rfl;rcases hc with rfl|hc
  .rw[hfree] at e;cases e
  .rw[hfree] at hc;cases hc
 rcases hx with hk|hk
 .refine wpAny_storeName_local hk hn (λh' hn' hs=>?_) hcls
  obtain⟨oL,_,_,hoL,_⟩:=id hn
  refine h _ ⟨I.ok,I.os,I.bare,⟨λb o e n hb hx=>?_,λb o e n hb hx=>?_,I.base.free,λb o e hx=>?_,I.base.tups,I.base.qU,I.base.tQ⟩,⟨_,hn',λj y v' e1 e2 e3=>?_⟩,λy c e=>?_,I.free,I.oO,λp hp=>?_,tracked ⟨oL,hoL,I.free⟩ hs,by simpa using I.len⟩ ⟨_,hs,.inl rfl⟩
  .exact(hs.2 b (iY (jO (b8 e) I.ok.above))).trans (I.base.keep b o e n hb hx)
  .obtain⟨sl,e1⟩:=I.base.slot b o e n hb hx
   exact⟨sl,(hs.2 b (iY (jO (b8 e) I.ok.above))).trans e1⟩
  .obtain⟨o',e1⟩:=I.base.there b o e hx
   exact⟨o',(hs.2 b (iY (jO (b8 e) I.ok.above))).trans e1⟩
  .by_cases hj:j=i
   .subst hj;rw[hi] at e1;cases e1;rw[X6 WQ] at e2;cases e2
    exact⟨u,r,.inl ⟨hk,bz⟩⟩
   .rw[BL (mD hj)] at e2
    obtain⟨u',r',q⟩:=hl j y v' e1 e2 e3
    refine⟨u',r',?_⟩
    rcases q with⟨k,e⟩|⟨k,c,e,z⟩
    .refine .inl ⟨k,?_⟩;have:y≠x:=λe=>hj (RC hN e1 (e▸hi))
     simp[this,e]
    .exact .inr ⟨k,c,e,z.sameBut hs (vO y c e)⟩
  .obtain⟨w',z⟩:=I.cell y c e
   exact⟨w',z.sameBut hs (vO y c e)⟩
  .obtain⟨e,n,ne,nf,d⟩:=I.pin p hp
   exact⟨(hs.2 p.1 ne).trans e,n,ne,nf,d⟩
 .have hfn:X.fn x=au:=by
   rcases hf with z|z
   .exact z
   .rw[z] at hk;cases hk
  obtain⟨c,hc⟩:=I.ok.has x (.inl hk)
  obtain⟨w',z⟩:=I.cell x c hc
  refine wpAny_storeName_cell I.ok.kind hk hc z (λh' hc' hs=>?_)
  obtain⟨oc,hoc,agG⟩:=id z
  refine h {s with heap:=h'} ⟨I.ok,I.os,I.bare,⟨λb o e n hb hx=>?_,λb o e n hb hx=>?_,I.base.free,λb o e hx=>?_,I.base.tups,I.base.qU,I.base.tQ⟩,⟨m,hn.sameBut hs (mD (vO x c hc)),λj y v' e1 e2 e3=>?_⟩,λy c' e=>?_,I.free,I.oO,λp hp=>?_,tracked ⟨oc,hoc,I.oO x c hc⟩ hs,by simpa using I.len⟩ ⟨c,hs,.inr hc⟩
  .exact(hs.2 b (iY (jO (b8 e) (I.ok.cab x c hfn hc)))).trans (I.base.keep b o e n hb hx)
  .obtain⟨sl,e1⟩:=I.base.slot b o e n hb hx
   exact⟨sl,(hs.2 b (iY (jO (b8 e) (I.ok.cab x c hfn hc)))).trans e1⟩
  .obtain⟨o',e1⟩:=I.base.there b o e hx
   exact⟨o',(hs.2 b (iY (jO (b8 e) (I.ok.cab x c hfn hc)))).trans e1⟩
  .by_cases hj:j=i
   .subst hj;rw[hi] at e1;cases e1;rw[X6 WQ] at e2;cases e2
    exact⟨u,r,.inr ⟨.inl hk,c,hc,hc'⟩⟩
   .rw[BL (mD hj)] at e2
    obtain⟨u',r',q⟩:=hl j y v' e1 e2 e3
    refine⟨u',r',?_⟩
    rcases q with q|⟨k,c',e,z'⟩
    .exact .inl q
    .refine .inr ⟨k,c',e,z'.sameBut hs ?_⟩;rintro rfl;exact hj (RC hN e1 (I.ok.inj _ _ _ e hc▸hi))
  .by_cases hcc:c'=c
   .subst hcc;exact⟨_,hc'⟩
   .obtain⟨w2,z2⟩:=I.cell y c' e
    exact⟨w2,z2.sameBut hs hcc⟩
  .obtain⟨e,n,ne,nf,d⟩:=I.pin p hp
   refine⟨(hs.2 p.1 ?_).trans e,n,ne,nf,d⟩
   intro q;rw[q,hoc] at e;have q':oc=p.2:=gG e;exact d w' (by rw[<-q'];exact agG)
theorem qz{M:Model}{A:b7}{E:aA->aH->Prop}{i:Nat}{x:Str}{v:V}{u:aA}{Q:Unit->aH->Prop}(I:Inv X ao σ H s)(hN:X.N.Nodup)(hi:X.N[i]?=aa x)(hx:Loc X.env.scope x)(r:RelV v u)
  (h:∀s',Inv X ao (σ.set i (aa v)) H s'->Q () s')(hf:X.fn x=au\/X.env.scope.names.lookup x=aa .local:=by first|exact .inl rfl|exact .inr rfl|assumption):bu M A (storeName X.env x u) Q E s:=
 Q8 I hN hi hx r (λs' I' _=>h s' I') hf
theorem Inv.call'{s':aH}{ch:List aq}(I:Inv X ao σ H s)(ho:s'.os=s.os)(u:Un (frs X.stack) ch H H' s.heap s'.heap)(hok:fY X.prog X.w H' s'.heap)(hg:AllBare s'.gens)
  (hch:∀b∈ch,(b∈X.ex\/X.s₀.heap.objs.size<=b)/\b≠X.env.locals/\(∀x c,X.env.cells.lookup x=aa c->c≠b)/\∀p∈X.pn++ao,p.1≠b):Inv X ao σ H' s':=by
 obtain⟨h',g',d',t',o'⟩:=s'
 have e:o'=s.os:=ho;subst e;exact I.call (g':=g') (t':=t') (d':=d') u hok hg hch
end
abbrev XK:=aA->Option aq->Hp->Prop
abbrev St:=List (Option V)
abbrev VK:=V->Hp->Prop
abbrev TE:=St->Hp->VK->Prop
abbrev TT:=St->Hp->(Bool->Hp->Prop)->Prop
abbrev TA:=St->Hp->(List V->Hp->Prop)->Prop
structure Ends where
 nx:St->Hp->Prop
 rt:VK
 bk:St->Hp->Prop:=λ_ _=>False
 ct:St->Hp->Prop:=λ_ _=>False
abbrev TS:=Ends->St->Hp->Prop
def EP(X:Cx)(ao:List (aq×Obj))(σ:St)(Q:VK)(u:aA)(s':aH):Prop:=∃v H',Inv X ao σ H' s'/\RelV v u/\Q v H'
def TP(X:Cx)(ao:List (aq×Obj))(σ:St)(Q:Bool->Hp->Prop)(b:Bool)(s':aH):Prop:=∃H',Inv X ao σ H' s'/\Q b H'
def AP(X:Cx)(ao:List (aq×Obj))(σ:St)(Q:List V->Hp->Prop)(us:List aA)(s':aH):Prop:=∃vs H',Inv X ao σ H' s'/\Vals vs us/\Q vs H'
def SP(X:Cx)(ao:List (aq×Obj))(D:Ends)(f:Flow)(s':aH):Prop:=
 match f with
 |.next=>∃σ' H',Inv X ao σ' H' s'/\D.nx σ' H'
 |.brk=>∃σ' H',Inv X ao σ' H' s'/\D.bk σ' H'
 |.cont=>∃σ' H',Inv X ao σ' H' s'/\D.ct σ' H'
 |.ret u=>∃v σ' H',Inv X ao σ' H' s'/\RelV v u/\D.rt v H'
def PE(X:Cx)(e:Expr)(t:TE):Prop:=
 ∀(ao:List (aq×Obj))(s:aH)(σ:St)(H:Hp)(Q:VK),Inv X ao σ H s->t σ H Q->bu (model X.prog X.w) X.A (eval e X.env) (EP X ao σ Q) X.xe s
def PT(X:Cx)(e:Expr)(t:TT):Prop:=
 ∀(ao:List (aq×Obj))(s:aH)(σ:St)(H:Hp)(Q:Bool->Hp->Prop),Inv X ao σ H s->t σ H Q->bu (model X.prog X.w) X.A (isTrue e X.env (eval e X.env)) (TP X ao σ Q) X.xe s
def PW(X:Cx)(e:Expr)(t:TT):Prop:=
 ∀(whole:Sem aA)(ao:List (aq×Obj))(s:aH)(σ:St)(H:Hp)(Q:Bool->Hp->Prop),Inv X ao σ H s->t σ H Q->bu (model X.prog X.w) X.A (isTrue e X.env whole) (TP X ao σ Q) X.xe s
theorem PW.pt{X:Cx}{e:Expr}{t:TT}(h:PW X e t):PT X e t:=h _
def PA(X:Cx)(es:List Expr)(t:TA):Prop:=
 ∀(pos:Pos)(ao:List (aq×Obj))(s:aH)(σ:St)(H:Hp)(Q:List V->Hp->Prop),Inv X ao σ H s->t σ H Q->bu (model X.prog X.w) X.A (spliced (gb pos (bG es X.env))) (AP X ao σ Q) X.xe s
def PS(X:Cx)(st:cZ)(t:TS):Prop:=
 ∀(ao:List (aq×Obj))(s:aH)(σ:St)(H:Hp)(D:Ends),Inv X ao σ H s->t D σ H->bu (model X.prog X.w) X.A (exec st X.env) (SP X ao D) X.xe s
def iI(X:Cx)(st:List cZ)(t:TS):Prop:=
 ∀(ao:List (aq×Obj))(s:aH)(σ:St)(H:Hp)(D:Ends),Inv X ao σ H s->t D σ H->bu (model X.prog X.w) X.A (execs st X.env) (SP X ao D) X.xe s
theorem bR{α:Type}{t:Sem α}{Q Q':α->aH->Prop}{M:Model}{A:b7}{E:aA->aH->Prop}{s:aH}(h:bu M A t Q E s)(hQ:∀a s,Q a s->Q' a s):bu M A t Q' E s:=zg h hQ λ_ _ x=>x
section
variable{X:Cx}
def mL(i:Nat):TE:=λσ H Q=>∃v,σ[i]?=aa (aa v)/\Q v H
def tC(v:V):TE:=λ_ H Q=>Q v H
theorem aep{i:Nat}{x:Str}{pos:Pos}(hN:X.N[i]?=aa x)(hv:Ni X.env.scope x)(hd:(x==("__debug__":Str))=aF:=by decide)(hcd:(x==("__classdict__":Str))=aF:=by decide):PE X (.Name x pos) (mL i):=by
 intro ao s σ H Q I h
 obtain⟨v,e,h⟩:=h
 obtain⟨m,hn,hl⟩:=I.loc
 obtain⟨u,r,l⟩:=hl i x v hN e hv
 have fin:EP X ao σ Q u s:=⟨v,H,I,r,h⟩
 rcases l with⟨hk,hm⟩|⟨hk,c,hc,hcell⟩
 .exact QK (wpAny_loadName_local I.ok.kind hk hn hm fin) hd
 .rcases hk with hk|hk
  .exact QK (wpAny_loadName_cell I.ok.kind hk hc hcell fin) hd
  .exact QK (wpAny_loadName_free I.ok.kind hk hc hcell fin hcd) hd
theorem bJ{i j pos}:PE X (.Constant (.int i) j pos) (tC (.int i)):=λ_ _ _ H _ I h=>wpAny_Constant_int ⟨.int i,H,I.tok _,⟨_,rfl⟩,h⟩
theorem u5{b j pos}:PE X (.Constant (.bool b) j pos) (tC (.bl b)):=λ_ _ _ H _ I h=>Constant_bool ⟨.bl b,H,I,rfl,h⟩
theorem lM{j pos}:PE X (.Constant .none j pos) (tC .non):=λ_ _ _ H _ I h=>Constant_none ⟨.non,H,I,rfl,h⟩
theorem bW{x j pos}:PE X (.Constant (.str x) j pos) (tC (.str x)):=λ_ _ _ H _ I h=>Calls.Constant_str ⟨.str x,H,I.tok _,⟨_,rfl⟩,h⟩
def Gl(X:Cx)(x:Str):Prop:=X.env.kindOf x=aa .globalImplicit
theorem Tc{E:aA->aH->Prop}{ao:List (aq×Obj)}{s:aH}{σ:St}{H:Hp}{x:Str}{u:aA}{pos:Pos}{Q:aA->aH->Prop}(I:Inv X ao σ H s)(hg:Gl X x)(hm:X.mg x=aa u)(h:Q u s)
  (hd:(x==("__debug__":Str))=aF:=by decide):bu (model X.prog X.w) X.A (eval (.Name x pos) X.env) Q E s:=
 XF I.ok.kind hg (Calls.loadGlobal_global (by rw[I.ok.glob];exact I.mod.glob.keeps I.bk) hm h) hd
theorem sH{E:aA->aH->Prop}{ao:List (aq×Obj)}{s:aH}{σ:St}{H:Hp}{x:Str}{u:aA}{pos:Pos}{Q:aA->aH->Prop}(I:Inv X ao σ H s)(hg:Gl X x)(hm:X.mg x=ak)(hv:oA x=aa u)(h:Q u s)
  (hn:x≠"__name__":=by decide)(hd:(x==("__debug__":Str))=aF:=by decide):bu (model X.prog X.w) X.A (eval (.Name x pos) X.env) Q E s:=by
 obtain⟨mb,h1,h2⟩:=I.mod.blt
 exact XF I.ok.kind hg (Calls.loadGlobal_builtin (by rw[I.ok.glob];exact I.mod.glob.keeps I.bk) hm (by rw[I.ok.blt];exact h1.keeps I.bk) ((h2 x hn).trans hv) h) hd
theorem zJ{x:Str}{v:V}{u:aA}{pos:Pos}(hg:Gl X x)(hm:X.mg x=aa u)(r:RelV v u)(hd:(x==("__debug__":Str))=aF:=by decide):PE X (.Name x pos) (tC v):=
 λ_ _ _ H _ I h=>Tc I hg hm ⟨v,H,I,r,h⟩ hd
theorem lH{x:Str}{v:V}{u:aA}{pos:Pos}(hg:Gl X x)(hm:X.mg x=ak)(hv:oA x=aa u)(r:RelV v u)(hn:x≠"__name__":=by decide)(hd:(x==("__debug__":Str))=aF:=by decide):PE X (.Name x pos) (tC v):=
 λ_ _ _ H _ I h=>sH I hg hm hv ⟨v,H,I,r,h⟩ hn hd
variable{a b:Expr}{ta tb:TE}{pos:Pos}
variable{tA Gm:TT}{rest:List Expr}
def Wb(t u:TT):TT:=λσ H Q=>t σ H λc H1=>if c=au then u σ H1 Q else Q aF H1
def WR(t u:TT):TT:=λσ H Q=>t σ H λc H1=>if c=au then Q au H1 else u σ H1 Q
def agH(t:TT):TT:=λσ H Q=>t σ H λc H1=>Q (!c) H1
theorem pw_and1(ha:PT X a tA):PW X (.BoolOp .And [a] pos) tA:=by
 intro wh ao s σ H Q I h;refine isTrue_and (bR (ha ao s σ H Q I h) λc s1 e=>?_);cases c with
 |true=>exact isTrue_and_nil e
 |false=>exact e
theorem pw_or1(ha:PT X a tA):PW X (.BoolOp .Or [a] pos) tA:=by
 intro wh ao s σ H Q I h;refine isTrue_or (bR (ha ao s σ H Q I h) λc s1 e=>?_);cases c with
 |false=>exact isTrue_or_nil e
 |true=>exact e
theorem pw_and(ha:PT X a tA)(hb:PW X (.BoolOp .And (b::rest) pos) Gm):PW X (.BoolOp .And (a::b::rest) pos) (Wb tA Gm):=by
 intro wh ao s σ H Q I h;refine isTrue_and (bR (ha ao s σ H _ I h) λc s1 aR=>?_)
 obtain⟨H1,I1,q1⟩:=aR
 cases c with
 |true=>exact hb wh ao s1 σ H1 Q I1 q1
 |false=>exact⟨H1,I1,q1⟩
theorem pw_or(ha:PT X a tA)(hb:PW X (.BoolOp .Or (b::rest) pos) Gm):PW X (.BoolOp .Or (a::b::rest) pos) (WR tA Gm):=by
 intro wh ao s σ H Q I h;refine isTrue_or (bR (ha ao s σ H _ I h) λc s1 aR=>?_)
 obtain⟨H1,I1,q1⟩:=aR
 cases c with
 |true=>exact⟨H1,I1,q1⟩
 |false=>exact hb wh ao s1 σ H1 Q I1 q1
theorem aeq(ha:PT X a tA):PT X (.UnaryOp .Not a pos) (agH tA):=by
 intro ao s σ H Q I h;exact isTrue_not (ha ao s σ H (λc H1=>Q (!c) H1) I h)
def afH(ta tb:TE):TE:=λσ H Q=>ta σ H λx H1=>∃c,x=.bl c/\if c=au then tb σ H1 Q else Q (.bl aF) H1
def agI(ta tb:TE):TE:=λσ H Q=>ta σ H λx H1=>∃c,x=.bl c/\if c=au then Q (.bl au) H1 else tb σ H1 Q
def afI(ta:TE):TE:=λσ H Q=>ta σ H λx H1=>∃c,x=.bl c/\Q (.bl (!c)) H1
theorem aer{op}{t:TE}(h:PE X a t):PE X (.BoolOp op [a] pos) t:=λao s σ H Q I hw=>BoolOp_one (h ao s σ H Q I hw)
theorem aes(ha:PE X a ta)(hb:PE X (.BoolOp .And (b::rest) pos) tb):PE X (.BoolOp .And (a::b::rest) pos) (afH ta tb):=by
 intro ao s σ H Q I h;refine BoolOp_and (bR (ha ao s σ H _ I h) λv s1 aR=>?_)
 obtain⟨x,H1,I1,r1,q1⟩:=aR
 obtain⟨c,rfl,q1⟩:=q1
 cases r1;refine rK ?_;cases c with
 |true=>exact hb ao s1 σ H1 Q I1 q1
 |false=>exact⟨.bl aF,H1,I1,rfl,q1⟩
theorem afJ(ha:PE X a ta)(hb:PE X (.BoolOp .Or (b::rest) pos) tb):PE X (.BoolOp .Or (a::b::rest) pos) (agI ta tb):=by
 intro ao s σ H Q I h;refine BoolOp_or (bR (ha ao s σ H _ I h) λv s1 aR=>?_)
 obtain⟨x,H1,I1,r1,q1⟩:=aR
 obtain⟨c,rfl,q1⟩:=q1
 cases r1;refine rK ?_;cases c with
 |false=>exact hb ao s1 σ H1 Q I1 q1
 |true=>exact⟨.bl au,H1,I1,rfl,q1⟩
theorem aet(ha:PE X a ta):PE X (.UnaryOp .Not a pos) (afI ta):=by
 intro ao s σ H Q I h;refine UnaryOp_ (bR (ha ao s σ H _ I h) λv s1 aR=>?_)
 obtain⟨x,H1,I1,r1,q1⟩:=aR
 obtain⟨c,rfl,q1⟩:=q1
 cases r1;exact not_of (rK ⟨.bl (!c),H1,I1,rfl,q1⟩)
def tIf(t:TT)(ta tb:TE):TE:=λσ H Q=>t σ H λc H1=>if c=au then ta σ H1 Q else tb σ H1 Q
theorem abI{c:Expr}(hc:PT X c tA)(ha:PE X a ta)(hb:PE X b tb):PE X (.IfExp c a b pos) (tIf tA ta tb):=by
 intro ao s σ H Q I h;refine wpAny_IfExp (bR (hc ao s σ H _ I h) λd s1 aR=>?_)
 obtain⟨H1,I1,q1⟩:=aR
 cases d with
 |true=>exact ha ao s1 σ H1 Q I1 q1
 |false=>exact hb ao s1 σ H1 Q I1 q1
end
def bL(K:aJ)(H:Hp)(a:aq)(xs:List V):Prop:=
 Rd H a (.lst xs)\/
  ∃(o:Obj)(aD:Array aA)(n:Nat),K.lookup a=aa o/\o.cls=.type "list"/\o.dict=ak/\o.data=.seq aD n/\aD.size<=bQ/\Vals xs aD.toList
def bO(K:aJ)(H:Hp)(a:aq)(xs:List V):Prop:=
 Rd H a (.tup xs)\/
  ∃(o:Obj)(aD:Array aA)(n:Nat),K.lookup a=aa o/\o.cls=.type "tuple"/\o.data=.seq aD n/\aD.size<=bQ/\Vals xs aD.toList
def agJ:aA->Option V
 |.none=>aa .non
 |.bool b=>aa (.bl b)
 |.int i _=>aa (.int i)
 |.str x _=>aa (.str x)
 |.bytes b _=>aa (.mV b)
 |.float b _=>aa (.flt b)
 |.ref a=>aa (.ref a)
 |.type n=>aa (.ty n)
 |_=>ak
theorem RelV.abs{x:V}{u:aA}(r:RelV x u):agJ u=aa x:=by
 cases x with
 |non=>cases r;rfl
 |bl _=>cases r;rfl
 |int _=>obtain⟨t,rfl⟩:=r;rfl
 |str _=>obtain⟨t,rfl⟩:=r;rfl
 |mV _=>obtain⟨t,rfl⟩:=r;rfl
 |flt _=>obtain⟨t,rfl⟩:=r;rfl
 |ref _=>cases r;rfl
 |ty _=>cases r;rfl
theorem RelV.inj{x y:V}{u:aA}(r:RelV x u)(q:RelV y u):x=y:=gG (r.abs.symm.trans q.abs)
theorem Vals.inj:∀{xs ys:List V}{us:List aA},Vals xs us->Vals ys us->xs=ys
 |_,_,_,.nil,.nil=>rfl
 |_,_,_,.cons r t,.cons r' t'=>by rw[r.inj r',Vals.inj t t']
section
variable{X:Cx}{ao:List (aq×Obj)}{σ:St}{H:Hp}{s:aH}{a:aq}{xs ys:List V}
theorem bL.of{K:aJ}(h:H a=aa (.lst xs)):bL K H a xs:=.inl (.inl h)
theorem bO.of{K:aJ}(h:H a=aa (.tup xs)):bO K H a xs:=.inl (.inl h)
theorem Inv.list(I:Inv X ao σ H s)(h:bL X.K H a xs):∃aD:List aA,Vals xs aD/\PlainL s.heap a aD.toArray/\xs.length<=bQ:=by
 rcases h with h|⟨o,aD,n,hk,hc,hd,hs,hz,r⟩
 .obtain⟨z,aD,n,r,e⟩:=h.ok I.hok
  exact⟨aD,r,⟨_,n,e,rfl,rfl,rfl⟩,z⟩
 .refine⟨aD.toList,r,⟨o,n,I.fZ a o hk,hc,hd,by simpa using hs⟩,?_⟩
  have e:=r.length;simp only[lC] at e;lia
theorem Inv.tuple(I:Inv X ao σ H s)(h:bO X.K H a xs):∃aD:List aA,Vals xs aD/\IsTup s.heap a aD.toArray/\xs.length<=bQ:=by
 rcases h with h|⟨o,aD,n,hk,hc,hs,hz,r⟩
 .obtain⟨z,aD,r,p⟩:=h.ok I.hok
  exact⟨aD,r,p,z⟩
 .refine⟨aD.toList,r,⟨o,I.fZ a o hk,hc,n,by simpa using hs⟩,?_⟩
  have e:=r.length;simp only[lC] at e;lia
theorem Inv.zx(I:Inv X ao σ H s)(h:bL X.K H a xs)(h':bL X.K H a ys):xs=ys:=by
 obtain⟨aD,r,⟨o,n,e,_,_,d⟩,_⟩:=I.list h
 obtain⟨its',r',⟨o',n',e',_,_,d'⟩,_⟩:=I.list h'
 rw[e] at e';cases e';rw[d] at d';injection d' with d1 _
 have:aD=its':=by simpa using congrArg Z4 d1
 subst this;exact r.inj r'
theorem Inv.De(I:Inv X ao σ H s)(h:bO X.K H a xs)(h':bO X.K H a ys):xs=ys:=by
 obtain⟨aD,r,⟨o,e,_,n,d⟩,_⟩:=I.tuple h
 obtain⟨its',r',⟨o',e',_,n',d'⟩,_⟩:=I.tuple h'
 rw[e] at e';cases e';rw[d] at d';injection d' with d1 _
 have:aD=its':=by simpa using congrArg Z4 d1
 subst this;exact r.inj r'
end
abbrev Cx.wish(X:Cx)(E:aA->aH->Prop):Cx:={X with xe:=E}
abbrev Cx.Bo(X:Cx):Cx:=X.wish λ_ _=>False
theorem Cx.Ok.wish{X:Cx}(ok:X.Ok)(E:aA->aH->Prop):(X.wish E).Ok:=
 ⟨ok.mod,ok.kind,ok.glob,ok.blt,ok.above,ok.inj,ok.has,ok.cab,ok.hd,ok.frames,ok.stk,ok.WM,ok.bs,ok.tX,ok.Am,ok.FP,ok.oW,ok.yp⟩
theorem Cx.Ok.sI{X:Cx}{E:aA->aH->Prop}(ok:(X.wish E).Ok):X.Ok:=
 ⟨ok.mod,ok.kind,ok.glob,ok.blt,ok.above,ok.inj,ok.has,ok.cab,ok.hd,ok.frames,ok.stk,ok.WM,ok.bs,ok.tX,ok.Am,ok.FP,ok.oW,ok.yp⟩
section
variable{X:Cx}{ao:List (aq×Obj)}{σ:St}{H:Hp}{s:aH}{E:aA->aH->Prop}
theorem Inv.wish(I:Inv X ao σ H s)(E:aA->aH->Prop):Inv (X.wish E) ao σ H s:=⟨I.ok.wish E,I.os,I.bare,I.base,I.loc,I.cell,I.free,I.oO,I.pin,I.hok,I.len⟩
theorem Inv.sI(I:Inv (X.wish E) ao σ H s):Inv X ao σ H s:=⟨I.ok.sI,I.os,I.bare,I.base,I.loc,I.cell,I.free,I.oO,I.pin,I.hok,I.len⟩
theorem SP.sI{D:Ends}{f:Flow}{s':aH}(h:SP (X.wish E) ao D f s'):SP X ao D f s':=by
 cases f with
 |next=>obtain⟨σ',H',I,q⟩:=h;exact⟨σ',H',I.sI,q⟩
 |brk=>obtain⟨σ',H',I,q⟩:=h;exact⟨σ',H',I.sI,q⟩
 |cont=>obtain⟨σ',H',I,q⟩:=h;exact⟨σ',H',I.sI,q⟩
 |ret u=>obtain⟨v,σ',H',I,r,q⟩:=h;exact⟨v,σ',H',I.sI,r,q⟩
theorem iI.Bo{st:List cZ}{t:TS}(h:iI X.Bo st t):iI X st t:=λao s σ H D I hw=>
 zg (h ao s σ H D (I.wish _) hw) (λ_ _ q=>q.sI) λ_ _ z=>qw z
end
section
variable{X:Cx}{st:cZ}{rest:List cZ}{t u:TS}{e:Expr}{te:TE}{pos:Pos}
def afK:TS:=λD σ H=>D.nx σ H
def Wc(t u:TS):TS:=λD σ H=>t {D with nx:=u D} σ H
theorem acV:iI X [] afK:=λ_ _ σ H _ I h=>PL ⟨σ,H,I,h⟩
theorem abJ(h1:PS X st t)(h2:iI X rest u):iI X (st::rest) (Wc t u):=by
 intro ao s σ H D I h;refine Y8 (bR (h1 ao s σ H {D with nx:=u D} I h) λf s1 q=>?_);cases f with
 |next=>
  obtain⟨σ',H',I',q⟩:=q
  exact h2 ao s1 σ' H' D I' q
 |ret v=>exact q
 |brk=>exact q
 |cont=>exact q
theorem acW(h1:PS X st t):iI X [st] t:=by
 intro ao s σ H D I h;refine Y8 (bR (h1 ao s σ H D I h) λf s1 q=>?_);cases f with
 |next=>exact PL q
 |ret v=>exact q
 |brk=>exact q
 |cont=>exact q
theorem Inv.quiet{ao:List (aq×Obj)}{σ:St}{H:Hp}{s:aH}(I:Inv X ao σ H s):interactive X.env=aF:=by simp[interactive,I.ok.kind]
def afL(te:TE):TS:=λD σ H=>te σ H λ_ H1=>D.nx σ H1
theorem Td(he:PE X e te)(hs:uG e ak pos.line X.env=pure aF:=by rfl):PS X (.Expr e pos) (afL te):=by
 intro ao s σ H D I h;exact wpAny_Expr_any (bR (he ao s σ H _ I h) λv s1 ⟨x,H1,I1,r1,q1⟩=>⟨σ,H1,I1,q1⟩) I.quiet hs
def agK(te:TE):TS:=λD σ H=>te σ H D.rt
theorem Uy(he:PE X e te):PS X (.Return (aa e) pos) (agK te):=by
 intro ao s σ H D I h;exact wpAny_Return_some (bR (he ao s σ H _ I h) λv s1 ⟨x,H1,I1,r1,q1⟩=>⟨x,σ,H1,I1,r1,q1⟩)
def agL(c:TT)(t u:TS):TS:=λD σ H=>c σ H λb H1=>if b=au then t D σ H1 else u D σ H1
theorem afM{c:Expr}{a b:List cZ}{tc:TT}(hc:PT X c tc)(ha:iI X a t)(hb:iI X b u):PS X (.If c a b pos) (agL tc t u):=by
 intro ao s σ H D I h;refine wpAny_If (bR (hc ao s σ H _ I h) λd s1 aR=>?_)
 obtain⟨H1,I1,q1⟩:=aR
 cases d with
 |true=>exact ha ao s1 σ H1 D I1 q1
 |false=>exact hb ao s1 σ H1 D I1 q1
end
abbrev TG:=V->St->Hp->(St->Hp->Prop)->Prop
abbrev o8:=List V->St->Hp->(St->Hp->Prop)->Prop
def PG(X:Cx)(target:Expr)(t:TG):Prop:=
 ∀(ao:List (aq×Obj))(s:aH)(σ:St)(H:Hp)(v:V)(u:aA)(Q:St->Hp->Prop),Inv X ao σ H s->RelV v u->t v σ H Q->
  bu (model X.prog X.w) X.A (assign target X.env u) (λ_ s'=>∃σ' H',Inv X ao σ' H' s'/\Q σ' H') X.xe s
def Bp(X:Cx)(ts:List Expr)(t:o8):Prop:=
 ∀(ao:List (aq×Obj))(s:aH)(σ:St)(H:Hp)(vs:List V)(us:List aA)(Q:St->Hp->Prop),Inv X ao σ H s->Vals vs us->t vs σ H Q->
  bu (model X.prog X.w) X.A (wC ((ni ts X.env).map (·.2)) us) (λ_ s'=>∃σ' H',Inv X ao σ' H' s'/\Q σ' H') X.xe s
abbrev Mv:=V->V->V->Hp->(Hp->Prop)->Prop
def qX(X:Cx)(t:Mv):Prop:=
 ∀(ao:List (aq×Obj))(s:aH)(σ:St)(H:Hp)(o i v:V)(ov iv u:aA)(Q:Hp->Prop),Inv X ao σ H s->RelV o ov->RelV i iv->RelV v u->t o i v H Q->
  bu (model X.prog X.w) X.A (setItem ov iv u) (λ_ s'=>∃H',Inv X ao σ H' s'/\Q H') X.xe s
section
variable{X:Cx}{pos:Pos}
def u6(i:Nat):TG:=λv σ H Q=>Q (σ.set i (aa v)) H
theorem jT{i:Nat}{x:Str}(hN:X.N.Nodup)(hi:X.N[i]?=aa x)(hx:Loc X.env.scope x)(hf:X.fn x=au\/X.env.scope.names.lookup x=aa .local:=by first|exact .inl rfl|exact .inr rfl|assumption):PG X (.Name x pos) (u6 i):=by
 intro ao s σ H v u Q I r h;exact Ho (qz I hN hi hx r (λs' I'=>⟨_,H,I',h⟩) hf)
def Mw:o8:=λvs σ H Q=>vs=[]/\Q σ H
def Ma(t:TG)(u:o8):o8:=λvs σ H Q=>∃v r,vs=v::r/\t v σ H λσ' H'=>u r σ' H' Q
theorem J1:Bp X [] Mw:=by
 intro ao s σ H vs us Q I r h
 obtain⟨e,h⟩:=h
 subst e;cases r;exact assignInOrder_nil ⟨σ,H,I,h⟩
theorem pL{e:Expr}{es:List Expr}{t:TG}{u:o8}(h1:PG X e t)(h2:Bp X es u)
  (hs:(ni (e::es) X.env).map (·.2)=assign e X.env::(ni es X.env).map (·.2):=by rfl):Bp X (e::es) (Ma t u):=by
 intro ao s σ H vs us Q I r h
 obtain⟨v,vr,e1,h⟩:=h
 subst e1;cases r with
 |cons r rr=>
  rw[hs];refine assignInOrder_cons (bR (h1 ao s σ H _ _ _ I r h) λ_ s1 aR=>?_)
  obtain⟨σ1,H1,I1,q1⟩:=aR
  exact h2 ao s1 σ1 H1 _ _ Q I1 rr q1
def Mx(K:aJ)(n:Nat)(t:o8):TG:=λv σ H Q=>∃a xs,v=.ref a/\bO K H a xs/\xs.length=n/\t xs σ H Q
theorem Uz{es:List Expr}{k:Nat}{t:o8}{n:Nat}(hc:X.calm=au)(h:Bp X es t)
  (hn:(ni es X.env).length=n:=by rfl)(hst:(ni es X.env).findIdx? (·.1)=ak:=by rfl):PG X (.Tuple es k pos) (Mx X.K n t):=by
 intro ao s σ H v u Q I r hw
 obtain⟨a,xs,e1,hq,hl,hw⟩:=hw
 subst e1;cases r
 obtain⟨aD,rv,ht,hz⟩:=I.tuple hq
 refine assign_Tuple_tuple (I.ok.hd hc) ht (by simp[hn,<-hl,rv.length]) hst λh' hx=>?_
 have I1:Inv X ao σ H {s with heap:=h'}:=I.kept (t':=s.toks) λb o e=>hx b o (iY (b8 e)) e
 exact h ao _ σ H xs _ Q I1 (by simpa using rv) hw
def agM(to ti:TE)(t:Mv):TG:=λv σ H Q=>to σ H λo H1=>ti σ H1 λi H2=>t o i v H2 λH3=>Q σ H3
theorem aeu{o i:Expr}{to ti:TE}{t:Mv}(ho:PE X o to)(hi:PE X i ti)(hs:qX X t)
  (ha:∀v,assign (.Subscript o i pos) X.env v=(do
   let ov <-uM [v] (eval o X.env)
   let iv <-uM [v,ov] (eval i X.env)
   DK pos
   uM [v,ov,iv] (setItem ov iv v)
   release [v,ov,iv] []):=by intro _;rfl):PG X (.Subscript o i pos) (agM to ti t):=by
 intro ao s σ H v u Q I r h;rw[ha];refine aX (qj (bR (ho ao s σ H _ I h) λov s1 aR=>?_))
 obtain⟨x,H1,I1,r1,q1⟩:=aR
 refine aX (qj (bR (hi ao s1 σ H1 _ I1 q1) λiv s2 aR=>?_))
 obtain⟨y,H2,I2,r2,q2⟩:=aR
 refine aX (yQ (aX (qj (bR (hs ao s2 σ H2 x y v ov iv u _ I2 r1 r2 r q2) λ_ s3 aR=>?_))))
 obtain⟨H3,I3,q3⟩:=aR
 exact wpAny_release ⟨σ,H3,I3,q3⟩
def An(te:TE)(g:TG):TS:=λD σ H=>te σ H λx H1=>g x σ H1 D.nx
theorem KY{tg e:Expr}{te:TE}{g:TG}(he:PE X e te)(hg:PG X tg g)(hs:uy [tg] e pos.line X.env=pure aF:=by rfl)(hw:uz [tg] e X.env=pure ak:=by rfl)
  (h1:(ni [tg] X.env).map (·.2)=[assign tg X.env]:=by rfl):PS X (.Assign [tg] e pos) (An te g):=by
 intro ao s σ H D I h;refine wpAny_Assign_stores (bR (he ao s σ H _ I h) λv s1 aR=>?_) hs hw
 obtain⟨x,H1,I1,r1,q1⟩:=aR
 rw[h1];exact bR (hg ao s1 σ H1 x v _ I1 r1 q1) λ_ s2 q=>q
theorem UG{i:Nat}{x:Str}{e:Expr}{te:TE}{pos':Pos}(hN:X.N.Nodup)(hi:X.N[i]?=aa x)(hx:Loc X.env.scope x)(he:PE X e te)(hs:uG e (aa (.Name x pos')) pos.line X.env=pure aF:=by rfl)(hf:X.fn x=au\/X.env.scope.names.lookup x=aa .local:=by first|exact .inl rfl|exact .inr rfl|assumption):
  PS X (.Assign [.Name x pos'] e pos) (An te (u6 i)):=by
 intro ao s σ H D I h;refine wpAny_Assign_Name (bR (he ao s σ H _ I h) λv s1 aR=>?_) hs
 obtain⟨y,H1,I1,r1,q1⟩:=aR
 exact qz I1 hN hi hx r1 (λs2 I2=>⟨_,H1,I2,q1⟩) hf
def agN(i j:Nat)(ta:TA):TS:=λD σ H=>ta σ H λvs H1=>∃v w,vs=[v,w]/\D.nx ((σ.set i (aa v)).set j (aa w)) H1
theorem aev{i j:Nat}{x y:Str}{a b:Expr}{ta:TA}{px py pt:Pos}{kt k2 lz}(hc:X.calm=au)(hN:X.N.Nodup)(hi:X.N[i]?=aa x)(hj:X.N[j]?=aa y)(hij:i≠j)
  (hx:X.env.scope.names.lookup x=aa .local)(hy:X.env.scope.names.lookup y=aa .local)(ha:PA X [a,b] ta)
  (hw:uz [.Tuple [.Name x px,.Name y py] kt pt] (.Tuple [a,b] k2 lz) X.env=pure (aa [x,y]))
  (hs:uy [.Tuple [.Name x px,.Name y py] kt pt] (.Tuple [a,b] k2 lz) pos.line X.env=pure aF:=by rfl):
  PS X (.Assign [.Tuple [.Name x px,.Name y py] kt pt] (.Tuple [a,b] k2 lz) pos) (agN i j ta):=by
 intro ao s σ H D I h;rw[exec_Assign_arm];refine aX (yQ ?_);rw[hs];refine aX (cj ?_);rw[bK aO];refine aX (Tuple_ (bR (ha _ ao s σ H _ I h) λus s1 aR=>?_))
 obtain⟨vs,H1,I1,r1,q1⟩:=aR
 obtain⟨v,w,e1,q1⟩:=q1
 subst e1
 obtain⟨u1,u2,rfl,rv,rw'⟩:∃u1 u2,us=[u1,u2]/\RelV v u1/\RelV w u2:=by
  cases r1 with
  |cons p q=>
   cases q with
   |cons p' q'=>
    cases q'
    exact⟨_,_,rfl,p,p'⟩
 refine rM ?_ (by show 2<=bQ;decide);have I2:Inv X ao σ H1 {s1 with heap:=s1.heap.push {cls:=.type "tuple",data:=.seq [u1,u2].toArray}}:=I1.kept (t':=s1.toks) λb o e=>cA _ e
 rw[hw];refine aX (cj ?_);show bu (model X.prog X.w) X.A (do rule "assign.swapped-stores";let items <-Qz (.ref s1.heap.objs.size) 2 ak;wC [λv=>qC X.env y v,λv=>qC X.env x v] items.reverse;pure Iz) _ _ _;refine aX (wM (aX (unpackItems_tuple (items:=#[u1,u2]) (I.ok.hd hc) (IsTup.new s1.heap _) λh' hx'=>?_)));have I3:=I2.kept (h':=h') (t':=s1.toks) λb o e=>hx' b o (iY (b8 e)) e
 show bu _ _ (wC [λv=>qC X.env y v,λv=>qC X.env x v] [u2,u1] >>= λ_=>pure Iz) _ _ _;refine aX (assignInOrder_cons (BZ (qz I3 hN hj (.inl hy) rw' (λs2 I4=>?_) (.inr hy))));refine assignInOrder_cons (BZ (qz I4 hN hi (.inl hx) rv (λs3 I5=>assignInOrder_nil (cj ?_)) (.inr hx)));rw[HR _ _ (mD hij)] at I5
 exact⟨_,H1,I5,q1⟩
end
section
variable{X:Cx}{pos:Pos}
end
structure It where
 go:Nat->Hp->Prop
 Gn:Nat->Hp->V->Hp->Prop
 stop:Nat->Hp->Prop
def jk(X:Cx)(ao:List (aq×Obj))(H:Hp)(b:aq):Prop:=
 H b=ak/\b≠X.env.locals/\b∉X.fs/\(b∈X.ex\/X.s₀.heap.objs.size<=b)/\(∀x c,X.env.cells.lookup x=aa c->c≠b)/\∀p∈X.pn++ao,p.1≠b
theorem Inv.qY{X:Cx}{ao:List (aq×Obj)}{σ:St}{H H':Hp}{s:aH}{b:aq}(I:Inv X ao σ H s)(hb:s.heap.objs.size<=b)(hn:H' b=ak):jk X ao H' b:=by
 refine⟨hn,yV (jO I.lt hb),I.agF hb,.inr (kI I.sz hb),λx c e z=>?_,λp hp z=>?_⟩
 .obtain⟨v,q⟩:=I.cell x c e
  exact absurd (jO q.lt (by rw[z];exact hb)) (ux _)
 .exact absurd (jO (b8 (I.pin p hp).1) (by rw[z];exact hb)) (ux _)
structure Turn(P:bI)(w:bC)(K:aJ)(tg:Expr)(J:It)(fp:List aq)(it:aq)(tn:Nat->bw->Prop):Prop where
 mem:it∈fp
 obj:∀i h,tn i h->∀b∈fp,∃o,h.get? b=aa o/\∀v,o.data≠.cell v
 keep:∀i h h',tn i h->(∀b∈fp,∀o,h.get? b=aa o->h'.get? b=aa o)->tn i h'
 item:∀(X:Cx),X.prog=P->X.w=w->X.K=K->X.calm=au->∀(i:Nat)(ao:List (aq×Obj))(s:aH)(σ:St)(H:Hp)(E:aA->aH->Prop),Inv X ao σ H s->(∀b∈fp,jk X ao H b)->tn i s.heap->J.go i H->
  bu (model P w) X.A (qI (.ref it)) (λr s1=>∃u,r=aa u/\
   bu (model P w) X.A (um tg (.ref it) u) (λ_ s2=>∃x H',Inv X ao σ H' s2/\RelV x u/\J.Gn i H x H'/\tn (i+1) s2.heap/\∀b∈fp,H' b=ak) E s1) E s
 done:∀(X:Cx),X.prog=P->X.w=w->X.K=K->X.calm=au->∀(i:Nat)(ao:List (aq×Obj))(s:aH)(σ:St)(H:Hp)(E:aA->aH->Prop),Inv X ao σ H s->(∀b∈fp,jk X ao H b)->tn i s.heap->J.stop i H->
  bu (model P w) X.A (qI (.ref it)) (λr s1=>r=ak/\Inv X ao σ H s1) E s
 self:∀(A:b7)(i:Nat)(s:aH)(Q:aA->aH->Prop)(E:aA->aH->Prop),tn i s.heap->Q (.ref it) s->bu (model P w) A (pyIter (.ref it)) Q E s
abbrev TI:=St->Hp->(It->Hp->Prop)->Prop
def PIE(X:Cx)(ao:List (aq×Obj))(σ:St)(tg:Expr)(R:It->Hp->Prop)(itv:aA)(s2:aH):Prop:=
 ∃(it:aq)(fp:List aq)(tn:Nat->bw->Prop)(J:It)(H':Hp),itv=.ref it/\Inv X ao σ H' s2/\Turn X.prog X.w X.K tg J fp it tn/\tn 0 s2.heap/\(∀b∈fp,jk X ao H' b)/\R J H'
def PI(X:Cx)(tg iter:Expr)(wi:TI):Prop:=
 ∀(ao:List (aq×Obj))(s:aH)(σ:St)(H:Hp)(R:It->Hp->Prop),Inv X ao σ H s->wi σ H R->
  bu (model X.prog X.w) X.A (eval iter X.env) (λv s1=>bu (model X.prog X.w) X.A (pyIter v) (PIE X ao σ tg R) X.xe s1) X.xe s
theorem Mf{M:Model}{A:b7}{E:aA->aH->Prop}{s:aH}{tg:Expr}{it:aq}{u:aA}{o:Obj}{n:String}{vs:Array aA}{Q:Unit->aH->Prop}(ho:s.heap.get? it=aa o)(hc:o.cls=.type n)(hd:o.data=.fields vs)
  (hn:["enumerate","zip","dict_itemiterator","dict_reverseitemiterator","odict_iterator","itertools.zip_longest","itertools.pairwise"].contains n=aF)(hQ:Q () s):bu M A (um tg (.ref it) u) Q E s:=by
 unfold um;cases tg<;>first
  |exact cj hQ
  |(cases u<;>first
    |exact cj hQ
    |(refine aX (wpAny_load ho ?_)
      rw[hc,hd];show bu M A (if(["enumerate","zip","dict_itemiterator","dict_reverseitemiterator","odict_iterator","itertools.zip_longest","itertools.pairwise"].contains n&&vs[0]?==aa (rawInt _))=au then _ else _) Q E s;rw[bK (by intro h;rw[hn,ZD] at h;cases h)];exact cj hQ))
def Nj(K:aJ)(a:aq):It:=
 ⟨λi H=>∃xs x,bL K H a xs/\xs[i]?=aa x,λi H x H'=>H'=H/\∀xs,bL K H a xs->xs[i]?=aa x,λi H=>∃xs,bL K H a xs/\xs.length<=i⟩
def Nk(K:aJ)(a:aq):It:=
 ⟨λi H=>∃xs x,bO K H a xs/\xs[i]?=aa x,λi H x H'=>H'=H/\∀xs,bO K H a xs->xs[i]?=aa x,λi H=>∃xs,bO K H a xs/\xs.length<=i⟩
def Gp(lo:Int)(n:Nat):It:=⟨λi _=>i<n,λi H x H'=>H'=H/\x=.int (lo+i),λi _=>n<=i⟩
theorem aa0{P:bI}{w:bC}{K:aJ}{tg:Expr}(a it:aq):Turn P w K tg (Nj K a) [it] it (λi h=>h.IsListIter it a i) where
 mem:=bz
 obj:=λi h st b hb=>by
  have e:b=it:=by simpa using hb
  subst e
  obtain⟨o,e,c,d⟩:=st
  exact⟨o,e,λv z=>by rw[d] at z;cases z⟩
 keep:=λi h h' st k=>st.at λo e=>k it bz o e
 item:=by
  intro X hP hw hK hc i ao s σ H E I hf st hg;subst hP hw hK
  obtain⟨xs,x,hq,hx⟩:=hg
  obtain⟨aD,rv,p,hz⟩:=I.list hq
  obtain⟨u,hu,ru⟩:=rv.get hx
  obtain⟨f0,f1,f2,f3,f4,f5⟩:=hf it bz
  refine X7 st p.isList (x:=u) (by simpa using hu) λh' st' sb=>?_
  have I1:Inv X ao σ H {s with heap:=h'}:=I.turned (t':=s.toks) (λb o hb e=>(sb.2 b hb).trans e) f0 f1 f3 f4 f5
  obtain⟨o,e,c,d⟩:=id st'
  exact⟨u,rfl,Mf (s:={s with heap:=h'}) e c d aO ⟨x,H,I1,ru,⟨rfl,λys hy=>by rw[I.zx hy hq];exact hx⟩,st',λb hb=>(hf b hb).1⟩⟩
 done:=by
  intro X hP hw hK hc i ao s σ H E I hf st hg;subst hP hw hK
  obtain⟨xs,hq,hx⟩:=hg
  obtain⟨aD,rv,p,hz⟩:=I.list hq
  obtain⟨f0,f1,f2,f3,f4,f5⟩:=hf it bz
  have hl:=rv.length;exact Ye (I.ok.hd hc) st p.isList (by simp;lia) λh' eb=>⟨rfl,I.turned (t':=s.toks) (λb o hb e=>eb b o hb e) f0 f1 f3 f4 f5⟩
 self:=λ_ _ _ _ _ st h=>wpAny_pyIter_listiter st h
theorem aay{P:bI}{w:bC}{K:aJ}{tg:Expr}(a it:aq):Turn P w K tg (Nk K a) [it] it (λi h=>h.IsTupleIter it a i) where
 mem:=bz
 obj:=λi h st b hb=>by
  have e:b=it:=by simpa using hb
  subst e
  obtain⟨o,e,c,d⟩:=st
  exact⟨o,e,λv z=>by rw[d] at z;cases z⟩
 keep:=λi h h' st k=>st.at λo e=>k it bz o e
 item:=by
  intro X hP hw hK hc i ao s σ H E I hf st hg;subst hP hw hK
  obtain⟨xs,x,hq,hx⟩:=hg
  obtain⟨aD,rv,p,hz⟩:=I.tuple hq
  obtain⟨u,hu,ru⟩:=rv.get hx
  obtain⟨f0,f1,f2,f3,f4,f5⟩:=hf it bz
  refine wpAny_pyNext_tuple_item st (show s.heap.IsTuple a aD.toArray from p) (x:=u) (by simpa using hu) λh' st' sb=>?_
  have I1:Inv X ao σ H {s with heap:=h'}:=I.turned (t':=s.toks) (λb o hb e=>(sb.2 b hb).trans e) f0 f1 f3 f4 f5
  obtain⟨o,e,c,d⟩:=id st'
  exact⟨u,rfl,Mf (s:={s with heap:=h'}) e c d aO ⟨x,H,I1,ru,⟨rfl,λys hy=>by rw[I.De hy hq];exact hx⟩,st',λb hb=>(hf b hb).1⟩⟩
 done:=by
  intro X hP hw hK hc i ao s σ H E I hf st hg;subst hP hw hK
  obtain⟨xs,hq,hx⟩:=hg
  obtain⟨aD,rv,p,hz⟩:=I.tuple hq
  obtain⟨f0,f1,f2,f3,f4,f5⟩:=hf it bz
  have hl:=rv.length;exact wpAny_pyNext_tuple_end (I.ok.hd hc) st (show s.heap.IsTuple a aD.toArray from p) (by simp;lia) λh' eb=>⟨rfl,I.turned (t':=s.toks) (λb o hb e=>eb b o hb e) f0 f1 f3 f4 f5⟩
 self:=λ_ _ _ _ _ st h=>wpAny_pyIter_tupleiter st h
theorem aaz{P:bI}{w:bC}{K:aJ}{tg:Expr}(it:aq)(lo:Int)(n:Nat):Turn P w K tg (Gp lo n) [it] it (λi h=>IsRangeIter h it (lo+(i:Nat)*1) ((n:Int)-(i:Nat)) 1) where
 mem:=bz
 obj:=λi h st b hb=>by
  have e:b=it:=by simpa using hb
  subst e
  exact⟨_,st,λv z=>by
   have z':Data.fields _=Data.cell v:=z;cases z'⟩
 keep:=λi h h' st k=>k it bz _ st
 item:=by
  intro X hP hw hK hc i ao s σ H E I hf st hg;subst hP hw hK
  obtain⟨f0,f1,f2,f3,f4,f5⟩:=hf it bz
  have W:=Walks.range (prog:=X.prog) (w:=X.w) (I.ok.hd hc) it lo 1 n;refine W.item i s _ _ hg st λv h' tk hv st' kk=>?_
  obtain⟨t,rfl⟩:=hv
  have I1:Inv X ao σ H {s with heap:=h',toks:=tk}:=I.turned (λb o hb e=>kk b o (by simpa using hb) e) f0 f1 f3 f4 f5
  refine⟨_,rfl,Mf (s:={s with heap:=h',toks:=tk}) (n:="range_iterator") st' rfl rfl aO ⟨.int (lo+i),H,I1,⟨t,?_⟩,⟨rfl,rfl⟩,st',λb hb=>(hf b hb).1⟩⟩
  rw[Int.mul_one]
 done:=by
  intro X hP hw hK hc i ao s σ H E I hf st hg;subst hP hw hK
  obtain⟨f0,f1,f2,f3,f4,f5⟩:=hf it bz
  exact wpAny_pyNext_range_end (I.ok.hd hc) st (by have:n<=i:=hg;lia) λh' eb=>⟨rfl,I.turned (t':=s.toks) (λb o hb e=>eb b o hb e) f0 f1 f3 f4 f5⟩
 self:=λ_ _ _ _ _ st h=>wpAny_pyIter_rangeiter st h
section
variable{X:Cx}{tg:Expr}
def afN(K:aJ)(tl:TE):TI:=λσ H R=>tl σ H λx H1=>∃a,x=.ref a/\(∃xs,bL K H1 a xs)/\R (Nj K a) H1
def agO(K:aJ)(tl:TE):TI:=λσ H R=>tl σ H λx H1=>∃a,x=.ref a/\(∃xs,bO K H1 a xs)/\R (Nk K a) H1
theorem J2{l:Expr}{tl:TE}(hl:PE X l tl):PI X tg l (afN X.K tl):=by
 intro ao s σ H R I h;refine bR (hl ao s σ H _ I h) λv s1 aR=>?_
 obtain⟨x,H1,I1,r1,q1⟩:=aR
 obtain⟨a,e,⟨xs,hq⟩,q⟩:=q1
 subst e;cases r1
 obtain⟨aD,rv,p,hz⟩:=I1.list hq
 refine Hq p.isList ?_
 refine⟨s1.heap.objs.size,[s1.heap.objs.size],_,_,H1,rfl,I1.kept (t':=s1.toks) λb o e=>cA _ e,aa0 a _,⟨_,gY _ rfl,rfl,rfl⟩,λb hb=>?_,q⟩
 have e:b=s1.heap.objs.size:=by simpa using hb
 subst e;exact I1.qY (cO _) (I1.hok.fresh (cO _))
theorem KZ{l:Expr}{tl:TE}(hl:PE X l tl):PI X tg l (agO X.K tl):=by
 intro ao s σ H R I h;refine bR (hl ao s σ H _ I h) λv s1 aR=>?_
 obtain⟨x,H1,I1,r1,q1⟩:=aR
 obtain⟨a,e,⟨xs,hq⟩,q⟩:=q1
 subst e;cases r1
 obtain⟨aD,rv,p,hz⟩:=I1.tuple hq
 refine Hi (show s1.heap.IsTuple a aD.toArray from p) ?_
 refine⟨s1.heap.objs.size,[s1.heap.objs.size],_,_,H1,rfl,I1.kept (t':=s1.toks) λb o e=>cA _ e,aay a _,⟨_,gY _ rfl,rfl,rfl⟩,λb hb=>?_,q⟩
 have e:b=s1.heap.objs.size:=by simpa using hb
 subst e;exact I1.qY (cO _) (I1.hok.fresh (cO _))
theorem abK{ao:List (aq×Obj)}{σ:St}{H:Hp}{s:aH}{R:It->Hp->Prop}{E:aA->aH->Prop}{lo hi:Int}{t u v:Tok}{tk:Nat}(I:Inv X ao σ H s)(h1:-(2^62)<=lo)(h2:lo<2^62)(h3:-(2^62)<=hi)(h4:hi<2^62)
  (q:R (Gp lo (hi-lo).toNat) H):bu (model X.prog X.w) X.A (pyIter (.ref s.heap.objs.size)) (PIE X ao σ tg R) E {s with heap:=s.heap.push {cls:=.type "range",data:=.fields #[.int lo t,.int hi u,.int 1 v]},toks:=tk}:=by
 refine wpAny_pyIter_range (IsRange.new ..) (small_one h1 h2 h3 h4) ?_;have I1:Inv X ao σ H {s with heap:=s.heap.push {cls:=.type "range",data:=.fields #[.int lo t,.int hi u,.int 1 v]},toks:=tk}:=I.kept λb o e=>cA _ e
 refine⟨(s.heap.push {cls:=.type "range",data:=.fields #[.int lo t,.int hi u,.int 1 v]}).objs.size,[(s.heap.push {cls:=.type "range",data:=.fields #[.int lo t,.int hi u,.int 1 v]}).objs.size],_,_,H,rfl,
  I1.kept (t':=tk) λb o e=>cA _ e,aaz _ lo (hi-lo).toNat,?_,λb hb=>?_,q⟩
 .have e1:lo+((0:Nat):Int)*1=lo:=bz;have e2:(((hi-lo).toNat:Nat):Int)-((0:Nat):Int)=aiO lo hi 1:=by rw[rangeSize_one];split<;>lia
  show IsRangeIter _ _ (lo+((0:Nat):Int)*1) ((((hi-lo).toNat:Nat):Int)-((0:Nat):Int)) 1;rw[e1,e2];exact gY _ rfl
 .have e:b=(s.heap.push {cls:=.type "range",data:=.fields #[.int lo t,.int hi u,.int 1 v]}).objs.size:=by simpa using hb
  subst e;exact I1.qY (cO _) (I1.hok.fresh (cO _))
def afO(ta:TA):TI:=λσ H R=>ta σ H λvs H1=>∃j:Int,vs=[.int j]/\-(2^62)<=j/\j<2^62/\R (Gp 0 j.toNat) H1
theorem aa1{a:Expr}{ta:TA}{p pos:Pos}(hg:Gl X "range")(hm:X.mg "range"=ak)(ha:PA X [a] ta)(hs:bG [a] X.env=[(aF,eval a X.env)]:=by rfl):PI X tg (.Call (.Name "range" p) [a] [] pos) (afO ta):=by
 intro ao s σ H R I h;refine Call_ (sH I hg hm boot_range (yG (bR (ha pos ao s σ H _ I h) λus s1 aR=>?_) hs rfl))
 obtain⟨vs,H1,I1,r1,q1⟩:=aR
 obtain⟨j,e,q1,q2,q⟩:=q1
 subst e;cases r1 with
 |cons r rr=>
  cases rr
  obtain⟨t,rfl⟩:=r
  exact call_range_1 (abK I1 aP aP q1 q2 (by simpa using q))
def We(wi:TI)(g:TG)(tb:TS):TS:=λD σ H=>wi σ H λJ H1=>∃W:Nat->Nat->St->Hp->Prop,(∃m,W 0 m σ H1)/\∀i m σ H,W i m σ H->
 (J.stop i H/\D.nx σ H)\/(J.go i H/\∃N:St->Hp->Prop,(∀σ' H',N σ' H'->∃m',m'<m/\W (i+1) m' σ' H')/\∀x H',J.Gn i H x H'->g x σ H' λσ2 H2=>tb {D with nx:=N,ct:=N,bk:=D.nx} σ2 H2)
def zU(fp:List aq)(h:bw):List (aq×Obj):=fp.filterMap λb=>(h.get? b).map λo=>(b,o)
theorem Cw{fp:List aq}{h:bw}{b:aq}{o:Obj}(hb:b∈fp)(e:h.get? b=aa o):(b,o)∈zU fp h:=YC.mpr ⟨b,hb,by rw[e];rfl⟩
theorem aa2{fp:List aq}{h:bw}{p:aq×Obj}(hp:p∈zU fp h):p.1∈fp/\h.get? p.1=aa p.2:=by
 obtain⟨b,hb,e⟩:=YC.mp hp
 cases q:h.get? b with
 |none=>rw[q] at e;cases e
 |some o=>
  rw[q] at e;have e':(b,o)=p:=gG e;subst e'
  exact⟨hb,q⟩
theorem Inv.pinned{ao:List (aq×Obj)}{σ:St}{H:Hp}{s:aH}{fp:List aq}(I:Inv X ao σ H s)(hf:∀b∈fp,jk X ao H b)(ho:∀b∈fp,∃o,s.heap.get? b=aa o/\∀v,o.data≠.cell v):Inv X (ao++zU fp s.heap) σ H s:=
 I.S9 λp hp=>(cL.mp hp).elim (λz=>I.pin p (dj _ z)) λz=>by
  obtain⟨hb,e⟩:=aa2 z
  obtain⟨f0,f1,f2,_⟩:=hf p.1 hb
  obtain⟨o,e',d⟩:=ho p.1 hb
  rw[e] at e';cases e'
  exact⟨e,f0,f1,f2,d⟩
theorem Inv.Dl{ao pl:List (aq×Obj)}{σ:St}{H:Hp}{s:aH}(I:Inv X (ao++pl) σ H s):Inv X ao σ H s:=I.S9 λp hp=>I.pin p (dj _ (gf _ hp))
theorem aew{iter:Expr}{body:List cZ}{wi:TI}{g:TG}{tb:TS}{pos:Pos}(hp:PassesOwn (model X.prog X.w) X.A X.env X.xe)(hc:X.calm=au)(hi:PI X tg iter wi)(hg:PG X tg g)(hb:iI X body tb)
  (hs:∀x,yJ iter X.env x=pure x:=by intro _;rfl):PS X (.For tg iter body [] pos) (We wi g tb):=by
 intro ao s σ H D I h;refine wpAny_For (bR (hi ao s σ H _ I h) λv s1 h1=>bR h1 λitv s2 h2=>?_) hs
 obtain⟨it,fp,tn,J,H2,e,I2,T,st2,f2,W,⟨m0,w0⟩,turn⟩:=h2
 subst e;have stat:∀{H':Hp},(∀b∈fp,H' b=ak)->∀b∈fp,jk X ao H' b:=λhn b hb=>⟨hn b hb,(f2 b hb).2⟩
 refine codeAny_forLoop_any (λn s'=>∃i σ' H',Inv X ao σ' H' s'/\tn i s'.heap/\(∀b∈fp,H' b=ak)/\W i n σ' H') ?_ m0 ⟨0,σ,H2,I2,st2,λb hb=>(f2 b hb).1,w0⟩;rintro n s3 ⟨i,σ3,H3,I3,st3,Bq,w3⟩;rcases turn i n σ3 H3 w3 with⟨stop,qn⟩|⟨go,N,hN,step⟩
 .refine BV hp (bR (T.done X rfl rfl rfl hc i ao s3 σ3 H3 X.xe I3 (stat Bq) st3 stop) λr s4 aR=>?_)
  obtain⟨hr,I4⟩:=aR
  subst hr;exact PL ⟨σ3,H3,I4,qn⟩
 .refine BV hp (bR (T.item X rfl rfl rfl hc i ao s3 σ3 H3 X.xe I3 (stat Bq) st3 go) λr s4 aR=>?_)
  obtain⟨u,hr,h4⟩:=aR
  subst hr;refine BV hp (bR h4 λ_ s5 aR=>?_)
  obtain⟨x,H5,I5,r5,y5,vP,Nm⟩:=aR
  have Np:=I5.pinned (stat Nm) (T.obj _ _ vP);refine BV hp (bR (hg _ s5 σ3 H5 x u _ Np r5 (step x H5 y5)) λ_ s6 aR=>?_)
  obtain⟨σ6,H6,I6,q6⟩:=aR
  refine BV hp (bR (hb _ s6 σ6 H6 _ I6 q6) λf s7 q7=>?_);have again:∀{σ7:St}{H7:Hp},Inv X (ao++zU fp s5.heap) σ7 H7 s7->N σ7 H7->∃m,m<n/\∃i σ' H',Inv X ao σ' H' s7/\tn i s7.heap/\(∀b∈fp,H' b=ak)/\W i m σ' H':=λ{σ7 H7} I7 n7=>by
   obtain⟨m',hm,w7⟩:=hN σ7 H7 n7
   refine⟨m',hm,i+1,σ7,H7,I7.Dl,T.keep _ _ _ vP λb hb o e=>(I7.pin (b,o) (dj _ (dj _ (Cw hb e)))).1,λb hb=>?_,w7⟩
   obtain⟨o,e,d⟩:=T.obj _ _ vP b hb
   exact(I7.pin (b,o) (dj _ (dj _ (Cw hb e)))).2.1
  cases f with
  |next=>obtain⟨σ7,H7,I7,n7⟩:=q7;exact again I7 n7
  |cont=>obtain⟨σ7,H7,I7,n7⟩:=q7;exact again I7 n7
  |brk=>obtain⟨σ7,H7,I7,q7⟩:=q7;exact⟨σ7,H7,I7.Dl,q7⟩
  |ret v=>obtain⟨x7,σ7,H7,I7,r7,q7⟩:=q7;exact⟨x7,σ7,H7,I7.Dl,r7,q7⟩
end
abbrev R2:=V->V->Hp->VK->Prop
def cz(X:Cx)(f:aA->aA->Sem aA)(r:R2):Prop:=
 ∀(ao:List (aq×Obj))(s:aH)(σ:St)(H:Hp)(x y:V)(v u:aA)(Q:VK),Inv X ao σ H s->RelV x v->RelV y u->r x y H Q->
  bu (model X.prog X.w) X.A (f v u) (EP X ao σ Q) X.xe s
def iz(X:Cx)(f:aA)(r:List V->Hp->VK->Prop):Prop:=
 ∀(ao:List (aq×Obj))(s:aH)(σ:St)(H:Hp)(xs:List V)(us:List aA)(Q:VK),Inv X ao σ H s->Vals xs us->r xs H Q->
  bu (model X.prog X.w) X.A (call f us) (EP X ao σ Q) X.xe s
def agP(X:Cx)(r:V->Hp->(Bool->Hp->Prop)->Prop):Prop:=
 ∀(ao:List (aq×Obj))(s:aH)(σ:St)(H:Hp)(x:V)(v:aA)(Q:Bool->Hp->Prop),Inv X ao σ H s->RelV x v->r x H Q->
  bu (model X.prog X.w) X.A (truthy v) (TP X ao σ Q) X.xe s
def yq(r:R2)(ta tb:TE):TE:=λσ H Q=>ta σ H λx H1=>tb σ H1 λy H2=>r x y H2 Q
def rI(C:Int->Int->Prop)(g:Int->Int->V):R2:=λx y H Q=>∃i j,x=.int i/\y=.int j/\C i j/\Q (g i j) H
def mW(g:Int->Int->V):R2:=λx y H Q=>∃i j,x=.int i/\y=.int j/\Q (g i j) H
section
variable{X:Cx}{a b c:Expr}{ta tb tc:TE}{pos:Pos}
theorem My(ha:PE X a ta)(hb:PE X b tb){ao:List (aq×Obj)}{s:aH}{σ:St}{H:Hp}{R:V->V->Hp->Prop}(I:Inv X ao σ H s)
  (h:ta σ H λx H1=>tb σ H1 λy H2=>R x y H2){Q:aA->aH->Prop}{f:aA->aA->Sem aA}
  (hf:∀v u s2 x y H2,Inv X ao σ H2 s2->RelV x v->RelV y u->R x y H2->bu (model X.prog X.w) X.A (f v u) Q X.xe s2):
  bu (model X.prog X.w) X.A (eval a X.env) (λv s₁=>bu (model X.prog X.w) X.A (eval b X.env) (λu s₂=>bu (model X.prog X.w) X.A (f v u) Q X.xe s₂) X.xe s₁) X.xe s:=by
 refine bR (ha ao s σ H _ I h) λv s1 aR=>?_
 obtain⟨x,H1,I1,r1,q1⟩:=aR
 refine bR (hb ao s1 σ H1 _ I1 q1) λu s2 aR=>?_
 obtain⟨y,H2,I2,r2,q2⟩:=aR
 exact hf v u s2 x y H2 I2 r1 r2 q2
theorem afP{op:Operator}{r:R2}(ho:cz X (kO op) r)(ha:PE X a ta)(hb:PE X b tb):PE X (.BinOp a op b pos) (yq r ta tb):=by
 intro ao s σ H Q I h;exact wpAny_BinOp (My ha hb I h λv u s2 x y H2 I2 rx ry q=>ho ao s2 σ H2 x y v u Q I2 rx ry q)
theorem Gq{f:aA->aA->Sem aA}{C:Int->Int->Prop}{g:Int->Int->Int}
  (rule:∀(i j:Int)(t u:Tok)(s:aH)(Q:aA->aH->Prop)(E:aA->aH->Prop),C i j->Q (.int (g i j) s.toks) {s with toks:=s.toks+1}->bu (model X.prog X.w) X.A (f (.int i t) (.int j u)) Q E s):
  cz X f (rI C λi j=>.int (g i j)):=by
 intro ao s σ H x y v u Q I rx ry h
 obtain⟨i,j,rfl,rfl,hc,q⟩:=h
 obtain⟨t,rfl⟩:=rx
 obtain⟨t',rfl⟩:=ry
 exact rule i j t t' s _ _ hc ⟨.int (g i j),H,I.tok _,⟨_,rfl⟩,q⟩
theorem Wf{f:aA->aA->Sem aA}{g:Int->Int->Int}
  (rule:∀(i j:Int)(t u:Tok)(s:aH)(Q:aA->aH->Prop)(E:aA->aH->Prop),Q (.int (g i j) s.toks) {s with toks:=s.toks+1}->bu (model X.prog X.w) X.A (f (.int i t) (.int j u)) Q E s):
  cz X f (mW λi j=>.int (g i j)):=by
 intro ao s σ H x y v u Q I rx ry h
 obtain⟨i,j,rfl,rfl,q⟩:=h
 obtain⟨t,rfl⟩:=rx
 obtain⟨t',rfl⟩:=ry
 exact rule i j t t' s _ _ ⟨.int (g i j),H,I.tok _,⟨_,rfl⟩,q⟩
theorem Mz{f:aA->aA->Sem aA}{g:Int->Int->Bool}
  (rule:∀(i j:Int)(t u:Tok)(s:aH)(Q:aA->aH->Prop)(E:aA->aH->Prop),Q (.bool (g i j)) s->bu (model X.prog X.w) X.A (f (.int i t) (.int j u)) Q E s):
  cz X f (mW λi j=>.bl (g i j)):=by
 intro ao s σ H x y v u Q I rx ry h
 obtain⟨i,j,rfl,rfl,q⟩:=h
 obtain⟨t,rfl⟩:=rx
 obtain⟨t',rfl⟩:=ry
 exact rule i j t t' s _ _ ⟨.bl (g i j),H,I,rfl,q⟩
def Wg(i j:Int):Prop:=0<j/\j<1073741824
def Wh(i j:Int):Prop:=0<=j/\j<=1000000/\i.natAbs<2^64
def FQ(i j:Int):Prop:=(-(2^64)<i/\i<2^64)\/(-(2^64)<j/\j<2^64)
theorem FQ.ok{i j:Int}(h:FQ i j):IntMulOk i j:=by
 rcases h with⟨h1,h2⟩|⟨h1,h2⟩
 .exact .of_left (intBits_le_64 h1 h2)
 .exact .of_right (intBits_le_64 h1 h2)
theorem aex:cz X (kO .Add) (mW λi j=>.int (i+j)):=Wf λ_ _ _ _ _ _ _ q=>add_int q
theorem aey:cz X (kO .Sub) (mW λi j=>.int (i-j)):=Wf λ_ _ _ _ _ _ _ q=>sub_int q
theorem sJ:cz X (kO .Mult) (rI FQ λi j=>.int (i*j)):=Gq λ_ _ _ _ _ _ _ hc q=>mul_int q hc.ok
theorem Te:cz X (kO .FloorDiv) (rI Wg λi j=>.int (i / j)):=Gq λi j _ _ _ _ _ hc q=>by
 have h1:(0:Int)<j:=hc.1;have h2:j<1073741824:=hc.2;exact floordiv_int aP (by rw[Int.fdiv_eq_ediv_of_nonneg i aP];exact q) (.inl (PyProof.noPylong_small aP))
theorem oG:cz X (kO .Mod) (rI (λ_ j=>0<j) λi j=>.int (i%j)):=Gq λi j _ _ _ _ _ hc q=>by
 have h1:(0:Int)<j:=hc;exact mod_int' aP (by rw[Int.fmod_eq_emod_of_nonneg i aP];exact q)
theorem K1:cz X (kO .Pow) (rI Wh λi j=>.int (i^j.toNat)):=Gq λ_ _ _ _ _ _ _ hc q=>pow_int_small hc.1 hc.2.1 hc.2.2 q
end
def MF:V->V->Bool
 |.non,.non=>au|.non,.int _=>au|.int _,.non=>au|.non,.bl _=>au|.bl _,.non=>au|.non,.str _=>au|.str _,.non=>au
 |.int _,.int _=>au|.bl _,.bl _=>au|.str _,.str _=>au|.mV _,.mV _=>au
 |.int _,.str _=>au|.str _,.int _=>au|.bl _,.str _=>au|.str _,.bl _=>au
 |_,_=>aF
def WT:R2:=λx y H Q=>MF x y=au/\Q (.bl (decide (x=y))) H
def WW:R2:=λx y H Q=>MF x y=au/\Q (.bl (!decide (x=y))) H
theorem J3{i j:Int}:decide (V.int i=V.int j)=(i==j):=by
 rw[pF];simp
theorem K3{i j:Bool}:decide (V.bl i=V.bl j)=(i==j):=by
 rw[pF];simp
theorem J4{i j:Str}:decide (V.str i=V.str j)=(i==j):=by
 rw[pF];simp
theorem Tf{i j:Array UInt8}:decide (V.mV i=V.mV j)=(i.toList==j.toList):=by
 rw[pF];cases i;cases j;simp
section
variable{X:Cx}{a b c:Expr}{ta tb tc:TE}{pos:Pos}
theorem eF{ao:List (aq×Obj)}{σ:St}{H:Hp}{s:aH}{Q:VK}{k k':Bool}(I:Inv X ao σ H s)(q:Q (.bl k) H)(e:k=k'):EP X ao σ Q (.bool k') s:=by
 subst e
 exact⟨.bl k,H,I,rfl,q⟩
theorem afQ:cz X (dm .Eq) WT:=by
 intro ao s σ H x y v u Q I rx ry h
 obtain⟨hs,q⟩:=h
 cases x with
 |non=>
  cases rx;cases y with
  |non=>cases ry;exact aip (eF I q bz)
  |bl j=>cases ry;exact aiq (eF I q bz)
  |int j=>obtain⟨t',rfl⟩:=ry;exact aiB (eF I q bz)
  |str j=>obtain⟨t',rfl⟩:=ry;exact aiC (eF I q bz)
  |_=>exact absurd (show aF=au from hs) gq
 |bl i=>
  cases rx;cases y with
  |non=>cases ry;exact air (eF I q bz)
  |bl j=>cases ry;exact eq_bool (eF I q K3)
  |str j=>obtain⟨t',rfl⟩:=ry;exact ais (eF I q bz)
  |_=>exact absurd (show aF=au from hs) gq
 |int i=>
  obtain⟨t,rfl⟩:=rx
  cases y with
  |non=>cases ry;exact aiD (eF I q bz)
  |int j=>obtain⟨t',rfl⟩:=ry;exact eq_int (eF I q J3)
  |str j=>obtain⟨t',rfl⟩:=ry;exact aiE (eF I q bz)
  |_=>exact absurd (show aF=au from hs) gq
 |str i=>
  obtain⟨t,rfl⟩:=rx
  cases y with
  |non=>cases ry;exact aiF (eF I q bz)
  |bl j=>cases ry;exact ait (eF I q bz)
  |int j=>obtain⟨t',rfl⟩:=ry;exact aiG (eF I q bz)
  |str j=>obtain⟨t',rfl⟩:=ry;exact eq_str (eF I q J4)
  |_=>exact absurd (show aF=au from hs) gq
 |mV i=>
  obtain⟨t,rfl⟩:=rx
  cases y with
  |mV j=>obtain⟨t',rfl⟩:=ry;exact PySem.W.eq_bytes (eF I q Tf)
  |_=>exact absurd (show aF=au from hs) gq
 |_=>cases y<;>exact absurd (show aF=au from hs) gq
theorem afR:cz X (dm .NotEq) WW:=by
 intro ao s σ H x y v u Q I rx ry h
 obtain⟨hs,q⟩:=h
 cases x with
 |non=>
  cases rx;cases y with
  |non=>cases ry;exact aiu (eF I q bz)
  |bl j=>cases ry;exact aiv (eF I q bz)
  |int j=>obtain⟨t',rfl⟩:=ry;exact aiH (eF I q bz)
  |str j=>obtain⟨t',rfl⟩:=ry;exact aiI (eF I q bz)
  |_=>exact absurd (show aF=au from hs) gq
 |bl i=>
  cases rx;cases y with
  |non=>cases ry;exact aiw (eF I q bz)
  |bl j=>cases ry;exact ne_bool (eF I q (congrArg not K3))
  |str j=>obtain⟨t',rfl⟩:=ry;exact aix (eF I q bz)
  |_=>exact absurd (show aF=au from hs) gq
 |int i=>
  obtain⟨t,rfl⟩:=rx
  cases y with
  |non=>cases ry;exact aiJ (eF I q bz)
  |int j=>obtain⟨t',rfl⟩:=ry;exact ne_int (eF I q (congrArg not J3))
  |str j=>obtain⟨t',rfl⟩:=ry;exact aiK (eF I q bz)
  |_=>exact absurd (show aF=au from hs) gq
 |str i=>
  obtain⟨t,rfl⟩:=rx
  cases y with
  |non=>cases ry;exact aiL (eF I q bz)
  |bl j=>cases ry;exact aiy (eF I q bz)
  |int j=>obtain⟨t',rfl⟩:=ry;exact aiM (eF I q bz)
  |str j=>obtain⟨t',rfl⟩:=ry;exact ne_str (eF I q (congrArg not J4))
  |_=>exact absurd (show aF=au from hs) gq
 |mV i=>
  obtain⟨t,rfl⟩:=rx
  cases y with
  |mV j=>obtain⟨t',rfl⟩:=ry;exact PySem.W.ne_bytes (eF I q (congrArg not Tf))
  |_=>exact absurd (show aF=au from hs) gq
 |_=>cases y<;>exact absurd (show aF=au from hs) gq
theorem afS:cz X (dm .LtE) (mW λi j=>.bl (decide (i<=j))):=Mz λ_ _ _ _ _ _ _ q=>le_int q
theorem Vz:cz X (dm .Gt) (mW λi j=>.bl (decide (j<i))):=Mz λ_ _ _ _ _ _ _ q=>gt_int q
theorem afT:cz X (dm .GtE) (mW λi j=>.bl (decide (j<=i))):=Mz λ_ _ _ _ _ _ _ q=>ge_int q
theorem K4:cz X (dm .Is) (λx y H Q=>y=.non/\Q (.bl (decide (x=.non))) H):=by
 intro ao s σ H x y v u Q I rx ry h
 obtain⟨rfl,q⟩:=h
 cases ry;refine is_none_gen (eF I q ?_);cases x<;>first
  |(cases rx;rfl)
  |(obtain⟨t,rfl⟩:=rx;rfl)
theorem cz.or{f:aA->aA->Sem aA}{r r':R2}(h:cz X f r)(h':cz X f r'):cz X f (λx y H Q=>r x y H Q\/r' x y H Q):=by
 intro ao s σ H x y v u Q I rx ry q;rcases q with q|q
 .exact h ao s σ H x y v u Q I rx ry q
 .exact h' ao s σ H x y v u Q I rx ry q
theorem gk(b:Expr){op:CmpOp}(h:op≠.In:=by decide)(h2:op≠.NotIn:=by decide):wD op b=aF:=by
 have e1:(op==CmpOp.In)=aF:=by cases op<;>first|rfl|exact absurd rfl h
 have e2:(op==CmpOp.NotIn)=aF:=by cases op<;>first|rfl|exact absurd rfl h2
 cases b<;>simp[wD,e1,e2]
theorem acX{op:CmpOp}{r:R2}(ho:cz X (dm op) r)(ha:PE X a ta)(hb:PE X b tb)(hm:wD op b=aF):PE X (.Compare a [op] [b] pos) (yq r ta tb):=by
 intro ao s σ H Q I h;exact wpAny_Compare1 (My ha hb I h λv u s2 x y H2 I2 rx ry q=>ho ao s2 σ H2 x y v u Q I2 rx ry q) hm
def Mg(t:TE):TT:=λσ H Q=>t σ H λx H'=>∃k,x=.bl k/\Q k H'
theorem Ti{op:CmpOp}{r:R2}(ho:cz X (dm op) r)(ha:PE X a ta)(hb:PE X b tb)(hm:wD op b=aF):PT X (.Compare a [op] [b] pos) (Mg (yq r ta tb)):=by
 intro ao s σ H Q I h;refine wpAny_isTrue_Compare1 (bR (ha ao s σ H _ I h) λv s1 ⟨x,H1,I1,r1,q1⟩=>bR (hb ao s1 σ H1 _ I1 q1) λu s2 ⟨y,H2,I2,r2,q2⟩=>
  bR (ho ao s2 σ H2 x y v u _ I2 r1 r2 q2) λc s3 ⟨z,H3,I3,r3,k,e,q3⟩=>?_) hm
 subst e;cases r3;exact rK ⟨H3,I3,q3⟩
def K5(r r':R2)(ta tb tc:TE):TE:=λσ H Q=>ta σ H λx H1=>tb σ H1 λy H2=>r x y H2 λz H3=>∃k,z=.bl k/\
 (if k=au then tc σ H3 λw' H4=>r' y w' H4 Q else Q (.bl aF) H3)
theorem abL{op op':CmpOp}{r r':R2}(ho:cz X (dm op) r)(ho':cz X (dm op') r')(ha:PE X a ta)(hb:PE X b tb)(hc:PE X c tc)
  (hm:IK [op,op'] [b,c]=aF:=by with_unfolding_all rfl):PE X (.Compare a [op,op'] [b,c] pos) (K5 r r' ta tb tc):=by
 intro ao s σ H Q I h;refine Compare_chain (bR (ha ao s σ H _ I h) λv s1 ⟨x,H1,I1,r1,q1⟩=>chain_link (bR (hb ao s1 σ H1 _ I1 q1) λu s2 ⟨y,H2,I2,r2,q2⟩=>
  bR (ho ao s2 σ H2 x y v u _ I2 r1 r2 q2) λd s3 ⟨z,H3,I3,r3,k,e,q3⟩=>?_)) hm
 subst e;cases r3;refine rK ?_;cases k with
 |false=>exact ite_ff ⟨.bl aF,H3,I3,rfl,q3⟩
 |true=>exact ite_tt (chain_last (bR (hc ao s3 σ H3 _ I3 q3) λw' s4 ⟨z',H4,I4,r4,q4⟩=>ho' ao s4 σ H4 y z' u w' Q I4 r2 r4 q4))
theorem abM{op op':CmpOp}{r r':R2}(ho:cz X (dm op) r)(ho':cz X (dm op') r')(ha:PE X a ta)(hb:PE X b tb)(hc:PE X c tc)
  (hm:IK [op,op'] [b,c]=aF:=by with_unfolding_all rfl):PT X (.Compare a [op,op'] [b,c] pos) (Mg (K5 r r' ta tb tc)):=by
 intro ao s σ H Q I h;refine isTrue_chain (bR (ha ao s σ H _ I h) λv s1 ⟨x,H1,I1,r1,q1⟩=>test_link (bR (hb ao s1 σ H1 _ I1 q1) λu s2 ⟨y,H2,I2,r2,q2⟩=>
  bR (ho ao s2 σ H2 x y v u _ I2 r1 r2 q2) λd s3 ⟨z,H3,I3,r3,k,e,q3⟩=>?_)) hm
 subst e;cases r3;refine rK ?_;cases k with
 |false=>
  obtain⟨k',e',q'⟩:=q3
  cases e';exact ite_ff ⟨H3,I3,q'⟩
 |true=>
  refine ite_tt (test_last (bR (hc ao s3 σ H3 _ I3 q3) λw' s4 ⟨z',H4,I4,r4,q4⟩=>bR (ho' ao s4 σ H4 y z' u w' _ I4 r2 r4 q4) λd' s5 aR=>?_))
  obtain⟨z2,H5,I5,r5,k2,e2,q5⟩:=aR
  subst e2;cases r5;exact rK ⟨H5,I5,q5⟩
def MJ(K:aJ)(x:V)(H:Hp)(k:Bool):Prop:=
 match x with
 |.non=>k=aF
 |.bl b=>k=b
 |.int i=>k=(i != 0)
 |.str y=>y.length<=bQ/\k=((y.length:Int) != 0)
 |.mV y=>y.size<=bQ/\k=((y.size:Int) != 0)
 |.ref p=>(∃xs,bL K H p xs/\k=!xs.isEmpty)\/(∃xs,bO K H p xs/\k=!xs.isEmpty)\/∃aC ep,H p=aa (.dK aC ep)/\k=!aC.isEmpty
 |_=>False
theorem aaA{κ:Type}{aC:List (κ×V)}{vs:List (κ×aA)}(r:KV aC vs):(!vs.isEmpty)=!aC.isEmpty:=by
 cases r<;>rfl
theorem QL{xs:List V}{aD:List aA}(r:Vals xs aD):(!aD.toArray.isEmpty)=!xs.isEmpty:=by
 cases r<;>simp
theorem sO:(bQ:Nat)<2^63:=by rw[m6];decide
theorem aez:agP X (λx H Q=>∃k,MJ X.K x H k/\Q k H):=by
 intro ao s σ H x v Q I rx h
 obtain⟨k,e,q⟩:=h
 have hl:=sO;have hs:bQ=16777216:=m6;cases x with
 |non=>
  cases rx;have e':k=aF:=e;subst e';exact truthy_none ⟨H,I,q⟩
 |bl b=>
  cases rx;have e':k=b:=e;subst e';exact rK ⟨H,I,q⟩
 |int i=>
  obtain⟨t,rfl⟩:=rx
  have e':k=(i != 0):=e;subst e';exact PySem.P.truthy_int ⟨H,I,q⟩
 |str y=>
  obtain⟨t,rfl⟩:=rx
  obtain⟨hy,e'⟩:y.length<=bQ/\k=((y.length:Int) != 0):=e
  subst e';exact PySem.P.truthy_str aP ⟨H,I.tok _,q⟩
 |mV y=>
  obtain⟨t,rfl⟩:=rx
  obtain⟨hy,e'⟩:y.size<=bQ/\k=((y.size:Int) != 0):=e
  subst e';exact PySem.W.truthy_bytes aP ⟨H,I.tok _,q⟩
 |ref p=>
  cases rx;have e':(∃xs,bL X.K H p xs/\k=!xs.isEmpty)\/(∃xs,bO X.K H p xs/\k=!xs.isEmpty)\/∃aC ep,H p=aa (.dK aC ep)/\k=!aC.isEmpty:=e;rcases e' with⟨xs,hx,e'⟩|⟨xs,hx,e'⟩|⟨aC,ep,hx,e'⟩
  .subst e'
   obtain⟨aD,r,pl,hz⟩:=I.list hx
   have hlen:=r.length;exact wpAny_truthy_list pl.isList (by simp only[gw];lia) ⟨H,I.tok _,by rw[QL r];exact q⟩
  .subst e'
   obtain⟨aD,r,pl,hz⟩:=I.tuple hx
   have hlen:=r.length;exact truthy_tuple pl (by simp only[gw];lia) ⟨H,I.tok _,by rw[QL r];exact q⟩
  .subst e'
   obtain⟨hz,hS,vs,r,m⟩:aC.length<=bQ/\(p==qu)=aF/\∃vs,KV aC vs/\s.heap.DictAt (lG X.prog X.w) p vs ep:=I.hok p _ hx
   have hlen:aC.length=vs.length:=Paired.length r;exact wpAny_truthy_dict hS m.dictOf aP ⟨H,I.tok _,by rw[aaA r];exact q⟩
 |_=>exact(show False from e).elim
theorem abN(ha:PE X a ta)(he:∀whole,isTrue a X.env whole=(do let v <-whole;DK a.pos;uM [v] (truthy v))):
  PT X a (λσ H Q=>ta σ H λx H'=>∃k,MJ X.K x H' k/\Q k H'):=by
 intro ao s σ H Q I h;exact isTrue_plain (bR (ha ao s σ H _ I h) λv s1 ⟨x,H1,I1,r1,q1⟩=>aez ao s1 σ H1 x v Q I1 r1 q1) (he _)
theorem aaB:cz X (kO .Add) (λx y H Q=>∃i j,x=.str i/\y=.str j/\i.length+j.length<=bQ/\Q (.str (i++j)) H):=by
 intro ao s σ H x y v u Q I rx ry h
 obtain⟨i,j,rfl,rfl,hz,q⟩:=h
 obtain⟨t,rfl⟩:=rx
 obtain⟨t',rfl⟩:=ry
 exact add_str (λt' tk=>⟨.str (i++j),H,I.tok _,⟨_,rfl⟩,q⟩) hz
theorem vals1{x:V}{us:List aA}(r:Vals [x] us):∃u,us=[u]/\RelV x u:=by
 cases r with
 |cons r1 r2=>cases r2;exact⟨_,rfl,r1⟩
theorem vals2{x y:V}{us:List aA}(r:Vals [x,y] us):∃u w',us=[u,w']/\RelV x u/\RelV y w':=by
 cases r with
 |cons r1 r2=>
  cases r2 with
  |cons r3 r4=>cases r4;exact⟨_,_,rfl,r1,r3⟩
theorem RG:iz X (.builtin "abs") (λxs H Q=>∃i,xs=[.int i]/\Q (.int (if i<0 then -i else i)) H):=by
 intro ao s σ H xs us Q I r h
 obtain⟨i,rfl,q⟩:=h
 obtain⟨u,rfl,t,rfl⟩:=vals1 r
 exact call_abs_int λu tk=>⟨.int (if i<0 then -i else i),H,I.tok _,⟨_,rfl⟩,q⟩
theorem IV(hc:X.calm=au):iz X (.builtin "max") (λxs H Q=>∃i j,xs=[.int i,.int j]/\Q (.int (if j>i then j else i)) H):=by
 intro ao s σ H xs us Q I r h
 obtain⟨i,j,rfl,q⟩:=h
 obtain⟨u,w',rfl,⟨t,rfl⟩,⟨t',rfl⟩⟩:=vals2 r
 refine max_two_ints (I.ok.hd hc) λh' tk k=>⟨_,H,I.kept k,?_,q⟩
 by_cases hj:j>i
 .rw[bB hj,bB hj];exact⟨_,rfl⟩
 .rw[bK hj,bK hj];exact⟨_,rfl⟩
theorem Q9(hc:X.calm=au):iz X (.builtin "min") (λxs H Q=>∃i j,xs=[.int i,.int j]/\Q (.int (if j<i then j else i)) H):=by
 intro ao s σ H xs us Q I r h
 obtain⟨i,j,rfl,q⟩:=h
 obtain⟨u,w',rfl,⟨t,rfl⟩,⟨t',rfl⟩⟩:=vals2 r
 refine min_two_ints (I.ok.hd hc) λh' tk k=>⟨_,H,I.kept k,?_,q⟩
 by_cases hj:j<i
 .rw[bB hj,bB hj];exact⟨_,rfl⟩
 .rw[bK hj,bK hj];exact⟨_,rfl⟩
theorem aa3:iz X (.type "int") (λxs H Q=>(∃i,xs=[.int i]/\Q (.int i) H)\/∃k,xs=[.bl k]/\Q (.int (if k then 1 else 0)) H):=by
 intro ao s σ H xs us Q I r h;rcases h with⟨i,rfl,q⟩|⟨k,rfl,q⟩
 .obtain⟨u,rfl,t,rfl⟩:=vals1 r
  exact call_int_int ⟨.int i,H,I,⟨_,rfl⟩,q⟩
 .obtain⟨u,rfl,r1⟩:=vals1 r
  cases r1;exact call_int_bool ⟨.int (if k then 1 else 0),H,I.tok _,⟨_,rfl⟩,q⟩
end
structure MK(h:bw)(x dx C:aq)(mA:Str->Option aA):Prop where
 obj:h.get? x=aa (PK C dx)
 ns:h.Ns1 dx mA
 ne:dx≠x
theorem aa4{h:bw}{dx:aq}{mA:Str->Option aA}(n:h.Ns1 dx mA):∃od,h.get? dx=aa od/\∀name,Qe name od=aa (mA name):=by
 obtain⟨o,es,ep,ho,hd,hk,_,hm⟩:=n
 refine⟨o,ho,λname=>?_⟩
 have e:=hm name;unfold nsFind findBy at e;rw[<-Array.find?_toList] at e;unfold Qe;rw[hd];dsimp only;split
 .rename_i y q;rw[q] at e;exact congrArg aa e
 .rename_i q;rw[q] at e;have a:es.toList.any (·.refKey)=aF:=by
   rw[YS];intro y hy
   obtain⟨z,t,hkey⟩:=hk y (Array.mem_toList_iff.mp hy)
   simp[DictEntry.refKey,hkey]
  have a':¬es.toList.any (·.refKey)=au:=by rw[a];exact gq
  rw[bK a'];exact congrArg aa e
theorem MK.look{h:bw}{x dx C:aq}{mA:Str->Option aA}(I:MK h x dx C mA):∃od,PySem.W.InstAt h x (PK C dx) C (aa od)/\∀name,Qe name od=aa (mA name):=
 let ⟨od,ho,hl⟩:=aa4 I.ns
 ⟨od,⟨I.obj,rfl,rfl,ho⟩,hl⟩
section
variable{prog:bI}{w:bC}{A:b7}{E:aA->aH->Prop}{s:aH}{K:aJ}{x dx C f:aq}{mA:Str->Option aA}{name:Str}{v:aA}
end
theorem oV.some_of{v:V}{o:Option aA}(r:oV (aa v) o):∃u,o=aa u/\RelV v u:=by
 cases o with
 |none=>exact(show False from r).elim
 |some u=>exact⟨u,rfl,r⟩
section
variable{P:bI}{w:bC}{H H':Hp}{h h':bw}{a C dx:aq}{fs fs':List (Str×V)}
theorem Tj(hok:fY P w H h)(e:H a=aa (.ins C dx fs)):∃mA,MK h a dx C mA/\(∀f,oV (fs.lookup f) (mA f))/\Z3 mA (fs.map (·.1))/\fs.length<=1000/\H dx=aa (.own a):=by
 obtain⟨d,z,ne,ob,mA,n,r,q⟩:=(show dU P w H h a (.ins C dx fs) from hok a _ e)
 exact⟨mA,⟨ob,n,ne⟩,r,q,z,d⟩
end
structure Nq(K:aJ)(C:aq):Prop where
 pg:Y9 K C IW=au
 hd:PySem.W.hasDictIn K C=au
 po:PySem.W.plainOver K C=au
 sa:ZF K (.ref C) "__setattr__"=aa (aa (.builtin "object.__setattr__"))
theorem Nq.get{K:aJ}{C:aq}(c:Nq K C)(f:Str):Y9 K C f=au:=c.pg
section
variable{X:Cx}{ao:List (aq×Obj)}{σ:St}{H:Hp}{s:aH}{a C dx:aq}{fs:List (Str×V)}{f:Str}{v:V}{A:b7}{E:aA->aH->Prop}
end
section
variable{X:Cx}{o e value:Expr}{f:Str}{pos pos' tpos:Pos}{ta tv:TE}
end
section
variable{X:Cx}{ao:List (aq×Obj)}{σ:St}{H:Hp}{s:aH}{A:b7}{E:aA->aH->Prop}{Q:aA->aH->Prop}{c:aA}{b:Bool}
inductive jK(K:aJ)(H:Hp):V->aA->Prop where
 |non:jK K H .non (.type "NoneType")
 |bl (x:Bool):jK K H (.bl x) (.type "bool")
 |int (i:Int):jK K H (.int i) (.type "int")
 |str (x:Str):jK K H (.str x) (.type "str")
 |flt (x:UInt64):jK K H (.flt x) (.type "float")
 |lst {a:aq} {xs:List V} (e:H a=aa (.lst xs)):jK K H (.ref a) (.type "list")
 |j5 {a:aq} {o:Obj} {xs:List V} (e:H a=aa (.j5 o (.lst xs))):jK K H (.ref a) (.type "list")
 |tup {a:aq} {xs:List V} (e:H a=aa (.tup xs)):jK K H (.ref a) (.type "tuple")
 |dK {a:aq} {aC:List (Key×V)} {ep:Nat} (e:H a=aa (.dK aC ep)):jK K H (.ref a) (.type "dict")
 |dT {a:aq} {aC:List (List Key×V)} {ep:Nat} (e:H a=aa (.dT aC ep)):jK K H (.ref a) (.type "dict")
 |ins {a C dx:aq} {fs:List (Str×V)} (e:H a=aa (.ins C dx fs)) (cl:Nq K C) (ha:ZF K (.ref C) "__class__"=aa (aa (.builtin "object.__class__")))
   (hn:PySem.W.specialIn K (.builtin "object.__class__") "__get__"=aa (aa (.builtin "getset_descriptor.__get__"))) (htk:PySem.W.takesIn K (.builtin "object.__class__")=aa au)
   (hm:PySem.W.mroIn K C (.type "object")=aa au):jK K H (.ref a) (.ref C)
theorem aa5{x:V}{u t:aA}(I:Inv X ao σ H s)(rx:RelV x u)(ty:jK X.K H x t)(e:wB X.K t c=aa b)(h:∀tk,Q (.bool b) {s with toks:=tk}):
  bu (model X.prog X.w) A (call (.builtin "isinstance") [u,c]) Q E s:=by
 cases ty with
 |non=>cases(show u=qt from rx);exact pG YT I.fZ mC e (λz=>nomatch z) h
 |bl y=>cases(show u=pJ y from rx);exact pG YW I.fZ mC e (λz=>nomatch z) h
 |int i=>obtain⟨t,q⟩:=(show ∃t,u=CZ i t from rx);cases q;exact pG Za I.fZ mC e (λz=>nomatch z) h
 |str y=>obtain⟨t,q⟩:=(show ∃t,u=Dc y t from rx);cases q;exact pG Zb I.fZ mC e (λz=>nomatch z) h
 |flt y=>obtain⟨t,q⟩:=(show ∃t,u=Qy y t from rx);cases q;exact pG YD I.fZ mC e (λz=>nomatch z) h
 |@lst a xs ea=>
  cases(show u=iZ a from rx)
  obtain⟨_,_,n,_,h1⟩:=(show dU X.prog X.w H s.heap a (.lst xs) from I.hok a _ ea)
  exact pG Hr I.fZ ⟨_,h1,rfl⟩ e (λz=>nomatch z) h
 |@j5 a ob xs ea=>
  cases(show u=iZ a from rx)
  obtain⟨_,_,_,n,_,h1⟩:=(show dU X.prog X.w H s.heap a (.j5 ob (.lst xs)) from I.hok a _ ea)
  exact pG Hr I.fZ ⟨_,h1,rfl⟩ e (λz=>nomatch z) h
 |@tup a xs ea=>
  cases(show u=iZ a from rx)
  obtain⟨_,_,_,p⟩:=(show dU X.prog X.w H s.heap a (.tup xs) from I.hok a _ ea)
  obtain⟨o,h1,h2,_⟩:=p
  exact pG YF I.fZ ⟨o,h1,h2⟩ e (λz=>nomatch z) h
 |@dK a aC epo ea=>
  cases(show u=iZ a from rx)
  obtain⟨_,_,vs,_,p⟩:=(show dU X.prog X.w H s.heap a (.dK aC epo) from I.hok a _ ea)
  obtain⟨o,es,h1,h2,_⟩:=p
  exact pG Hs I.fZ ⟨o,h1,h2.1⟩ e (λz=>nomatch z) h
 |@dT a aC epo ea=>
  cases(show u=iZ a from rx)
  obtain⟨_,_,xs,_,o,es,h1,h2,_⟩:=(show dU X.prog X.w H s.heap a (.dT aC epo) from I.hok a _ ea)
  exact pG Hs I.fZ ⟨o,h1,h2.1⟩ e (λz=>nomatch z) h
 |@ins a C dx fs ea cl ha hn htk hm=>
  cases(show u=iZ a from rx)
  obtain⟨mA,O,_⟩:=Tj I.hok ea
  obtain⟨od,J,_⟩:=O.look
  exact pG (Zc (cl.get _) cl.hd ha hn htk hm) I.fZ J e (λz=>nomatch z) h
end
structure gR(k:Nat)(A:b7):Prop where
 hd:A.handled=ak
 dp:A.depth+3*k+5<recursionLimit
 un:A.units+16*k+200<gn
 gd:A.guards=aa []
theorem gR.mono{j k:Nat}{A:b7}(r:gR k A)(h:j<=k):gR j A:=⟨r.hd,by have:=r.dp;lia,by have:=r.un;lia,r.gd⟩
theorem gR.deeper{k:Nat}{A:b7}(r:gR (k+1) A)(aj:Env):gR k (A.deeper aj):=
 ⟨r.hd,by have:=r.dp;show A.depth+1+3*k+5<_;lia,by have:=r.un;show A.units+3+16*k+200<_;lia,r.gd⟩
theorem gR.depth{k:Nat}{A:b7}(r:gR k A):A.depth<recursionLimit:=by have:=r.dp;lia
theorem gR.units{k:Nat}{A:b7}(r:gR k A):A.units+64<gn:=by have:=r.un;lia
theorem gR.UJ{k:Nat}{A:b7}(r:gR k A):A.units<gn:=by have:=r.un;lia
def agQ:TA:=λ_ H Q=>Q [] H
def afU(ta:TE)(tr:TA):TA:=λσ H Q=>ta σ H λx H1=>tr σ H1 λxs H2=>Q (x::xs) H2
section
variable{X:Cx}{e:Expr}{es:List Expr}{te:TE}{t:TA}{pos:Pos}
theorem lN:PA X [] agQ:=λ_ _ _ _ H Q I h=>Calls.spliced_nil ⟨[],H,I,.nil,h⟩
theorem jA(ha:PE X e te)(hr:PA X es t)(hs:bG (e::es) X.env=(aF,eval e X.env)::bG es X.env:=by rfl):PA X (e::es) (afU te t):=by
 intro pos ao s σ H Q I h;rw[hs];show bu _ _ (spliced ((aF,eval e X.env)::gb pos (bG es X.env))) _ _ s;refine Calls.spliced_cons (bR (ha ao s σ H _ I h) λu s1 aR=>?_)
 obtain⟨x,H1,I1,r1,q1⟩:=aR
 exact bR (hr pos ao s1 σ H1 _ I1 q1) λus s2 ⟨xs,H2,I2,r2,q2⟩=>⟨x::xs,H2,I2,.cons r1 r2,q2⟩
def agR(t:TA):TE:=λσ H Q=>t σ H λxs H1=>xs.length<=bQ/\∀p,H1 p=ak->Q (.ref p) (upd H1 p (.tup xs))
def agS(t:TA):TE:=λσ H Q=>t σ H λxs H1=>xs.length<=bQ/\∀p,H1 p=ak->Q (.ref p) (upd H1 p (.lst xs))
theorem UL{x1}(h:PA X es t):PE X (.Tuple es x1 pos) (agR t):=by
 intro ao s σ H Q I hq;refine wpAny_Tuple_spliced (bR (h pos ao s σ H _ I hq) λus s1 ⟨xs,H1,I1,r,z,q⟩=>⟨by rw[<-r.length];exact z,?_⟩);have hf:H1 s1.heap.objs.size=ak:=I1.hok.fresh (cO _)
 refine⟨.ref s1.heap.objs.size,upd H1 s1.heap.objs.size (.tup xs),I1.laid (t':=s1.toks) (λb u e=>cA _ e) (cO _) ?_,rfl,q _ hf⟩
 exact⟨z,us,r,⟨_,gY _ rfl,rfl,_,rfl⟩⟩
theorem aeA(h:PA X es t):PE X (.List es pos) (agS t):=by
 intro ao s σ H Q I hq;refine wpAny_List_spliced (bR (h pos ao s σ H _ I hq) λus s1 ⟨xs,H1,I1,r,z,q⟩=>⟨by rw[<-r.length];exact z,?_⟩);have hf:H1 s1.heap.objs.size=ak:=I1.hok.fresh (cO _)
 refine⟨.ref s1.heap.objs.size,upd H1 s1.heap.objs.size (.lst xs),I1.laid (t':=s1.toks) (λb u e=>cA _ e) (cO _) ?_,rfl,q _ hf⟩
 exact⟨z,us,0,r,gY _ rfl⟩
end
abbrev Sp:=List V->Hp->VK->XK->Prop
abbrev o9:=List Env->Hp->aH->XK->aA->aH->Prop
structure FW(P:bI)(w:bC)(K:aJ)(mg:Str->Option aA)(base:bw)(A:b7)(outer:List Env)(s:aH)(H:Hp):Prop where
 frames:A.frames=aa outer
 mod:Mod K mg base
 bs:∀b o,base.get? b=aa o->s.heap.get? b=aa o/\H b=ak
 tX:base.objs.size<=s.heap.objs.size
 oW:s.heap.FunFrames base outer
 yp:∀b∈frs outer,H b=ak
 hok:fY P w H s.heap
 bare:AllBare s.gens
def CE(outer:List Env)(P:bI)(w:bC)(H:Hp)(s:aH)(Q:VK)(u:aA)(s':aH):Prop:=
 ∃v H',s'.os=s.os/\AllBare s'.gens/\Un (frs outer) [] H H' s.heap s'.heap/\fY P w H' s'.heap/\RelV v u/\Q v H'
def CR(CX:o9)(outer:List Env)(P:bI)(w:bC)(H:Hp)(s:aH)(Q:VK)(E:XK)(r:xH)(s':aH):Prop:=
 match r with
 |.ok (.ret u)=>CE outer P w H s Q u s'
 |.ok _=>False
 |.error e=>CX outer H s E e s'
structure dI(P:bI)(w:bC)(K:aJ)(mg:Str->Option aA)(base:bw)(CX:o9)(k:Nat)(f:aq)(fd:di)(ps:List Str)(sp:Sp):Prop where
 len:∀vs H Q E,sp vs H Q E->vs.length=ps.length
 run:∀(A:b7)(outer:List Env)(s:aH)(H:Hp)(args:Args)(us:List aA)(vs:List V)(Q:VK)(E:XK),gR k A->FW P w K mg base A outer s H->xj s fd args (ps.zip us)->Vals vs us->sp vs H Q E->
  xm (model P w) A (.call (.ref f) args) (CR CX outer P w H s Q E) s
section
variable{X:Cx}{ao:List (aq×Obj)}{σ:St}{H:Hp}{s s':aH}
theorem Inv.env0(I:Inv X ao σ H s):FW X.prog X.w X.K X.mg X.base X.A X.stack s H:=
 ⟨I.ok.frames,I.ok.mod,I.bs,kI I.ok.tX I.sz,I.stack,I.S8,I.hok,I.bare⟩
theorem Inv.after{Q:VK}{u:aA}(I:Inv X ao σ H s)(h:CE X.stack X.prog X.w H s Q u s'):EP X ao σ Q u s':=by
 obtain⟨v,H',os,bare,un,hok,r,q⟩:=h
 obtain⟨hh,g,d,t,os'⟩:=s'
 obtain rfl:os'=s.os:=os
 exact⟨v,H',I.call (h':=hh) (g':=g) (d':=d) (t':=t) (ch:=[]) un hok bare (λb z=>absurd z bz),r,q⟩
end
def Mh(sp:Sp)(tY:List V)(E:XK)(t:TA):TE:=λσ H Q=>t σ H λvs H1=>sp (vs++tY) H1 Q E
def Binds(K:aJ)(fd:di)(ps:List Str)(ds:List aA):Prop:=
 ∀(s:aH)(us:List aA),K.In s.heap->(us++ds).length=ps.length->xj s fd ⟨us,[]⟩ (ps.zip (us++ds))
theorem Binds.all{K:aJ}{fd:di}{ps:List Str}(h:∀us:List aA,us.length=ps.length->bindArgs fd ⟨us,[]⟩=pure (ps.zip us)):Binds K fd ps []:=λs us _ hl=>by
 rw[jP] at hl⊢;exact .of_eq (h us hl)
def Passes(CX:o9)(X:Cx)(E:XK):Prop:=∀(ao:List (aq×Obj))(σ:St)(H:Hp)(s:aH)(e:aA)(s':aH),Inv X ao σ H s->CX X.stack H s E e s'->X.xe e s'
section
variable{X:Cx}{CX:o9}{k:Nat}{f C:aq}{fd:di}{ps:List Str}{sp:Sp}{tY:List V}{ds:List aA}{E:XK}{x m:Str}{p pos apos:Pos}{e o:Expr}{es:List Expr}{ta:TE}{t:TA}
theorem aeB{ao:List (aq×Obj)}{σ:St}{H:Hp}{s:aH}{Q:VK}{us:List aA}{vs:List V}(F:dI X.prog X.w X.K X.mg X.base CX k f fd ps sp)(hr:gR k X.A)(hb:Binds X.K fd ps ds)(hd:Vals tY ds)(hx:Passes CX X E)
  (I:Inv X ao σ H s)(r:Vals vs us)(h:sp (vs++tY) H Q E):bu (model X.prog X.w) X.A (call (.ref f) us) (EP X ao σ Q) X.xe s:=by
 have r2:Vals (vs++tY) (us++ds):=r.append hd;have hl:(us++ds).length=ps.length:=by rw[<-r2.length];exact F.len _ _ _ _ h
 refine wpAny_call (Qn (F.run X.A X.stack s H ⟨us,[]⟩ (us++ds) (vs++tY) Q E hr I.env0 (hb s us I.fZ hl) r2 h) λr s' hq=>?_);cases r with
 |error e=>exact hx ao σ H s e s' I hq
 |ok fl=>
  cases fl with
  |ret u=>exact I.after hq
  |next=>exact qw hq
  |brk=>exact qw hq
  |cont=>exact qw hq
theorem acY(F:dI X.prog X.w X.K X.mg X.base CX k f fd ps sp)(hr:gR k X.A)(hg:Gl X x)(hm:X.mg x=aa (.ref f))(hk:ur X.K (.ref f)=au)(hb:Binds X.K fd ps ds)(hd:Vals tY ds)(hx:Passes CX X E)
  (ha:PA X (e::es) t)(hdb:(x==("__debug__":Str))=aF:=by decide)(he:bG (e::es) X.env=(aF,eval e X.env)::bG es X.env:=by rfl)(hpl:(gb pos (bG es X.env)).any (·.1)=aF:=by rfl):
  PE X (.Call (.Name x p) (e::es) [] pos) (Mh sp tY E t):=by
 intro ao s σ H Q I h;refine O8 (Tc I hg hm ?_ hdb);refine PySem.W.callWith_K (h₀:=X.base) I.ok.mod.Nh hk (bR (ha pos ao s σ H _ I h) λus s1 ⟨vs,H1,I1,r,q⟩=>⟨I1.fZ,?_⟩) he hpl;exact aeB F hr hb hd hx I1 r q
end
section
variable{X:Cx}{CX:o9}{k:Nat}{f C:aq}{fd:di}{ps ks:List Str}{sp:Sp}{E:XK}{x m:Str}{p pos apos kpos:Pos}{e o:Expr}{es:List Expr}{kws:List jU}{te ta:TE}{t tk:TA}{nm:Option Str}
variable{g:List aA->List aA->List aA}{gV:List V->List V->List V}
end
structure gA(N P:List Str)(sc:jj):Prop where
 kind:sc.kind=.function
 co:sc.isCoroutine=aF
 gen:sc.isGenerator=aF
 nd:N.Nodup
 pre:N.take P.length=P
 par:∀x∈P,sc.names.lookup x=aa .local\/sc.names.lookup x=aa .cell
 aeC:∀y∈sc.names,y.2≠.free
theorem Ra{kindOf:Str->Option wW}{x:Str}:∀{binds:List (Str×aA)}{m:Str->Option aA},(∀v,(x,v)∉binds)->u9 kindOf binds m x=m x
 |[],_,_=>rfl
 |(n,v)::r,m,h=>by
  unfold u9;rw[Ra λw hw=>h w (fQ _ hw)];split
  .have:x≠n:=by rintro rfl;exact h v gh
   simp[this]
  .rfl
theorem Rb{kindOf:Str->Option wW}{x:Str}:∀{binds:List (Str×aA)}{m:Str->Option aA},(∀v,(x,v)∉binds)->vd kindOf binds m x=m x
 |[],_,_=>rfl
 |(n,v)::r,m,h=>by
  unfold vd;rw[Rb λw hw=>h w (fQ _ hw)];split
  .rfl
  .have:x≠n:=by rintro rfl;exact h v gh
   simp[this]
theorem Rc{kindOf:Str->Option wW}{x:Str}{v:aA}:∀{P:List Str}{vs:List aA}{i:Nat}{m:Str->Option aA},P.Nodup->P[i]?=aa x->vs[i]?=aa v->kindOf x=aa .local->
  u9 kindOf (P.zip vs) m x=aa v
 |[],_,_,_,_,h,_,_=>by simp at h
 |_::_,[],_,_,_,_,h,_=>by simp at h
 |p::P,w::vs,0,m,nd,h1,h2,hk=>by
  simp at h1 h2;subst h1;subst h2;show u9 kindOf ((p,w)::P.zip vs) m p=_;unfold u9;rw[Ra λv hv=>(lE.mp nd).1 (BW hv).1,bB hk];simp
 |p::P,w::vs,i+1,m,nd,h1,h2,hk=>by
  show u9 kindOf ((p,w)::P.zip vs) m x=_;unfold u9;exact Rc (i:=i) (lE.mp nd).2 (by simpa using h1) (by simpa using h2) hk
theorem Rf{kindOf:Str->Option wW}{x:Str}{v:aA}:∀{P:List Str}{vs:List aA}{i:Nat}{m:Str->Option aA},P.Nodup->P[i]?=aa x->vs[i]?=aa v->kindOf x≠aa .local->
  vd kindOf (P.zip vs) m x=aa v
 |[],_,_,_,_,h,_,_=>by simp at h
 |_::_,[],_,_,_,_,h,_=>by simp at h
 |p::P,w::vs,0,m,nd,h1,h2,hk=>by
  simp at h1 h2;subst h1;subst h2;show vd kindOf ((p,w)::P.zip vs) m p=_;unfold vd;rw[Rb λv hv=>(lE.mp nd).1 (BW hv).1,bK hk];simp
 |p::P,w::vs,i+1,m,nd,h1,h2,hk=>by
  show vd kindOf ((p,w)::P.zip vs) m x=_;unfold vd;exact Rf (i:=i) (lE.mp nd).2 (by simpa using h1) (by simpa using h2) hk
def start(N:List Str)(vs:List V):St:=vs.map aa++cM (N.length-vs.length) ak
def vC(CX:o9)(P:bI)(w:bC)(K:aJ)(mg:Str->Option aA)(base:bw)(N:List Str)(qual:Str)(scope:jj)(f:aq)(cd:aA)(A:b7)(outer:List Env)(s:aH)(H:Hp)(E:XK):Cx where
 prog:=P
 w:=w
 K:=K
 mg:=mg
 base:=base
 A:=A.deeper (envOfC qual scope s.heap.objs.size f cd)
 N:=N
 s₀:=s
 H₀:=H
 env:=envOfC qual scope s.heap.objs.size f cd
 outer:=outer
 stack:=envOfC qual scope s.heap.objs.size f cd::outer
 ex:=[]
 calm:=au
 fn:=λ_=>au
 pn:=[]
 xe:=λe s'=>bu (model P w) (A.deeper (envOfC qual scope s.heap.objs.size f cd)) (leaving (envOfC qual scope s.heap.objs.size f cd) e) (λ_ s''=>CX outer H s E e s'') (λe' s''=>CX outer H s E e' s'') s'
theorem RJ{sc:jj}{n:Nat}{x:Str}(h:sc.names.lookup x=aa .cell):∃c,(cellsFrom n sc.names []).lookup x=aa c:=by
 have q:=X8 sc.names n [] (.inl h);exact vY.mp q
theorem aa6{CX:o9}{P:bI}{w:bC}{K:aJ}{mg:Str->Option aA}{base:bw}{N ps:List Str}{qual:Str}{scope:jj}{f:aq}{cd:aA}{A:b7}{outer:List Env}{s s1:aH}{H:Hp}{E:XK}{us:List aA}{vs:List V}
  (S:gA N ps scope)(hd:A.handled=ak)(e0:FW P w K mg base A outer s H)(hl:vs.length=ps.length)(r:Vals vs us)
  (x:InCallC s s.heap.objs.size (u9 (envOfC qual scope s.heap.objs.size f cd).kindOf (ps.zip us) λ_=>ak) (cellsFrom (s.heap.objs.size+1) scope.names []) (vd (envOfC qual scope s.heap.objs.size f cd).kindOf (ps.zip us) λ_=>ak) s1):
  Inv (vC CX P w K mg base N qual scope f cd A outer s H E) [] (start N vs) H s1:=by
 have hpl:ps.length<=N.length:=by have:=congrArg QB S.pre;rw[BR] at this;lia
 obtain⟨h1,tk,rfl,hk⟩:=x.done
 have Br:∀b:aq,b∉(vC CX P w K mg base N qual scope f cd A outer s H E).ex:=λb z=>absurd (show b∈([]:List aq) from z) bz
 refine⟨⟨e0.mod,S.kind,rfl,rfl,cO _,λy z c h1 h2=>?_,λy hy=>?_,λy c _ h=>?_,λ_=>hd,Around.frames_deeper e0.frames,.inr ⟨rfl,rfl⟩,λb z=>absurd z (Br b),e0.bs,e0.tX,λb _ _=>Br b,λb z=>absurd z (Br b),e0.oW,e0.yp⟩,
  rfl,e0.bare,Un.kept hk,⟨_,x.toInCall.ns,λi y v h1 h2 h3=>?_⟩,λy c h=>⟨_,x.cell y c h⟩,e0.hok.fresh (cO _),λy c h=>?_,λp hp=>absurd (show p∈([]:List (aq×Obj)) from hp) bz,e0.hok.kept hk,?_⟩
 .exact name_of_addr x.apart (rH h1) (rH h2)
 .have hy:scope.names.lookup y=aa .cell\/scope.names.lookup y=aa .free:=hy;rcases hy with hy|hy
  .exact RJ hy
  .exact absurd rfl (S.aeC _ (rH hy))
 .exact Qm (x.above y c (rH h))
 .have hi:i<vs.length:=by
   unfold start at h2;by_cases hi:i<vs.length
   .exact hi
   .rw[lB (by simpa using hi)] at h2;rw[Ou] at h2;split at h2<;>cases h2
  have ha:vs[i]?=aa v:=by
   unfold start at h2;rw[kj (by simpa using hi),jy] at h2;cases e:vs[i]? with
   |none=>rw[e] at h2;cases h2
   |some a=>rw[e] at h2;cases h2;rfl
  obtain⟨u,hu,rv⟩:=r.get ha
  have hp:ps[i]?=aa y:=by
   rw[<-S.pre,List.getElem?_take_of_lt aP];exact h1
  have WX:ps.Nodup:=by rw[<-S.pre];exact S.nd.sublist (List.take_sublist _ _)
  refine⟨u,rv,?_⟩
  rcases S.par y (nW hp) with k|k
  .exact .inl ⟨k,Rc WX hp hu k⟩
  .obtain⟨c,e⟩:=RJ (n:=s.heap.objs.size+1) k
   refine .inr ⟨.inl k,c,e,?_⟩;have q:=x.cell y c e;rw[Rf WX hp hu (by show scope.names.lookup y≠_;rw[k];decide)] at q;exact q
 .exact e0.hok.fresh (Qm (x.above y c (rH h)))
 .unfold start;show _=N.length;rw[gD,cV,O2];lia
theorem afV{CX:o9}{P:bI}{w:bC}{K:aJ}{mg:Str->Option aA}{base:bw}{k:Nat}{f:aq}{name qual:Str}{params:Arguments}{body:List cZ}{scope:jj}{dV kV doc pm cdv ct oc:aA}{an od:Option aq}
  {osl:Array (Option aA)}{N ps:List Str}{sp:Sp}(lk:K.lookup f=aa ⟨oc,od,.func (uC name qual params body scope dV kV doc pm an cdv ct),osl⟩)(hcd:HH K cdv qual=au)(S:gA N ps scope)
  (len:∀vs H Q E,sp vs H Q E->vs.length=ps.length)
  (hbody:∀(A:b7)(outer:List Env)(s:aH)(H:Hp)(vs:List V)(Q:VK)(E:XK),gR k (A.deeper (envOfC qual scope s.heap.objs.size f cdv))->sp vs H Q E->
   ∃t,iI (vC CX P w K mg base N qual scope f cdv A outer s H E) body t/\t {nx:=λ_ H'=>Q .non H',rt:=Q} (start N vs) H):
  dI P w K mg base CX (k+1) f (uC name qual params body scope dV kV doc pm an cdv ct) ps sp:=by
 refine⟨len,λA outer s H args us vs Q E hr e0 hb r hsp=>?_⟩
 have hl:=len _ _ _ _ hsp;have KX:K.In s.heap:=e0.mod.Nh.keeps λb o e=>(e0.bs b o e).1
 have lim:s.heap.NoLimit:=e0.mod.nolimit.keeps λb o e=>(e0.bs b o e).1
 have hkind:∀y∈ps.zip us,scope.names.lookup y.1=aa .local\/(scope.names.lookup y.1=aa .cell/\((cellsFrom (s.heap.objs.size+1) scope.names []).lookup y.1).isSome=au):=λ⟨n,v⟩ hy=>by
  rcases S.par n (BW hy).1 with q|q
  .exact .inl q
  .exact .inr ⟨q,X8 _ _ _ (.inl q)⟩
 refine codeAny_call_function hr.depth (KX _ _ lk) rfl S.co S.gen rfl (PySem.W.codeRec_of KX hcd) (hb _ _ _ _ ?_);refine wpAny_newFunctionEnv_cells S.kind hkind λaj he s1 x=>?_
 subst he
 refine⟨lim.keeps x.toInCall.keep,codeAny_func ?_⟩
 obtain⟨t,ht,hq⟩:=hbody A outer s H vs Q E (hr.deeper _) hsp
 have I:Inv (vC CX P w K mg base N qual scope f cdv A outer s H E) [] (start N vs) H s1:=aa6 S hr.hd e0 hl r x;refine zg (ht [] s1 (start N vs) H _ I hq) (λfl s' hs=>?_) λe s' hs=>hs
 have fin:∀{σ':St}{H':Hp}{v:V}{u:aA},Inv (vC CX P w K mg base N qual scope f cdv A outer s H E) [] σ' H' s'->RelV v u->Q v H'->CE outer P w H s Q u s':=
  λ{σ' H' v u} J rv q=>⟨v,H',J.os,J.bare,J.base,J.hok,rv,q⟩
 cases fl with
 |ret u=>
  obtain⟨v,σ',H',J,rv,q⟩:=hs
  exact fin J rv q
 |next=>
  obtain⟨σ',H',J,q⟩:=hs
  exact fin (v:=V.non) (u:=qt) J rfl q
 |brk=>
  obtain⟨_,_,_,q⟩:=hs
  exact qw q
 |cont=>
  obtain⟨_,_,_,q⟩:=hs
  exact qw q
section
variable{X:Cx}{x:Str}{p pos:Pos}{e:Expr}{es:List Expr}{t:TA}{id T:String}{r:List V->Hp->VK->Prop}
def Nr(r:List V->Hp->VK->Prop)(t:TA):TE:=λσ H Q=>t σ H λvs H1=>r vs H1 Q
theorem zy(hc:iz X (.builtin id) r)(hg:Gl X x)(hm:X.mg x=ak)(hv:oA x=aa (.builtin id))(ha:PA X (e::es) t)(hn:x≠"__name__":=by decide)(hdb:(x==("__debug__":Str))=aF:=by decide)
  (he:bG (e::es) X.env=(aF,eval e X.env)::bG es X.env:=by rfl)(hpl:(gb pos (bG es X.env)).any (·.1)=aF:=by rfl):PE X (.Call (.Name x p) (e::es) [] pos) (Nr r t):=by
 intro ao s σ H Q I h;refine O8 (sH I hg hm hv ?_ hn hdb);exact aij (bR (ha pos ao s σ H _ I h) λus s1 ⟨vs,H1,I1,r1,q1⟩=>hc ao s1 σ H1 vs us Q I1 r1 q1) he hpl
theorem aa7(hc:iz X (.type T) r)(hg:Gl X x)(hm:X.mg x=ak)(hv:oA x=aa (.type T))(ha:PA X (e::es) t)(hn:x≠"__name__":=by decide)(hdb:(x==("__debug__":Str))=aF:=by decide)
  (he:bG (e::es) X.env=(aF,eval e X.env)::bG es X.env:=by rfl)(hpl:(gb pos (bG es X.env)).any (·.1)=aF:=by rfl):PE X (.Call (.Name x p) (e::es) [] pos) (Nr r t):=by
 intro ao s σ H Q I h;refine O8 (sH I hg hm hv ?_ hn hdb);exact yG (bR (ha pos ao s σ H _ I h) λus s1 ⟨vs,H1,I1,r1,q1⟩=>hc ao s1 σ H1 vs us Q I1 r1 q1) he hpl
end
end L2
namespace HT
open PySem PyProof.Rows
section
open PySem.SeqAt
open PySem.AutoSeq1 (wpAny_loadPart')
open PySem.MeetsSeq PySem.MeetsSeq2 PySem.MeetsSeq3
end
section
variable{prog:bI}{w:bC}{A:b7}{E:aA->aH->Prop}{s:aH}
theorem acZ{t b:aq}{vs ws:List aA}{Q:aA->aH->Prop}(ht:IsTup s.heap t vs.toArray)(hb:IsTup s.heap b ws.toArray)(hv:vs≠[])
  (h1:ws=[]->Q (.ref t) s)(h2:ws≠[]->Q (.ref s.heap.objs.size) {s with heap:=s.heap.push {cls:=.type "tuple",data:=.seq (vs++ws).toArray}})
  (hsz:vs.length+ws.length<=bQ):bu (model prog w) A (kO .Add (.ref t) (.ref b)) Q E s:=by
 obtain⟨⟨cls,dd,data,sl⟩,ho,hc,n,hd⟩:=id ht
 obtain⟨⟨cls2,dd2,data2,sl2⟩,ho2,hc2,n2,hd2⟩:=id hb
 simp only at hc hd hc2 hd2;subst hc hd hc2 hd2;have e:vs.toArray++ws.toArray=(vs++ws).toArray:=bz;by_cases hw:ws=[]
 .exact Qo ⟨_,ho,rfl⟩ ⟨_,ho2,rfl⟩ Pu Qh OD Ov (Oo _ _)
   (tuple_addW1 t b vs.toArray ws.toArray n n2 dd dd2 sl sl2 (by simpa using hv) (by simp[hw])) ⟨ho,ho2,h1 hw⟩
 .refine Qo ⟨_,ho,rfl⟩ ⟨_,ho2,rfl⟩ Pu Qh OD Ov (Oo _ _)
   (tuple_addW2 t b vs.toArray ws.toArray n n2 dd dd2 sl sl2 (by simpa using hv) (by simpa using hw) (by rw[gw,gw];exact hsz)) ⟨ho,ho2,?_⟩
  rw[e];exact h2 hw
def bT(n d:Nat):Option Int->Nat
 |none=>d
 |some v=>if v<0 then(v+(n:Int)).toNat else min v.toNat n
theorem DN(n d k:Nat):bT n d (aa (k:Int))=min k n:=by
 show(if(k:Int)<0 then((k:Int)+(n:Int)).toNat else min (k:Int).toNat n)=min k n
 rw[bK aP,Ph]
theorem aeD(n d:Nat)(hd:d<=n)(o:Option Int):bT n d o<=n:=by
 cases o with
 |none=>exact hd
 |some v=>
  show(if v<0 then(v+(n:Int)).toNat else min v.toNat n)<=n
  by_cases hv:v<0
  .rw[bB hv];lia
  .rw[bK hv];exact Nat.min_le_right _ _
theorem Tn(v:Int)(n d:Nat):(if v<0 then max (v+(n:Int)) 0 else min v (n:Int))=((bT n d (aa v):Nat):Int):=by
 show(if v<0 then max (v+(n:Int)) 0 else min v (n:Int))=(((if v<0 then(v+(n:Int)).toNat else min v.toNat n):Nat):Int)
 by_cases hv:v<0
 .simp only[bB hv];lia
 .simp only[bK hv];lia
theorem aaC(lo hi:Option Int)(n:Nat):Oj lo hi 1 (n:Int)=(((bT n 0 lo:Nat):Int),((bT n n hi:Nat):Int)):=by
 have h1:¬((1:Int)<0):=aP;unfold Oj;simp only[h1,if_false];refine Prod.ext ?_ ?_
 .cases lo with
  |none=>rfl
  |some v=>exact Tn v n 0
 .cases hi with
  |none=>rfl
  |some v=>exact Tn v n n
theorem aaD(i j:Nat):G7 (i:Int) (j:Int) 1=j-i:=by
 unfold G7;have h1:(1:Int)>0:=aP;simp only[h1,if_true,Int.ediv_one];split<;>lia
theorem QM{v:aA}{o:Option Int}{Q:Option Int->aH->Prop}(p:pO v o)(h:Q o s):bu (model prog w) A (ail v) Q E s:=by
 cases p with
 |none=>exact slicePart_none h
 |int i t=>exact slicePart_int h
theorem Px{sl:aq}{vl vu:aA}{lo hi:Option Int}{n:Nat}{Q:Int×Int×Nat->aH->Prop}(hs:s.heap.IsSliceOf sl vl vu .none)(pl:pO vl lo)(pu:pO vu hi)
  (h:Q (((bT n 0 lo:Nat):Int),1,bT n n hi-bT n 0 lo) s):bu (model prog w) A (XH (.ref sl) (pure (n:Int))) Q E s:=by
 obtain⟨os,hos,hcs,hds⟩:=id hs
 unfold XH aiz;refine aX (aX (jz hos hds (x:=vl) rfl (aX (jz hos hds (x:=vu) rfl (aX (jz hos hds (x:=.none) rfl (cj ?_)))))));refine aX (slicePart_none ?_);show bu _ _ (if((1:Int)==0)=au then _ else _) _ _ s;rw[bK aO];refine aX (QM pl (aX (QM pu (aX (cj ?_)))));show bu _ _ (match Oj lo hi 1 (n:Int) with|(lo,hi)=>pure (lo,(1:Int),G7 lo hi 1)) _ _ s;rw[aaC lo hi n];show bu _ _ (pure (((bT n 0 lo:Nat):Int),(1:Int),G7 ((bT n 0 lo:Nat):Int) ((bT n n hi:Nat):Int) 1)) _ _ s;rw[aaD];exact cj h
theorem abO(xs:Array aA)(i k:Nat):((wL k).filterMap λ(m:Nat)=>xs[((i:Int)+(m:Int)*1).toNat]?).toArray=((xs.toList.drop i).take k).toArray:=by
 have e:(λ(m:Nat)=>xs[((i:Int)+(m:Int)*1).toNat]?)=λm=>xs[i+m]?:=by
  funext m;have:((i:Int)+(m:Int)*1).toNat=i+m:=aP;rw[this]
 rw[e];have:=pick_run xs i k;rw[List.filterMap_map] at this;have e2:((λx=>xs[x]?) ∘ λx=>i+x)=λm=>xs[i+m]?:=rfl
 rw[e2] at this;rw[this]
theorem YX{t sl:aq}{items:Array aA}{vl vu:aA}{lo hi:Option Int}{Q:aA->aH->Prop}(ht:IsTup s.heap t items)(hs:s.heap.IsSliceOf sl vl vu .none)(pl:pO vl lo)(pu:pO vu hi)
  (hw:¬(bT items.size 0 lo=0/\bT items.size items.size hi=items.size))
  (h:Q (.ref s.heap.objs.size) {s with heap:=s.heap.push {cls:=.type "tuple",data:=.seq ((items.toList.drop (bT items.size 0 lo)).take (bT items.size items.size hi-bT items.size 0 lo)).toArray}})
  (hsz:items.size<=bQ):bu (model prog w) A (rZ (.ref t) (.ref sl)) Q E s:=by
 have Ey:sizeOk (.seq ((items.toList.drop (bT items.size 0 lo)).take (bT items.size items.size hi-bT items.size 0 lo)).toArray):=by
  show((items.toList.drop (bT items.size 0 lo)).take (bT items.size items.size hi-bT items.size 0 lo)).toArray.size<=bQ
  rw[gw,BR,yK,lC];lia
 have hj:bT items.size items.size hi<=items.size:=aeD _ _ (cO _) hi
 obtain⟨os,hos,hcs,hds⟩:=id hs
 have hTs:s.TypeIs (.ref sl) "slice":=⟨os,hos,hcs⟩
 unfold rZ
 try with_reducible refine qj ?_
 first|refine aX (cj ?_)|skip
 refine aX (YZ ht.typeIs aO ?_);refine aX (vZ (name:=aB "__getitem__") ht.typeIs G5
  (wj G5 ht.typeIs entry_tuple_getitem ?_ (args_tuple_getitem _ _)))
 show bu _ _ (XJ (.ref t) >>= _) _ _ s;refine aX (tupleItemsOf_ ht ?_);refine aX (Qp hTs ?_);rw[bB aO];refine aX (Px hs pl pu ?_);have hno:¬((((bT items.size 0 lo:Nat):Int)==0&&(1:Int)==1&&(bT items.size items.size hi-bT items.size 0 lo)==items.size)=au):=by
  intro q;rw[fU,fU] at q;have q1:((bT items.size 0 lo:Nat):Int)=0:=eq_of_beq q.1.1;have q2:bT items.size items.size hi-bT items.size 0 lo=items.size:=eq_of_beq q.2;exact hw ⟨aP,aP⟩
 show bu _ _ (if(((bT items.size 0 lo:Nat):Int)==0&&(1:Int)==1&&(bT items.size items.size hi-bT items.size 0 lo)==items.size)=au then _ else _) _ _ s;rw[bK hno,abO]
 first
  |exact aX (m:=G8 _) (rM (cj ⟨_,rfl,cj h⟩) Ey)
  |exact aX (m:=G8 _) (rM (aX (cj (cj ⟨_,rfl,cj h⟩))) Ey)
  |exact aX (aX (m:=G8 _) (rM (cj (cj ⟨_,rfl,cj h⟩)) Ey))
  |exact aX (aX (m:=G8 _) (rM (cj ⟨_,rfl,cj h⟩) Ey))
end
end HT
namespace L2
open PySem PySem.Spec PyProof.Rows
abbrev TO:=St->Hp->(Option Int->Hp->Prop)->Prop
def PO(X:Cx)(e:Option Expr)(t:TO):Prop:=
 ∀(ao:List (aq×Obj))(s:aH)(σ:St)(H:Hp)(Q:Option Int->Hp->Prop),Inv X ao σ H s->t σ H Q->
  bu (model X.prog X.w) X.A (evalPart e X.env) (λu s'=>∃o H',Inv X ao σ H' s'/\pO u o/\Q o H') X.xe s
def ac0:TO:=λ_ H Q=>Q ak H
def afW(t:TE):TO:=λσ H Q=>t σ H λx H1=>∃i,x=.int i/\Q (aa i) H1
section
variable{X:Cx}{e:Expr}{te:TE}{lo hi:Option Expr}{tl th:TO}{pos p2:Pos}
theorem ac1:PO X ak ac0:=by
 intro ao s σ H Q I h;rw[evalPart_none];exact cj ⟨ak,H,I,.none,h⟩
theorem ac2(h:PE X e te):PO X (aa e) (afW te):=by
 intro ao s σ H Q I hw;rw[evalPart_some];refine bR (h ao s σ H _ I hw) λu s1 aR=>?_
 obtain⟨x,H1,I1,r1,q1⟩:=aR
 obtain⟨i,rfl,q⟩:=q1
 obtain⟨t,rfl⟩:=r1
 exact⟨aa i,H1,I1,.int i t,q⟩
def rA(X:Cx)(r:V->Option Int->Option Int->Hp->VK->Prop):Prop:=
 ∀(ao:List (aq×Obj))(s:aH)(σ:St)(H:Hp)(x:V)(v vl vu:aA)(lo hi:Option Int)(sl:aq)(Q:VK),Inv X ao σ H s->RelV x v->s.heap.IsSliceOf sl vl vu .none->pO vl lo->pO vu hi->r x lo hi H Q->
  ∃T id,typeLookup (.type T) "__getitem__"=pure (aa (.builtin id))/\s.TypeIs v T/\bu (model X.prog X.w) X.A (rZ v (.ref sl)) (EP X ao σ Q) X.xe s
theorem rA.or{r r':V->Option Int->Option Int->Hp->VK->Prop}(h:rA X r)(h':rA X r'):rA X (λx lo hi H Q=>r x lo hi H Q\/r' x lo hi H Q):=by
 intro ao s σ H x v vl vu lo hi sl Q I rx hs pl pu q;rcases q with q|q
 .exact h ao s σ H x v vl vu lo hi sl Q I rx hs pl pu q
 .exact h' ao s σ H x v vl vu lo hi sl Q I rx hs pl pu q
def tSl(r:V->Option Int->Option Int->Hp->VK->Prop)(te:TE)(tl th:TO):TE:=λσ H Q=>te σ H λx H1=>tl σ H1 λl H2=>th σ H2 λu H3=>r x l u H3 Q
theorem abP{r:V->Option Int->Option Int->Hp->VK->Prop}(hr:rA X r)(he:PE X e te)(hl:PO X lo tl)(hu:PO X hi th):PE X (.Subscript e (.Slice lo hi ak p2) pos) (tSl r te tl th):=by
 intro ao s σ H Q I h;refine Subscript_ (bR (he ao s σ H _ I h) λv s1 aR=>?_)
 obtain⟨x,H1,I1,r1,q1⟩:=aR
 refine wpAny_Slice (bR (hl ao s1 σ H1 _ I1 q1) λvl s2 ⟨l,H2,I2,pl,q2⟩=>bR (hu ao s2 σ H2 _ I2 q2) λvu s3 aR=>?_)
 obtain⟨u,H3,I3,pu,q3⟩:=aR
 rw[evalPart_none];refine cj ?_;have I4:Inv X ao σ H3 {s3 with heap:=s3.heap.push {cls:=.type "slice",data:=.fields #[vl,vu,.none]}}:=I3.kept (t':=s3.toks) λb ob q=>cA _ q
 obtain⟨T,id,hT,ht,hg⟩:=hr ao {s3 with heap:=s3.heap.push {cls:=.type "slice",data:=.fields #[vl,vu,.none]}} σ H3 x v vl vu l u s3.heap.objs.size Q I4 r1 (aiS ..) pl pu q3
 show bu (model X.prog X.w) X.A (subscriptTail e (.Slice lo hi ak p2) v (.ref s3.heap.objs.size)) (EP X ao σ Q) X.xe {s3 with heap:=s3.heap.push {cls:=.type "slice",data:=.fields #[vl,vu,.none]}};exact tail_any (ops:=[.ref s3.heap.objs.size,v]) ht hT hg (by with_unfolding_all rfl)
def oX(xs:List V)(lo hi:Option Int):List V:=(xs.drop (HT.bT xs.length 0 lo)).take (HT.bT xs.length xs.length hi-HT.bT xs.length 0 lo)
theorem QC(xs:List V)(lo hi:Option Int):(oX xs lo hi).length<=xs.length:=by
 unfold oX;rw[BR,yK];lia
def agT(K:aJ):V->Option Int->Option Int->Hp->VK->Prop:=λx lo hi H Q=>∃a xs,x=.ref a/\bO K H a xs/\
 ¬(HT.bT xs.length 0 lo=0/\HT.bT xs.length xs.length hi=xs.length)/\∀p,H p=ak->Q (.ref p) (upd H p (.tup (oX xs lo hi)))
theorem aeE:rA X (agT X.K):=by
 intro ao s σ H x v vl vu lo hi sl Q I rx hs pl pu h
 obtain⟨a,xs,rfl,hx,hw,q⟩:=h
 cases rx
 obtain⟨aD,r,ht,hz⟩:=I.tuple hx
 have hlen:aD.toArray.size=xs.length:=by rw[gw];exact r.length.symm
 refine⟨"tuple",_,PyProof.Rows.slot_tuple_getitem.lookup,ht.typeIs,?_⟩
 refine HT.YX ht hs pl pu (by rw[hlen];exact hw) ?_ (by rw[hlen];exact hz);rw[hlen]
 refine⟨.ref s.heap.objs.size,_,I.laid (t':=s.toks) (o:=.tup (oX xs lo hi)) (λb ob q=>cA _ q) (cO _) ?_,rfl,q _ (I.hok.fresh (cO _))⟩
 exact⟨kI (QC xs lo hi) hz,_,(r.drop (HT.bT xs.length 0 lo)).take (HT.bT xs.length xs.length hi-HT.bT xs.length 0 lo),IsTup.new _ _⟩
def VB(K:aJ):R2:=λx y H Q=>∃a b xs ys,x=.ref a/\y=.ref b/\bO K H a xs/\bO K H b ys/\xs≠[]/\xs.length+ys.length<=bQ/\
 (ys=[]->Q (.ref a) H)/\(ys≠[]->∀p,H p=ak->Q (.ref p) (upd H p (.tup (xs++ys))))
theorem Vals.J5{xs:List V}{us:List aA}(r:Vals xs us):us=[]↔xs=[]:=by
 cases r with
 |nil=>simp
 |cons _ _=>simp
theorem ac3:cz X (kO .Add) (VB X.K):=by
 intro ao s σ H x y v u Q I rx ry h
 obtain⟨a,b,xs,ys,rfl,rfl,ha,hb,hx,hz,q1,q2⟩:=h
 cases rx;cases ry
 obtain⟨aD,r1,p1,_⟩:=I.tuple ha
 obtain⟨its2,r2,p2,_⟩:=I.tuple hb
 refine HT.acZ p1 p2 (λz=>hx (r1.J5.mp z)) (λz=>⟨.ref a,H,I,rfl,q1 (r2.J5.mp z)⟩) (λz=>?_) (by rw[<-r1.length,<-r2.length];exact hz)
 refine⟨.ref s.heap.objs.size,_,I.laid (t':=s.toks) (o:=.tup (xs++ys)) (λb ob q=>cA _ q) (cO _) ?_,rfl,q2 (λw=>z (r2.J5.mpr w)) _ (I.hok.fresh (cO _))⟩
 exact⟨by rw[gD];exact hz,_,r1.append r2,IsTup.new _ _⟩
end
noncomputable def j6 (n:Nat) (i:Int):Option Nat:=if 0<=i then(if i<n then aa i.toNat else ak) else if -(n:Int)<=i then aa (i+n).toNat else ak
noncomputable def dG {α:Type} (xs:List α) (i:Int):Option α:=(j6 xs.length i).bind λj=>xs[j]?
theorem Tp{n:Nat}{i:Int}{j:Nat}(h:j6 n i=aa j):seqIndex? i n=aa j/\j<n/\-(n:Int)<=i/\i<n:=by
 unfold j6 at h;by_cases h0:0<=i
 .rw[bB h0] at h;by_cases h1:i<n
  .rw[bB h1] at h;have e:i.toNat=j:=gG h
   exact⟨by rw[QD h0 h1,e],aP,aP,h1⟩
  .rw[bK h1] at h;cases h
 .rw[bK h0] at h;by_cases h1:-(n:Int)<=i
  .rw[bB h1] at h;have e:(i+n).toNat=j:=gG h
   exact⟨by rw[Qq aP h1,e],aP,h1,aP⟩
  .rw[bK h1] at h;cases h
theorem J6{α:Type}{xs:List α}{i:Int}{v:α}(h:dG xs i=aa v):∃j,seqIndex? i xs.length=aa j/\xs[j]?=aa v/\j<xs.length/\-(xs.length:Int)<=i/\i<xs.length:=by
 unfold dG at h;cases e:j6 xs.length i with
 |none=>rw[e] at h;cases h
 |some j=>
  rw[e] at h
  obtain⟨h1,h2,h3,h4⟩:=Tp e
  exact⟨j,h1,h,h2,h3,h4⟩
theorem sr{α:Type}{xs:List α}{j:Nat}{v:α}(h:xs[j]?=aa v):dG xs (j:Int)=aa v:=by
 have hj:j<xs.length:=(iU.mp h).1;have e:j6 xs.length (j:Int)=aa j:=by
  unfold j6;rw[bB aP,bB aP];simp
 unfold dG;rw[e];exact h
def zK(b:Expr):Prop:=∀o i,QF b aF o i=operate [o,i] (rZ o i)
def mX(X:Cx)(r:R2):Prop:=
 ∀(value slice:Expr)(ao:List (aq×Obj))(s:aH)(σ:St)(H:Hp)(x y:V)(v u:aA)(Q:VK),Inv X ao σ H s->RelV x v->RelV y u->r x y H Q->
  QF slice aF v u=operate [v,u] (rZ v u)->bu (model X.prog X.w) X.A (subscriptTail value slice v u) (EP X ao σ Q) X.xe s
def yr(X:Cx)(id:String)(r:V->List V->Hp->VK->Prop):Prop:=
 ∀(ao:List (aq×Obj))(s:aH)(σ:St)(H:Hp)(x:V)(xs:List V)(v:aA)(us:List aA)(Q:VK),Inv X ao σ H s->RelV x v->Vals xs us->r x xs H Q->
  bu (model X.prog X.w) X.A (call (.builtin id) (v::us)) (EP X ao σ Q) X.xe s
section
variable{X:Cx}{a b:Expr}{ta tb:TE}{pos:Pos}
theorem mX.or{r r':R2}(h:mX X r)(h':mX X r'):mX X (λx y H Q=>r x y H Q\/r' x y H Q):=by
 intro value slice ao s σ H x y v u Q I rx ry q hs;rcases q with q|q
 .exact h value slice ao s σ H x y v u Q I rx ry q hs
 .exact h' value slice ao s σ H x y v u Q I rx ry q hs
theorem Ez{r:R2}(hr:mX X r)(ha:PE X a ta)(hb:PE X b tb)(hs:zK b):PE X (.Subscript a b pos) (yq r ta tb):=by
 intro ao s σ H Q I h;exact Subscript_ (My ha hb I h λv u s2 x y H2 I2 rx ry q=>hr a b ao s2 σ H2 x y v u Q I2 rx ry q (hs _ _))
def Wi(K:aJ):R2:=λx y H Q=>∃p xs i v,x=.ref p/\y=.int i/\bL K H p xs/\dG xs i=aa v/\Q v H
def Wj(K:aJ):R2:=λx y H Q=>∃p xs i v,x=.ref p/\y=.int i/\bO K H p xs/\dG xs i=aa v/\Q v H
def Wk:R2:=λx y H Q=>∃z i c,x=.str z/\y=.int i/\z.length<=bQ/\dG z.cps.toList i=aa c/\Q (.str ⟨#[c]⟩) H
theorem J7:mX X (Wi X.K):=by
 intro value slice ao s σ H x y v u Q I rx ry h hs
 obtain⟨p,xs,i,z,rfl,rfl,hq,he,q⟩:=h
 cases rx
 obtain⟨t,rfl⟩:=ry
 obtain⟨aD,r,pl,hz⟩:=I.list hq
 obtain⟨j,h1,h2,h3,h4,h5⟩:=J6 he
 obtain⟨w,ew,rw'⟩:=r.get h2
 have hl:=r.length;have hn:=sO;have fin:EP X ao σ Q w s:=⟨z,H,I,rw',q⟩
 by_cases h0:0<=i
 .have hj:i.toNat=j:=by
   rw[QD h0 h5] at h1;exact gG h1
  exact item_listR pl.isList h0 aP (by rw[hj];simpa using ew) fin hs
 .have hj:(i+(aD.toArray.size:Int)).toNat=j:=by
   rw[Qq aP h4] at h1;rw[gw,<-hl];exact gG h1
  exact subscriptTail_builtinR (x:=w) pl.isList.typeIs slot_list_getitem.lookup
   (wpAny_getItem_list_neg (Q:=λr s'=>r=w/\EP X ao σ Q r s') pl.isList aP (by rw[gw]<;>lia) aP (by rw[hj];simpa using ew) ⟨rfl,fin⟩) hs
theorem aeF:mX X (Wj X.K):=by
 intro value slice ao s σ H x y v u Q I rx ry h hs
 obtain⟨p,xs,i,z,rfl,rfl,hq,he,q⟩:=h
 cases rx
 obtain⟨t,rfl⟩:=ry
 obtain⟨aD,r,pl,hz⟩:=I.tuple hq
 obtain⟨j,h1,h2,h3,h4,h5⟩:=J6 he
 obtain⟨w,ew,rw'⟩:=r.get h2
 have hl:=r.length;have hn:=sO;have fin:EP X ao σ Q w s:=⟨z,H,I,rw',q⟩
 exact subscriptTail_builtinR (x:=w) pl.typeIs slot_tuple_getitem.lookup
  (getItem_tuple (j:=j) (Q:=λr s'=>r=w/\EP X ao σ Q r s') pl aP aP (by rw[gw,<-hl];exact h1) (by simpa using ew) ⟨rfl,fin⟩) hs
theorem aeG:mX X Wk:=by
 intro value slice ao s σ H x y v u Q I rx ry h hs
 obtain⟨z,i,c,rfl,rfl,hz,he,q⟩:=h
 obtain⟨t,rfl⟩:=rx
 obtain⟨t',rfl⟩:=ry
 obtain⟨j,h1,h2,h3,h4,h5⟩:=J6 he
 have hl:z.cps.toList.length=z.length:=by simp[Str.length]
 rw[hl] at h1 h4 h5;have hn:=sO;exact tail_any (wN s z t) slot_str_getitem.lookup (getItem_str (c:=c) (by
  have e1:decide (i< -(2^63:Int))=aF:=lQ aP;have e2:decide (i>=2^63)=aF:=lQ aP;rw[e1,e2,Bool.or_false]) (by rw[h1];simpa using h2) ⟨.str ⟨#[c]⟩,H,I.tok _,⟨_,rfl⟩,q⟩) hs
def WY(K:aJ):R2:=λx y H Q=>Wi K x y H Q\/Wj K x y H Q\/Wk x y H Q
theorem aeH:mX X (WY X.K):=J7.or (aeF.or aeG)
theorem aaE(aD:List aA)(n j:Nat)(u:aA):Cy (·.setIfInBounds j u) {cls:=.type "list",data:=.seq aD.toArray n}={cls:=.type "list",data:=.seq (aD.set j u).toArray n}:=by
 simp[Cy]
theorem Inv.lst{ao:List (aq×Obj)}{σ:St}{H:Hp}{s:aH}{p:aq}{xs:List V}(I:Inv X ao σ H s)(h:H p=aa (.lst xs)):
  ∃(aD:List aA)(n:Nat),Vals xs aD/\s.heap.get? p=aa {cls:=.type "list",data:=.seq aD.toArray n}/\xs.length<=bQ:=by
 obtain⟨z,aD,n,r,e⟩:=I.hok p _ h
 exact⟨aD,n,r,e,z⟩
theorem Inv.aeI{ao:List (aq×Obj)}{σ:St}{H:Hp}{s:aH}{p:aq}{xs ys:List V}{aD its':List aA}{n n':Nat}{f:Obj->Obj}(I:Inv X ao σ H s)(h:H p=aa (.lst xs))
  (ho:s.heap.get? p=aa {cls:=.type "list",data:=.seq aD.toArray n})(hf:f {cls:=.type "list",data:=.seq aD.toArray n}={cls:=.type "list",data:=.seq its'.toArray n'})(r:Vals ys its')(hz:ys.length<=bQ)(t:Nat):
  Inv X ao σ (upd H p (.lst ys)) {s with heap:=s.heap.update p f,toks:=t}:=by
 have e:(s.heap.update p f).get? p=aa {cls:=.type "list",data:=.seq its'.toArray n'}:=by
  rw[Yg f ho (by rw[hf]<;>rfl),hf]
 refine I.write (x:=p) (e:=p) (by rw[h];trivial) (.inl rfl) (λb u hb q=>(Yb _ _ (mD hb)).trans q) ⟨_,e⟩ ?_
 exact⟨hz,its',n',r,e⟩
def Mi:V->V->V->Hp->(Hp->Prop)->Prop:=λo i v H Q=>∃p xs k j,o=.ref p/\i=.int k/\H p=aa (.lst xs)/\j6 xs.length k=aa j/\Q (upd H p (.lst (xs.set j v)))
theorem set_list:qX X Mi:=by
 intro ao s σ H o i v ov iv u Q I ro ri rv h
 obtain⟨p,xs,k,j,rfl,rfl,hp,hj,q⟩:=h
 cases ro
 obtain⟨t,rfl⟩:=ri
 obtain⟨aD,n,r,ho,hz⟩:=I.lst hp
 obtain⟨h1,h2,h3,h4⟩:=Tp hj
 have hl:=r.length;have hn:=sO;have I':Inv X ao σ (upd H p (.lst (xs.set j v))) {s with heap:=s.heap.update p (Cy (·.setIfInBounds j u))}:=
  I.aeI hp ho (aaE aD n j u) (r.set rv j) (by rw[wz];exact hz) s.toks
 by_cases h0:0<=k
 .have hk:k.toNat=j:=by
   rw[QD h0 h4] at h1;exact gG h1
  exact PySem.W.ki_setAt ho h0 aP (by rw[gw,<-hl];exact h4) (by rw[hk];exact⟨_,I',q⟩)
 .have hk:(k+(aD.toArray.size:Int)).toNat=j:=by
   rw[Qq aP h3] at h1;rw[gw,<-hl];exact gG h1
  exact PySem.W.ki_setBack ho aP (by rw[gw,<-hl];exact h3) aP (by rw[hk];exact⟨_,I',q⟩)
theorem Z5(lo hi:Option Int)(n:Nat):(wH lo hi ak n).1=((HT.bT n 0 lo:Nat):Int)/\(wH lo hi ak n).2.1=((HT.bT n n hi:Nat):Int)/\(wH lo hi ak n).2.2=1:=by
 refine⟨?_,?_,rfl⟩
 .cases lo with
  |none=>simp[wH,HT.bT]
  |some i=>
   simp only[wH,HT.bT,Zd,show(1:Int)>0 by decide,if_true];by_cases h:i<0
   .simp only[h,if_true]<;>lia
   .simp only[h,if_false]<;>lia
 .cases hi with
  |none=>simp[wH,HT.bT]
  |some i=>
   simp only[wH,HT.bT,Zd,show(1:Int)>0 by decide,if_true];by_cases h:i<0
   .simp only[h,if_true]<;>lia
   .simp only[h,if_false]<;>lia
theorem ZS(aD:List aA)(lo hi:Option Int):slicePick aD.toArray lo hi ak=((aD.drop (HT.bT aD.length 0 lo)).take (HT.bT aD.length aD.length hi-HT.bT aD.length 0 lo)).toArray:=by
 obtain⟨h1,h2,h3⟩:=Z5 lo hi aD.toArray.size
 unfold slicePick;rw[h1,h2,h3];simp only[sliceRange_one,pick_run,gw]<;>rfl
def agU(K:aJ):V->Option Int->Option Int->Hp->VK->Prop:=λx lo hi H Q=>∃a xs,x=.ref a/\bL K H a xs/\∀p,H p=ak->Q (.ref p) (upd H p (.lst (oX xs lo hi)))
theorem ac4:rA X (agU X.K):=by
 intro ao s σ H x v vl vu lo hi sl Q I rx hs pl pu h
 obtain⟨a,xs,rfl,hx,q⟩:=h
 cases rx
 obtain⟨aD,r,ht,hz⟩:=I.list hx
 have hlen:=r.length
 refine⟨"list",_,slot_list_getitem.lookup,ht.isList.typeIs,?_⟩
 refine wpAny_getItem_list_slice ht.isList hs pl pu .none bz ?_ (by rw[gw]<;>lia);rw[ZS,<-hlen]
 refine⟨.ref s.heap.objs.size,_,I.laid (t':=s.toks) (o:=.lst (oX xs lo hi)) (λb ob q=>cA _ q) (cO _) ?_,rfl,q _ (I.hok.fresh (cO _))⟩
 exact⟨kI (QC xs lo hi) hz,_,0,(r.drop (HT.bT xs.length 0 lo)).take (HT.bT xs.length xs.length hi-HT.bT xs.length 0 lo),gY _ rfl⟩
def jt:V->Bool
 |.non=>au
 |.bl _=>au
 |.int _=>au
 |.str _=>au
 |_=>aF
def j7:V->V->Bool
 |.non,.non=>au
 |.bl a,.bl b=>a==b
 |.bl a,.int b=>(if a then 1 else 0)==b
 |.int a,.bl b=>a==(if b then 1 else 0)
 |.int a,.int b=>a==b
 |.str a,.str b=>a==b
 |_,_=>aF
theorem K6{A:b7}{s:aH}{y x:V}{u v:aA}(ry:RelV y u)(rx:RelV x v)(fy:jt y=au)(fx:jt x=au):Cz A s u v (j7 y x):=by
 cases y with
 |non=>
  cases ry;cases x with
  |non=>cases rx;exact SeqAt.EqAt.same _
  |bl b=>cases rx;exact SeqAt.EqAt.none_bool b
  |int b=>obtain⟨t,rfl⟩:=rx;exact SeqAt.EqAt.none_int b t
  |str b=>obtain⟨t,rfl⟩:=rx;exact SeqAt.EqAt.none_str b t
  |_=>exact absurd (show aF=au from fx) gq
 |bl a=>
  cases ry;cases x with
  |non=>cases rx;exact SeqAt.EqAt.bool_none a
  |bl b=>cases rx;exact SeqAt.EqAt.bool_bool a b
  |int b=>obtain⟨t,rfl⟩:=rx;exact SeqAt.EqAt.bool_int a b t
  |str b=>obtain⟨t,rfl⟩:=rx;exact SeqAt.EqAt.bool_str a b t
  |_=>exact absurd (show aF=au from fx) gq
 |int a=>
  obtain⟨t',rfl⟩:=ry
  cases x with
  |non=>cases rx;exact SeqAt.EqAt.int_none a t'
  |bl b=>cases rx;exact SeqAt.EqAt.int_bool a t' b
  |int b=>obtain⟨t,rfl⟩:=rx;exact SeqAt.EqAt.int_int a t' b t
  |str b=>obtain⟨t,rfl⟩:=rx;exact Yz a t' b t
  |_=>exact absurd (show aF=au from fx) gq
 |str a=>
  obtain⟨t',rfl⟩:=ry
  cases x with
  |non=>cases rx;exact SeqAt.EqAt.str_none a t'
  |bl b=>cases rx;exact SeqAt.EqAt.str_bool a t' b
  |int b=>obtain⟨t,rfl⟩:=rx;exact YB a t' b t
  |str b=>obtain⟨t,rfl⟩:=rx;exact SeqAt.EqAt.str_str a t' b t
  |_=>exact absurd (show aF=au from fx) gq
 |_=>exact absurd (show aF=au from fy) gq
def ir(x:V)(u:aA):Bool:=match u with
 |.none=>j7 .non x
 |.bool b=>j7 (.bl b) x
 |.int i _=>j7 (.int i) x
 |.str z _=>j7 (.str z) x
 |_=>aF
theorem Eh{x y:V}{u:aA}(r:RelV y u)(f:jt y=au):ir x u=j7 y x:=by
 cases y with
 |non=>cases r;rfl
 |bl b=>cases r;rfl
 |int i=>obtain⟨t,rfl⟩:=r;rfl
 |str z=>obtain⟨t,rfl⟩:=r;rfl
 |_=>exact absurd (show aF=au from f) gq
theorem zM{x:V}:∀{xs:List V}{us:List aA},Vals xs us->xs.all jt=au->us.any (ir x)=xs.any λy=>j7 y x
 |_,_,.nil,_=>rfl
 |y::xs,u::us,.cons r t,f=>by
  rw[oh,fU] at f;rw[ou,ou,Eh r f.1,zM t f.2]
theorem wX{A:b7}{s:aH}{x:V}{v:aA}(rx:RelV x v)(fx:jt x=au):∀{xs:List V}{us:List aA},Vals xs us->xs.all jt=au->∀u∈us,Cz A s u v (ir x u)
 |_,_,.nil,_=>λu hu=>by cases hu
 |y::xs,u::us,.cons r t,f=>λu' hu=>by
  rw[oh,fU] at f;rcases cD.mp hu with rfl|hu
  .rw[Eh r f.1];exact K6 r rx f.1 fx
  .exact wX rx fx t f.2 u' hu
def inV(x:V)(xs:List V):Bool:=xs.any λy=>j7 y x
def Gr(K:aJ)(neg:Bool):R2:=λx y H Q=>∃p xs,y=.ref p/\(bL K H p xs\/bO K H p xs)/\jt x=au/\xs.all jt=au/\Q (.bl (if neg then !inV x xs else inV x xs)) H
theorem aa8:cz X (dm .In) (Gr X.K aF):=by
 intro ao s σ H x y v u Q I rx ry h
 obtain⟨p,xs,rfl,hq,fx,fs,q⟩:=h
 cases ry;rcases hq with hq|hq
 .obtain⟨aD,r,pl,hz⟩:=I.list hq
  refine Zq (ir x) pl.isList (λw hw=>wX rx fx r fs w (by simpa using hw)) ⟨.bl _,H,I,rfl,?_⟩;rw[show aD.toArray.any (ir x)=aD.any (ir x) by simp,zM r fs];exact q
 .obtain⟨aD,r,pl,hz⟩:=I.tuple hq
  refine SeqAt.in_tupleAt (ir x) pl (λw hw=>wX rx fx r fs w (by simpa using hw)) ⟨.bl _,H,I,rfl,?_⟩;rw[show aD.toArray.any (ir x)=aD.any (ir x) by simp,zM r fs];exact q
theorem Z6:cz X (dm .NotIn) (Gr X.K au):=by
 intro ao s σ H x y v u Q I rx ry h
 obtain⟨p,xs,rfl,hq,fx,fs,q⟩:=h
 cases ry;rcases hq with hq|hq
 .obtain⟨aD,r,pl,hz⟩:=I.list hq
  refine SeqAt.notIn_listAt (ir x) pl.isList (λw hw=>wX rx fx r fs w (by simpa using hw)) ⟨.bl _,H,I,rfl,?_⟩;rw[show aD.toArray.any (ir x)=aD.any (ir x) by simp,zM r fs];exact q
 .obtain⟨aD,r,pl,hz⟩:=I.tuple hq
  refine SeqAt.notIn_tupleAt (ir x) pl (λw hw=>wX rx fx r fs w (by simpa using hw)) ⟨.bl _,H,I,rfl,?_⟩;rw[show aD.toArray.any (ir x)=aD.any (ir x) by simp,zM r fs];exact q
theorem HY:iz X (.builtin "len") (λxs H Q=>∃p ys,xs=[.ref p]/\(bL X.K H p ys\/bO X.K H p ys)/\Q (.int ys.length) H):=by
 intro ao s σ H xs us Q I r h
 obtain⟨p,ys,rfl,hq,q⟩:=h
 obtain⟨u,rfl,rx⟩:=vals1 r
 cases rx;have hn:=sO;rcases hq with hq|hq
 .obtain⟨aD,r',pl,hz⟩:=I.list hq
  have hlen:=r'.length;exact Calls.call_len_list pl.isList (by simp only[gw]<;>lia) ⟨.int ys.length,H,I.tok _,⟨s.toks+1,by rw[gw,hlen]⟩,q⟩
 .obtain⟨aD,r',pl,hz⟩:=I.tuple hq
  have hlen:=r'.length;exact len_tuple pl (by simp only[gw]<;>lia) ⟨.int ys.length,H,I.tok _,⟨s.toks+1,by rw[gw,hlen]⟩,q⟩
theorem Z7:iz X (.builtin "len") (λxs H Q=>∃z,xs=[.str z]/\z.length<=bQ/\Q (.int z.length) H):=by
 intro ao s σ H xs us Q I r h
 obtain⟨z,rfl,hz,q⟩:=h
 obtain⟨u,rfl,t,rfl⟩:=vals1 r
 have hn:=sO;exact len_str aP ⟨.int z.length,H,I.tok _,⟨_,rfl⟩,q⟩
theorem iz.or{f:aA}{r r':List V->Hp->VK->Prop}(h:iz X f r)(h':iz X f r'):iz X f (λxs H Q=>r xs H Q\/r' xs H Q):=by
 intro ao s σ H xs us Q I rs q;rcases q with q|q
 .exact h ao s σ H xs us Q I rs q
 .exact h' ao s σ H xs us Q I rs q
theorem HS:iz X (.type "tuple") (λxs H Q=>∃p ys,xs=[.ref p]/\((bL X.K H p ys/\∀l,H l=ak->Q (.ref l) (upd H l (.tup ys)))\/(bO X.K H p ys/\Q (.ref p) H))):=by
 intro ao s σ H xs us Q I r h
 obtain⟨p,ys,rfl,h⟩:=h
 obtain⟨u,rfl,rx⟩:=vals1 r
 cases rx;rcases h with⟨hq,q⟩|⟨hq,q⟩
 .obtain⟨aD,r',pl,hz⟩:=I.list hq
  have hlen:=r'.length;refine call_tuple_list pl.isList (λh' kp=>?_) (by simp only[gw]<;>lia);have I1:Inv X ao σ H {s with heap:=h'}:=I.kept (t':=s.toks) kp;have I2:Inv X ao σ (upd H h'.objs.size (.tup ys)) {s with heap:=h'.push {cls:=.type "tuple",data:=.seq aD.toArray}}:=
   I1.laid (t':=s.toks) (λb o e=>cA _ e) (cO _) (show dU X.prog X.w _ _ _ (.tup ys) from⟨hz,aD,r',IsTup.new _ _⟩)
  exact⟨.ref h'.objs.size,_,I2,rfl,q _ (I1.hok.fresh (cO _))⟩
 .obtain⟨aD,r',pl,hz⟩:=I.tuple hq
  exact call_tuple_same pl ⟨.ref p,H,I,rfl,q⟩
def W2(K:aJ)(T:String)(x:V)(H:Hp):Prop:=match x with
 |.str _=>T="str"
 |.int _=>T="int"
 |.ref p=>(T="list"/\∃xs,bL K H p xs)\/(T="tuple"/\∃o,K.lookup p=aa o/\o.cls=.type "tuple"/\o.dict=ak)\/
   (T="dict"/\((∃aC ep,H p=aa (.dK aC ep))\/∃aC ep,H p=aa (.dT aC ep)))\/(T="set"/\∃S n,H p=aa (.set S n))
 |_=>False
theorem aeJ{ao:List (aq×Obj)}{σ:St}{H:Hp}{s:aH}{T:String}{x:V}{v:aA}(I:Inv X ao σ H s)(r:RelV x v)(ty:W2 X.K T x H):
  s.TypeIs v T/\∀a,v=.ref a->∃ob,s.heap.get? a=aa ob/\ob.dict=ak:=by
 cases x with
 |str z=>
  obtain⟨t,rfl⟩:=r
  cases(show T="str" from ty)
  exact⟨wN s z t,λ_ e=>nomatch e⟩
 |int i=>
  obtain⟨t,rfl⟩:=r
  cases(show T="int" from ty)
  exact⟨typeIs_int s i t,λ_ e=>nomatch e⟩
 |ref p=>
  cases r;rcases ty with⟨rfl,xs,hq⟩|⟨rfl,o,hk,hc,hd⟩|⟨rfl,hk⟩|⟨rfl,S,n,hk⟩
  .obtain⟨aD,_,pl,_⟩:=I.list hq
   refine⟨pl.isList.typeIs,λa e=>?_⟩
   cases e
   obtain⟨o,n,e,c,hd,_⟩:=pl
   exact⟨o,e,hd⟩
  .refine⟨⟨o,I.fZ p o hk,hc⟩,λa e=>?_⟩
   cases e
   exact⟨o,I.fZ _ o hk,hd⟩
  .have z:∃o,s.heap.get? p=aa o/\o.ExactDict:=by
    rcases hk with⟨aC,ep,hk⟩|⟨aC,ep,hk⟩
    .obtain⟨_,_,_,_,o,_,e,ex,_⟩:=I.hok p _ hk
     exact⟨o,e,ex⟩
    .obtain⟨_,_,_,_,o,_,e,ex,_⟩:=I.hok p _ hk
     exact⟨o,e,ex⟩
   obtain⟨o,e,ex⟩:=z
   refine⟨⟨o,e,ex.1⟩,λa e2=>?_⟩
   cases e2
   exact⟨o,e,ex.2.1⟩
  .obtain⟨o,_,_,_,e,ex,_⟩:=I.hok p _ hk
   refine⟨⟨o,e,ex.1⟩,λa e2=>?_⟩
   cases e2
   exact⟨o,e,ex.2.1⟩
 |_=>exact qw ty
def tBM(K:aJ)(T:String)(r:V->List V->Hp->VK->Prop)(to:TE)(t:TA):TE:=λσ H Q=>to σ H λx H1=>W2 K T x H1/\t σ H1 λxs H2=>r x xs H2 Q
variable{o e:Expr}{es:List Expr}{to:TE}{t:TA}{name:Str}{apos cpos:Pos}{T id:String}{r:V->List V->Hp->VK->Prop}
theorem EY(pa:PlainAttrs T)(slot:Slot T name id)(hty:typeOf (.builtin id)=pure (.type "method_descriptor"))(hm:yr X id r)(ho:PE X o to)(ha:PA X (e::es) t)
  (hbase:uA o name X.env (eval o X.env)=eval o X.env:=by rfl)
  (hfew:((gb cpos (bG (e::es) X.env)).all (λx=>!x.1)&&(uK cpos (uD [] X.env)).all (λx=>x.1.isSome)
   &&decide ((e::es).length+([]:List jU).length+(if([]:List jU).isEmpty then 0 else 1)<30))=au:=by rfl)
  (hline:(apos.endLine==cpos.line)=au:=by rfl)(hs:bG (e::es) X.env=(aF,eval e X.env)::bG es X.env:=by rfl)(hplain:(gb cpos (bG es X.env)).any (·.1)=aF:=by rfl):
  PE X (.Call (.Attribute o name apos) (e::es) [] cpos) (tBM X.K T r to t):=by
 intro ao s σ H Q I h;refine wpAny_Call_method_late hbase hfew hline rfl (bR (ho ao s σ H _ I h) λv s1 aR=>?_)
 obtain⟨x,H1,I1,r1,ty,q1⟩:=aR
 obtain⟨h1,h2⟩:=aeJ I1 r1 ty
 refine⟨T,id,pa,slot,hty,h1,h2,?_⟩
 have hA:=ha cpos ao s1 σ H1 _ I1 q1;rw[hs] at hA⊢;refine Calls.callWith_builtin (by show(aF||(gb cpos (bG es X.env)).any (·.1))=aF;rw[hplain]<;>rfl) (Calls.evalArgs_plain ?_);exact bR hA λus s2 ⟨vs,H2,I2,r2,q2⟩=>hm ao s2 σ H2 x vs v us Q I2 r1 r2 q2
end
def tZ(X:Cx)(id:String)(r:V->List V->Hp->VK->Prop):Prop:=
 ∀(ao:List (aq×Obj))(s:aH)(σ:St)(H:Hp)(x:V)(xs:List V)(v:aA)(us:List aA)(Q:VK),Inv X ao σ H s->RelV x v->Vals xs us->r x xs H Q->
  bu (model X.prog X.w) X.A (call (.builtin id) (v::us)) (EP X ao σ Q) X.xe s
theorem Vals.one:∀{x:V}{us:List aA},Vals [x] us->∃u,us=[u]/\RelV x u
 |_,_,.cons r .nil=>⟨_,rfl,r⟩
section
variable{X:Cx}{ao:List (aq×Obj)}{σ:St}{H:Hp}{s:aH}{l b:aq}{xs ys zs:List V}
theorem Inv.Wl{aD its':List aA}{n:Nat}{f:Array aA->Array aA}{t':Nat}(I:Inv X ao σ H s)(hH:H l=aa (.lst xs))
  (e:s.heap.get? l=aa {cls:=.type "list",data:=.seq aD.toArray n})(hf:f aD.toArray=its'.toArray)(hv:Vals ys its')(hz:ys.length<=bQ):
  Inv X ao σ (upd H l (.lst ys)) {s with heap:=s.heap.update l (Cy f),toks:=t'}:=by
 have q:=PySem.IsL.update e f;rw[hf] at q;refine I.write (x:=l) (e:=l) (by rw[hH];exact trivial) (.inl rfl) (λb' u hb hu=>(Yb s.heap (Cy f) (mD hb)).trans hu) ⟨_,q⟩ ?_
 exact⟨hz,its',_,hv,q⟩
theorem Inv.agV{aD:List aA}{t':Nat}(I:Inv X ao σ H s)(hv:Vals ys aD)(hz:ys.length<=bQ):
  Inv X ao σ (upd H s.heap.objs.size (.lst ys)) {s with heap:=s.heap.push {cls:=.type "list",data:=.seq aD.toArray},toks:=t'}:=
 I.laid (λ_ _ q=>cA _ q) (cO _) ⟨hz,aD,0,hv,gY _ rfl⟩
theorem Inv.fresh(I:Inv X ao σ H s):H s.heap.objs.size=ak:=I.hok.fresh (cO _)
theorem Inv.Ao(I:Inv X ao σ H s)(hH:H l=aa (.lst xs)):xs.length<=bQ/\∃(aD:List aA)(n:Nat),Vals xs aD/\xs.length=aD.length/\s.heap.get? l=aa {cls:=.type "list",data:=.seq aD.toArray n}:=by
 obtain⟨z,aD,n,r,e⟩:=I.hok l _ hH
 exact⟨z,aD,n,r,r.length,e⟩
theorem abQ{n:Nat}(h:n<=bQ):Oq n=aF:=by
 unfold Oq;exact lQ aP
end
section
variable{X:Cx}
def ac5:V->List V->Hp->VK->Prop:=λx vs H Q=>∃l xs y,x=.ref l/\vs=[y]/\H l=aa (.lst xs)/\xs.length<bQ/\Q .non (upd H l (.lst (xs++[y])))
theorem Rg:tZ X "list.append" ac5:=by
 intro ao s σ H x vs v us Q I rx rv h
 obtain⟨l,xs,y,rfl,rfl,hH,hz,q⟩:=h
 cases rx
 obtain⟨u,rfl,ru⟩:=rv.one
 obtain⟨z,aD,n,r,hl,e⟩:=I.Ao hH
 refine wO YG ⟨_,e,rfl⟩ F.entry_list_append (F.args_list_append_2 _ _) (PySem.list_append l aD.toArray n u (by rw[gw];lia)) ⟨e,?_⟩
 refine⟨.non,_,I.Wl (its':=aD++[u]) hH e bz (r.append (.cons ru .nil)) ?_,rfl,q⟩
 rw[gD,BK];lia
def ac6:V->List V->Hp->VK->Prop:=λx vs H Q=>∃l b xs zs,x=.ref l/\vs=[.ref b]/\H l=aa (.lst xs)/\H b=aa (.lst zs)/\xs.length+zs.length<=bQ/\Q .non (upd H l (.lst (xs++zs)))
theorem aa9:tZ X "list.extend" ac6:=by
 intro ao s σ H x vs v us Q I rx rv h
 obtain⟨l,b,xs,zs,rfl,rfl,hH,hB,hz,q⟩:=h
 cases rx
 obtain⟨u,rfl,ru⟩:=rv.one
 cases ru
 obtain⟨z,aD,n,r,hl,e⟩:=I.Ao hH
 obtain⟨z2,its2,n2,r2,hl2,e2⟩:=I.Ao hB
 have hsz:aD.toArray.size+its2.toArray.size<=bQ:=by rw[gw,gw];lia
 have afX:¬(!aD.toArray.isEmpty&&Oq (aD.toArray.size+its2.toArray.size))=au:=by
  rw[abQ hsz,Bool.and_false];exact gq
 refine wO YH ⟨_,e,rfl⟩ F.entry_list_extend (F.args_list_extend_2 _ _)
  (AutoSeq1.list_extend_list_list_0 l aD.toArray n b its2.toArray n2 afX (by rw[gw];lia) aP) ⟨e,e2,?_⟩
 refine⟨.non,_,I.Wl (its':=aD++its2) hH e bz (r.append r2) ?_,rfl,q⟩
 rw[gD];lia
def Wm:R2:=λx y H Q=>∃l b xs zs,x=.ref l/\y=.ref b/\H l=aa (.lst xs)/\H b=aa (.lst zs)/\xs.length+zs.length<=bQ/\∀p,H p=ak->Q (.ref p) (upd H p (.lst (xs++zs)))
theorem aeK:cz X (kO .Add) Wm:=by
 intro ao s σ H x y v u Q I rx ry h
 obtain⟨l,b,xs,zs,rfl,rfl,hH,hB,hz,q⟩:=h
 cases rx;cases ry
 obtain⟨z,aD,n,r,hl,e⟩:=I.Ao hH
 obtain⟨z2,its2,n2,r2,hl2,e2⟩:=I.Ao hB
 refine PySem.P.add_list e e2 ?_ (by rw[gw,gw];lia);have ea:aD.toArray++its2.toArray=(aD++its2).toArray:=bz;rw[ea]
 exact⟨.ref _,_,I.agV (t':=s.toks) (r.append r2) (by rw[gD];lia),rfl,q _ I.fresh⟩
end
section
variable{prog:bI}{w:bC}{A:b7}{E:aA->aH->Prop}{s:aH}
set_option maxRecDepth 100000 in
end
section
variable{X:Cx}
end
section
variable{κ:Type}[DecidableEq κ]
def jY(aC:List (κ×V))(k:κ):Option V:=(aC.find? λkv=>decide (kv.1=k)).map (·.2)
def putK(aC:List (κ×V))(k:κ)(v:V):List (κ×V):=
 if(aC.any λkv=>decide (kv.1=k))=au then aC.map (λkv=>if kv.1=k then(kv.1,v) else kv) else aC++[(k,v)]
theorem Dm{p:κ×V}{r:List (κ×V)}{k:κ}(e:p.1=k):jY (p::r) k=aa p.2:=by simp[jY,uo,e]
theorem Dn{p:κ×V}{r:List (κ×V)}{k:κ}(e:¬p.1=k):jY (p::r) k=jY r k:=by simp[jY,uo,e]
theorem RK(k:κ):∀aC:List (κ×V),(aC.any λkv=>decide (kv.1=k))=(jY aC k).isSome
 |[]=>rfl
 |p::r=>by
  rw[ou];by_cases e:p.1=k
  .simp only[Dm e,gH e,Bool.true_or,Option.isSome_some]
  .rw[Dn e,lQ e,Bool.false_or];exact RK k r
theorem QG(aC:List (κ×V))(k:κ)(v:V):(putK aC k v).length<=aC.length+1:=by
 unfold putK;split
 .rw[cV];lia
 .rw[gD,eE,Zr];lia
theorem oV.zp{o:Option V}{u:Option aA}(r:oV o u):o.isSome=u.isSome:=by
 cases o with
 |none=>cases u with
  |none=>rfl
  |some _=>exact(show False from r).elim
 |some _=>cases u with
  |none=>exact(show False from r).elim
  |some _=>rfl
theorem KV.val{aC:List (κ×V)}{vs:List (κ×aA)}(r:KV aC vs)(k:κ):oV (jY aC k) (xq vs k):=by
 unfold KV at r;induction r with
 |nil=>exact mC
 |@cons p q ps qs h t ih=>
  obtain⟨h1,h2⟩:=h
  by_cases e:p.1=k
  .have e':q.1=k:=h1.symm.trans e;have b:xq (q::qs) k=aa q.2:=by simp[xq,uo,e']
   rw[Dm e,b];exact h2
  .have e':¬q.1=k:=λz=>e (h1.trans z)
   have b:xq (q::qs) k=xq qs k:=by simp[xq,uo,e']
   rw[Dn e,b];exact ih
theorem KV.any{aC:List (κ×V)}{vs:List (κ×aA)}(r:KV aC vs)(k:κ):(aC.any λkv=>decide (kv.1=k))=vs.any λkv=>decide (kv.1=k):=by
 unfold KV at r;induction r with
 |nil=>rfl
 |cons h t ih=>rw[ou,ou,ih,h.1]
theorem KV.repl{aC:List (κ×V)}{vs:List (κ×aA)}(r:KV aC vs)(k:κ){y:V}{u:aA}(ry:RelV y u):
  KV (aC.map λkv=>if kv.1=k then(kv.1,y) else kv) (vs.map λkv=>if kv.1=k then(kv.1,u) else kv):=by
 unfold KV at r⊢;induction r with
 |nil=>exact .nil
 |@cons p q ps qs h t ih=>
  rw[fD,fD];refine .cons ?_ ih
  obtain⟨h1,h2⟩:=h
  by_cases e:p.1=k
  .rw[bB e,bB (h1.symm.trans e)];exact⟨h1,ry⟩
  .rw[bK e,bK (λz=>e (h1.trans z))];exact⟨h1,h2⟩
theorem KV.put{aC:List (κ×V)}{vs:List (κ×aA)}(r:KV aC vs)(k:κ){y:V}{u:aA}(ry:RelV y u):KV (putK aC k y) (stored vs k u):=by
 unfold putK stored;rw[r.any k];by_cases e:(vs.any λkv=>decide (kv.1=k))=au
 .rw[bB e,bB e];exact r.repl k ry
 .rw[bK e,bK e];exact Paired.snoc r ⟨rfl,ry⟩
theorem KV.length{aC:List (κ×V)}{vs:List (κ×aA)}(r:KV aC vs):aC.length=vs.length:=Paired.length r
end
theorem Ad{P:bI}{w:bC}{k:Key}{u:aA}(r:RelV (kV k) u):(lG P w).is k u=au:=by
 cases k with
 |inl i=>obtain⟨t,e⟩:=(show ∃t,u=CZ i t from r);subst e;exact aam P w i t
 |inr x=>obtain⟨t,e⟩:=(show ∃t,u=Dc x t from r);subst e;exact aan P w x t
theorem Rh{P:bI}{w:bC}:∀{ks:List Key}{us:List aA},Vals (ks.map kV) us->ItemsAre (lG P w) ks us
 |[],_,r=>by rw[H9] at r;cases r;exact .nil
 |k::ks,_,r=>by
  rw[fD] at r;cases r with
  |cons h t=>exact .cons (Ad h) (Rh t)
abbrev KT(H:Hp):List (List Key×V)->List (List Key×aq×aA)->Prop:=Paired λp q=>p.1=q.1/\H q.2.1=aa (.tup (p.1.map kV))/\RelV p.2 q.2.2
theorem KT.val{H:Hp}{aC:List (List Key×V)}{xs:List (List Key×aq×aA)}(r:KT H aC xs)(k:List Key):oV (jY aC k) ((sX xs k).map (·.2)):=by
 induction r with
 |nil=>exact mC
 |@cons p q ps qs h t ih=>
  obtain⟨h1,_,h2⟩:=h
  by_cases e:p.1=k
  .have e':q.1=k:=h1.symm.trans e;have b:sX (q::qs) k=aa q.2:=by simp[sX,uo,e']
   rw[Dm e,b];exact h2
  .have e':¬q.1=k:=λz=>e (h1.trans z)
   have b:sX (q::qs) k=sX qs k:=by simp[sX,uo,e']
   rw[Dn e,b];exact ih
theorem KT.repl{H:Hp}{aC:List (List Key×V)}{xs:List (List Key×aq×aA)}(r:KT H aC xs)(k:List Key){y:V}{u:aA}(ry:RelV y u):
  KT H (aC.map λkv=>if kv.1=k then(kv.1,y) else kv) (xs.map (putAt k u)):=by
 induction r with
 |nil=>exact .nil
 |@cons p q ps qs h t ih=>
  rw[fD,fD];refine .cons ?_ ih
  obtain⟨h1,h2,h3⟩:=h
  unfold putAt;by_cases e:p.1=k
  .rw[bB e,bB (h1.symm.trans e)];exact⟨h1,h2,ry⟩
  .rw[bK e,bK (λz=>e (h1.trans z))];exact⟨h1,h2,h3⟩
theorem KT.put{H:Hp}{aC:List (List Key×V)}{xs:List (List Key×aq×aA)}(r:KT H aC xs)(k:List Key){b:aq}{y:V}{u:aA}(hb:H b=aa (.tup (k.map kV)))(ry:RelV y u):
  KT H (putK aC k y) (storedH xs k b u):=by
 have e:(aC.any λkv=>decide (kv.1=k))=(sX xs k).isSome:=by
  rw[RK,(r.val k).zp,Pj]
 unfold putK storedH;rw[e];by_cases q:(sX xs k).isSome=au
 .rw[bB q,bB q];exact r.repl k ry
 .rw[bK q,bK q];exact Paired.snoc r ⟨rfl,hb,ry⟩
theorem KT.keeps{H H':Hp}{aC:List (List Key×V)}{xs:List (List Key×aq×aA)}(r:KT H aC xs)(ht:∀b ys,H b=aa (.tup ys)->H' b=aa (.tup ys)):KT H' aC xs:=
 Paired.Mu r λ_ _ z=>⟨z.1,ht _ _ z.2.1,z.2.2⟩
section
variable{P:bI}{w:bC}{H:Hp}{h:bw}{a:aq}
theorem VD{u:HO}(ok:fY P w H h)(e:Rd H a u):dU P w H h a u:=e.ok ok
def yt(H:Hp)(a:aq)(aC:List (Key×V)):Prop:=∃ep,Rd H a (.dK aC ep)
def W3(H:Hp)(a:aq)(aC:List (List Key×V)):Prop:=∃ep,Rd H a (.dT aC ep)
theorem xR{aC:List (Key×V)}(ok:fY P w H h)(e:yt H a aC):aC.length<=bQ/\(a==qu)=aF/\∃vs,KV aC vs/\h.DictOf (lG P w) a vs:=
 let ⟨ep,e⟩:=e;let ⟨z,y,vs,r,p⟩:=(show dU P w H h a (.dK aC ep) from VD ok e);⟨z,y,vs,r,p.dictOf⟩
theorem afY{aC:List (Key×V)}{ep:Nat}(ok:fY P w H h)(e:H a=aa (.dK aC ep)):aC.length<=bQ/\(a==qu)=aF/\∃vs,KV aC vs/\h.DictOf (lG P w) a vs:=xR ok ⟨ep,.inl e⟩
theorem zV{ks:List Key}(ok:fY P w H h)(e:H a=aa (.tup (ks.map kV))):(Dd (lG P w)).is h ks a:=by
 obtain⟨_,aD,r,o,h1,h2,n,h3⟩:=(show dU P w H h a (.tup (ks.map kV)) from ok a _ e)
 exact⟨o,aD.toArray,n,h1,h2,h3,by simpa using Rh r⟩
theorem Ae{aC:List (List Key×V)}(ok:fY P w H h)(e:W3 H a aC):aC.length<=bQ/\(a==qu)=aF/\
  ∃xs,KT H aC xs/\h.DictOfH (Dd (lG P w)) a xs:=by
 obtain⟨ep,e⟩:=e
 obtain⟨z,y,xs,r,o,es,h1,h2,h3,h4,h5⟩:=(show dU P w H h a (.dT aC ep) from VD ok e)
 refine⟨z,y,xs,r,o,es,ep,h1,h2,h3,h4,λx hx=>?_,h5⟩
 have all:∀{l:List (List Key×V)}{m:List (List Key×aq×aA)},KT H l m->∀x∈m,(Dd (lG P w)).is h x.1 x.2.1:=by
  intro l m q;induction q with
  |nil=>intro x hx;exact nomatch hx
  |@cons p q ps qs hq t ih=>
   intro x hx;rcases cD.mp hx with e|hx
   .subst e;exact zV ok (by rw[<-hq.1];exact hq.2.1)
   .exact ih x hx
 exact all r x hx
theorem afZ{aC:List (List Key×V)}{ep:Nat}(ok:fY P w H h)(e:H a=aa (.dT aC ep)):aC.length<=bQ/\(a==qu)=aF/\
  ∃xs,KT H aC xs/\h.DictOfH (Dd (lG P w)) a xs:=Ae ok ⟨ep,.inl e⟩
end
def jZ(H:Hp)(a:aq)(y:V)(r:Option V):Prop:=
 (∃aC k,yt H a aC/\y=kV k/\r=jY aC k)\/∃aC k b,W3 H a aC/\y=.ref b/\H b=aa (.tup (k.map kV))/\r=jY aC k
def oY(H:Hp)(a:aq)(y v:V)(H':Nat->Hp):Prop:=
 (∃aC k,(∃ep,H a=aa (.dK aC ep))/\y=kV k/\aC.length<bQ/\H'=λe=>upd H a (.dK (putK aC k v) e))\/
 ∃aC k b,(∃ep,H a=aa (.dT aC ep))/\y=.ref b/\H b=aa (.tup (k.map kV))/\aC.length<bQ/\H'=λe=>upd H a (.dT (putK aC k v) e)
theorem jZ.k{H:Hp}{a:aq}{aC:List (Key×V)}{k:Key}{ep:Nat}(e:H a=aa (.dK aC ep)):jZ H a (kV k) (jY aC k):=.inl ⟨aC,k,⟨ep,.inl e⟩,rfl,rfl⟩
theorem jZ.t{H:Hp}{a b:aq}{aC:List (List Key×V)}{k:List Key}{ep:Nat}(e:H a=aa (.dT aC ep))(eb:H b=aa (.tup (k.map kV))):jZ H a (.ref b) (jY aC k):=.inr ⟨aC,k,b,⟨ep,.inl e⟩,rfl,eb,rfl⟩
theorem oY.k{H:Hp}{a:aq}{aC:List (Key×V)}{k:Key}{v:V}{ep:Nat}(e:H a=aa (.dK aC ep))(hl:aC.length<bQ):oY H a (kV k) v (λe=>upd H a (.dK (putK aC k v) e)):=.inl ⟨aC,k,⟨ep,e⟩,rfl,hl,rfl⟩
theorem oY.t{H:Hp}{a b:aq}{aC:List (List Key×V)}{k:List Key}{v:V}{ep:Nat}(e:H a=aa (.dT aC ep))(eb:H b=aa (.tup (k.map kV)))(hl:aC.length<bQ):
  oY H a (.ref b) v (λe=>upd H a (.dT (putK aC k v) e)):=.inr ⟨aC,k,b,⟨ep,e⟩,rfl,eb,hl,rfl⟩
section
variable{X:Cx}{ao:List (aq×Obj)}{σ:St}{H:Hp}{s:aH}{a:aq}{y v:V}{u r:aA}{o:Option V}{A:b7}{E:aA->aH->Prop}
theorem aba{Q:aA->aH->Prop}(hu:A.units+1<gn)(I:Inv X ao σ H s)(g:jZ H a y (aa v))(ry:RelV y u)(h:∀w' s',Inv X ao σ H s'->RelV v w'->Q w' s'):
  bu (model X.prog X.w) A (rZ (.ref a) u) Q E s:=by
 rcases g with⟨aC,k,e,ey,l⟩|⟨aC,k,b,e,ey,eb,l⟩
 .subst ey
  obtain⟨z,hd,vs,rel,dd⟩:=xR I.hok e
  obtain⟨w',hw,rw'⟩:=oV.some_of (v:=v) (o:=xq vs k) (by rw[l];exact rel.val k)
  exact Ze (Ad ry) dd.mapOf hw (h w' _ (I.tok _) rw')
 .subst ey
  cases(show u=iZ b from ry)
  obtain⟨z,hd,xs,rel,dd⟩:=Ae I.hok e
  obtain⟨w',hw,rw'⟩:=oV.some_of (v:=v) (o:=(sX xs k).map (·.2)) (by rw[l];exact rel.val k)
  obtain⟨p,hp,hp2⟩:=Hf.mp hw
  refine wpAny_getItem_heap (Hj hu) (zV I.hok eb) dd hp ?_;rw[hp2];exact h w' _ (I.tok _) rw'
theorem Wn{Q:aA->aH->Prop}(hu:A.units+1<gn)(I:Inv X ao σ H s)(g:jZ H a y o)(ry:RelV y u)(h:∀s',Inv X ao σ H s'->Q (.bool o.isSome) s'):
  bu (model X.prog X.w) A (dm .In u (.ref a)) Q E s:=by
 rcases g with⟨aC,k,e,ey,l⟩|⟨aC,k,b,e,ey,eb,l⟩
 .subst ey
  obtain⟨z,hd,vs,rel,dd⟩:=xR I.hok e
  refine wpAny_in_of (Ad ry) hd dd.mapOf ?_;rw[<-(rel.val k).zp,<-l];exact h _ (I.tok _)
 .subst ey
  cases(show u=iZ b from ry)
  obtain⟨z,hd,xs,rel,dd⟩:=Ae I.hok e
  refine wpAny_in_heap (Hj hu) (zV I.hok eb) hd dd ?_;have q:=(rel.val k).zp;rw[Pj] at q;rw[<-q,<-l];exact h _ (I.tok _)
theorem Tq{Q:aA->aH->Prop}(hu:A.units+1<gn)(I:Inv X ao σ H s)(g:jZ H a y o)(ry:RelV y u)(h:∀s',Inv X ao σ H s'->Q (.bool (!o.isSome)) s'):
  bu (model X.prog X.w) A (dm .NotIn u (.ref a)) Q E s:=by
 rcases g with⟨aC,k,e,ey,l⟩|⟨aC,k,b,e,ey,eb,l⟩
 .subst ey
  obtain⟨z,hd,vs,rel,dd⟩:=xR I.hok e
  refine wpAny_notIn_of (Ad ry) hd dd.mapOf ?_;rw[<-(rel.val k).zp,<-l];exact h _ (I.tok _)
 .subst ey
  cases(show u=iZ b from ry)
  obtain⟨z,hd,xs,rel,dd⟩:=Ae I.hok e
  refine wpAny_notIn_heap (Hj hu) (zV I.hok eb) hd dd ?_;have q:=(rel.val k).zp;rw[Pj] at q;rw[<-q,<-l];exact h _ (I.tok _)
theorem DP{h':bw}{t':Nat}{ob:HO}(I:Inv X ao σ H s)(mu:Bh (H a))(hs:Cj a s.heap h')(he:∃q,h'.get? a=aa q)(new:dU X.prog X.w (upd H a ob) h' a ob):
  Inv X ao σ (upd H a ob) {s with heap:=h',toks:=t'}:=
 I.write (x:=a) (e:=a) mu (.inl rfl) (λb q hb z=>(hs.2 b hb).trans z) he new
theorem UT{P:bI}{w:bC}{H':Hp}{h':bw}{aC:List (Key×V)}{vs:List (Key×aA)}(z:aC.length<=bQ)(hd:(a==qu)=aF){ep:Nat}(rel:KV aC vs)(dd:h'.DictAt (lG P w) a vs ep):
  dU P w H' h' a (.dK aC ep):=⟨z,hd,vs,rel,dd⟩
theorem Ri{H':Nat->Hp}{Q:Unit->aH->Prop}(hu:A.units+1<gn)(I:Inv X ao σ H s)(g:oY H a y v H')(ry:RelV y u)(rv:RelV v r)(h:∀e s',Inv X ao σ (H' e) s'->Q () s'):
  bu (model X.prog X.w) A (setItem (.ref a) u r) Q E s:=by
 rcases g with⟨aC,k,⟨ep,e⟩,ey,l,eH⟩|⟨aC,k,b,⟨ep,e⟩,ey,eb,l,eH⟩
 .subst ey eH
  obtain⟨z,hd,vs,rel,dd⟩:=afY I.hok e
  have hz:vs.length<=bQ:=by rw[<-rel.length];exact z
  have hl:(putK aC k v).length<=bQ:=by have:=QG aC k v;lia
  refine wpAny_setItem_pairs (hsz:=hz) (Ad ry) dd λh' Gs hs=>?_
  obtain⟨ep',dd2⟩:=Gs.dictAt
  refine h ep' _ ?_;have he:∃q,h'.get? a=aa q:=let ⟨q,_,_,hq,_⟩:=Gs;⟨q,hq⟩
  exact DP I (by rw[e];exact mC) hs he (UT hl hd (rel.put k rv) dd2)
 .subst ey eH
  cases(show u=iZ b from ry)
  obtain⟨z,hd,xs,rel,dd⟩:=afZ I.hok e
  have hz:xs.length<=bQ:=by rw[<-Paired.length rel];exact z
  have hl:(putK aC k v).length<=bQ:=by have:=QG aC k v;lia
  refine wpAny_setItem_heap (hsz:=hz) (Hj hu) (zV I.hok eb) dd λh' Gs hs=>?_
  obtain⟨q,es,ep2,hq,h2,h3,h4,_,h5⟩:=Gs
  refine h ep2 _ ?_;refine DP I (by rw[e];exact mC) hs ⟨q,hq⟩ ⟨hl,hd,_,(rel.put k eb rv).keeps λc ys ec=>?_,q,es,hq,h2,h3,h4,h5⟩;rw[cR (LQ ec e (λz=>nomatch z))];exact ec
end
section
variable{X:Cx}{ao:List (aq×Obj)}{σ:St}{H:Hp}{s:aH}{a:aq}{aC:List (Key×V)}{k:Key}{u:aA}{A:b7}{E:aA->aH->Prop}
theorem af0{Q:aA->aH->Prop}(I:Inv X ao σ H s)(e:yt H a aC)(h:∀t s',Inv X ao σ H s'->Q (.int aC.length t) s'):bu (model X.prog X.w) A (call (.builtin "len") [.ref a]) Q E s:=by
 obtain⟨z,hd,vs,rel,dd⟩:=xR I.hok e
 refine call_len_dict hd dd (by rw[<-rel.length];rw[m6] at z;lia) ?_;rw[<-rel.length];exact h _ _ (I.tok _)
end
theorem aao{X:Cx}{ao:List (aq×Obj)}{σ:St}{H:Hp}{s:aH}{a:aq}{y:V}{o:Option V}(I:Inv X ao σ H s)(g:jZ H a y o):s.TypeIs (.ref a) "dict":=by
 rcases g with⟨aC,k,e,_,_⟩|⟨aC,k,b,e,_,_,_⟩
 .obtain⟨_,_,vs,_,dd⟩:=xR I.hok e
  exact dd.typeIs
 .obtain⟨_,_,xs,_,dd⟩:=Ae I.hok e
  exact dd.typeIs
section
variable{X:Cx}{o i e value:Expr}{pos pos' tpos:Pos}{td ty tv:TE}
end
section
variable{X:Cx}{pos:Pos}
end
section
variable{X:Cx}{ao:List (aq×Obj)}{σ:St}{H:Hp}{s:aH}{a:aq}{y d:V}{u r:aA}{o:Option V}{A:b7}{E:aA->aH->Prop}
end
section
variable{X:Cx}{o e f:Expr}{apos cpos:Pos}{td ty tx:TE}
end
section
variable{X:Cx}{ao:List (aq×Obj)}{σ:St}{H:Hp}{s:aH}{a:aq}{aC:List (Key×V)}{A:b7}{E:aA->aH->Prop}
end
section
variable{X:Cx}{ao:List (aq×Obj)}{σ:St}{H:Hp}{s:aH}{a:aq}{y:V}{u:aA}{A:b7}{E:aA->aH->Prop}
end
end L2
namespace W4
open PySem PySem.W PySem.Calls PyProof.Rows
theorem Zt{P:Params}{h:bw}:∀(ns:List Int)(vs:List aA),WellAll P h vs (ns.map WData.int)->IntsAre vs ns:=by
 intro ns;induction ns with
 |nil=>
  intro vs w;rw[H9] at w;cases w;exact .nil
 |cons n ns ih=>
  intro vs w;rw[fD] at w;cases w with
  |cons a b=>
   cases a;exact .cons _ _ (ih _ b)
theorem abb{l:OpenLaw}{n:Nat}(hn:l.most=aa n){P:Params}{h:bw}{args:List WData}{vals:List aA}
  (hpre:l.row.toRowW.claim.pre args=au)(hwl:WellAll P h vals args):
  ∃a vs ns,vals=[iZ a]/\args=[WData.list (ns.map WData.int)]/\h.get? a=aa {cls:=.type "list",data:=.seq vs.toArray}/\IntsAre vs ns/\ns.length<=n:=by
 have hsh:WShape.hasAll [] args [.list .int]=au:=(pre_splitW hpre).1;have hc:l.pre.holds [] {args:=args}=au:=(pre_splitW hpre).2
 obtain⟨d,r,rfl,h1,h2⟩:=hasAllW_cons hsh
 obtain rfl:=hasAllW_nil h2
 obtain⟨xs,rfl,h3⟩:=hasW_list h1
 obtain⟨ns,rfl⟩:=items_int h3
 have hlen:ns.length<=n:=by
  unfold OpenLaw.pre at hc;have h4:(WTm.not (.lt (.lit (.int (n:Int))) (.len (.arg 0)))).holds [] {args:=[.list (ns.map .int)]}=au:=by
   have h4:=(holds_andW hc).1;rw[hn] at h4;exact h4
  have h5:=condW_of h4 (w_not (w_lt w_lit (w_len_list (w_arg rfl))));rw[cV] at h5;refine Nat.le_of_not_lt λq=>?_
  have q':(n:Int)<((ns.length:Nat):Int):=aP
  first
   |(rw[gH q'] at h5;exact absurd h5 aO)
   |(simp at h5;lia)
 cases hwl with
 |cons w1 w2=>
  cases w2;cases w1 with
  |list ho hall=>exact⟨_,_,ns,rfl,rfl,ho,Zt ns _ hall,hlen⟩
theorem abd(l:OpenLaw)(args:List WData):l.row.toRowW.claim.post args (.bool au) args=au:=
 postW_of (r:=l.row.toRowW) (X:=(au==au))
  (show WShape.has [] (.bool au) .bool=au by first|rfl|decide|simp[WShape.has,WShape.arms,WShape.armsAll])
  (show(WTm.eq .res (.lit (.bool au))).value [] {args:=args,res:=aa (.bool au),after:=args}=aa (.bool (au==au)) from w_eq_bool (w_res rfl) w_lit) rfl
theorem aap{l:OpenLaw}{n:Nat}{q:bI}{loose:List Str}{XP:(Str->Option aA)->bw->Prop}{YP:bC->bw->Prop}{d:DefRec}
  (hn:l.most=aa n)(hdf:d.params.defaults=[])
  (call:∀(w:bC)(s₀ s₁:aH)(mg mb:Str->Option aA)(fa:aq)(o:Obj)(pm cd doc:aA)(a:aq)(vs:List aA)(ns:List Int),
   Ground q loose [] XP w s₀ mg mb s₁.heap->YP w s₁.heap->
   s₁.heap.get? fa=aa o->o.data=.func (docDef d.name d.params d.body d.scope pm cd doc)->s₁.heap.CodeRec cd d.name->mg d.name=aa (.ref fa)->
   s₁.heap.get? a=aa {cls:=.type "list",data:=.seq vs.toArray}->IntsAre vs ns->ns.length<=n->s₁.gens=#[]->
   xm (model l.prog w) xr (.call (.ref fa) ⟨[.ref a],[]⟩) (λr s'=>r=.ok (.ret (.bool au))/\OldK s₁.heap s'.heap/\s'.os=s₁.os/\AllBare s'.gens) s₁):
  WalkO q loose XP YP l.row.toRowW d [] (λf vs=>QS f vs):=by
 intro w s₀ s₁ mg mb G Y fa o pm cd doc dV kV ho hd hcd hD hmg hg args vals as hpre hlay hrd hwl hlo;obtain rfl:dV=.none:=Dflts.none hD hdf;obtain rfl:kV=.none:=Dflts.noKw hD
 obtain⟨a,vs,ns,rfl,rfl,hobj,hints,hlen⟩:=abb hn hpre hwl
 refine enter_call (Qn (call w s₀ s₁ mg mb fa o pm cd doc a vs ns G Y ho (fd_plain hd) hcd hmg hobj hints hlen hg) λr s' hq=>?_)
 obtain⟨rfl,h2,h3,h4⟩:=hq
 exact⟨.inl ⟨.bool au,.bool au,[],rfl,λ_=>rfl,.bool au,abd l _,λ_=>⟨aiT,λ_ hm=>(nomatch hm)⟩⟩,h2,h3,h4⟩
section
variable{prog:bI}{w:bC}{A:b7}{E:aA->aH->Prop}{s:aH}{K:Frag}
def ledger(h:bw)(L d:aq):List (aq×Obj):=(wL h.objs.size).filterMap λa=>if a=L\/a=d then ak else(h.get? a).map λo=>(a,o)
end
end W4
namespace L2
open PySem PySem.Spec PyProof.Rows
theorem Rj:∀{vs:List aA}{ns:List Int},IntsAre vs ns->Vals (ns.map V.int) vs
 |_,_,.nil=>.nil
 |_,_,.cons n t h=>.cons ⟨t,rfl⟩ (Rj h)
def Only(H:Hp):Prop:=∀b,H b=ak\/∃o xs,H b=aa (.j5 o (.lst xs))
theorem abR{P:bI}{w:bC}{K:aJ}{mg mb:Str->Option aA}{CX:o9}{k:Nat}{fa a:aq}{fd:di}{x:Str}{sp:Sp}{s₁:aH}{vs:List aA}{ns:List Int}
  (KX:K.In s₁.heap)(hns:s₁.heap.Ns fG mg)(hb:s₁.heap.Ns builtinsNs mb)(hbb:∀x:Str,x≠"__name__"->mb x=oA x)(hlim:s₁.heap.NoLimit)(hg:s₁.gens=#[])
  (ha:s₁.heap.get? a=aa {cls:=.type "list",data:=.seq vs.toArray})(hi:IntsAre vs ns)(hl:ns.length<=bQ)(hr:gR k xr)
  (F:∀base:bw,K.In base->base.Ns fG mg->dI P w K mg base CX k fa fd [x] sp)(hbind:∀(s:aH)(u:aA),xj s fd ⟨[u],[]⟩ [(x,u)])
  (hsp:∀H:Hp,Only H->bL K H a (ns.map V.int)->sp [.ref a] H (λv _=>v=.bl au) λ_ _ _=>False)
  (Nt:∀H e s',CX [] H s₁ (λ_ _ _=>False) e s'->False):
  xm (model P w) xr (.call (.ref fa) ⟨[.ref a],[]⟩) (λr s'=>r=.ok (.ret (.bool au))/\OldK s₁.heap s'.heap/\s'.os=s₁.os/\AllBare s'.gens) s₁:=by
 have rv:=Rj hi;have lenV:=hi.length;have core:∀H:Hp,Only H->bL K H a (ns.map V.int)->fY P w H s₁.heap->(∀b,H b≠ak->b=a)->(H a≠ak->K.lookup a=ak)->
   xm (model P w) xr (.call (.ref fa) ⟨[.ref a],[]⟩) (λr s'=>r=.ok (.ret (.bool au))/\OldK s₁.heap s'.heap/\s'.os=s₁.os/\AllBare s'.gens) s₁:=by
  intro H hO hS hok hA hK;have Tr:∀{b:aq}{o:Obj},s₁.heap.get? b=aa o->H b=ak->(qW s₁.heap H).get? b=aa o:=λe n=>abH e n
  have Br:∀{b:aq}{o:Obj}{es:Array uH}{ep:Nat},s₁.heap.get? b=aa o->o.data=.dict es ep->H b=ak:=λ{b o es ep} e d=>by
   cases q:H b with
   |none=>rfl
   |some u=>
    have e':b=a:=hA b (by rw[q];simp);subst e';rw[ha] at e;cases e;have d':Data.seq vs.toArray _=Data.dict es ep:=d;cases d'
  have Gu:∀{b:aq}{m:Str->Option aA},s₁.heap.Ns b m->(qW s₁.heap H).Ns b m:=λ{b m} ⟨o,es,ep,e,d,r⟩=>⟨o,es,ep,Tr e (Br e d),d,r⟩
  have W5:K.In (qW s₁.heap H):=λb o e=>Tr (KX b o e) (by
   cases q:H b with
   |none=>rfl
   |some u=>
    have e':b=a:=hA b (by rw[q];simp);subst e';rw[hK (by rw[q];simp)] at e;cases e)
  have hM:Mod K mg (qW s₁.heap H):=⟨W5,Gu hns,⟨mb,Gu hb,hbb⟩,let ⟨mc,h1,h2⟩:=hlim;⟨mc,Gu h1,h2⟩⟩
  have e0:FW P w K mg (qW s₁.heap H) xr [] s₁ H:=⟨rfl,hM,λb o e=>acT e,Z8 (aaZ _ _),trivial,λb hb=>absurd (show b∈([]:List aq) from hb) bz,hok,.of_eq hg⟩
  refine Qn ((F _ W5 (Gu hns)).run xr [] s₁ H ⟨[.ref a],[]⟩ [.ref a] [.ref a] _ _ hr e0 (hbind s₁ (.ref a)) (.cons rfl .nil) (hsp H hO hS)) λr s' h=>?_
  cases r with
  |error e=>exact(Nt H e s' h).elim
  |ok fl=>
   cases fl with
   |next=>exact qw h
   |brk=>exact qw h
   |cont=>exact qw h
   |ret u=>
    obtain⟨v,H',os,bare,un,hok',r',q⟩:=h
    have q':v=.bl au:=q;subst q';obtain rfl:u=pJ au:=r'
    refine⟨rfl,OldK.of_keep λb o e=>?_,os,bare⟩
    cases q:H b with
    |none=>exact un.keep b o e q (by intro z;exact absurd (show b∈([]:List aq) from z) bz) bz
    |some u=>
     rcases hO b with z|⟨ob,xs,z⟩
     .rw[q] at z;cases z
     .have z2:=un.qU b ob _ z
      obtain⟨e1,_⟩:=hok b _ z
      obtain⟨e2,_⟩:=hok' b _ z2
      rw[e] at e1;cases e1;exact e2
 cases hk:K.lookup a with
 |some o=>
  have e:=KX a o hk;rw[ha] at e;cases e;refine core (λ_=>ak) (λ_=>.inl rfl) (.inr ⟨_,vs.toArray,_,hk,rfl,rfl,rfl,by rw[gw,lenV];exact hl,by simpa using rv⟩) (λb u z=>by have z':(ak:Option HO)=aa u:=z;cases z') (λb z=>absurd rfl z) λz=>absurd rfl z
 |none=>
  refine core (λb=>if b=a then aa (.j5 {cls:=.type "list",data:=.seq vs.toArray} (.lst (ns.map V.int))) else ak) (λb=>?_) (.inl (.inr ⟨{cls:=.type "list",data:=.seq vs.toArray},bB rfl⟩)) (λb u z=>?_) (λb z=>?_) λ_=>hk
  .by_cases hb:b=a
   .exact .inr ⟨_,_,bB hb⟩
   .exact .inl (bK hb)
  .by_cases hb:b=a
   .have z':=(bB hb).symm.trans z;cases z';subst hb
    exact⟨ha,by rw[cV];exact hl,vs,_,rv,ha⟩
   .have z':=(bK hb).symm.trans z;cases z'
  .by_cases hb:b=a
   .exact hb
   .exact absurd (bK hb) z
theorem ac7{l:PN}{n k:Nat}{q:bI}{loose:List Str}{XP:(Str->Option aA)->bw->Prop}{YP:bC->bw->Prop}{d:DefRec}{K:Params->aJ}{CX:bC->o9}{sp:bC->Sp}{x:Str}
  (hn:l.most=aa n)(hn2:n<=bQ)(hdf:d.params.defaults=[])(hr:gR k xr)
  (hY:∀(w:bC)(h:bw),YP w h->(K w.params).In h)
  (F:∀(w:bC)(mg:Str->Option aA)(fa:aq)(h:bw),(K w.params).In h->h.Ns fG mg->mg d.name=aa (.ref fa)->
   ∃fd:di,(∀(s:aH)(u:aA),xj s fd ⟨[u],[]⟩ [(x,u)])/\
    ∀base:bw,(K w.params).In base->base.Ns fG mg->dI l.prog w (K w.params) mg base (CX w) k fa fd [x] (sp w))
  (hsp:∀(w:bC)(H:Hp)(a:aq)(ns:List Int),ns.length<=n->Only H->bL (K w.params) H a (ns.map V.int)->sp w [.ref a] H (λv _=>v=.bl au) λ_ _ _=>False)
  (Nt:∀(w:bC)(H:Hp)(s:aH)(e:aA)(s':aH),CX w [] H s (λ_ _ _=>False) e s'->False):
  ZV q loose XP YP l.row.toRowW d [] (λf vs=>QS f vs):=by
 refine W4.aap hn hdf λw s₀ s₁ mg mb fa o pm cd doc a vs ns G Y ho hd hcd hmg hobj hints hlen hg=>?_
 have KX:=hY w _ Y
 obtain⟨fd,hb,hF⟩:=F w mg fa _ KX G.T.g hmg
 exact abR KX G.T.g G.T.b G.T.builtins G.T.nolimit hg hobj hints (kI hlen hn2) hr hF hb (λH hO hS=>hsp w H a ns hlen hO hS) λH e s'=>Nt w H s₁ e s'
def xu(s:cZ):Arguments:=match s with
 |.FunctionDef _ a _ _ _ _ _ _ _ _=>a
 |_=>{posonlyargs:=[],args:=[],vararg:=ak,kwonlyargs:=[],kw_defaults:=[],kwarg:=ak,defaults:=[]}
def su(s:cZ):List cZ:=match s with
 |.FunctionDef _ _ b _ _ _ _ _ _ _=>b
 |_=>[]
def cY(s:cZ):jj:=match s with
 |.FunctionDef _ _ _ _ _ _ sc _ _ _=>sc
 |_=>{kind:=.function,names:=[],isGenerator:=aF,isCoroutine:=aF}
abbrev dN:o9:=λ_ _ _ _ _ _=>False
abbrev E0:XK:=λ_ _ _=>False
theorem af1{X:Cx}:Passes dN X E0:=λ_ _ _ _ _ _ _ h=>h.elim
structure fB(K:aJ)(x qual:Str)(st:cZ)(f:aq)(fd:di):Prop where
 ex:∃(oc:aA)(od:Option aq)(kV doc pm:aA)(an:Option aq)(cdv ct:aA)(osl:Array (Option aA)),
  fd=uC x qual (xu st) (su st) (cY st) .none kV doc pm an cdv ct/\K.lookup f=aa ⟨oc,od,.func fd,osl⟩/\HH K cdv qual=au
 kp:ur K (.ref f)=au
section
variable{P:bI}{w:bC}{K:aJ}{mg:Str->Option aA}{base:bw}
theorem fB.ok{x qual:Str}{st:cZ}{f:aq}{fd:di}{N ps:List Str}{k:Nat}{sp:Sp}(F:fB K x qual st f fd)(S:gA N ps (cY st))(len:∀vs H Q E,sp vs H Q E->vs.length=ps.length)
  (hbody:∀(cdv:aA)(A:b7)(outer:List Env)(s:aH)(H:Hp)(vs:List V)(Q:VK)(E:XK),gR k (A.deeper (envOfC qual (cY st) s.heap.objs.size f cdv))->sp vs H Q E->
   ∃t,iI (vC dN P w K mg base N qual (cY st) f cdv A outer s H E).Bo (su st) t/\t {nx:=λ_ H'=>Q .non H',rt:=Q} (start N vs) H):dI P w K mg base dN (k+1) f fd ps sp:=by
 obtain⟨oc,od,kV,doc,pm,an,cdv,ct,osl,rfl,lk,hcd⟩:=F.ex
 refine afV lk hcd S len λA outer s H vs Q E hr hsp=>?_
 obtain⟨t,h,q⟩:=hbody cdv A outer s H vs Q E hr hsp
 exact⟨t,h.Bo,q⟩
theorem fB.binds{x qual:Str}{st:cZ}{f:aq}{fd:di}{ps:List Str}(F:fB K x qual st f fd)
  (h:∀(kV doc pm:aA)(an:Option aq)(cdv ct:aA)(us:List aA),us.length=ps.length->bindArgs (uC x qual (xu st) (su st) (cY st) .none kV doc pm an cdv ct) ⟨us,[]⟩=pure (ps.zip us)):Binds K fd ps []:=by
 obtain⟨oc,od,kV,doc,pm,an,cdv,ct,osl,rfl,lk,hcd⟩:=F.ex
 exact .all (h kV doc pm an cdv ct)
theorem K7{x qual:Str}{st:cZ}{f:aq}{oc:aA}{od an:Option aq}{osl:Array (Option aA)}{kV doc pm cdv ct:aA}(l:K.lookup f=aa ⟨oc,od,.func (uC x qual (xu st) (su st) (cY st) .none kV doc pm an cdv ct),osl⟩)
  (c:HH K cdv qual=au)(k:ur K (.ref f)=au):fB K x qual st f (uC x qual (xu st) (su st) (cY st) .none kV doc pm an cdv ct):=⟨⟨oc,od,kV,doc,pm,an,cdv,ct,osl,rfl,l,c⟩,k⟩
end
section
variable{X:Cx}
theorem pv(i:Nat){x:Str}{pos:Pos}(hN:X.N[i]?=aa x:=by rfl)(hv:Ni X.env.scope x:=by first|exact dz rfl|exact Ei (dz rfl)|exact Ei (Ei rfl))(hd:(x==("__debug__":Str))=aF:=by decide)
  (hcd:(x==("__classdict__":Str))=aF:=by decide):PE X (.Name x pos) (mL i):=aep hN hv hd hcd
end
theorem tR{A B:Prop}(h:B):if aF=au then A else B:=by
 rw[bK gq];exact h
theorem tU{A B:Prop}(h:A):if au=au then A else B:=by
 rw[bB rfl];exact h
def bN(H H':Hp):Prop:=∀b o,H b=aa o->H' b=aa o
theorem bN.refl(H:Hp):bN H H:=λ_ _ h=>h
theorem bN.trans{H H1 H2:Hp}(a:bN H H1)(b:bN H1 H2):bN H H2:=λc o h=>b c o (a c o h)
theorem bN.seq{K:aJ}{H H':Hp}{a:aq}{xs:List V}(e:bN H H')(h:bL K H a xs):bL K H' a xs:=by
 rcases h with(h|⟨o,h⟩)|h
 .exact .inl (.inl (e _ _ h))
 .exact .inl (.inr ⟨o,e _ _ h⟩)
 .exact .inr h
section
variable{X:Cx}
theorem abe:iz X (.builtin "len") (λxs H Q=>∃a aC,xs=[V.ref a]/\yt H a aC/\Q (.int aC.length) H):=by
 intro ao s σ H xs us Q I r h
 obtain⟨a,aC,rfl,ha,q⟩:=h
 obtain⟨u,rfl,ru⟩:=vals1 r
 cases ru;exact af0 I ha λt s' I'=>⟨.int aC.length,H,I',⟨t,rfl⟩,q⟩
end
section
variable{κ:Type}[DecidableEq κ]
end
def Cx.blk(X:Cx)(N:List Str)(scope:jj)(cl:List (Str×aq))(C:aq)(s:aH)(H:Hp)(fp:List aq):Cx:=
 {X with N:=N,s₀:=s,H₀:=H,env:=compEnvC scope cl C X.env,outer:=X.stack,ex:=fp,fn:=λ_=>aF,pn:=[],xe:=λ_ _=>False}
theorem Ih(f:Str×wW->List (Str×aq)->Sem (ForInStep (List (Str×aq))))
  (hf:∀n k r,f (n,k) r=if k==lZ then(do let c <-cellOf aj n;pure (.yield ((n,c)::r))) else pure (.yield r)):
  ∀(names:List (Str×wW))(cs:List (Str×aq)),(∀y∈names,y.2=.free->∃c,aj.cells.lookup y.1=aa c)->(∀n c,cs.lookup n=aa c->aj.cells.lookup n=aa c)->
   ∃cl,(forIn names cs f:Sem (List (Str×aq)))=pure cl/\(∀n c,cl.lookup n=aa c->aj.cells.lookup n=aa c)/\
    ∀n,((∃c,cs.lookup n=aa c)\/∃y∈names,y.1=n/\y.2=.free)->∃c,cl.lookup n=aa c
 |[],cs,_,h2=>⟨cs,rfl,h2,λn h=>h.elim id λ⟨_,hy,_⟩=>nomatch hy⟩
 |(n,k)::r,cs,h1,h2=>by
  rw[HB,hf];by_cases hk:k=.free
  .subst hk
   obtain⟨c,hc⟩:=h1 (n,.free) gh rfl
   have hc':aj.cells.lookup n=aa c:=hc;have e:cellOf aj n=pure c:=by unfold cellOf;rw[hc']
   obtain⟨cl,q1,q2,q3⟩:=Ih f hf r ((n,c)::cs) (λy hy=>h1 y (fQ _ hy)) (λm d hm=>by
    rw[nZ] at hm;by_cases hb:(m==n)=au
    .rw[hb] at hm;have:=eq_of_beq hb;subst this;cases hm;exact hc'
    .rw[Bool.not_eq_true] at hb;rw[hb] at hm;exact h2 m d hm)
   refine⟨cl,?_,q2,λm hm=>q3 m ?_⟩
   .rw[bB (show(lZ==lZ)=au from rfl),e];simp only[pure_bind];exact q1
   .by_cases hb:m=n
    .subst hb;exact .inl ⟨c,by simp[nZ]⟩
    .rcases hm with⟨d,hm⟩|⟨y,hy,e1,e2⟩
     .refine .inl ⟨d,?_⟩;rw[nZ,beq_eq_false_iff_ne.mpr hb];exact hm
     .rcases cD.mp hy with rfl|hy
      .exact absurd e1.symm hb
      .exact .inr ⟨y,hy,e1,e2⟩
  .have hb:(k==lZ)=aF:=beq_eq_false_iff_ne.mpr hk
   obtain⟨cl,q1,q2,q3⟩:=Ih f hf r cs (λy hy=>h1 y (fQ _ hy)) h2
   refine⟨cl,?_,q2,λm hm=>q3 m ?_⟩
   .rw[hb];simp only[Hl,if_false,pure_bind];exact q1
   .rcases hm with hm|⟨y,hy,e1,e2⟩
    .exact .inl hm
    .rcases cD.mp hy with rfl|hy
     .exact absurd e2 hk
     .exact .inr ⟨y,hy,e1,e2⟩
theorem QT(h1:∀y∈scope.names,y.2=.free->∃c,aj.cells.lookup y.1=aa c):
  ∃cl,closureFor scope aj=pure cl/\(∀n c,cl.lookup n=aa c->aj.cells.lookup n=aa c)/\∀y∈scope.names,y.2=.free->∃c,cl.lookup y.1=aa c:=by
 unfold closureFor
 obtain⟨cl,q1,q2,q3⟩:=Ih (aj:=aj) (λx r=>if(x.2==lZ)=au then(do let c <-cellOf aj x.1;pure (.yield ((x.1,c)::r))) else pure (.yield r)) (λn k r=>rfl) scope.names [] h1 (λn c h=>by simp at h)
 have q:=congrArg (λt:Sem (List (Str×aq))=>t >>= λcs=>pure cs) q1;simp only[pure_bind] at q
 exact⟨cl,q,q2,λy hy e=>q3 y.1 (.inr ⟨y,hy,rfl,e⟩)⟩
theorem Qs{scope:jj}{aj:Env}{x:Str}:∀{names:List (Str×wW)},
  (names.map λ(n,k)=>if(k==lZ&&aj.scope.kind==.function&&aj.kindOf n==aa .cell) then(n,HW) else(n,k)).lookup x=
   (names.lookup x).map λk=>if(k==lZ&&aj.scope.kind==.function&&aj.kindOf x==aa .cell) then HW else k
 |[]=>rfl
 |(n,k)::r=>by
  have ih:=@Qs scope aj x r;show List.lookup x ((if(k==lZ&&aj.scope.kind==.function&&aj.kindOf n==aa .cell)=au then(n,HW) else(n,k))::_)=_;cases hx:x==n with
  |true=>
   have e:=eq_of_beq hx;subst e;by_cases hc:(k==lZ&&aj.scope.kind==.function&&aj.kindOf x==aa .cell)=au
   .rw[bB hc];simp only[nZ,beq_self_eq_true,kE,hc,if_true]
   .rw[bK hc];simp only[nZ,beq_self_eq_true,kE,hc,if_false];rfl
  |false=>
   by_cases hc:(k==lZ&&aj.scope.kind==.function&&aj.kindOf n==aa .cell)=au
   .rw[bB hc];simp only[nZ,hx];exact ih
   .rw[bK hc];simp only[nZ,hx];exact ih
def frees(js:List Nat)(σ:St):St:=js.map λj=>(σ[j]?).join
section
variable{X:Cx}{ao:List (aq×Obj)}{σ:St}{H:Hp}{s s1:aH}{NT NF:List Str}{js:List Nat}{scope:jj}{cl:List (Str×aq)}{fp:List aq}
structure vf(X:Cx)(NT NF:List Str)(js:List Nat)(scope:jj):Prop where
 kind:scope.kind=.function
 names:∀y∈scope.names,y.2=.local->scope.names.lookup y.1=aa .local
 cell:∀y∈scope.names,y.2≠.cell
 free:∀y∈scope.names,y.2=.free->X.env.scope.names.lookup y.1=aa .cell\/X.env.scope.names.lookup y.1=aa .free
 len:js.length=NF.length
 fr:∀(k:Nat)(j:Nat)(x:Str),js[k]?=aa j->NF[k]?=aa x->X.N[j]?=aa x/\scope.names.lookup x=aa .free
 tg:∀x∈NT,scope.names.lookup x=aa .local
 nd:(NT++NF).Nodup
theorem Inv.blk(I:Inv X ao σ H s)(B:vf X NT NF js scope)(q2:∀n c,cl.lookup n=aa c->X.env.cells.lookup n=aa c)(q3:∀y∈scope.names,y.2=.free->∃c,cl.lookup y.1=aa c)
  (hf:∀b∈fp,jk X ao H b)(hlt:∀b∈fp,b<s.heap.objs.size){m:Str->Option aA}(hns:s1.heap.Ns s.heap.objs.size m)(keep:∀b o,s.heap.get? b=aa o->s1.heap.get? b=aa o)
  (hos:s1.os=s.os)(hg:AllBare s1.gens):
  Inv (X.blk (NT++NF) scope cl s.heap.objs.size s H fp) [] (cM NT.length ak++frees js σ) H s1:=by
 have look:∀x,(X.blk (NT++NF) scope cl s.heap.objs.size s H fp).env.kindOf x=(scope.names.lookup x).map λk=>if(k==lZ&&X.env.scope.kind==.function&&X.env.kindOf x==aa .cell) then HW else k:=λx=>Qs (scope:=scope)
 have aeL:∀x,((X.blk (NT++NF) scope cl s.heap.objs.size s H fp).env.kindOf x=aa .cell\/(X.blk (NT++NF) scope cl s.heap.objs.size s H fp).env.kindOf x=aa .free)->scope.names.lookup x=aa .free:=λx h=>by
  rw[look] at h;cases e:scope.names.lookup x with
  |none=>rw[e] at h;simp at h
  |some k=>
   rw[e] at h;by_cases hk:k=.free
   .rw[hk]
   .have hb:(k==lZ)=aF:=beq_eq_false_iff_ne.mpr hk;simp only[kE,hb,ZD,Hl,if_false,Option.some.injEq] at h;rcases h with h|h
    .subst h;exact absurd rfl (B.cell _ (rH e))
    .exact absurd h hk
 have ltC:∀c x,X.env.cells.lookup x=aa c->c<s.heap.objs.size:=λc x e=>by
  obtain⟨v,q⟩:=I.cell x c e
  exact q.lt
 refine⟨⟨I.ok.mod,B.kind,I.ok.glob,I.ok.blt,cO _,λx y c h1 h2=>I.ok.inj x y c (q2 x c h1) (q2 y c h2),λx hx=>?_,λx c h _=>(nomatch(show aF=au from h)),I.ok.hd,I.ok.frames,.inl rfl,λb hb=>⟨iY (hlt b hb),λx c e=>(hf b hb).2.2.2.2.1 x c (q2 x c e)⟩,I.bs,kI I.ok.tX I.sz,λb o e hb=>?_,λb hb hb2=>?_,I.stack,I.S8⟩,
  hos,hg,Un.kept keep,⟨m,hns,λi x v h1 h2 h3=>?_⟩,λx c e=>?_,I.hok.fresh (cO _),λx c e=>I.oO x c (q2 x c e),λp hp=>(nomatch(show p∈([]:List (aq×Obj)) from hp)),I.hok.kept keep,?_⟩
 .exact q3 _ (rH (aeL x hx)) rfl
 .rcases(hf b hb).2.2.2.1 with z|z
  .exact I.ok.Am b o e z
  .exact absurd (jO (b8 e) (kI I.ok.tX z)) (ux _)
 .obtain⟨_,f1,f2,_⟩:=hf b hb
  rcases cD.mp (I.Eg b hb2) with z|z
  .exact f1 z
  .exact f2 z
 .have h1':(NT++NF)[i]?=aa x:=h1;by_cases hi:i<NT.length
  .rw[kj (by simpa using hi),Ou] at h2;split at h2<;>cases h2
  .have hi':NT.length<=i:=aP;rw[lB (by simpa using hi')] at h2;rw[lB hi'] at h1';simp only[O2] at h2;unfold frees at h2;rw[jy] at h2;cases ej:js[i-NT.length]? with
   |none=>rw[ej] at h2;cases h2
   |some j=>
    rw[ej] at h2;have h2':(σ[j]?).join=aa v:=by simpa using h2
    obtain⟨g1,g2⟩:=B.fr _ j x ej h1'
    have hj:σ[j]?=aa (aa v):=by
     cases e:σ[j]? with
     |none=>rw[e] at h2';cases h2'
     |some o=>rw[e] at h2';simp at h2';rw[h2']
    have hk:=B.free _ (rH g2) rfl;have hk':X.env.scope.names.lookup x=aa .cell\/X.env.scope.names.lookup x=aa .free:=hk
    obtain⟨m0,hn0,hl0⟩:=I.loc
    obtain⟨u,r,l⟩:=hl0 j x v g1 hj (.inr hk')
    refine⟨u,r,.inr ⟨?_,?_⟩⟩
    .rw[look,g2];by_cases hc:(lZ==lZ&&X.env.scope.kind==.function&&X.env.kindOf x==aa .cell)=au
     .left;simp only[kE,hc,if_true]
     .right;simp only[kE,hc,if_false];rfl
    .rcases l with⟨k0,_⟩|⟨_,c,e,z⟩
     .have W6:X.env.scope.names.lookup x=aa .local:=k0;rcases hk' with z|z<;>rw[z] at W6<;>cases W6
     .obtain⟨c',hc'⟩:=q3 _ (rH g2) rfl
      have hc2:cl.lookup x=aa c':=hc';have e2:=q2 x c' hc2;rw[e] at e2;cases e2
      obtain⟨o,ho,hd⟩:=z
      exact⟨c,hc2,o,keep c o ho,hd⟩
 .obtain⟨v,o,ho,hd⟩:=I.cell x c (q2 x c e)
  exact⟨v,o,keep c o ho,hd⟩
 .show(cM NT.length ak++frees js σ).length=(NT++NF).length
  unfold frees;simp[B.len]
theorem Inv.af2(I:Inv X ao σ H s)(hf:∀b∈fp,jk X ao H b)(J:Inv (X.blk N scope cl s.heap.objs.size s H fp) LR σ' H' s'):Inv X ao σ H' s':=
 I.call' J.os J.base J.hok J.bare λb hb=>⟨(hf b hb).2.2.2.1,(hf b hb).2.1,(hf b hb).2.2.2.2.1,(hf b hb).2.2.2.2.2⟩
end
theorem ac8(a:List α)(x y:α)(b:List α)(h:a.length=n):(a++x::b).set n y=a++y::b:=by
 subst h;rw[List.set_append_right _ _ (cO _),Ia];rfl
inductive iT where
 |one|many (n:Nat)
def yu(K:aJ):iT->V->Hp->List V->Prop
 |.one,x,_,vs=>vs=[x]
 |.many n,x,H,vs=>∃a,x=.ref a/\bO K H a vs/\vs.length=n
def isNm(e:Expr)(x:Str):Prop:=∃pos,e=.Name x pos
def tV(tg:Expr)(NT:List Str):iT->Prop
 |.one=>∃x,isNm tg x/\NT=[x]
 |.many n=>∃es k pos,tg=.Tuple es k pos/\Paired isNm es NT/\NT.length=n
theorem QV:∀{es:List Expr}{NT:List Str},Paired isNm es NT->ni es aj=es.map λe=>(aF,assign e aj)
 |_,_,.nil=>rfl
 |_,_,.cons ⟨pos,e⟩ t=>by
  subst e
  show(aF,assign _ aj)::ni _ aj=_
  rw[QV t];rfl
section
variable{X:Cx}{ao:List (aq×Obj)}{H:Hp}{E:aA->aH->Prop}
theorem abf(p:Paired isNm es NT):∀{pre NF:List Str}{σp fs:St}{s:aH}{vs:List V}{us:List aA}{Q:Unit->aH->Prop},
  X.N=pre++NT++NF->X.N.Nodup->(∀x∈NT,X.env.scope.names.lookup x=aa .local)->σp.length=pre.length->vs.length=NT.length->
  Inv X ao (σp++(cM NT.length ak++fs)) H s->Vals vs us->(∀s',Inv X ao (σp++(vs.map aa++fs)) H s'->Q () s')->
  bu (model X.prog X.w) X.A (wC (es.map λe=>assign e X.env) us) Q E s:=by
 induction p with
 |nil=>
  intro pre NF σp fs s vs us Q hN nd hl hp hv I r q;cases vs with
  |cons _ _=>simp at hv
  |nil=>
   cases r;exact assignInOrder_nil (q s I)
 |@cons e x es NT he t ih=>
  intro pre NF σp fs s vs us Q hN nd hl hp hv I r q;cases vs with
  |nil=>simp at hv
  |cons v vs=>
   cases r with
   |cons r rr=>
    obtain⟨pos,rfl⟩:=he
    have hx:=hl x gh;have hi:X.N[pre.length]?=aa x:=by
     rw[hN,nY,lB (cO _)];simp
    refine assignInOrder_cons (Ho (qz I nd hi (.inl hx) r (λs' I'=>?_) (.inr hx)));have e1:(σp++(cM (x::NT).length ak++fs)).set pre.length (aa v)=(σp++[aa v])++(cM NT.length ak++fs):=by
     exact(ac8 σp ak (aa v) (cM NT.length ak++fs) hp).trans (List.append_cons σp (aa v) (cM NT.length ak++fs))
    rw[e1] at I';refine ih (pre:=pre++[x]) (NF:=NF) (σp:=σp++[aa v]) (by rw[hN];simp) nd (λy hy=>hl y (fQ _ hy)) (by simp[hp]) (by simpa using hv) I' rr λs2 I2=>q s2 ?_
    have e2:σp++[aa v]++(vs.map aa++fs)=σp++((v::vs).map aa++fs):=bz;rw[e2] at I2;exact I2
theorem aeM(tk:tV tg NT T)(hN:X.N=NT++NF)(nd:X.N.Nodup)(hc:X.calm=au)
  (hl:∀x∈NT,X.env.scope.names.lookup x=aa .local)(I:Inv X ao (cM NT.length ak++fs) H s)(r:RelV v u)(hv:yu X.K T v H vs)
  (q:∀s',Inv X ao (vs.map aa++fs) H s'->Q () s'):bu (model X.prog X.w) X.A (assign tg X.env u) Q E s:=by
 cases T with
 |one=>
  obtain⟨x,⟨pos,rfl⟩,rfl⟩:=tk
  have hv':vs=[v]:=hv;subst hv';have hx:=hl x gh;exact Ho (qz I nd (i:=0) (by rw[hN];rfl) (.inl hx) r (λs' I'=>q s' I') (.inr hx))
 |many n=>
  obtain⟨es,k,pos,rfl,p,hn⟩:=tk
  obtain⟨a,rfl,hq,hlen⟩:=hv
  cases r
  obtain⟨aD,rv,ht,hz⟩:=I.tuple hq
  have e:=QV (aj:=X.env) p;have hpl:=p.length;refine assign_Tuple_tuple (I.ok.hd hc) ht (by rw[e];simp only[cV,gw];rw[<-rv.length];lia) (by rw[e];simp) λh' hx=>?_
  have I1:Inv X ao (cM NT.length ak++fs) H {s with heap:=h'}:=I.kept (t':=s.toks) λb o e=>hx b o (iY (b8 e)) e
  rw[e,wF];exact abf p (pre:=[]) (σp:=[]) (by rw[hN];rfl) nd hl rfl aP I1 (by simpa using rv) q
end
def turnOf(target iter:Expr)(ifs:List Expr)(it:aA)(aj:Env)(emit:Sem Unit)(more:Sem PySem.Fin):Sem PySem.Fin:=do
 DK iter.pos
 match <-qI it with
 |none=>pure (.done .next)
 |some v=>
  um target it v
  assign target aj v
  let mut ok:=au
  for c in ifs do
   if ok then ok <-isTrue c aj (eval c aj)
  if ok then emit
  more
theorem aaF(elt target iter:Expr)(ifs:List Expr)(scope:jj)(pos:Pos)(it cG:aA)(aj:Env):
  Jp (.ListComp elt [⟨target,iter,ifs,0⟩] scope pos) 0 it cG aj=turnOf target iter ifs it aj (do let _ <-call (.builtin "list.append") [cG,<-eval elt aj]) (again (.compLoop (.ListComp elt [⟨target,iter,ifs,0⟩] scope pos) 0 it cG aj)):=by rfl
def qb(X:Cx)(ifs:List Expr)(t:TT):Prop:=
 ∀(ao:List (aq×Obj))(s:aH)(σ:St)(H:Hp)(Q:Bool->Hp->Prop),Inv X ao σ H s->t σ H Q->
  bu (model X.prog X.w) X.A (forIn ifs au λc r=>if r=au then do let ok <-isTrue c X.env (eval c X.env);pure (Zu ok) else pure (Zu r)) (TP X ao σ Q) X.xe s
def agW:TT:=λ_ H Q=>Q au H
theorem ac9:qb X [] agW:=λ_ _ _ H _ I h=>wpAny_tests_nil ⟨H,I,h⟩
theorem ada(h:PT X c t):qb X [c] t:=λao s σ H Q I q=>wpAny_tests_one (h ao s σ H Q I q)
abbrev TM:=St->Hp->(Hp->Prop)->Prop
def PM(X:Cx)(emit:Sem Unit)(t:TM):Prop:=
 ∀(ao:List (aq×Obj))(s:aH)(σ:St)(H:Hp)(Q:Hp->Prop),Inv X ao σ H s->t σ H Q->
  bu (model X.prog X.w) X.A emit (λ_ s'=>∃H',Inv X ao σ H' s'/\Q H') X.xe s
def J8(D:aq)(te:TE):TM:=λσ H Q=>te σ H λy H1=>∃xs,H1 D=aa (.lst xs)/\xs.length<bQ/\Q (upd H1 D (.lst (xs++[y])))
theorem abg(he:PE X elt te):PM X (do let _ <-call (.builtin "list.append") [.ref D,<-eval elt X.env]) (J8 D te):=by
 intro ao s σ H Q I h;refine aX (bR (he ao s σ H _ I h) λv s1 aR=>?_)
 obtain⟨y,H1,I1,r1,xs,hD,hz,q⟩:=aR
 refine aX (bR (Rg (X:=X) ao s1 σ H1 (.ref D) [y] (.ref D) [v] (λ_ H'=>Q H') I1 rfl (.cons r1 .nil) ⟨D,xs,y,rfl,rfl,hD,hz,q⟩) λ_ s2 ⟨_,H2,I2,_,q2⟩=>cj ⟨H2,I2,q2⟩)
def FZ(K:aJ)(T:iT)(ts:TT)(em:TM)(fs:St)(J:It)(H0:Hp)(done:Hp->Prop):Prop:=
 ∃W:Nat->Nat->Hp->Prop,(∃m,W 0 m H0)/\∀i m H,W i m H->
  (J.stop i H/\done H)\/(J.go i H/\∀x H',J.Gn i H x H'->∃vs,yu K T x H' vs/\
   ts (vs.map aa++fs) H' λb H2=>if b=au then em (vs.map aa++fs) H2 λH3=>∃m',m'<m/\W (i+1) m' H3 else ∃m',m'<m/\W (i+1) m' H2)
section
variable{X:Cx}{NT NF:List Str}{tg iter e:Expr}{ifs:List Expr}{T:iT}{ts:TT}{em:TM}{emit:Sem Unit}{cG:aA}{fp:List aq}{it:aq}{J:It}{tn:Nat->bw->Prop}
theorem abS{fs:St}{vs:List V}{ao:List (aq×Obj)}{H:Hp}{s:aH}(hv:vs.length=NT.length)(I:Inv X ao (vs.map aa++fs) H s):Inv X ao (cM NT.length ak++fs) H s:=
 I.weak (by simp[hv]) λi v h=>by
  by_cases hi:i<NT.length
  .rw[kj (by simpa using hi),Ou] at h;split at h<;>cases h
  .rw[lB (by simp;lia)] at h⊢;simpa[hv] using h
theorem yu.len{tg:Expr}{K:aJ}{x:V}{H:Hp}{vs:List V}(tk:tV tg NT T)(h:yu K T x H vs):vs.length=NT.length:=by
 cases T with
 |one=>obtain⟨y,_,rfl⟩:=tk;rw[show vs=[x] from h];rfl
 |many n=>obtain⟨_,_,_,_,_,e⟩:=tk;obtain⟨_,_,_,e'⟩:=h;lia
theorem abT{R:xH->aH->Prop}{fs:St}{H:Hp}{s:aH}{done:Hp->Prop}(hx:X.xe=λ_ _=>False)(hT:Jp e 0 (.ref it) cG X.env=turnOf tg iter ifs (.ref it) X.env emit (again (.compLoop e 0 (.ref it) cG X.env)))
  (hq:(yR e 0 (.ref it) cG X.env).isFrame=aF)(hqu:(yR e 0 (.ref it) cG X.env).quiet=au)(hA:X.A.under (yR e 0 (.ref it) cG X.env)=X.A)
  (tk:tV tg NT T)(hN:X.N=NT++NF)(nd:X.N.Nodup)(hc:X.calm=au)(hl:∀x∈NT,X.env.scope.names.lookup x=aa .local)
  (hts:qb X ifs ts)(hem:PM X emit em)(TT:Turn X.prog X.w X.K tg J fp it tn)(hf:∀b∈fp,jk X [] H b)(I:Inv X [] (cM NT.length ak++fs) H s)(st:tn 0 s.heap)(hb:FZ X.K T ts em fs J H done)
  (hR:∀H' s' σ',Inv X [] σ' H' s'->done H'->R (.ok .next) s'):
  xm (model X.prog X.w) X.A (.compLoop e 0 (.ref it) cG X.env) R s:=by
 obtain⟨W,⟨m0,w0⟩,turn⟩:=hb
 have stat:∀{H':Hp},(∀b∈fp,H' b=ak)->∀b∈fp,jk X [] H' b:=λhn b hb=>⟨hn b hb,(hf b hb).2⟩
 have W7:∀{α:Type}{t:Sem α}{Q:α->aH->Prop}{E:aA->aH->Prop}{s:aH},bu (model X.prog X.w) X.A t Q (λ_ _=>False) s->bu (model X.prog X.w) X.A t Q E s:=λh=>zg h (λ_ _ z=>z) λ_ _ z=>z.elim
 have W8:∀{α:Type}{t:Sem α}{Q:α->aH->Prop}{E:aA->aH->Prop}{s:aH},bu (model X.prog X.w) X.A t Q X.xe s->bu (model X.prog X.w) X.A t Q E s:=λh=>W7 (by rw[hx] at h;exact h)
 refine codeAny_loop hqu (λn s'=>∃i H',Inv X [] (cM NT.length ak++fs) H' s'/\tn i s'.heap/\(∀b∈fp,H' b=ak)/\W i n H') ?_ m0 ⟨0,H,I,st,λb hb=>(hf b hb).1,w0⟩;rintro n s3 ⟨i,H3,I3,st3,Bq,w3⟩;rw[hA];show bu _ X.A (if(yR e 0 (.ref it) cG X.env).isFrame=au then(Jp e 0 (.ref it) cG X.env).onRaise (leaving X.env) else(Jp e 0 (.ref it) cG X.env).onRaise (λx=>do noteFrame x X.env;theTreesLotGoes x)) _ _ s3;rw[hq,bK gq];refine wpAny_noted (W7 ?_);rw[hT];unfold turnOf;refine aX (yQ (aX ?_));rcases turn i n H3 w3 with⟨stop,qn⟩|⟨go,step⟩
 .refine bR (TT.done X rfl rfl rfl hc i [] s3 _ H3 _ I3 (stat Bq) st3 stop) λr s4 aR=>?_
  obtain⟨hr,I4⟩:=aR
  subst hr;exact cj (hR H3 s4 _ I4 qn)
 .refine bR (TT.item X rfl rfl rfl hc i [] s3 _ H3 _ I3 (stat Bq) st3 go) λr s4 aR=>?_
  obtain⟨u,hr,h4⟩:=aR
  subst hr;refine aX (bR h4 λ_ s5 aR=>?_)
  obtain⟨x,H5,I5,r5,y5,vP,Nm⟩:=aR
  have Np:=I5.pinned (stat Nm) (TT.obj _ _ vP)
  obtain⟨vs,hv,q5⟩:=step x H5 y5
  have hvl:=yu.len tk hv;refine aX (aeM tk hN nd hc hl Np r5 hv λs6 I6=>?_);refine aX (W8 (bR (hts _ s6 _ H5 _ I6 q5) λb s7 aR=>?_))
  obtain⟨H7,I7,q7⟩:=aR
  have UW:∀{s8:aH}{H8:Hp},Inv X ([]++zU fp s5.heap) (vs.map aa++fs) H8 s8->(∃m',m'<n/\W (i+1) m' H8)->
    (yR e 0 (.ref it) cG X.env=yR e 0 (.ref it) cG X.env)/\∃m,m<n/\∃i H',Inv X [] (cM NT.length ak++fs) H' s8/\tn i s8.heap/\(∀b∈fp,H' b=ak)/\W i m H':=λ{s8 H8} I8 n8=>by
   obtain⟨m',hm,w8⟩:=n8
   refine⟨rfl,m',hm,i+1,H8,abS hvl I8.Dl,TT.keep _ _ _ vP λb hb o e=>(I8.pin (b,o) (dj _ (dj _ (Cw hb e)))).1,λb hb=>?_,w8⟩
   obtain⟨o,e,d⟩:=TT.obj _ _ vP b hb
   exact(I8.pin (b,o) (dj _ (dj _ (Cw hb e)))).2.1
  cases b with
  |false=>exact cj (UW I7 q7)
  |true=>exact aX (W8 (bR (hem _ s7 _ H7 _ I7 q7) λ_ s8 ⟨H8,I8,q8⟩=>cj (UW I8 q8)))
end
structure Bk where
 cl:List (Str×aq)
 C:aq
 s:aH
 H:Hp
 fp:List aq
abbrev Cx.bk(X:Cx)(N:List Str)(scope:jj)(b:Bk):Cx:=X.blk N scope b.cl b.C b.s b.H b.fp
section
variable{X:Cx}{NT NF:List Str}{js:List Nat}{elt kx vx tg iter e:Expr}{ifs:List Expr}{T:iT}{wi:TI}{ts:Bk->TT}{te tk' tv:Bk->TE}{scope:jj}{pos:Pos}
def Nu(K:aJ)(wi:TI)(T:iT)(ts:Bk->TT)(te:Bk->TE)(js:List Nat):TE:=λσ H Q=>wi σ H λJ H1=>∀D,H1 D=ak->∀b,FZ K T (ts b) (J8 D (te b)) (frees js σ) J (upd H1 D (.lst [])) (Q (.ref D))
theorem U0{ao:List (aq×Obj)}{σ:St}{s2:aH}{H2:Hp}{cl:List (Str×aq)}{it:aq}{fp:List aq}{tn:Nat->bw->Prop}{J:It}{Q:Hp->Prop}{RR:aA->aq->xH->aH->Prop}{E:aA->aH->Prop}
  (B:vf X NT NF js scope)(tk:tV tg NT T)(hc:X.calm=au)
  (hin:∀b,qb (X.bk (NT++NF) scope b) ifs (ts b)/\PE (X.bk (NT++NF) scope b) elt (te b))
  (q2:∀n c,cl.lookup n=aa c->X.env.cells.lookup n=aa c)(q3:∀y∈scope.names,y.2=.free->∃c,cl.lookup y.1=aa c)
  (I2:Inv X ao σ H2 s2)(TT:Turn X.prog X.w X.K tg J fp it tn)(st2:tn 0 s2.heap)(f2:∀b∈fp,jk X ao H2 b)
  (q:∀b,FZ X.K T (ts b) (J8 s2.heap.objs.size (te b)) (frees js σ) J (upd H2 s2.heap.objs.size (.lst [])) Q)
  (hR:∀C H' s' m,Inv X ao σ H' s'->jk X ao H' C->s'.heap.Ns C m->Q H'->RR (.ref s2.heap.objs.size) C (.ok .next) s'):
  bu (model X.prog X.w) X.A (newList []) (λcG s₃=>bu (model X.prog X.w) X.A (newFunctionEnv scope X.env.globals cl [] X.env.qual ak .none (aa X.env)) (λcenv s₄=>
   xm (model X.prog X.w) X.A (.compStart (.ListComp elt [⟨tg,iter,ifs,0⟩] scope pos) 0 (.ref it) cG {cenv with scope:=relabel scope X.env}) (RR cG cenv.locals) s₄) E s₃) E s2:=by
 refine rM ?_;have hD:H2 s2.heap.objs.size=ak:=I2.hok.fresh (cO _);have I3:Inv X ao σ (upd H2 s2.heap.objs.size (.lst [])) {s2 with heap:=s2.heap.push {cls:=.type "list",dict:=ak,data:=.seq ([]:List aA).toArray}}:=
  I2.laid (t':=s2.toks) (λb o e=>cA _ e) (cO _) ⟨Cp _,[],0,.nil,gY _ rfl⟩
 have hsz:(s2.heap.push {cls:=.type "list",dict:=ak,data:=.seq ([]:List aA).toArray}).objs.size=s2.heap.objs.size+1:=rP ..;refine wpAny_newFunctionEnv B.cell (by intro y hy;simp at hy) (λh₁ hns₁ hsb₁=>?_) B.kind;have t6:∀b∈fp,b<s2.heap.objs.size:=λb hb=>by
  obtain⟨o,e,_⟩:=TT.obj 0 _ st2 b hb
  exact b8 e
 have f3:∀b∈fp,jk X ao (upd H2 s2.heap.objs.size (.lst [])) b:=λb hb=>⟨by rw[cR (iY (t6 b hb))];exact(f2 b hb).1,(f2 b hb).2⟩
 have keep:∀b o,(s2.heap.push {cls:=.type "list",dict:=ak,data:=.seq ([]:List aA).toArray}).get? b=aa o->h₁.get? b=aa o:=λb o e=>
  hsb₁.extBut b o (iY (b8 e)) (cA _ e)
 have W9:∀b∈fp,b<(s2.heap.push {cls:=.type "list",dict:=ak,data:=.seq ([]:List aA).toArray}).objs.size:=λb hb=>by have:=t6 b hb;rw[hsz];exact Nat.lt_succ_of_lt this
 have I4:=I3.blk (s1:={s2 with heap:=h₁,toks:=s2.toks+([]:List (Str×aA)).length}) B q2 q3 f3 W9 hns₁ keep rfl I2.bare;have Xa:tn 0 h₁:=TT.keep 0 _ _ st2 λb _ o e=>keep b o (cA _ e)
 obtain⟨i1,i2⟩:=hin ⟨cl,(s2.heap.push {cls:=.type "list",dict:=ak,data:=.seq ([]:List aA).toArray}).objs.size,{s2 with heap:=s2.heap.push {cls:=.type "list",dict:=ak,data:=.seq ([]:List aA).toArray}},upd H2 s2.heap.objs.size (.lst []),fp⟩
 have loop:xm (model X.prog X.w) X.A (.compLoop (.ListComp elt [⟨tg,iter,ifs,0⟩] scope pos) 0 (.ref it) (.ref s2.heap.objs.size) (compEnvC scope cl (s2.heap.push {cls:=.type "list",dict:=ak,data:=.seq ([]:List aA).toArray}).objs.size X.env))
   (RR (.ref s2.heap.objs.size) (s2.heap.push {cls:=.type "list",dict:=ak,data:=.seq ([]:List aA).toArray}).objs.size) {s2 with heap:=h₁,toks:=s2.toks+([]:List (Str×aA)).length}:=by
  refine abT (X:=X.blk (NT++NF) scope cl (s2.heap.push {cls:=.type "list",dict:=ak,data:=.seq ([]:List aA).toArray}).objs.size {s2 with heap:=s2.heap.push {cls:=.type "list",dict:=ak,data:=.seq ([]:List aA).toArray}} (upd H2 s2.heap.objs.size (.lst [])) fp)
   (T:=T) (fs:=frees js σ) (done:=Q) rfl (aaF elt tg iter ifs scope pos _ _ _) rfl rfl rfl tk rfl B.nd hc (λx hx=>lookup_relabel_local (B.tg x hx)) i1 (abg i2) TT (λb hb=>?_) I4 Xa (q _) λH' s' σ' J' qd=>?_
  .exact⟨(f3 b hb).1,iY (W9 b hb),λhb2=>by
    rcases cD.mp (I3.Eg b hb2) with z|z
    .exact(f3 b hb).2.1 z
    .exact(f3 b hb).2.2.1 z,.inl hb,λx c e=>(f3 b hb).2.2.2.2.1 x c (q2 x c e),λp hp=>(nomatch(show p∈([]:List (aq×Obj)) from hp))⟩
  .obtain⟨m,hn,_⟩:=J'.loc
   exact hR _ H' s' m (I3.af2 f3 J') (I3.qY (cO _) J'.free) hn qd
 exact codeAny_compStart_list loop (TT.self _ 0 _ _ _ Xa loop)
theorem af3(B:vf X NT NF js scope)(tk:tV tg NT T)(hc:X.calm=au)(hi:PI X tg iter wi)
  (hin:∀b,qb (X.bk (NT++NF) scope b) ifs (ts b)/\PE (X.bk (NT++NF) scope b) elt (te b))
  (hs:∀x,yJ iter X.env x=pure x:=by intro _;rfl):PE X (.ListComp elt [⟨tg,iter,ifs,0⟩] scope pos) (Nu X.K wi T ts te js):=by
 intro ao s σ H Q I h
 obtain⟨cl,hclos,q2,q3⟩:=QT (aj:=X.env) (scope:=scope) λy hy e=>I.ok.has y.1 (B.free y hy e)
 rw[eval_ListComp];refine XR (use:=ak) rfl hs hclos B.kind B.names (bR (hi ao s σ H _ I h) λv s1 h1=>bR h1 λitv s2 aR=>?_)
 obtain⟨it,fp,tn,J,H2,e,I2,TT,st2,f2,q⟩:=aR
 subst e;refine U0 (Q:=λH'=>Q (.ref s2.heap.objs.size) H') (RR:=λcG C=>compPost (model X.prog X.w) X.A X.xe ak (EP X ao σ Q) cG C) B tk hc hin q2 q3 I2 TT st2 f2 (q _ (I2.hok.fresh (cO _))) λC H' s' m I' fC hn qd=>?_
 refine⟨m,hn,λh' sb=>⟨.ref s2.heap.objs.size,H',?_,rfl,qd⟩⟩
 exact I'.turned (t':=s'.toks) (λb o hb e=>(sb.2 b hb).trans e) fC.1 fC.2.1 fC.2.2.2.1 fC.2.2.2.2.1 fC.2.2.2.2.2
theorem abU(B:vf X NT NF js scope)(tk:tV tg NT T)(hc:X.calm=au)(hi:PI X tg iter wi)
  (hin:∀b,qb (X.bk (NT++NF) scope b) ifs (ts b)/\PE (X.bk (NT++NF) scope b) elt (te b))
  (hsw:uG (.ListComp elt [⟨tg,iter,ifs,0⟩] scope pos) (aa (.Name y pos')) spos.line X.env=pure au)
  (hN:X.N.Nodup)(hI:X.N[i]?=aa y)(hy:X.env.scope.names.lookup y=aa .local)
  (hs:∀x,yJ iter X.env x=pure x:=by intro _;rfl):PS X (.Assign [.Name y pos'] (.ListComp elt [⟨tg,iter,ifs,0⟩] scope pos) spos) (An (Nu X.K wi T ts te js) (u6 i)):=by
 intro ao s σ H D I h
 obtain⟨cl,hclos,q2,q3⟩:=QT (aj:=X.env) (scope:=scope) λy hy e=>I.ok.has y.1 (B.free y hy e)
 rw[exec_Assign_Name_used _ _ _ _ hsw];refine aX (yQ (aX ?_));show bu _ X.A (do let _ <-comprehension (.ListComp elt [⟨tg,iter,ifs,0⟩] scope pos) scope X.env _ (newList []) aF (eval iter X.env) (aa (assign (.Name y pos') X.env))) _ _ s;refine aX (zg (XR (use:=aa (assign (.Name y pos') X.env)) (Q:=λ_ s'=>SP X ao D .next s') rfl hs hclos B.kind B.names
  (bR (hi ao s σ H _ I h) λv s1 h1=>bR h1 λitv s2 ⟨it,fp,tn,J,H2,e,I2,TT,st2,f2,q⟩=>?_)) (λ_ s' hq=>cj (cj hq)) λ_ _ e=>e)
 subst e;refine U0 (Q:=λH'=>D.nx (σ.set i (aa (.ref s2.heap.objs.size))) H') (RR:=λcG C=>compPost (model X.prog X.w) X.A X.xe (aa (assign (.Name y pos') X.env)) (λ_ s'=>SP X ao D .next s') cG C) B tk hc hin q2 q3 I2 TT st2 f2 (q _ (I2.hok.fresh (cO _))) λC H' s' m I' fC hn qd=>?_
 show bu _ X.A (assign (.Name y pos') X.env (.ref s2.heap.objs.size)) _ _ _;refine Ho (Q8 I' hN hI (.inl hy) (v:=.ref s2.heap.objs.size) rfl (λs3 I3 aR=>?_) (.inr hy))
 obtain⟨a,sb,ha⟩:=aR
 have hCa:C≠a:=by
  rcases ha with z|z
  .rw[z];exact fC.2.1
  .exact λw=>fC.2.2.2.2.1 y a z w.symm
 refine⟨m,hn.sameBut sb hCa,λh' sb'=>⟨_,H',?_,qd⟩⟩
 exact I3.turned (t':=s3.toks) (λb o hb e=>(sb'.2 b hb).trans e) fC.1 fC.2.1 fC.2.2.2.1 fC.2.2.2.2.1 fC.2.2.2.2.2
end
def Nv(z:Str):It:=⟨λi _=>i<z.cps.size,λi H x H'=>H'=H/\∃c,z.cps[i]?=aa c/\x=.str ⟨#[c]⟩,λi _=>z.cps.size<=i⟩
theorem abV{P:bI}{w:bC}{K:aJ}{tg:Expr}{z:Str}{t:Tok}{ty:String}{it:aq}(hty:ty="str_ascii_iterator"\/ty="str_iterator")(hgo:∀i u,um tg i u=pure ()):
  Turn P w K tg (Nv z) [it] it (λi h=>h.IsStrIter it ty z t i) where
 mem:=bz
 obj:=λi h st b hb=>by
  have e:b=it:=by simpa using hb
  subst e
  obtain⟨o,e,c,d⟩:=st
  exact⟨o,e,λv q=>by rw[d] at q;cases q⟩
 keep:=λi h h' st k=>let ⟨o,ho,r⟩:=st;⟨o,k it bz o ho,r⟩
 item:=by
  intro X hP hw hK hc i ao s σ H E I hf st hg;subst hP hw hK
  obtain⟨f0,f1,f2,f3,f4,f5⟩:=hf it bz
  have hi:i<z.cps.size:=hg;have W:Walks X.prog X.w X.A it [it] [it] z.cps.size (SignAt z) (λi h=>h.IsStrIter it ty z t i):=by
   rcases hty with rfl|rfl
   .exact Walks.strAscii (I.ok.hd hc) it z t
   .exact Walks.strWide (I.ok.hd hc) it z t
  refine W.item i s _ _ hi st λv h' tk hv st' kk=>?_
  obtain⟨c,u,hc',rfl⟩:=hv
  have I1:Inv X ao σ H {s with heap:=h',toks:=tk}:=I.turned (λb o hb e=>kk b o (by simpa using hb) e) f0 f1 f3 f4 f5
  refine⟨_,rfl,?_⟩
  rw[hgo];exact cj ⟨.str ⟨#[c]⟩,H,I1,⟨u,rfl⟩,⟨rfl,c,hc',rfl⟩,st',λb hb=>(hf b hb).1⟩
 done:=by
  intro X hP hw hK hc i ao s σ H E I hf st hg;subst hP hw hK
  obtain⟨f0,f1,f2,f3,f4,f5⟩:=hf it bz
  have hi:z.cps.size<=i:=hg;rcases hty with rfl|rfl
  .exact wpAny_pyNext_ascii_end (I.ok.hd hc) st (by simpa using hi) λh' eb=>⟨rfl,I.turned (t':=s.toks) (λb o hb e=>eb b o hb e) f0 f1 f3 f4 f5⟩
  .exact wpAny_pyNext_wide_end (I.ok.hd hc) st (by simpa using hi) λh' eb=>⟨rfl,I.turned (t':=s.toks) (λb o hb e=>eb b o hb e) f0 f1 f3 f4 f5⟩
 self:=λ_ _ _ _ _ st h=>by
  rcases hty with rfl|rfl
  .exact wpAny_pyIter_striter_ascii st h
  .exact wpAny_pyIter_striter_wide st h
section
variable{X:Cx}{tg:Expr}
def agX(tl:TE):TI:=λσ H R=>tl σ H λx H1=>∃z,x=.str z/\R (Nv z) H1
theorem U3{l:Expr}{tl:TE}(hl:PE X l tl)(hgo:∀i u,um tg i u=pure ():=by intro _ _;rfl):PI X tg l (agX tl):=by
 intro ao s σ H R I h;refine bR (hl ao s σ H _ I h) λv s1 aR=>?_
 obtain⟨x,H1,I1,r1,q1⟩:=aR
 obtain⟨z,e,q⟩:=q1
 subst e
 obtain⟨t,rfl⟩:=r1
 have fin:∀(o:Obj)(ty:String),(ty="str_ascii_iterator"\/ty="str_iterator")->Heap.IsStrIter (s1.heap.push o) s1.heap.objs.size ty z t 0->PIE X ao σ tg R (.ref s1.heap.objs.size) {s1 with heap:=s1.heap.push o}:=λo ty hty st=>by
  refine⟨s1.heap.objs.size,[s1.heap.objs.size],_,_,H1,rfl,I1.kept (t':=s1.toks) λb o e=>cA _ e,abV hty hgo,st,λb hb=>?_,q⟩
  have e:b=s1.heap.objs.size:=by simpa using hb
  subst e;exact I1.qY (cO _) (I1.hok.fresh (cO _))
 cases ha:z.cps.all (·<128)
 .exact wpAny_pyIter_wide ha (fin _ _ (.inr rfl) ⟨_,gY _ rfl,rfl,rfl⟩)
 .exact wpAny_pyIter_ascii ha (fin _ _ (.inl rfl) ⟨_,gY _ rfl,rfl,rfl⟩)
theorem abh:cz X (dm .LtE) (λx y H Q=>∃i j,x=.str i/\y=.str j/\Q (.bl (!(decide (j.cps.toList<i.cps.toList)))) H):=by
 intro ao s σ H x y v u Q I rx ry h
 obtain⟨i,j,rfl,rfl,q⟩:=h
 obtain⟨t,rfl⟩:=rx
 obtain⟨t',rfl⟩:=ry
 exact PySem.P.le_str (eF I q rfl)
theorem QW:∀{ys:List Str}{us:List aA},Vals (ys.map V.str) us->StrsAre us ys
 |[],_,h=>by cases h;exact .nil
 |y::ys,_,h=>by
  cases h with
  |cons r rr=>
   obtain⟨t,rfl⟩:=r
   exact .cons y t (QW rr)
theorem adb:tZ X "str.join" (λx xs H Q=>∃z p ys,x=.str z/\xs=[.ref p]/\bL X.K H p (ys.map V.str)/\(ys.map (·.length)).sum+ys.length*z.length<=16777216/\Q (.str (Txt.join z ys)) H):=by
 intro ao s σ H x xs v us Q I rx r h
 obtain⟨z,p,ys,rfl,rfl,hp,hz,q⟩:=h
 obtain⟨t,rfl⟩:=rx
 obtain⟨u,rfl,ru⟩:=vals1 r
 cases ru
 obtain⟨aD,rv,pl,_⟩:=I.list hp
 exact join_list pl.isList (by simpa using QW rv) hz λt' k=>⟨.str _,H,I.tok _,⟨_,rfl⟩,q⟩
end
section
variable{X:Cx}
theorem part_of(h:pO v o):∃l:Option (Int×Tok),v=partValue l/\l.map (·.1)=o:=by
 cases h with
 |none=>exact⟨ak,rfl,rfl⟩
 |int i t=>exact⟨aa (i,t),rfl,rfl⟩
theorem aeN:rA X (λx lo hi H Q=>∃z,x=.str z/\z.length<=bQ/\Q (.str (Txt.slice z lo hi)) H):=by
 intro ao s σ H x v vl vu lo hi sl Q I rx hs pl pu h
 obtain⟨z,rfl,hz,q⟩:=h
 obtain⟨t,rfl⟩:=rx
 obtain⟨l,rfl,rfl⟩:=part_of pl
 obtain⟨u,rfl,rfl⟩:=part_of pu
 refine⟨"str",_,F.slot_str_getitem.lookup,wN s z t,?_⟩
 exact wpAny_getItem_str_slice (l:=l) (u:=u) (st:=ak) hs rfl (post_val_or_str ⟨kI (Txt.slice_le z _ _) hz,λt' k=>⟨.str _,H,I.tok _,⟨t',rfl⟩,q⟩⟩)
def vD(z:Str)(n:Nat):Str:=⟨(cM n z.cps).foldl (·++·) #[]⟩
theorem CG:cz X (kO .Mult) (λx y H Q=>∃z n,x=.str z/\y=.int n/\2<=n/\1<=z.length/\z.length*n.toNat<=bQ/\(vD z n.toNat).length<=bQ/\Q (.str (vD z n.toNat)) H):=by
 intro ao s σ H x y v u Q I rx ry h
 obtain⟨z,n,rfl,rfl,hn,hz0,hz,hz2,q⟩:=h
 obtain⟨t,rfl⟩:=rx
 obtain⟨t',rfl⟩:=ry
 have hl:=sO;have h1:n.toNat<=z.length*n.toNat:=Nat.le_mul_of_pos_left _ hz0;have hsl:bQ=16777216:=m6;have aiV:n<2^63:=aP;refine Zv (by simp;lia) (λ_ _=>?_) (λ_ _=>by unfold aiA;simpa using hz) ?_
 .have h2:(z.length:Int)*n<=2^63-1:=by
   have:((z.length*n.toNat:Nat):Int)<=(bQ:Nat):=by exact_mod_cast hz
   rw[Int.natCast_mul,Ys aP] at this;lia
  intro hgt;have h3:(2^63-1) / n<(z.length:Int):=hgt;have h4:=(Int.ediv_lt_iff_lt_mul (by lia:(0:Int)<n)).mp h3;lia
 .rw[bK aP,bK (by
   intro hb;rw[PX] at hb;rcases hb with hb|hb
   .have:=eq_of_beq hb;lia
   .have:=eq_of_beq hb;lia)]
  exact⟨hz2,⟨.str _,H,I.tok _,⟨_,rfl⟩,q⟩⟩
theorem RL:∀{bs:List Bool}{us:List aA},Vals (bs.map V.bl) us->us=bs.map pJ
 |[],_,h=>by cases h;rfl
 |b::bs,_,h=>by
  cases h with
  |cons r rr=>
   cases r;rw[RL rr];rfl
theorem Jq(hc:X.calm=au):iz X (.builtin "all") (λxs H Q=>∃(p:aq)(bs:List Bool),xs=[.ref p]/\bL X.K H p (bs.map V.bl)/\Q (.bl (bs.all id)) H):=by
 intro ao s σ H xs us Q I r h
 obtain⟨p,bs,rfl,hp,q⟩:=h
 obtain⟨u,rfl,ru⟩:=vals1 r
 cases ru
 obtain⟨aD,rv,pl,_⟩:=I.list hp
 have hl:=pl.isList;have e0:=RL rv;subst e0;have hlt:p<s.heap.objs.size:=by obtain⟨_,e,_⟩:=hl;exact b8 e
 refine call_all_walk (Hq hl ?_)
 refine⟨s.heap.objs.size,[s.heap.objs.size,p],[s.heap.objs.size],(bs.map pJ).toArray.size,_,_,λi=>(bs[i]?).getD au,rfl,Walks.list (A:=X.A.in1) (I.ok.hd hc) _ p (iY hlt) (bs.map pJ).toArray,
  ⟨⟨_,gY _ rfl,rfl,rfl⟩,hl.push _⟩,λi v s' Q' E' hP hQ=>?_,λh' tk hk=>?_⟩
 .have hP':(bs.map pJ)[i]?=aa v:=by simpa using hP
  rw[jy] at hP';cases e:bs[i]? with
  |none=>rw[e] at hP';cases hP'
  |some b=>
   rw[e] at hP';cases hP';simp only[e,Zf] at hQ;exact rK hQ
 .have e:((wL (bs.map pJ).toArray.size).all λi=>(bs[i]?).getD au)=bs.all id:=by
   have:(bs.map pJ).toArray.size=bs.length:=bz;rw[this,pF,iW,iW];constructor
   .intro h b hb
    obtain⟨i,hi,rfl⟩:=Yt hb
    have:=h i (Qd.mpr hi);simpa[rG hi] using this
   .intro h i hi;have hi':=Qd.mp hi;simp only[rG hi',Zf];exact h _ (Zg hi')
  rw[e]
  refine⟨.bl _,H,I.kept λb x e=>hk b x (λhm=>?_) (cA _ e),rfl,q⟩
  rw[gZ.mp hm] at e;exact ux _ (b8 e)
end
mutual
def RD(K:aJ)(H:Hp):az->V->Prop
 |.none,v=>v=.non
 |.bool b,v=>v=.bl b
 |.int i,v=>v=.int i
 |.str x,v=>v=.str x
 |.tuple ds,v=>∃a vs,v=.ref a/\bO K H a vs/\lV K H ds vs
 |.list ds,v=>∃a vs,v=.ref a/\bL K H a vs/\lV K H ds vs
 |.dict _,_=>False
def lV(K:aJ)(H:Hp):List az->List V->Prop
 |[],vs=>vs=[]
 |d::ds,vs=>∃v r,vs=v::r/\RD K H d v/\lV K H ds r
end
mutual
theorem RD.nodict{K:aJ}{H:Hp}:∀{d:az}{v:V},RD K H d v->d.hasDict=aF
 |.none,_,h=>by simp[yP]
 |.bool _,_,h=>by simp[yP]
 |.int _,_,h=>by simp[yP]
 |.str _,_,h=>by simp[yP]
 |.tuple ds,v,h=>by
  obtain⟨a,vs,e1,q,r⟩:=h
  simpa[yP] using lV.nodict r
 |.list ds,v,h=>by
  obtain⟨a,vs,e1,q,r⟩:=h
  simpa[yP] using lV.nodict r
theorem lV.nodict{K:aJ}{H:Hp}:∀{ds:List az}{vs:List V},lV K H ds vs->Pk ds=aF
 |[],_,h=>by simp[Pk]
 |d::ds,vs,h=>by
  obtain⟨v,r,e1,q,t⟩:=h
  simp[Pk,RD.nodict q,lV.nodict t]
end
section
variable{X:Cx}{ao:List (aq×Obj)}{σ:St}{H:Hp}{s:aH}
mutual
theorem RD.reads(I:Inv X ao σ H s):∀{d:az}{v:V}{u:aA},RD X.K H d v->RelV v u->∃as,Reads s.heap u d as
 |.none,_,_,h,r=>by
  cases(show _=V.non from h)
  cases r
  exact⟨_,.none⟩
 |.bool b,_,_,h,r=>by
  cases(show _=V.bl b from h)
  cases r
  exact⟨_,.bool b⟩
 |.int i,_,_,h,r=>by
  cases(show _=V.int i from h)
  obtain⟨t,rfl⟩:=r
  exact⟨_,.int i t⟩
 |.str x,_,_,h,r=>by
  cases(show _=V.str x from h)
  obtain⟨t,rfl⟩:=r
  exact⟨_,.str x t⟩
 |.tuple ds,v,u,h,r=>by
  obtain⟨a,vs,e1,q,t⟩:=h
  subst e1;cases r
  obtain⟨aD,rv,⟨o,e,c,n,d⟩,_⟩:=I.tuple q
  obtain⟨as,R⟩:=lV.reads I t rv
  exact⟨_,.tuple e c d (by simpa using R)⟩
 |.list ds,v,u,h,r=>by
  obtain⟨a,vs,e1,q,t⟩:=h
  subst e1;cases r
  obtain⟨aD,rv,⟨o,n,e,c,_,d⟩,_⟩:=I.list q
  obtain⟨as,R⟩:=lV.reads I t rv
  exact⟨_,.list e c d (by simpa using R)⟩
theorem lV.reads(I:Inv X ao σ H s):∀{ds:List az}{vs:List V}{us:List aA},lV X.K H ds vs->Vals vs us->∃as,ReadsAll s.heap us ds as
 |[],_,_,h,r=>by
  cases(show _=[] from h)
  cases r
  exact⟨_,.nil⟩
 |d::ds,vs,us,h,r=>by
  obtain⟨v,rr,e1,q,t⟩:=h
  subst e1;cases r with
  |cons r1 r2=>
   obtain⟨as,R⟩:=RD.reads I q r1
   obtain⟨bs,R2⟩:=lV.reads I t r2
   exact⟨_,.cons R R2⟩
end
end
section
variable{X:Cx}
end
def U4(lW:jj)(N0 NT NF:List Str)(js:List Nat)(scope:jj):Bool:=
 scope.kind==.function&&scope.names.all (λy=>!(y.2==.local)||scope.names.lookup y.1==some .local)&&scope.names.all (λy=>!(y.2==.cell))&&
  scope.names.all (λy=>!(y.2==.free)||(lW.names.lookup y.1==aa .cell||lW.names.lookup y.1==aa .free))&&js.length==NF.length&&
  (js.zip NF).all (λp=>N0[p.1]?==aa p.2&&scope.names.lookup p.2==aa .free)&&NT.all (λx=>scope.names.lookup x==aa .local)&&decide (NT++NF).Nodup
theorem pZ.ok(h:U4 lW N0 NT NF js scope=au)(ho:X.env.scope=lW)(hN:X.N=N0):vf X NT NF js scope:=by
 unfold U4 at h;simp only[fU] at h
 obtain⟨⟨⟨⟨⟨⟨⟨h1,h2⟩,h3⟩,h4⟩,h5⟩,h6⟩,h7⟩,h8⟩:=h
 refine⟨eq_of_beq h1,λy hy e=>?_,λy hy e=>?_,λy hy e=>?_,by simpa using h5,λk j x ej ex=>?_,λx hx=>?_,of_decide_eq_true h8⟩
 .have:=iW.mp h2 y hy;rw[e] at this;simpa using this
 .have:=iW.mp h3 y hy;rw[e] at this;simp at this
 .have:=iW.mp h4 y hy;rw[e] at this;rw[ho];simpa using this
 .have hm:(j,x)∈js.zip NF:=by
   have:(js.zip NF)[k]?=aa (j,x):=by
    rw[List.getElem?_zip_eq_some]
    exact⟨ej,ex⟩
   exact nW this
  have:=iW.mp h6 _ hm;simp only[fU] at this;rw[hN]
  exact⟨eq_of_beq this.1,eq_of_beq this.2⟩
 .exact eq_of_beq (iW.mp h7 x hx)
structure dh(P:bI)(w:bC)(K:aJ)(mg:Str->Option aA)(base:bw)(x:Str)(k:Nat)(ps:List Str)(sp:Sp):Prop where
 ex:∃(f:aq)(fd:di),mg x=aa (.ref f)/\ur K (.ref f)=au/\Binds K fd ps []/\dI P w K mg base dN k f fd ps sp
section
variable{X:Cx}{x:Str}{k:Nat}{ps:List Str}{sp:Sp}{p pos:Pos}{e:Expr}{es:List Expr}{t:TA}
theorem af4(F:dh X.prog X.w X.K X.mg X.base x k ps sp)(hr:gR k X.A)(hg:Gl X x)(ha:PA X (e::es) t)(hdb:(x==("__debug__":Str))=aF:=by decide)
  (he:bG (e::es) X.env=(aF,eval e X.env)::bG es X.env:=by rfl)(hpl:(gb pos (bG es X.env)).any (·.1)=aF:=by rfl):
  PE X (.Call (.Name x p) (e::es) [] pos) (Mh sp [] E0 t):=by
 obtain⟨f,fd,h1,h2,h3,h4⟩:=F.ex
 exact acY h4 hr hg h1 h2 h3 .nil af1 ha hdb he hpl
theorem aaq:iz X (.builtin "isinstance") (λxs H Q=>∃x n t b,xs=[x,.ty n]/\jK X.K H x t/\wB X.K t (.type n)=aa b/\Q (.bl b) H):=by
 intro ao s σ H xs us Q I r h
 obtain⟨x,n,t,b,rfl,ty,e,q⟩:=h
 obtain⟨u,u2,rfl,r1,r2⟩:=vals2 r
 cases r2;exact aa5 I r1 ty e λtk=>⟨.bl b,H,I.tok tk,rfl,q⟩
end
section
variable{K:aJ}{T:iT}{J:It}{n:Nat}{vs:Nat->List V}{G:Hp->Prop}{ts:TT}{te:TE}{fs:St}{H1:Hp}{D:aq}{done:Hp->Prop}
end
section
variable{K:aJ}{T:iT}{J:It}{n:Nat}{vs:Nat->List V}{G:Hp->Prop}{te:TE}{fs:St}{H1:Hp}{D:aq}{done:Hp->Prop}
end
section
variable{X:Cx}
theorem tZ.r{id:String}{r:V->List V->Hp->VK->Prop}(h:tZ X id r):yr X id r:=h
end
theorem bN.upd(h:H p=ak):bN H (L2.upd H p o):=λb u e=>by rw[cR (pK e h)];exact e
section
variable{X:Cx}{NT NF:List Str}{js:List Nat}{elt kx vx tg iter e:Expr}{ifs:List Expr}{T:iT}{wi:TI}{ts:Bk->TT}{te tk' tv:Bk->TE}{scope:jj}{pos:Pos}
end
section
variable{X:Cx}
theorem ade{K:aJ}{t:aA}{c d:aA}{p q:Bool}(e1:wB K t c=aa p)(e2:wB K t d=aa q):HJ K t [c,d]=aa (p||q):=by
 unfold HJ;rw[e1];cases p with
 |true=>rfl
 |false=>
  unfold HJ;rw[e2];cases q with
  |true=>rfl
  |false=>rfl
end
section
variable{K:aJ}{T:iT}{J:It}{n:Nat}{vs:Nat->List V}{G:Hp->Prop}{ts:TT}{te:TE}{fs:St}{H1:Hp}{D:aq}{done:Hp->Prop}
end
theorem Inv.qD{X:Cx}{ao:List (aq×Obj)}{σ:St}{H H':Hp}{s:aH}{h':bw}{t':Nat}{ch:List aq}(I:Inv X ao σ H s)(k:∀b o,b∉ch->s.heap.get? b=aa o->h'.get? b=aa o)(hf:∀b∈ch,jk X ao H b)
  (hs:bN H H')(hfr:∀b o,s.heap.get? b=aa o->H b=ak->H' b=ak)(hn:∀b u,H' b=aa u->H b=aa u\/dU X.prog X.w H' h' b u):Inv X ao σ H' {s with heap:=h',toks:=t'}:=by
 have Bm:∀b u,H b=aa u->b∉ch:=λb u e z=>by rw[(hf b z).1] at e;cases e
 refine I.step (g':=s.gens) (d':=s.drawn) (ch:=ch) (λb hb=>⟨(hf b hb).2.2.2.1,(hf b hb).2.1,(hf b hb).2.2.2.2.1,(hf b hb).2.2.2.2.2⟩) (λb o _ _ hc e _=>k b o hc e) (λb o _ _ hc e _=>⟨o.slots,k b o hc e⟩) (λb o _ e n=>hfr b o e n)
  (λb o hc e=>⟨o,k b o hc e⟩) (λ_ _ e=>hs _ _ e) (λ_ _ _ e=>hs _ _ e) (λb ps e=>⟨#[],by rw[hs _ _ e];simp⟩) (λm hm=>?_) (λb u e=>?_) I.bare
 .obtain⟨o,es,ep,ho,r⟩:=hm
  exact⟨o,es,ep,k _ o (λz=>(hf _ z).2.1 rfl) ho,r⟩
 .rcases hn b u e with z|z
  .refine(I.hok b u z).stay (λc v hc q=>k c v ?_ q) (λ_ q=>hs _ _ q) λ_ _ q=>hs _ _ q
   rcases hc with y|y
   .rw[y];exact Bm b u z
   .exact Bm c _ y
  .exact z
def Nx(K:aJ)(a b:aq):It:=⟨λi H=>∃xs ys,bL K H a xs/\bL K H b ys/\i<min xs.length ys.length,
 λi H v H'=>∃p x y,H p=ak/\v=.ref p/\H'=upd H p (.tup [x,y])/\∀xs ys,bL K H a xs->bL K H b ys->xs[i]?=aa x/\ys[i]?=aa y,
 λi H=>∃xs ys,bL K H a xs/\bL K H b ys/\i=min xs.length ys.length⟩
theorem abW{P:bI}{w:bC}{K:aJ}{es:List Expr}{k:Nat}{ps:Pos}{a b z TI TO i1 i2:aq}(D:zA z TI TO i1 i2 a b):
  Turn P w K (.Tuple es k ps) (Nx K a b) [z,TI,TO,i1,i2] z (λi h=>jH h z TI TO .none/\gQ h TI (.ref i1) (.ref i2)/\(∃c d,gQ h TO c d)/\h.IsListIter i1 a i/\h.IsListIter i2 b i) where
 mem:=bz
 obj:=λi h st c hc=>by
  obtain⟨h1,h2,⟨_,_,h3⟩,⟨o4,e4,_,d4⟩,⟨o5,e5,_,d5⟩⟩:=st
  simp only[cD,gF,or_false] at hc;rcases hc with rfl|rfl|rfl|rfl|rfl
  .exact⟨_,h1,λv q=>by cases q⟩
  .exact⟨_,h2,λv q=>by cases q⟩
  .exact⟨_,h3,λv q=>by cases q⟩
  .exact⟨_,e4,λv q=>by rw[d4] at q;cases q⟩
  .exact⟨_,e5,λv q=>by rw[d5] at q;cases q⟩
 keep:=λi h h' st kk=>by
  obtain⟨h1,h2,⟨c,d,h3⟩,h4,h5⟩:=st
  exact⟨kk z bz _ h1,kk TI bz _ h2,⟨c,d,kk TO bz _ h3⟩,h4.at λo e=>kk i1 bz o e,h5.at λo e=>kk i2 bz o e⟩
 item:=by
  intro X hP hw hK hc i ao s σ H E I hf st hg;subst hP hw hK
  obtain⟨xs,ys,ha,hb,hi⟩:=hg
  obtain⟨aD,r1,p1,_⟩:=I.list ha
  obtain⟨its2,r2,p2,_⟩:=I.list hb
  have l1:=r1.length;have l2:=r2.length;have W:=aar (prog:=X.prog) (w:=X.w) (A:=X.A) (I.ok.hd hc) z TI TO i1 i2 a b D aD.toArray its2.toArray
  obtain⟨s1,s2,s3,s4,s5⟩:=st
  refine W.item i s _ E (by simp;lia) ⟨s1,s2,s3,s4,s5,p1.isList,p2.isList⟩ λT vals h' tk hv hT ht hm kk=>?_
  obtain⟨x,y,hx,hy,rfl⟩:=hv
  refine⟨_,rfl,W.go es k ps i T _ _ E hm λh2 st2 Xb=>?_⟩
  have gx:xs[i]?=aa (xs.getD i .non):=by
   have:i<xs.length:=aP;simp[wU,this]
  have gy:ys[i]?=aa (ys.getD i .non):=by
   have:i<ys.length:=aP;simp[wU,this]
  obtain⟨u1,hu1,q1⟩:=r1.get gx
  obtain⟨u2,hu2,q2⟩:=r2.get gy
  have ex:u1=x:=by
   have:aD[i]?=aa x:=by simpa using hx
   rw[hu1] at this;exact gG this
  have ey:u2=y:=by
   have:its2[i]?=aa y:=by simpa using hy
   rw[hu2] at this;exact gG this
  subst ex ey;have wf:∀c,c∈[z,TO,i1,i2]->jk X ao H c:=λc hc=>hf c (by simp at hc⊢;rcases hc with rfl|rfl|rfl|rfl<;>simp)
  have pq:H T=ak:=I.hok.fresh hT;have nT:T∉[z,TO,i1,i2]:=W.apart i T _ hm;have kT:h2.get? T=h'.get? T:=by
   obtain⟨o,e,_⟩:=id ht
   rw[Xb T o nT e];exact e.symm
  obtain⟨oT,eT,cT,nT',dT⟩:=id ht
  refine⟨.ref T,upd H T (.tup [xs.getD i .non,ys.getD i .non]),I.qD (λc o hc e=>Xb c o hc (kk c o hc e)) wf (bN.upd pq) (λc o e n=>?_) (λc u e=>?_),rfl,⟨T,_,_,pq,rfl,rfl,λxs' ys' h1 h2=>?_⟩,?_,λc hc=>?_⟩
  .rw[cR]
   .exact n
   .intro z;subst z;exact absurd (b8 e) (uE.mpr hT)
  .by_cases pA:c=T
   .subst pA;rw[fL] at e;cases e;refine .inr ⟨by show 2<=bQ;decide,[u1,u2],.cons q1 (.cons q2 .nil),oT,kT.trans eT,cT,nT',by simpa using dT⟩
   .rw[cR pA] at e;exact .inl e
  .rw[I.zx h1 ha,I.zx h2 hb]
   exact⟨gx,gy⟩
  .exact⟨st2.1,st2.2.1,st2.2.2.1,st2.2.2.2.1,st2.2.2.2.2.1⟩
  .rw[cR]
   .exact(hf c hc).1
   .intro z;subst z
    obtain⟨o,e,_⟩:∃o,s.heap.get? c=aa o/\True:=by
     simp only[cD,gF,or_false] at hc
     obtain⟨c1,d1,s3⟩:=s3
     obtain⟨o4,e4,_⟩:=s4
     obtain⟨o5,e5,_⟩:=s5
     rcases hc with rfl|rfl|rfl|rfl|rfl
     .exact⟨_,s1,trivial⟩
     .exact⟨_,s2,trivial⟩
     .exact⟨_,s3,trivial⟩
     .exact⟨_,e4,trivial⟩
     .exact⟨_,e5,trivial⟩
    exact absurd (b8 e) (uE.mpr hT)
 done:=by
  intro X hP hw hK hc i ao s σ H E I hf st hg;subst hP hw hK
  obtain⟨xs,ys,ha,hb,hi⟩:=hg
  obtain⟨aD,r1,p1,_⟩:=I.list ha
  obtain⟨its2,r2,p2,_⟩:=I.list hb
  have l1:=r1.length;have l2:=r2.length;have W:=aar (prog:=X.prog) (w:=X.w) (A:=X.A) (I.ok.hd hc) z TI TO i1 i2 a b D aD.toArray its2.toArray
  obtain⟨s1,s2,s3,s4,s5⟩:=st
  have e:i=min aD.toArray.size its2.toArray.size:=by simp;lia
  subst e;refine W.done s _ E ⟨s1,s2,s3,s4,s5,p1.isList,p2.isList⟩ λh' tk kk=>⟨rfl,?_⟩
  have wf:∀c,c∈[z,TO,i1,i2]->jk X ao H c:=λc hc=>hf c (by simp at hc⊢;rcases hc with rfl|rfl|rfl|rfl<;>simp)
  exact I.qD kk wf (bN.refl H) (λ_ _ _ n=>n) λ_ _ e=>.inl e
 self:=λ_ _ _ _ _ st h=>yL st.1 h
def agY(K:aJ)(t:TA):TI:=λσ H R=>t σ H λvs H1=>∃a b xs ys,vs=[.ref a,.ref b]/\bL K H1 a xs/\bL K H1 b ys/\R (Nx K a b) H1
theorem aeO{X:Cx}{es:List Expr}{k:Nat}{ps:Pos}{x y:Expr}{t:TA}{p pos:Pos}(hg:Gl X "zip")(hm:X.mg "zip"=ak)(ha:PA X [x,y] t)(hs:bG [x,y] X.env=[(aF,eval x X.env),(aF,eval y X.env)]:=by rfl)(hs2:bG [y] X.env=[(aF,eval y X.env)]:=by rfl):
  PI X (.Tuple es k ps) (.Call (.Name "zip" p) [x,y] [] pos) (agY X.K t):=by
 intro ao s σ H R I h;refine Call_ (sH I hg hm O3 (yG (bR (ha pos ao s σ H _ I h) λus s1 aR=>?_) (by rw[hs,hs2]) (by rw[hs2];rfl)))
 obtain⟨vs,H1,I1,r1,q1⟩:=aR
 obtain⟨a,b,xs,ys,e,h1,h2,q⟩:=q1
 subst e;cases r1 with
 |cons r rr=>
  cases rr with
  |cons r' rr=>
   cases rr;cases r;cases r'
   obtain⟨aD,v1,p1,_⟩:=I1.list h1
   obtain⟨its2,v2,p2,_⟩:=I1.list h2
   have Bs:a<s1.heap.objs.size:=by obtain⟨_,e,_⟩:=p1.isList;exact b8 e
   have t6:b<s1.heap.objs.size:=by obtain⟨_,e,_⟩:=p2.isList;exact b8 e
   refine call_zip_2 p1.isList p2.isList λh' g1 g2 g3 g4 g5 hsz kk=>?_
   refine yL g1 ?_;have I2:Inv X ao σ H1 {s1 with heap:=h'}:=I1.kept (t':=s1.toks) kk
   refine⟨s1.heap.objs.size+4,[s1.heap.objs.size+4,s1.heap.objs.size+2,s1.heap.objs.size+3,s1.heap.objs.size,s1.heap.objs.size+1],_,_,H1,rfl,I2,abW (zipApart_new Bs t6),⟨g1,g2,⟨_,_,g3⟩,g4,g5⟩,λc hc=>?_,q⟩
   refine I1.qY ?_ (I1.hok.fresh ?_)
   all_goals
    simp only[cD,gF,or_false] at hc;rcases hc with rfl|rfl|rfl|rfl|rfl<;>lia
theorem aaG(I:Inv X ao σ H s)(rx:RelV x u)(ty:jK X.K H x t)(e:HJ X.K t aD=aa b)
  (hc:s.heap.IsTuple c aD.toArray)(h:∀tk,Q (.bool b) {s with toks:=tk}):bu (model X.prog X.w) A (call (.builtin "isinstance") [u,.ref c]) Q E s:=by
 obtain⟨⟨oc,od,oda,osl⟩,g1,g2,g3,g4⟩:=hc
 simp only at g2 g4;subst g2 g4;cases ty with
 |non=>cases(show u=qt from rx);exact pH YT I.fZ mC g1 e (λz=>nomatch z) h
 |bl y=>cases(show u=pJ y from rx);exact pH YW I.fZ mC g1 e (λz=>nomatch z) h
 |int i=>obtain⟨t,q⟩:=(show ∃t,u=CZ i t from rx);cases q;exact pH Za I.fZ mC g1 e (λz=>nomatch z) h
 |str y=>obtain⟨t,q⟩:=(show ∃t,u=Dc y t from rx);cases q;exact pH Zb I.fZ mC g1 e (λz=>nomatch z) h
 |flt y=>obtain⟨t,q⟩:=(show ∃t,u=Qy y t from rx);cases q;exact pH YD I.fZ mC g1 e (λz=>nomatch z) h
 |@lst a xs ea=>
  cases(show u=iZ a from rx)
  obtain⟨_,_,n,_,h1⟩:=(show dU X.prog X.w H s.heap a (.lst xs) from I.hok a _ ea)
  exact pH Hr I.fZ ⟨_,h1,rfl⟩ g1 e (λz=>nomatch z) h
 |@j5 a ob xs ea=>
  cases(show u=iZ a from rx)
  obtain⟨_,_,_,n,_,h1⟩:=(show dU X.prog X.w H s.heap a (.j5 ob (.lst xs)) from I.hok a _ ea)
  exact pH Hr I.fZ ⟨_,h1,rfl⟩ g1 e (λz=>nomatch z) h
 |@tup a xs ea=>
  cases(show u=iZ a from rx)
  obtain⟨_,_,_,p⟩:=(show dU X.prog X.w H s.heap a (.tup xs) from I.hok a _ ea)
  obtain⟨o,h1,h2,_⟩:=p
  exact pH YF I.fZ ⟨o,h1,h2⟩ g1 e (λz=>nomatch z) h
 |@dK a aC epo ea=>
  cases(show u=iZ a from rx)
  obtain⟨_,_,vs,_,p⟩:=(show dU X.prog X.w H s.heap a (.dK aC epo) from I.hok a _ ea)
  obtain⟨o,es,h1,h2,_⟩:=p
  exact pH Hs I.fZ ⟨o,h1,h2.1⟩ g1 e (λz=>nomatch z) h
 |@dT a aC epo ea=>
  cases(show u=iZ a from rx)
  obtain⟨_,_,xs,_,o,es,h1,h2,_⟩:=(show dU X.prog X.w H s.heap a (.dT aC epo) from I.hok a _ ea)
  exact pH Hs I.fZ ⟨o,h1,h2.1⟩ g1 e (λz=>nomatch z) h
 |@ins a C dx fs ea cl ha hn htk hm=>
  cases(show u=iZ a from rx)
  obtain⟨mA,O,_⟩:=Tj I.hok ea
  obtain⟨od,J,_⟩:=O.look
  exact pH (Zc (cl.get _) cl.hd ha hn htk hm) I.fZ J g1 e (λz=>nomatch z) h
theorem Z9:iz X (.builtin "isinstance") (λxs H Q=>∃x c m n t p q,xs=[x,.ref c]/\H c=aa (.tup [.ty m,.ty n])/\jK X.K H x t/\wB X.K t (.type m)=aa p/\wB X.K t (.type n)=aa q/\Q (.bl (p||q)) H):=by
 intro ao s σ H xs us Q I r h
 obtain⟨x,c,m,n,t,p,q,rfl,hc,ty,e1,e2,k⟩:=h
 obtain⟨u,u2,rfl,r1,r2⟩:=vals2 r
 cases r2
 obtain⟨_,aD,rv,ob,g1,g2,g3⟩:=(show dU X.prog X.w H s.heap c (.tup [.ty m,.ty n]) from I.hok c _ hc)
 cases rv with
 |cons a1 rv=>
  cases rv with
  |cons a2 rv=>
   cases rv;cases a1;cases a2;exact aaG I r1 ty (ade e1 e2) ⟨ob,g1,g2,g3⟩ λtk=>⟨.bl (p||q),H,I.tok tk,rfl,k⟩
end L2
namespace L2
open PySem PySem.Spec PyProof.Rows PySem.W
section
variable{N:Nat}{lt:Nat->Nat->Bool}{α β:Type}
end
def kLt:Key->Key->Bool
 |.inl i,.inl j=>decide (i<j)
 |.inr x,.inr y=>decide (x.cps.toList<y.cps.toList)
 |_,_=>aF
def mO:List Key->List Key->Bool
 |a::r,b::t=>if a=b then mO r t else kLt a b
 |_,_=>aF
def gK:Key->Bool
 |.inl _=>au
 |.inr _=>aF
section
variable{prog:bI}{w:bC}{A:b7}{E:aA->aH->Prop}{s:aH}{Q:Bool->aH->Prop}
theorem adf(ht:gK a=gK b):j7 (kV a) (kV b)=decide (a=b):=by
 cases a with
 |inl i=>
  cases b with
  |inr y=>cases ht
  |inl j=>show(i==j)=_;rw[pF];simp
 |inr x=>
  cases b with
  |inl y=>cases ht
  |inr y=>show(x==y)=_;rw[pF];simp
theorem RM(a:Key):jt (kV a)=au:=by cases a<;>rfl
end
section
variable{prog:bI}{w:bC}{A:b7}{E:aA->aH->Prop}{s:aH}{vs:List aA}{κ:SortKind}{lt:Nat->Nat->Bool}{Rl:List Nat->Prop}
end
section
variable{prog:bI}{w:bC}{A:b7}{E:aA->aH->Prop}{s:aH}{d it:aq}{es:Array uH}{ep i:Nat}
end
section
variable{X:Cx}
theorem gR.gm(r:gR k A):A.units+1<gn:=by have:=r.un;lia
end
section
variable{K:aJ}{T:iT}{J:It}{n:Nat}{vs:Nat->List V}{G:Hp->Prop}{ts:TT}{em:TM}{fs:St}{H0 H1:Hp}{D:aq}{done:Hp->Prop}
end
theorem abX(A:b7)(s:aH)(ra:RelV (kV a) u)(rb:RelV (kV b) v)(ht:gK a=gK b):Cz A s u v (decide (a=b)):=by
 rw[<-adf ht];exact K6 ra rb (RM a) (RM b)
theorem RN(A:b7)(s:aH)(ra:RelV (kV a) u)(rb:RelV (kV b) v)(ht:gK a=gK b)(prog:bI)(w:bC)(E:aA->aH->Prop)(Q:aA->aH->Prop)(h:Q (.bool (kLt a b)) s):
  bu (model prog w) A (richCompare .Lt u v) Q E s:=by
 cases a with
 |inl i=>
  cases b with
  |inr y=>cases ht
  |inl j=>
   obtain⟨t,rfl⟩:=ra
   obtain⟨t',rfl⟩:=rb
   exact(lt_int h:bu (model prog w) A (dm .Lt _ _) Q E s)
 |inr x=>
  cases b with
  |inl y=>cases ht
  |inr y=>
   obtain⟨t,rfl⟩:=ra
   obtain⟨t',rfl⟩:=rb
   exact(lt_str h:bu (model prog w) A (dm .Lt _ _) Q E s)
section
open PySem.SeqAt
open PySem.AutoSeq1 (wpAny_loadPart')
open PySem.MeetsSeq PySem.MeetsSeq2 PySem.MeetsSeq3
theorem ZW(l b:aq)(items items2:Array aA)(n n2:Nat)(dd dd2:Option aq)(sl sl2:Array (Option aA))(ns ms:List Key)(hi:Vals (ns.map kV) items.toList)(hj:Vals (ms.map kV) items2.toList)(hty:ns.map gK=ms.map gK):
  Meets (Builtin.«tuple.__lt__» ⟨[.ref l,.ref b],[]⟩)
   (λ_ R s=>s.heap.get? l=aa {cls:=.type "tuple",dict:=dd,data:=.seq items n,slots:=sl}/\s.heap.get? b=aa {cls:=.type "tuple",dict:=dd2,data:=.seq items2 n2,slots:=sl2}/\R (.ok (.ret (.bool (mO ns ms)))) s):=
 .of_wp λprog w A R s h=>by
  obtain⟨hp,g,d,tk,os⟩:=s;obtain⟨hl,hb,h⟩:=h
  have f2:=AutoSeq1.sub_tuple_tuple;have z0:ns.length=ms.length:=by have:=congrArg QB hty;simpa using this
  have z1:items.size=ns.length:=by have:=hi.length;rw[cV] at this;simpa using this.symm
  have z2:items2.size=ms.length:=by have:=hj.length;rw[cV] at this;simpa using this.symm
  wp_walk using wpAny_loadPart' hl,wpAny_loadPart' hb,wpAny_forIn_list _ (λrest b s'=>b.1=ak/\s'=⟨hp,g,d,tk,os⟩/\∃(vs ws:List aA)(ns' ms':List Key),rest=vs.zip ws/\
   Vals (ns'.map kV) vs/\Vals (ms'.map kV) ws/\ns'.map gK=ms'.map gK/\R (.ok (.ret (.bool (mO ns' ms')))) ⟨hp,g,d,tk,os⟩) _
  case turn=>
   rintro⟨y,x⟩ rest b s' ⟨hb',rfl,vs,ws,ns',ms',hz,Gv,hwi,hlen,hR⟩
   cases ns' with
   |nil=>cases Gv;rw[List.zip_nil_left] at hz;cases hz
   |cons a ns'=>
    cases ms' with
    |nil=>cases hlen
    |cons c ms'=>
     cases Gv with
     |cons r1 Wo=>
      cases hwi with
      |cons r2 Wq=>
       rw[YJ] at hz;injection hz with hyx hrest
       injection hyx with hy hx
       subst hy hx;have t1:gK a=gK c:=(Qi hlen).1;have t2:=(Qi hlen).2;unfold mO at hR;refine aX (abX A.in1 ⟨hp,g,d,tk,os⟩ r1 r2 t1 prog w _ _ ?_);by_cases hac:a=c
       .rw[bB hac] at hR;rw[gH hac];wp_walk
        exact⟨rfl,rfl,_,_,_,_,hrest,Wo,Wq,t2,hR⟩
       .rw[bK hac] at hR;rw[lQ hac];have hri:=RN A.in1 ⟨hp,g,d,tk,os⟩ r1 r2 t1 prog w;wp_walk using hri
        exact⟨_,rfl,by simpa using hR⟩
  case fin=>
   rintro⟨b1,b2⟩ s' ⟨hb',rfl,vs,ws,ns',ms',hz,Gv,hwi,hlen,hR⟩
   simp only at hb';subst hb';have hv:mO ns' ms'=decide (items.size<items2.size):=by
    rw[lQ aP];cases ns' with
    |nil=>unfold mO;rfl
    |cons a ns'=>
     cases ms' with
     |nil=>cases hlen
     |cons c ms'=>
      cases Gv with
      |cons r1 Wo=>
       cases hwi with
       |cons r2 Wq=>
        rw[YJ] at hz;cases hz
   rw[hv] at hR;wp_walk
   exact⟨_,rfl,by simpa[aih] using hR⟩
  case h=>
   exact⟨rfl,rfl,items.toList,items2.toList,ns,ms,rfl,hi,hj,hty,h⟩
end
theorem aaH(hl:IsTup s.heap l items)(hb:IsTup s.heap b items2)(hi:Vals (ns.map kV) items.toList)(hj:Vals (ms.map kV) items2.toList)(hty:ns.map gK=ms.map gK)
  (hu:A.units<gn)(h:Q (.bool (mO ns ms)) s):bu (model prog w) A (dm .Lt (.ref l) (.ref b)) Q E s:=by
 obtain⟨⟨cls,dd,data,sl⟩,ho,hc,n,hd⟩:=id hl
 obtain⟨⟨cls2,dd2,data2,sl2⟩,ho2,hc2,n2,hd2⟩:=id hb
 simp only at hc hd hc2 hd2;subst hc hd hc2 hd2;exact richCompare_meets_room (op:=.Lt) ⟨_,ho,rfl⟩ ⟨_,ho2,rfl⟩ PySem.F.slot_tuple_lt PySem.F.entry_tuple_lt (PySem.F.args_tuple_lt_2 _ _) (ZW l b items items2 n n2 dd dd2 sl sl2 ns ms hi hj hty)
  ⟨ho,ho2,show pJ (mO ns ms)≠Value.notImplemented/\Q (.bool (mO ns ms)) s from⟨(λx=>nomatch x),h⟩⟩ hu
mutual
def RX(H:Hp):az->V->Prop
 |.none,v=>v=.non
 |.bool b,v=>v=.bl b
 |.int i,v=>v=.int i
 |.str x,v=>v=.str x
 |.list ds,v=>∃a vs,v=.ref a/\H a=aa (.lst vs)/\rB H ds vs
 |.tuple ds,v=>∃a vs,v=.ref a/\H a=aa (.tup vs)/\rB H ds vs
 |.dict _,_=>False
def rB(H:Hp):List az->List V->Prop
 |[],vs=>vs=[]
 |d::ds,vs=>∃v r,vs=v::r/\RX H d v/\rB H ds r
end
mutual
theorem RX.rd{K:aJ}{H:Hp}:∀{d:az}{v:V},RX H d v->RD K H d v
 |.none,_,h=>h
 |.bool _,_,h=>h
 |.int _,_,h=>h
 |.str _,_,h=>h
 |.list ds,_,h=>by
  obtain⟨a,vs,e,q,r⟩:=h
  exact⟨a,vs,e,bL.of q,rB.rd r⟩
 |.tuple ds,_,h=>by
  obtain⟨a,vs,e,q,r⟩:=h
  exact⟨a,vs,e,bO.of q,rB.rd r⟩
theorem rB.rd{K:aJ}{H:Hp}:∀{ds:List az}{vs:List V},rB H ds vs->lV K H ds vs
 |[],_,h=>h
 |d::ds,vs,h=>by
  obtain⟨v,r,e,q,t⟩:=h
  exact⟨v,r,e,RX.rd q,rB.rd t⟩
end
def Bt:az->aA
 |.none=>.type "NoneType"
 |.bool _=>.type "bool"
 |.int _=>.type "int"
 |.str _=>.type "str"
 |.list _=>.type "list"
 |.tuple _=>.type "tuple"
 |.dict _=>.type "dict"
theorem RX.ty{K:aJ}{H:Hp}{d:az}{v:V}(h:RX H d v):jK K H v (Bt d):=by
 cases d with
 |none=>cases(show v=.non from h);exact .non
 |bool b=>cases(show v=.bl b from h);exact .bl b
 |int i=>cases(show v=.int i from h);exact .int i
 |str x=>cases(show v=.str x from h);exact .str x
 |list ds=>obtain⟨a,vs,rfl,e,_⟩:=h;exact .lst e
 |tuple ds=>obtain⟨a,vs,rfl,e,_⟩:=h;exact .tup e
 |dict ds=>exact(show False from h).elim
section
variable{X:Cx}
theorem aaI(hu:X.A.units<gn):cz X (dm .Lt) (λx y H Q=>∃a b ks js,x=.ref a/\y=.ref b/\H a=aa (.tup (ks.map kV))/\H b=aa (.tup (js.map kV))/\ks.map gK=js.map gK/\Q (.bl (mO ks js)) H):=by
 intro ao s σ H x y v u Q I rx ry h
 obtain⟨a,b,ks,js,rfl,rfl,ha,hb,ht,q⟩:=h
 cases rx;cases ry
 obtain⟨_,aD,r1,p1⟩:=(show dU X.prog X.w H s.heap a (.tup (ks.map kV)) from I.hok a _ ha)
 obtain⟨_,its2,r2,p2⟩:=(show dU X.prog X.w H s.heap b (.tup (js.map kV)) from I.hok b _ hb)
 exact aaH p1 p2 (by simpa using r1) (by simpa using r2) ht hu (eF I q rfl)
theorem QX(hu:X.A.units<gn):cz X (dm .Lt) (λx y H Q=>(∃a b,x=kV a/\y=kV b/\gK a=gK b/\Q (.bl (kLt a b)) H)\/∃a b ks js,x=.ref a/\y=.ref b/\H a=aa (.tup (ks.map kV))/\H b=aa (.tup (js.map kV))/\ks.map gK=js.map gK/\Q (.bl (mO ks js)) H):=by
 refine cz.or ?_ (aaI hu);intro ao s σ H x y v u Q I rx ry h
 obtain⟨a,b,rfl,rfl,ht,q⟩:=h
 exact RN X.A s rx ry ht _ _ _ _ (eF I q rfl)
end
structure Ord(lt:Nat->Nat->Bool):Prop where
 aiW:∀a b,lt a b=au->lt b a=aF
 trans:∀a b c,lt b a=aF->lt c b=aF->lt c a=aF
section
variable{N:Nat}{lt:Nat->Nat->Bool}(O:Ord lt)
abbrev at0(p:Array Nat)(i:Nat):Nat:=p.getD i 0
include O
end
section
variable{X:Cx}
end
abbrev Aq:=List (Option az)
def er(Z:List aq)(H:Hp):Hp:=λb=>if b∈Z then ak else H b
theorem eU(h:er Z H b=aa o):H b=aa o:=by
 unfold er at h;split at h
 .cases h
 .exact h
theorem pU(Z:List aq)(H:Hp):bN (er Z H) H:=λb o h=>eU h
theorem uN(s:bN H H'):bN (er Z H) (er Z H'):=λb o h=>by
 unfold er at h⊢;split at h
 .cases h
 .rename_i n;rw[bK n];exact s _ _ h
theorem aeP(H:Hp):er [] H=H:=by
 funext b;simp[er]
section
variable{Γ:Aq}{K:aJ}
end
end L2
namespace HT
open PySem PySem.Spec PyProof.Rows
section
variable{prog:bI}{w:bC}{A:b7}{E:aA->aH->Prop}{s:aH}
theorem Yu{t sl:aq}{items:Array aA}{vl vu:aA}{lo hi:Option Int}{Q:aA->aH->Prop}(ht:IsTup s.heap t items)(hs:s.heap.IsSliceOf sl vl vu .none)(pl:pO vl lo)(pu:pO vu hi)
  (hw:bT items.size 0 lo=0/\bT items.size items.size hi=items.size)(h:Q (.ref t) s):bu (model prog w) A (rZ (.ref t) (.ref sl)) Q E s:=by
 obtain⟨os,hos,hcs,hds⟩:=id hs
 have hTs:s.TypeIs (.ref sl) "slice":=⟨os,hos,hcs⟩
 unfold rZ
 try with_reducible refine qj ?_
 first|refine aX (cj ?_)|skip
 refine aX (YZ ht.typeIs aO ?_);refine aX (vZ (name:=aB "__getitem__") ht.typeIs G5
  (wj G5 ht.typeIs entry_tuple_getitem ?_ (args_tuple_getitem _ _)))
 show bu _ _ (XJ (.ref t) >>= _) _ _ s;refine aX (tupleItemsOf_ ht ?_);refine aX (Qp hTs ?_);rw[bB aO];refine aX (Px hs pl pu ?_);have hyes:((((bT items.size 0 lo:Nat):Int)==0&&(1:Int)==1&&(bT items.size items.size hi-bT items.size 0 lo)==items.size)=au):=by
  rw[hw.1,hw.2];simp
 show bu _ _ (if(((bT items.size 0 lo:Nat):Int)==0&&(1:Int)==1&&(bT items.size items.size hi-bT items.size 0 lo)==items.size)=au then _ else _) _ _ s;rw[bB hyes];unfold aio;refine aX (aX (Qp ht.typeIs (cj ?_)));rw[bB aO];refine aX (wM ?_);exact cj ⟨_,rfl,cj h⟩
end
end HT
namespace L2
open PySem PySem.Spec PyProof.Rows PySem.W
section
variable{X:Cx}
def agZ(K:aJ):V->Option Int->Option Int->Hp->VK->Prop:=λx lo hi H Q=>∃a xs,x=.ref a/\bO K H a xs/\(oX xs lo hi=xs->Q (.ref a) H)/\∀p,H p=ak->Q (.ref p) (upd H p (.tup (oX xs lo hi)))
theorem adg:rA X (agZ X.K):=by
 intro ao s σ H x v vl vu lo hi sl Q I rx hs pl pu h
 obtain⟨a,xs,rfl,hx,q1,q2⟩:=h
 by_cases hw:HT.bT xs.length 0 lo=0/\HT.bT xs.length xs.length hi=xs.length
 .cases rx
  obtain⟨aD,r,ht,hz⟩:=I.tuple hx
  have hlen:aD.toArray.size=xs.length:=by rw[gw];exact r.length.symm
  refine⟨"tuple",_,PyProof.Rows.slot_tuple_getitem.lookup,ht.typeIs,?_⟩
  refine HT.Yu ht hs pl pu (by rw[hlen];exact hw) ?_
  refine⟨.ref a,H,I,rfl,q1 ?_⟩
  unfold oX;rw[hw.1,hw.2];simp
 .exact aeE ao s σ H _ v vl vu lo hi sl Q I rx hs pl pu ⟨a,xs,rfl,hx,hw,q2⟩
end
end L2
namespace HT
open PySem PySem.Spec PyProof.Rows
open Sem (wp)
open Builtin
end HT
namespace L2
open PySem PySem.Spec PyProof.Rows PySem.W
section
variable{X:Cx}
end
section
variable{Γ:Aq}{K:aJ}
end
section
variable{Γ:Aq}{K:aJ}
end
section
variable{Γ:Aq}{K:aJ}
end
section
variable{X:Cx}
theorem aaJ(hu:X.A.units+64<gn):cz X (dm .NotEq) (λx y H Q=>∃d e,RX H d x/\RX H e y/\lX d=au/\lX e=au/\Q (.bl (!PyData.eqv d e)) H):=by
 intro ao s σ H x y v u Q I rx ry h
 obtain⟨d,e,hd,he,h1,h2,q⟩:=h
 obtain⟨as,ra⟩:=RD.reads I (hd.rd (K:=X.K)) rx
 obtain⟨bs,rb⟩:=RD.reads I (he.rd (K:=X.K)) ry
 exact ne_dataH ra rb h1 h2 hu ⟨.bl _,H,I,rfl,q⟩
end
section
variable{Γ:Aq}{K:aJ}
end
end L2
namespace L2
open PySem PySem.Spec PySem.W
section
variable{prog:bI}{w:bC}{T:Type}[DecidableEq T](knd:uw prog w T)
def bt(w:bC):Bool:=!(w.params.followText "set-order")
variable{knd}
variable{A:b7}{E:aA->aH->Prop}{s:aH}
end
section
variable{T:Type}[DecidableEq T]
end
section
variable{prog:bI}{w:bC}{T:Type}[DecidableEq T]{knd:uw prog w T}{A:b7}{E:aA->aH->Prop}{s:aH}
end
section
variable{prog:bI}{w:bC}{T:Type}[DecidableEq T]{knd:uw prog w T}{A:b7}{E:aA->aH->Prop}{s:aH}
end
section
variable{prog:bI}{w:bC}{A:b7}{E:aA->aH->Prop}{s:aH}{it S:aq}{es:Array (Int×aA)}{ep i n:Nat}{t:zB}{first:aA}
end
section
variable{prog:bI}{w:bC}{A:b7}{E:aA->aH->Prop}{s:aH}{it S:aq}{es:Array (Int×aA)}{ep i n:Nat}{t:zB}{first:aA}
end
section
variable{prog:bI}{w:bC}{A:b7}{E:aA->aH->Prop}{s:aH}{it S pl:aq}{es:Array (Int×aA)}{ep i n:Nat}{t:zB}{ps:List Nat}
end
section
variable{prog:bI}{w:bC}{A:b7}{E:aA->aH->Prop}{s:aH}{S:aq}{es:Array (Int×aA)}{ep:Nat}{t:zB}
end
end L2
namespace L2
open PySem PySem.Spec PySem.W PyProof.Rows
section
variable{prog:bI}{w:bC}{A:b7}{E:aA->aH->Prop}{s:aH}{S:aq}{es:Array (Int×aA)}{ep:Nat}{t:zB}
end
section
variable{prog:bI}{w:bC}{A:b7}{E:aA->aH->Prop}{s:aH}{S:aq}{es:Array (Int×aA)}{ep:Nat}{t:zB}
end
section
variable{X:Cx}{T:Type}[DecidableEq T]{knd:uw X.prog X.w T}{l:Expr}{tl:TE}{p1 p2 pos1 pos2:Pos}
end
section
variable{prog:bI}{w:bC}
end
section
variable{X:Cx}{l:Expr}{tl:TE}{p1 p2 pos1 pos2:Pos}
end
section
variable{prog:bI}{w:bC}{A:b7}{E:aA->aH->Prop}{s:aH}{R:xH->aH->Prop}{I S:aq}{fp wr:List aq}{n:Nat}{Pv:Nat->aA->Prop}{St:Nat->bw->Prop}{bt:Nat->Nat->Bool}
end
section
variable{prog:bI}{w:bC}{A:b7}{E:aA->aH->Prop}{s:aH}
end
section
variable{X:Cx}{l de:Expr}{tl td:TE}{p pos kp:Pos}
end
end L2
namespace L2
open PySem PySem.Spec PyProof.Rows PySem.W
noncomputable def mQ:az->Option Key
 |.int i=>aa (.inl i)
 |.str x=>aa (.inr x)
 |_=>ak
def keysOf:List az->Option (List Key)
 |[]=>aa []
 |d::r=>match mQ d,keysOf r with
  |some k,some t=>aa (k::t)
  |_,_=>ak
def pW:az->Option (List Key)
 |.tuple ds=>keysOf ds
 |_=>ak
def dW{κ:Type}(f:az->Option κ):List (az×az)->Option (List κ)
 |[]=>aa []
 |p::r=>match f p.1,dW f r with
  |some k,some t=>aa (k::t)
  |_,_=>ak
def vQ(H:Hp)(a:aq)(aC:List (az×az))(vs:List V):Prop:=
 (∃ks,dW mQ aC=aa ks/\∃ep,H a=aa (.dK (ks.zip vs) ep))\/∃ks,(aC≠[]/\dW pW aC=aa ks)/\∃ep,H a=aa (.dT (ks.zip vs) ep)
theorem rdK{H:Hp}{a:aq}{aC:List (Key×V)}(h:∃ep,H a=aa (.dK aC ep)):yt H a aC:=let ⟨ep,e⟩:=h;⟨ep,.inl e⟩
mutual
def RZ(H:Hp):az->V->Prop
 |.none,v=>v=.non
 |.bool b,v=>v=.bl b
 |.int i,v=>v=.int i
 |.str x,v=>v=.str x
 |.list ds,v=>∃a vs,v=.ref a/\H a=aa (.lst vs)/\bV H ds vs
 |.tuple ds,v=>∃a vs,v=.ref a/\H a=aa (.tup vs)/\bV H ds vs
 |.dict aC,v=>∃a vs,v=.ref a/\vQ H a aC vs/\jg H aC vs
def bV(H:Hp):List az->List V->Prop
 |[],vs=>vs=[]
 |d::ds,vs=>∃v r,vs=v::r/\RZ H d v/\bV H ds r
def jg(H:Hp):List (az×az)->List V->Prop
 |[],vs=>vs=[]
 |p::r,vs=>∃v t,vs=v::t/\RZp H p v/\jg H r t
def RZp(H:Hp):az×az->V->Prop
 |(_,d),v=>RZ H d v
end
theorem vQ.same(s:bN H H')(h:vQ H a aC vs):vQ H' a aC vs:=by
 rcases h with⟨ks,e,ep,h⟩|⟨ks,e,ep,h⟩
 .exact .inl ⟨ks,e,ep,s _ _ h⟩
 .exact .inr ⟨ks,e,ep,s _ _ h⟩
mutual
theorem RZ.same(s:bN H H'):∀{d:az}{v:V},RZ H d v->RZ H' d v
 |.none,_,h=>h
 |.bool _,_,h=>h
 |.int _,_,h=>h
 |.str _,_,h=>h
 |.list ds,_,h=>by
  obtain⟨a,vs,e,q,r⟩:=h
  exact⟨a,vs,e,s _ _ q,bV.same s r⟩
 |.tuple ds,_,h=>by
  obtain⟨a,vs,e,q,r⟩:=h
  exact⟨a,vs,e,s _ _ q,bV.same s r⟩
 |.dict aC,_,h=>by
  obtain⟨a,vs,e,q,r⟩:=h
  exact⟨a,vs,e,q.same s,jg.same s r⟩
theorem bV.same(s:bN H H'):∀{ds:List az}{vs:List V},bV H ds vs->bV H' ds vs
 |[],_,h=>h
 |d::ds,vs,h=>by
  obtain⟨v,r,e,q,t⟩:=h
  exact⟨v,r,e,RZ.same s q,bV.same s t⟩
theorem jg.same(s:bN H H'):∀{aC:List (az×az)}{vs:List V},jg H aC vs->jg H' aC vs
 |[],_,h=>h
 |(k,d)::ds,vs,h=>by
  obtain⟨v,r,e,q,t⟩:=h
  exact⟨v,r,e,RZ.same s q,jg.same s t⟩
end
theorem fV:∀{ds:List az}{vs:List V},bV H ds vs->vs.length=ds.length
 |[],_,h=>by cases(show _=[] from h);rfl
 |e::ds,vs,h=>by
  obtain⟨u,r,e1,q,s⟩:=h
  subst e1;rw[eE,eE,fV s]
theorem J9:∀{ds:List (az×az)}{vs:List V},jg H ds vs->vs.length=ds.length
 |[],_,h=>by cases(show _=[] from h);rfl
 |e::ds,vs,h=>by
  obtain⟨u,r,e1,q,s⟩:=h
  subst e1;rw[eE,eE,J9 s]
theorem nq:∀{ds:List az}{vs:List V}{i:Nat}{d:az},bV H ds vs->ds[i]?=aa d->∃v,vs[i]?=aa v/\RZ H d v
 |[],_,_,_,_,e=>by simp at e
 |x::ds,vs,i,d,h,e=>by
  obtain⟨u,r,e1,q,s⟩:=h
  subst e1;cases i with
  |zero=>cases e;exact⟨u,rfl,q⟩
  |succ i=>
   obtain⟨v,e2,h2⟩:=nq (i:=i) s (by simpa using e)
   exact⟨v,by simpa using e2,h2⟩
theorem xx:∀{ds es:List az}{vs ws:List V},bV H ds vs->bV H es ws->bV H (ds++es) (vs++ws)
 |[],_,_,_,h,g=>by cases(show _=[] from h);exact g
 |d::ds,_,_,_,h,g=>by
  obtain⟨u,r,e1,q,s⟩:=h
  subst e1
  exact⟨u,_,rfl,q,xx s g⟩
theorem RQ:∀{ds:List az}{vs:List V}(n:Nat),bV H ds vs->bV H (ds.take n) (vs.take n)
 |_,_,0,_=>by rw[ZG,ZG];rfl
 |[],_,n+1,h=>by cases(show _=[] from h);rfl
 |d::ds,_,n+1,h=>by
  obtain⟨u,r,e1,q,s⟩:=h
  subst e1
  exact⟨u,_,rfl,q,RQ n s⟩
theorem RT:∀{ds:List az}{vs:List V}(n:Nat),bV H ds vs->bV H (ds.drop n) (vs.drop n)
 |_,_,0,h=>h
 |[],_,n+1,h=>by cases(show _=[] from h);rfl
 |d::ds,_,n+1,h=>by
  obtain⟨u,r,e1,q,s⟩:=h
  subst e1;exact RT n s
theorem Tt(hv:RZ H d v):∀{ds:List az}{vs:List V}(i:Nat),bV H ds vs->bV H (ds.set i d) (vs.set i v)
 |[],_,_,h=>by cases(show _=[] from h);rfl
 |x::ds,_,i,h=>by
  obtain⟨u,r,e1,q,s⟩:=h
  subst e1;cases i with
  |zero=>exact⟨v,r,rfl,hv,s⟩
  |succ i=>exact⟨u,_,rfl,q,Tt hv i s⟩
noncomputable def eY:az->Bool
 |.none=>au
 |.bool _=>au
 |.int _=>au
 |.str _=>au
 |_=>aF
noncomputable def toV:az->V
 |.none=>.non
 |.bool b=>.bl b
 |.int i=>.int i
 |.str x=>.str x
 |_=>.non
theorem adh(f:eY d=au)(h:RZ H d v):v=toV d:=by
 cases d<;>first|exact h|cases f
theorem Tu(f:eY d=au):RZ H d (toV d):=by
 cases d<;>first|rfl|cases f
theorem Jr:∀{ds:List az}{vs:List V},ds.all eY=au->bV H ds vs->vs=ds.map toV
 |[],_,_,h=>h
 |d::ds,vs,f,h=>by
  obtain⟨u,r,e1,q,s⟩:=h
  rw[oh,fU] at f;rw[e1,adh f.1 q,Jr f.2 s];rfl
mutual
def dZ:az->Bool
 |.list _=>aF
 |.tuple ds=>cW ds
 |.dict _=>aF
 |_=>au
def cW:List az->Bool
 |[]=>au
 |d::r=>dZ d&&cW r
end
mutual
theorem RZ.dZ(t:∀a vs,H a=aa (.tup vs)->H' a=aa (.tup vs)):∀{d:az}{v:V},dZ d=au->RZ H d v->RZ H' d v
 |.none,_,_,h=>h
 |.bool _,_,_,h=>h
 |.int _,_,_,h=>h
 |.str _,_,_,h=>h
 |.list ds,_,n,h=>nomatch n
 |.tuple ds,_,n,h=>by
  obtain⟨a,vs,e,q,r⟩:=h
  exact⟨a,vs,e,t _ _ q,bV.dZ t n r⟩
 |.dict _,_,n,_=>nomatch n
theorem bV.dZ(t:∀a vs,H a=aa (.tup vs)->H' a=aa (.tup vs)):∀{ds:List az}{vs:List V},cW ds=au->bV H ds vs->bV H' ds vs
 |[],_,_,h=>h
 |d::ds,vs,n,h=>by
  obtain⟨v,r,e,q,w⟩:=h
  have n':L2.dZ d=au/\cW ds=au:=by rw[cW,fU] at n;exact n
  exact⟨v,r,e,RZ.dZ t n'.1 q,bV.dZ t n'.2 w⟩
end
mutual
def nP:az->Bool
 |.list ds=>vG ds
 |.tuple ds=>vG ds
 |.dict _=>aF
 |_=>au
def vG:List az->Bool
 |[]=>au
 |d::r=>nP d&&vG r
end
mutual
theorem RZ.rx:∀{d:az}{v:V},nP d=au->RZ H d v->RX H d v
 |.none,_,_,h=>h
 |.bool _,_,_,h=>h
 |.int _,_,_,h=>h
 |.str _,_,_,h=>h
 |.list ds,_,n,h=>by
  obtain⟨a,vs,e,q,r⟩:=h
  exact⟨a,vs,e,q,bV.rx n r⟩
 |.tuple ds,_,n,h=>by
  obtain⟨a,vs,e,q,r⟩:=h
  exact⟨a,vs,e,q,bV.rx n r⟩
 |.dict _,_,n,_=>nomatch n
theorem bV.rx:∀{ds:List az}{vs:List V},vG ds=au->bV H ds vs->rB H ds vs
 |[],_,_,h=>h
 |d::ds,vs,n,h=>by
  obtain⟨v,r,e,q,t⟩:=h
  have n':nP d=au/\vG ds=au:=by rw[vG,fU] at n;exact n
  exact⟨v,r,e,RZ.rx n'.1 q,bV.rx n'.2 t⟩
end
inductive Vl where
 |im (d:az)
 |ow (d:az)
 |ce (n:Nat)
 |sc (ns:List Int)
 |ks (ds:List az)
 |tp (p:List az) (d:az) (q:List az)
abbrev En:=List (Option Vl)
abbrev Ce:=List (List Int)
def own1:Option Vl->Option V->List aq
 |some (.ow _),some (.ref a)=>[a]
 |_,_=>[]
def bM:En->St->List aq
 |x::e,v::s=>own1 x v++bM e s
 |_,_=>[]
theorem jQ:∀{aj:En}{σ:St},a∈bM aj σ↔∃(i:Nat)(d:az),aj[i]?=aa (aa (Vl.ow d))/\σ[i]?=aa (aa (V.ref a))
 |[],σ=>by
  constructor
  .intro h;simp[bM] at h
  .rintro⟨i,d,e,_⟩;simp at e
 |x::e,[]=>by
  constructor
  .intro h;simp[bM] at h
  .rintro⟨i,d,_,e⟩;simp at e
 |x::e,v::s=>by
  rw[bM,cL,jQ (aj:=e) (σ:=s)];constructor
  .rintro(h|⟨i,d,h1,h2⟩)
   .unfold own1 at h;split at h
    .rw[gZ] at h;subst h
     exact⟨0,_,rfl,rfl⟩
    .simp at h
   .exact⟨i+1,d,by simpa using h1,by simpa using h2⟩
  .rintro⟨i,d,h1,h2⟩
   cases i with
   |zero=>
    simp at h1 h2;subst h1 h2;exact .inl (gZ.mpr rfl)
   |succ i=>exact .inr ⟨i,d,by simpa using h1,by simpa using h2⟩
theorem zN:∀{aj:En}{σ:St}{i j:Nat}{d e:az},(bM aj σ).Nodup->aj[i]?=aa (aa (Vl.ow d))->σ[i]?=aa (aa (V.ref a))->aj[j]?=aa (aa (Vl.ow e))->σ[j]?=aa (aa (V.ref a))->i=j
 |[],_,i,_,_,_,_,h,_,_,_=>by simp at h
 |_::_,[],i,_,_,_,_,_,h,_,_=>by simp at h
 |x::en,v::s,i,j,d,e,nd,h1,h2,h3,h4=>by
  rw[bM,lD] at nd;cases i with
  |zero=>
   cases j with
   |zero=>rfl
   |succ j=>
    simp at h1 h2;subst h1 h2;have:a∈bM en s:=jQ.mpr ⟨j,e,by simpa using h3,by simpa using h4⟩;exact absurd rfl (nd.2.2 a (gZ.mpr rfl) a this)
  |succ i=>
   cases j with
   |zero=>
    simp at h3 h4;subst h3 h4;have:a∈bM en s:=jQ.mpr ⟨i,d,by simpa using h1,by simpa using h2⟩;exact absurd rfl (nd.2.2 a (gZ.mpr rfl) a this)
   |succ j=>rw[zN (i:=i) (j:=j) nd.2.1 (by simpa using h1) (by simpa using h2) (by simpa using h3) (by simpa using h4)]
def Ny(x y:Option Vl):Prop:=y=x\/∃d,x=aa (.ow d)/\y=aa (.im d)
def Fz:En->En->Prop
 |[],[]=>True
 |x::r,y::t=>Ny x y/\Fz r t
 |_,_=>False
theorem Fz.refl:∀e:En,Fz e e
 |[]=>trivial
 |x::r=>⟨.inl rfl,Fz.refl r⟩
theorem Fz.trans:∀{a b c:En},Fz a b->Fz b c->Fz a c
 |[],[],[],_,_=>trivial
 |x::r,y::t,z::w,h,g=>by
  refine⟨?_,Fz.trans h.2 g.2⟩
  rcases h.1 with e|⟨d,e1,e2⟩
  .rw[<-e];exact g.1
  .rcases g.1 with e|⟨d',e3,e4⟩
   .exact .inr ⟨d,e1,e.trans e2⟩
   .rw[e2] at e3;cases e3
 |[],[],_::_,_,g=>nomatch g
 |[],_::_,_,h,_=>nomatch h
 |_::_,[],_,h,_=>nomatch h
 |_::_,_::_,[],_,g=>nomatch g
theorem Fz.len:∀{a b:En},Fz a b->b.length=a.length
 |[],[],_=>rfl
 |_::_,_::_,h=>by rw[eE,eE,Fz.len h.2]
 |[],_::_,h=>nomatch h
 |_::_,[],h=>nomatch h
theorem Fz.at:∀{a b:En}{i:Nat}{y:Vl},Fz a b->b[i]?=aa (aa y)->a[i]?=aa (aa y)\/∃d,a[i]?=aa (aa (.ow d))/\y=.im d
 |[],[],i,y,_,e=>by simp at e
 |x::r,z::t,0,y,h,e=>by
  simp at e;rcases h.1 with q|⟨d,q1,q2⟩
  .left;rw[<-q,e];rfl
  .right;rw[e] at q2;cases q2;exact⟨d,by rw[q1];rfl,rfl⟩
 |x::r,z::t,i+1,y,h,e=>by
  simpa using Fz.at (i:=i) h.2 (by simpa using e)
 |[],_::_,_,_,h,_=>nomatch h
 |_::_,[],_,_,h,_=>nomatch h
theorem adi(h:Ny x y)(v:Option V):Qt (own1 y v) (own1 x v):=by
 rcases h with e|⟨d,e1,e2⟩
 .rw[e];exact wg _
 .rw[e2];exact List.nil_sublist _
theorem Fz.own:∀{a b:En}{σ:St},Fz a b->Qt (bM b σ) (bM a σ)
 |[],[],σ,_=>by cases σ<;>exact wg _
 |x::r,y::t,[],h=>wg _
 |x::r,y::t,v::s,h=>by
  rw[bM,bM];exact BP (adi h.1 v) (Fz.own h.2)
 |[],_::_,_,h=>nomatch h
 |_::_,[],_,h=>nomatch h
abbrev bh(Z Θ:List aq)(aj:En)(σ:St):List aq:=Z++(Θ++bM aj σ)
def jl(E H:Hp)(a:aq):az->Prop
 |.list ds=>∃vs,H a=aa (.lst vs)/\bV E ds vs
 |.dict aC=>∃vs,vQ H a aC vs/\jg E aC vs
 |_=>False
theorem jl.same(s:bN E E')(h:∀o,H a=aa o->H' a=aa o)(r:jl E H a d):jl E' H' a d:=by
 cases d<;>first|exact r.elim|skip
 .obtain⟨vs,e,q⟩:=r
  exact⟨vs,h _ e,q.same s⟩
 .obtain⟨vs,e,q⟩:=r
  refine⟨vs,?_,q.same s⟩
  rcases e with⟨ks,k,ep,e⟩|⟨ks,k,ep,e⟩
  .exact .inl ⟨ks,k,ep,h _ e⟩
  .exact .inr ⟨ks,k,ep,h _ e⟩
theorem jl.rz(h:∀o,H a=aa o->E a=aa o)(r:jl E H a d):RZ E d (.ref a):=by
 cases d<;>first|exact r.elim|skip
 .obtain⟨vs,e,q⟩:=r
  exact⟨a,vs,rfl,h _ e,q⟩
 .obtain⟨vs,e,q⟩:=r
  refine⟨a,vs,rfl,?_,q⟩
  rcases e with⟨ks,k,ep,e⟩|⟨ks,k,ep,e⟩
  .exact .inl ⟨ks,k,ep,h _ e⟩
  .exact .inr ⟨ks,k,ep,h _ e⟩
structure bf(Θ:List aq)(H H':Hp):Prop where
 keep:∀a o,H a=aa o->a∉Θ->H' a=aa o
 dom:∀a,H a≠ak->H' a≠ak
theorem bf.refl(Θ:List aq)(H:Hp):bf Θ H H:=⟨λ_ _ e _=>e,λ_ e=>e⟩
theorem bf.trans(a:bf Θ H H1)(b:bf Θ H1 H2):bf Θ H H2:=⟨λc o e n=>b.keep _ _ (a.keep _ _ e n) n,λc e=>b.dom _ (a.dom _ e)⟩
theorem bf.none(k:bf Θ H H')(h:H' a=ak):H a=ak:=by
 cases e:H a with
 |none=>rfl
 |some o=>exact absurd h (k.dom a (by rw[e];exact rJ _))
theorem bf.of(s:bN H H'):bf Θ H H':=⟨λa o e _=>s _ _ e,λa h=>by
 cases e:H a with
 |none=>exact absurd e h
 |some o=>rw[s _ _ e];exact rJ _⟩
theorem bf.upd(h:H p=mj):bf Θ H (L2.upd H p o):=bf.of (bN.upd h)
theorem jV(k:bf Θ H H')(ht:∀a∈Θ,a∈Z)(hz:∀a,a∈Z'->a∈Z\/H a=ak):bN (er Z H) (er Z' H'):=λb o h=>by
 unfold er at h⊢;split at h
 .cases h
 .rename_i n;rw[bK,k.keep _ _ h (λm=>n (ht b m))];intro m;rcases hz b m with q|q
  .exact n q
  .rw[q] at h;cases h
def ye(K:aJ)(E H:Hp)(Θ:List aq):Vl->V->Prop
 |.im d,v=>RZ E d v
 |.ow d,v=>∃a,v=.ref a/\jl E H a d
 |.ce n,v=>∃a,v=.ref a/\Θ[n]?=aa a
 |.sc ns,v=>∃a,v=.ref a/\bL K E a (ns.map V.int)
 |.ks ns,v=>∃a,v=.ref a/\bO K E a (ns.map toV)
 |.tp _ _ _,_=>False
def NT(o:Option HO):Prop:=∃u,o=aa u/\∀vs,u≠.tup vs
theorem NT.ne(h:NT o):o≠ak:=by
 obtain⟨u,rfl,_⟩:=h
 exact rJ _
theorem jl.nt(r:jl E H a d):NT (H a):=by
 cases d<;>first|exact r.elim|skip
 .obtain⟨vs,e,q⟩:=r
  exact⟨_,e,λ_ z=>nomatch z⟩
 .obtain⟨vs,e,q⟩:=r
  rcases e with⟨ks,k,ep,e⟩|⟨ks,k,ep,e⟩
  .exact⟨_,e,λ_ z=>nomatch z⟩
  .exact⟨_,e,λ_ z=>nomatch z⟩
structure mG(Θ:List aq)(C:Ce)(H:Hp):Prop where
 len:C.length=Θ.length
 at_:∀(n:Nat)(a:aq)(ns:List Int),Θ[n]?=aa a->C[n]?=aa ns->H a=aa (.lst (ns.map V.int))
structure Sm(K:aJ)(Z Θ:List aq)(aj:En)(C:Ce)(σ:St)(H:Hp):Prop where
 len:σ.length=aj.length
 nd:(bh Z Θ aj σ).Nodup
 dom:∀a∈Z,NT (H a)
 slot:∀(i:Nat)(x:Vl),aj[i]?=aa (aa x)->∃v,σ[i]?=aa (aa v)/\ye K (er (bh Z Θ aj σ) H) H Θ x v
 cell:mG Θ C H
theorem bN.oZ{K:aJ}{H H':Hp}{a:aq}{xs:List V}(e:bN H H')(h:bO K H a xs):bO K H' a xs:=by
 rcases h with(h|⟨o,h⟩)|h
 .exact .inl (.inl (e _ _ h))
 .exact .inl (.inr ⟨o,e _ _ h⟩)
 .exact .inr h
theorem mG.dom(c:mG Θ C H):∀a∈Θ,NT (H a):=λa m=>by
 obtain⟨n,hn,e⟩:=Yt m
 have e1:Θ[n]?=aa a:=by rw[rG hn,e]
 have h2:n<C.length:=by rw[c.len];exact hn
 exact⟨_,c.at_ n a C[n] e1 (rG h2),λ_ z=>nomatch z⟩
section
variable{K:aJ}{Z Θ:List aq}{aj aU:En}{C C':Ce}{σ:St}{H H':Hp}
theorem Sm.Gw(S:Sm K Z Θ aj C σ H):∀a∈bh Z Θ aj σ,NT (H a):=λa m=>by
 rcases cL.mp m with m|m
 .exact S.dom a m
 .rcases cL.mp m with m|m
  .exact S.cell.dom a m
  .obtain⟨i,d,e1,e2⟩:=jQ.mp m
   obtain⟨v,e3,b,e4,r⟩:=S.slot i _ e1
   rw[e2] at e3;cases e3;cases e4;exact r.nt
theorem Sm.vH(S:Sm K Z Θ aj C σ H):∀a∈bh Z Θ aj σ,H a≠ak:=λa m=>(S.Gw a m).ne
theorem Sm.qe(S:Sm K Z Θ aj C σ H):∀a∈Θ,a∈bh Z Θ aj σ:=λa m=>dj _ (gf _ m)
theorem ye.same(s:bN E E')(h:∀d a,x=.ow d->v=.ref a->∀o,H a=aa o->H' a=aa o)(r:ye K E H Θ x v):ye K E' H' Θ x v:=by
 cases x with
 |im d=>exact RZ.same s r
 |ow d=>obtain⟨a,e,q⟩:=r;exact⟨a,e,q.same s (h d a rfl e)⟩
 |ce n=>exact r
 |sc ns=>obtain⟨a,e,q⟩:=r;exact⟨a,e,s.seq q⟩
 |ks ns=>obtain⟨a,e,q⟩:=r;exact⟨a,e,s.oZ q⟩
 |tp=>exact r
theorem Sm.kY(S:Sm K Z Θ aj C σ H)(m:a∈bM aj σ):a∉Z/\a∉Θ:=by
 have h:=S.nd;rw[lD] at h
 obtain⟨_,h2,h3⟩:=h
 rw[lD] at h2
 refine⟨λz=>h3 a z a (dj _ m) rfl,λz=>h2.2.2 a z a m rfl⟩
theorem Sm.go(S:Sm K Z Θ aj C σ H)(k:bf Θ H H')(c:mG Θ C' H'):Sm K Z Θ aj C' σ H' where
 len:=S.len
 nd:=S.nd
 dom:=λa m=>by
  obtain⟨u,e,n⟩:=S.dom a m
  have h:=S.nd;rw[lD] at h
  exact⟨u,k.keep _ _ e λz=>h.2.2 a m a (gf _ z) rfl,n⟩
 slot:=λi x e=>by
  obtain⟨v,e1,r⟩:=S.slot i x e
  refine⟨v,e1,r.same (jV k S.qe λa m=>.inl m) λd a ex ev o ho=>k.keep _ _ ho ?_⟩
  subst ex ev
  exact(S.kY (jQ.mpr ⟨i,d,e,e1⟩)).2
 cell:=c
theorem Sm.fz(S:Sm K Z Θ aj C σ H)(f:Fz aj aU):Sm K Z Θ aU C σ H:=by
 have sub:Qt (bh Z Θ aU σ) (bh Z Θ aj σ):=BP (wg _) (BP (wg _) f.own);have sm:bN (er (bh Z Θ aj σ) H) (er (bh Z Θ aU σ) H):=jV (bf.refl [] H) (λ_ m=>nomatch m) λa m=>.inl (sub.subset m)
 refine⟨by rw[f.len];exact S.len,sub.nodup S.nd,S.dom,λi x e0=>?_,S.cell⟩
 rcases f.at e0 with e|⟨d,e,ex⟩
 .obtain⟨v,e1,r⟩:=S.slot i x e
  exact⟨v,e1,r.same sm λ_ _ _ _ _ ho=>ho⟩
 .subst ex
  obtain⟨v,e1,a,ev,r⟩:=S.slot i _ e
  subst ev
  refine⟨_,e1,jl.rz (H:=H) (λo ho=>?_) (r.same sm λ_ ho=>ho)⟩
  unfold er;rw[bK]
  .exact ho
  .intro m;have hm:a∈bM aj σ:=jQ.mpr ⟨i,d,e,e1⟩;rcases cL.mp m with m|m
   .exact(S.kY hm).1 m
   .rcases cL.mp m with m|m
    .exact(S.kY hm).2 m
    .obtain⟨j,d',e3,e4⟩:=jQ.mp m
     have nd:=S.nd;rw[lD] at nd;have Xc:=nd.2.1;rw[lD] at Xc;rcases f.at e3 with e5|⟨_,_,e5⟩
     .have:=zN Xc.2.1 e e1 e5 e4;subst this;rw[e0] at e3;cases e3
     .cases e5
end
section
variable{K:aJ}{Z Θ:List aq}{aj aU:En}{C C':Ce}{σ:St}{H H':Hp}{a p:aq}
theorem Sm.pop(S:Sm K (a::Z) Θ aj C σ H):Sm K Z Θ aj C σ H:=by
 have sm:bN (er (bh (a::Z) Θ aj σ) H) (er (bh Z Θ aj σ) H):=jV (bf.refl [] H) (λ_ m=>nomatch m) λb m=>.inl (fQ _ m)
 exact⟨S.len,(lE.mp S.nd).2,λb m=>S.dom b (fQ _ m),λi x e=>let ⟨v,e1,r⟩:=S.slot i x e;⟨v,e1,r.same sm λ_ _ _ _ _ h=>h⟩,S.cell⟩
theorem Sm.push(S:Sm K Z Θ aj C σ H)(hp:H p=ak)(o:HO)(ho:∀vs,o≠.tup vs):Sm K (p::Z) Θ aj C σ (upd H p o):=by
 have k:bf Θ H (upd H p o):=bf.upd hp;have sm:bN (er (bh Z Θ aj σ) H) (er (bh (p::Z) Θ aj σ) (upd H p o)):=jV k S.qe λb m=>by
  rcases cD.mp m with rfl|m
  .exact .inr hp
  .exact .inl m
 have c:mG Θ C (upd H p o):=⟨S.cell.len,λn b ns e1 e2=>by
  have:=S.cell.at_ n b ns e1 e2;rw[cR (pK this hp)];exact this⟩
 refine⟨S.len,lE.mpr ⟨λm=>S.vH p m hp,S.nd⟩,λb m=>?_,λi x e=>?_,c⟩
 .rcases cD.mp m with rfl|m
  .exact⟨o,fL,ho⟩
  .obtain⟨u,e,n⟩:=S.dom b m
   exact⟨u,by rw[cR (pK e hp)];exact e,n⟩
 .obtain⟨v,e1,r⟩:=S.slot i x e
  refine⟨v,e1,r.same sm λd b ex ev o' ho=>?_⟩
  rw[cR (pK ho hp)];exact ho
theorem Sm.Mj(S:Sm K Z Θ aj C σ H)(s:bN H H'):Sm K Z Θ aj C σ H':=
 S.go (bf.of s) ⟨S.cell.len,λn b ns e1 e2=>s _ _ (S.cell.at_ n b ns e1 e2)⟩
def Res(K:aJ)(Z Θ:List aq)(aj:En)(C:Ce)(σ:St)(H H':Hp):Vl->V->Prop
 |.im d,v=>Sm K Z Θ aj C σ H'/\RZ (er (bh Z Θ aj σ) H') d v
 |.ow d,v=>∃a,v=.ref a/\H a=ak/\Sm K (a::Z) Θ aj C σ H'/\jl (er (bh (a::Z) Θ aj σ) H') H' a d
 |.ce n,v=>Sm K Z Θ aj C σ H'/\∃a,v=.ref a/\Θ[n]?=aa a
 |.sc ns,v=>Sm K Z Θ aj C σ H'/\∃a,v=.ref a/\bL K (er (bh Z Θ aj σ) H') a (ns.map V.int)
 |.ks ns,v=>Sm K Z Θ aj C σ H'/\∃a,v=.ref a/\bO K (er (bh Z Θ aj σ) H') a (ns.map toV)
 |.tp _ _ _,_=>False
def vR(E T:Hp):az->V->Prop
 |.list ds,v=>∃a vs,v=.ref a/\T a=aa (.lst vs)/\bV E ds vs
 |.dict aC,v=>∃a vs,v=.ref a/\vQ T a aC vs/\jg E aC vs
 |d,v=>RZ E d v
theorem vR.same(s:bN E E')(t:bN T T')(h:vR E T d v):vR E' T' d v:=by
 cases d<;>first|exact RZ.same s h|skip
 .obtain⟨a,vs,e,q,r⟩:=h
  exact⟨a,vs,e,t _ _ q,r.same s⟩
 .obtain⟨a,vs,e,q,r⟩:=h
  exact⟨a,vs,e,q.same t,r.same s⟩
theorem RZ.bor(t:bN E T)(h:RZ E d v):vR E T d v:=by
 cases d<;>first|exact h|skip
 .obtain⟨a,vs,e,q,r⟩:=h
  exact⟨a,vs,e,t _ _ q,r⟩
 .obtain⟨a,vs,e,q,r⟩:=h
  exact⟨a,vs,e,q.same t,r⟩
abbrev dM(Z Θ:List aq)(aj:En)(σ:St)(H:Hp)(d:az)(v:V):Prop:=vR (er (bh Z Θ aj σ) H) (er Θ H) d v
theorem pP(h:∀a,a∈Z'->a∈Z):bN (er Z H) (er Z' H):=jV (bf.refl [] H) (λ_ m=>nomatch m) λb m=>.inl (h b m)
theorem VF:bN (er (bh Z Θ aj σ) H) (er Θ H):=pP λa m=>dj _ (gf _ m)
theorem Fz.sub(f:Fz aj aU):∀a,a∈bh Z Θ aU σ->a∈bh Z Θ aj σ:=λa m=>
 (BP (wg _) (BP (wg _) f.own)).subset m
theorem Fb(S:Sm K Z Θ aj C σ H)(k:bf Θ H H')(f:Fz aj aU):bN (er (bh Z Θ aj σ) H) (er (bh Z Θ aU σ) H'):=jV k S.qe λa m=>.inl (f.sub a m)
theorem U5(k:bf Θ H H'):bN (er Θ H) (er Θ H'):=jV k (λ_ m=>m) λa m=>.inl m
theorem dM.go(h:dM Z Θ aj σ H d v)(S:Sm K Z Θ aj C σ H)(k:bf Θ H H')(f:Fz aj aU):dM Z Θ aU σ H' d v:=vR.same (Fb S k f) (U5 k) h
noncomputable def dat:Vl->Option az
 |.im d=>aa d
 |.ow d=>aa d
 |.ce _=>ak
 |.sc _=>ak
 |.ks _=>ak
 |.tp _ _ _=>ak
theorem Res.sm(h:Res K Z Θ aj C σ H H' r v):Sm K Z Θ aj C σ H':=by
 cases r with
 |im d=>exact h.1
 |ow d=>obtain⟨a,_,_,S,_⟩:=h;exact S.pop
 |ce n=>exact h.1
 |sc ns=>exact h.1
 |ks ns=>exact h.1
 |tp=>exact h.elim
theorem Res.bor(h:Res K Z Θ aj C σ H H' r v)(e:dat r=aa d):dM Z Θ aj σ H' d v:=by
 cases r with
 |im d'=>cases e;exact RZ.bor VF h.2
 |ow d'=>
  cases e
  obtain⟨a,rfl,_,S,r⟩:=h
  have na:a∉Θ:=λm=>(lE.mp S.nd).1 (dj _ (gf _ m))
  have sm:bN (er (bh (a::Z) Θ aj σ) H') (er (bh Z Θ aj σ) H'):=pP λb m=>fQ _ m
  have ha:∀o,H' a=aa o->er Θ H' a=aa o:=λo ho=>by unfold er;rw[bK na];exact ho
  cases d<;>first|exact r.elim|skip
  .obtain⟨vs,e,q⟩:=r
   exact⟨a,vs,rfl,ha _ e,q.same sm⟩
  .obtain⟨vs,e,q⟩:=r
   refine⟨a,vs,rfl,?_,q.same sm⟩
   rcases e with⟨ks,k,ep,e⟩|⟨ks,k,ep,e⟩
   .exact .inl ⟨ks,k,ep,ha _ e⟩
   .exact .inr ⟨ks,k,ep,ha _ e⟩
 |ce n=>cases e
 |sc ns=>cases e
 |ks ns=>cases e
 |tp=>cases e
noncomputable def still:Vl->Vl
 |.ow d=>.im d
 |r=>r
theorem Res.still(h:Res K Z Θ aj C σ H H' r v):Res K Z Θ aj C σ H H' (still r) v:=by
 cases r with
 |ow d=>
  obtain⟨a,rfl,hn,S,r⟩:=h
  refine⟨S.pop,jl.rz (H:=H') (λo ho=>?_) (r.same (pP λb m=>fQ _ m) λ_ h=>h)⟩
  unfold er;rw[bK (show ¬a∈bh Z Θ aj σ from(lE.mp S.nd).1)];exact ho
 |im d=>exact h
 |ce n=>exact h
 |sc ns=>exact h
 |ks ns=>exact h
 |tp=>exact h
theorem Res.from(h:Res K Z Θ aj C σ H H' r v)(k:bf Θ H0 H):Res K Z Θ aj C σ H0 H' r v:=by
 cases r with
 |ow d=>
  obtain⟨a,e,hn,S,r⟩:=h
  exact⟨a,e,k.none hn,S,r⟩
 |im d=>exact h
 |ce n=>exact h
 |sc ns=>exact h
 |ks ns=>exact h
 |tp=>exact h
theorem K8(S:Sm K Z Θ aj C σ H)(h:H a=aa (.tup vs)):er (bh Z Θ aj σ) H a=aa (.tup vs):=by
 unfold er;rw[bK]
 .exact h
 .intro m
  obtain⟨u,e,n⟩:=S.Gw a m
  rw[h] at e;exact n vs (gG e).symm
def rst(r:Vl)(aj aU:En):En:=match r with
 |.im d=>if dZ d then aj else aU
 |_=>aU
theorem Res.rst(S:Sm K Z Θ aj C σ H)(k:bf Θ H H')(h:Res K Z Θ aU C' σ H H' r v):Res K Z Θ (rst r aj aU) C' σ H H' r v:=by
 cases r with
 |im d=>
  by_cases f:L2.dZ d=au
  .have:L2.rst (.im d) aj aU=aj:=bB f;rw[this];have S':=S.go k h.1.cell
   exact⟨S',h.2.dZ (λa vs e=>K8 S' (eU e)) f⟩
  .have:L2.rst (.im d) aj aU=aU:=bK f;rw[this];exact h
 |ow d=>exact h
 |ce n=>exact h
 |sc ns=>exact h
 |ks ns=>exact h
 |tp=>exact h
theorem Fz.rst(r:Vl)(f:Fz aj aU):Fz aj (rst r aj aU):=by
 cases r with
 |im d=>
  show Fz aj (if L2.dZ d then aj else aU);split
  .exact Fz.refl _
  .exact f
 |ow d=>exact f
 |ce n=>exact f
 |sc ns=>exact f
 |ks ns=>exact f
 |tp=>exact f
theorem fM(S:Sm K Z Θ aj C σ H)(f:eY d=au)(hv:v=toV d):Res K Z Θ aj C σ H H (.im d) v:=⟨S,by rw[hv];exact Tu f⟩
theorem DQ(S:Sm K Z Θ aj C σ H)(r:bV (er (bh Z Θ aj σ) H) ds vs)(hp:H p=ak):Res K Z Θ aj C σ H (upd H p (.lst vs)) (.ow (.list ds)) (.ref p):=by
 refine⟨p,rfl,hp,S.push hp _ (λ_ z=>nomatch z),vs,fL,r.same (jV (bf.upd (Θ:=Θ) hp) S.qe λb m=>?_)⟩
 rcases cD.mp m with rfl|m
 .exact .inr hp
 .exact .inl m
theorem zO(S:Sm K Z Θ aj C σ H)(r:bV (er (bh Z Θ aj σ) H) ds vs)(hp:H p=ak):Res K Z Θ aj C σ H (upd H p (.tup vs)) (.im (.tuple ds)) (.ref p):=by
 have S':=S.Mj (bN.upd (o:=.tup vs) hp)
 refine⟨S',p,vs,rfl,?_,r.same (jV (bf.upd (Θ:=Θ) hp) S.qe λb m=>.inl m)⟩
 unfold er;rw[bK (λm=>S.vH p m hp),fL]
end
theorem hide{P:Prop}(h:∀G:Prop,(P->G)->G):P:=h P id
inductive Wr{α β:Type}(o:Option α)(g:α->Option β)(y:β):Prop
 |mk (x:α) (h1:o=aa x) (h2:g x=aa y):Wr o g y
theorem gj(h:o.bind g=aa y):Wr o g y:=by
 cases o with
 |none=>cases h
 |some x=>exact⟨x,rfl,h⟩
def Bu:Vl->Option az
 |.im y=>aa y
 |_=>ak
theorem U6(h:Bu x=aa y):x=.im y:=by
 cases x<;>cases h;rfl
def yf:az->Option Str
 |.str z=>aa z
 |_=>ak
theorem Tv(h:yf d=aa z):d=.str z:=by
 cases d<;>cases h;rfl
def intD:az->Option Int
 |.int k=>aa k
 |_=>ak
theorem Ka(h:intD d=aa k):d=.int k:=by
 cases d<;>cases h;rfl
abbrev FE:=En->Ce->Option (Vl×En×Ce)
abbrev FB:=En->Ce->Option (az×En×Ce)
abbrev FT:=En->Ce->Option (Bool×Ce)
abbrev t7:=En->Ce->Option (List az×En×Ce)
abbrev FA:=En->Ce->Option (List Vl×En×Ce)
inductive tE(K:aJ)(f:FE)(σ:St)(H:Hp)(Q:VK):Prop
 |mk (Z Θ:List aq) (aj:En) (C:Ce) (r:Vl) (aU:En) (C':Ce) (S:Sm K Z Θ aj C σ H) (hf:f aj C=aa (r,aU,C')) (q:∀v H',bf Θ H H'->Fz aj aU->Res K Z Θ aU C' σ H H' r v->Q v H'):tE K f σ H Q
inductive cN(K:aJ)(f:FB)(σ:St)(H:Hp)(Q:VK):Prop
 |mk (Z Θ:List aq) (aj:En) (C:Ce) (d:az) (aU:En) (C':Ce) (S:Sm K Z Θ aj C σ H) (hf:f aj C=aa (d,aU,C')) (q:∀v H',bf Θ H H'->Fz aj aU->Sm K Z Θ aU C' σ H'->dM Z Θ aU σ H' d v->Q v H'):cN K f σ H Q
inductive fH(K:aJ)(f:FT)(σ:St)(H:Hp)(Q:Bool->Hp->Prop):Prop
 |mk (Z Θ:List aq) (aj:En) (C:Ce) (b:Bool) (C':Ce) (S:Sm K Z Θ aj C σ H) (hf:f aj C=aa (b,C')) (q:∀H',bf Θ H H'->Sm K Z Θ aj C' σ H'->Q b H'):fH K f σ H Q
inductive Ga(E T:Hp):List az->List V->Prop
 |nil:Ga E T [] []
 |cons {d:az} {v:V} {ds:List az} {vs:List V}:vR E T d v->Ga E T ds vs->Ga E T (d::ds) (v::vs)
abbrev Fd(Z Θ:List aq)(aj:En)(σ:St)(H:Hp)(ds:List az)(vs:List V):Prop:=Ga (er (bh Z Θ aj σ) H) (er Θ H) ds vs
inductive t8(K:aJ)(f:t7)(σ:St)(H:Hp)(Q:List V->Hp->Prop):Prop
 |mk (Z Θ:List aq) (aj:En) (C:Ce) (ds:List az) (aU:En) (C':Ce) (S:Sm K Z Θ aj C σ H) (hf:f aj C=aa (ds,aU,C')) (q:∀vs H',bf Θ H H'->Fz aj aU->Sm K Z Θ aU C' σ H'->Fd Z Θ aU σ H' ds vs->Q vs H'):t8 K f σ H Q
theorem PE.weak(h:PE X e t)(w:∀σ H Q,t' σ H Q->t σ H Q):PE X e t':=λao s σ H Q I q=>h ao s σ H Q I (w σ H Q q)
theorem PT.weak(h:PT X e t)(w:∀σ H Q,t' σ H Q->t σ H Q):PT X e t':=λao s σ H Q I q=>h ao s σ H Q I (w σ H Q q)
theorem PA.weak(h:PA X e t)(w:∀σ H Q,t' σ H Q->t σ H Q):PA X e t':=λp ao s σ H Q I q=>h p ao s σ H Q I (w σ H Q q)
theorem PS.weak(h:PS X e t)(w:∀D σ H,t' D σ H->t D σ H):PS X e t':=λao s σ H D I q=>h ao s σ H D I (w D σ H q)
theorem iI.weak(h:iI X e t)(w:∀D σ H,t' D σ H->t D σ H):iI X e t':=λao s σ H D I q=>h ao s σ H D I (w D σ H q)
theorem PW.weak(h:PW X e t)(w:∀σ H Q,t' σ H Q->t σ H Q):PW X e t':=λwh ao s σ H Q I q=>h wh ao s σ H Q I (w σ H Q q)
def bA(i:Nat):FE:=λaj C=>match aj[i]? with
 |some (some (.im d))=>aa (.im d,aj,C)
 |some (some (.ow d))=>aa (.im d,aj.set i (aa (.im d)),C)
 |some (some (.ce n))=>aa (.ce n,aj,C)
 |some (some (.sc ns))=>aa (.sc ns,aj,C)
 |some (some (.ks ns))=>aa (.ks ns,aj,C)
 |_=>ak
def aW(i:Nat):FB:=λaj C=>match aj[i]? with
 |some (some x)=>(dat x).map λd=>(d,aj,C)
 |_=>ak
noncomputable def aQ (d:az):FE:=λaj C=>aa (.im d,aj,C)
def aG(f:FE):FB:=λaj C=>match f aj C with
 |some (r,e',C')=>(dat r).map λd=>(d,e',C')
 |none=>ak
theorem U7:∀{aj:En}{i:Nat}{d:az},aj[i]?=aa (aa (.ow d))->Fz aj (aj.set i (aa (.im d)))
 |[],i,d,e=>by simp at e
 |x::r,0,d,e=>by simp at e;subst e;exact⟨.inr ⟨d,rfl,rfl⟩,Fz.refl r⟩
 |x::r,i+1,d,e=>⟨.inl rfl,U7 (by simpa using e)⟩
section
variable{X:Cx}{e:Expr}{i:Nat}
theorem bD(h:PE X e (mL i)):PE X e (tE X.K (bA i)):=h.weak λσ H Q aR=>by
 obtain⟨Z,Θ,aj,C,r,aU,C',S,hf,q⟩:=aR
 unfold bA at hf;split at hf;all_goals first|(rename_i d hd;cases hf)|cases hf
 .obtain⟨v,e1,r⟩:=S.slot i _ hd
  exact⟨v,e1,q v H (bf.refl _ _) (Fz.refl _) ⟨S,r⟩⟩
 .have f:=U7 hd
  obtain⟨v,e1,r⟩:=S.slot i _ hd
  have S':=S.fz f
  refine⟨v,e1,q v H (bf.refl _ _) f ⟨S',?_⟩⟩
  have hi:i<aj.length:=by
   have:=iU.mp hd;exact this.1
  obtain⟨v',e2,r'⟩:=S'.slot i (.im d) (by rw[Ht,bB rfl,bB hi])
  rw[e1] at e2;cases e2;exact r'
 .obtain⟨v,e1,r⟩:=S.slot i _ hd
  exact⟨v,e1,q v H (bf.refl _ _) (Fz.refl _) ⟨S,r⟩⟩
 .obtain⟨v,e1,r⟩:=S.slot i _ hd
  exact⟨v,e1,q v H (bf.refl _ _) (Fz.refl _) ⟨S,r⟩⟩
 .obtain⟨v,e1,r⟩:=S.slot i _ hd
  exact⟨v,e1,q v H (bf.refl _ _) (Fz.refl _) ⟨S,r⟩⟩
theorem aZ(h:PE X e (mL i)):PE X e (cN X.K (aW i)):=h.weak λσ H Q aR=>by
 obtain⟨Z,Θ,aj,C,d,aU,C',S,hf,q⟩:=aR
 unfold aW at hf;split at hf
 .rename_i x hx
  obtain⟨v,e1,r⟩:=S.slot i _ hx
  have ex:dat x=aa d/\aj=aU/\C=C':=by
   cases hd:dat x with
   |none=>rw[hd] at hf;cases hf
   |some d'=>rw[hd] at hf;cases hf;exact⟨rfl,rfl,rfl⟩
  obtain⟨ex,rfl,rfl⟩:=ex
  refine⟨v,e1,q v H (bf.refl _ _) (Fz.refl _) S ?_⟩
  cases x with
  |im d'=>cases ex;exact RZ.bor VF r
  |ow d'=>
   cases ex
   obtain⟨a,rfl,r⟩:=r
   have na:=(S.kY (jQ.mpr ⟨i,_,hx,e1⟩)).2;have ha:∀o,H a=aa o->er Θ H a=aa o:=λo ho=>by unfold er;rw[bK na];exact ho
   cases d<;>first|exact r.elim|skip
   .obtain⟨vs,e,q⟩:=r
    exact⟨a,vs,rfl,ha _ e,q⟩
   .obtain⟨vs,e,q⟩:=r
    refine⟨a,vs,rfl,?_,q⟩
    rcases e with⟨ks,k,ep,e⟩|⟨ks,k,ep,e⟩
    .exact .inl ⟨ks,k,ep,ha _ e⟩
    .exact .inr ⟨ks,k,ep,ha _ e⟩
  |ce n=>cases ex
  |sc ns=>cases ex
  |ks ns=>cases ex
  |tp=>cases ex
 .cases hf
theorem aV(h:PE X e (tC v))(f:eY d=au:=by rfl)(hv:v=toV d:=by rfl):PE X e (tE X.K (aQ d)):=h.weak λσ H Q aR=>by
 obtain⟨Z,Θ,aj,C,r,aU,C',S,hf,q⟩:=aR
 cases hf;exact q v H (bf.refl _ _) (Fz.refl _) (fM S f hv)
theorem aK(h:PE X e (tE X.K f)):PE X e (cN X.K (aG f)):=h.weak λσ H Q aR=>by
 obtain⟨Z,Θ,aj,C,d,aU,C',S,hf,q⟩:=aR
 unfold aG at hf;split at hf
 .rename_i r e' C1 hr;cases hd:dat r with
  |none=>rw[hd] at hf;cases hf
  |some d'=>
   rw[hd] at hf;cases hf
   exact⟨Z,Θ,aj,C,r,aU,C',S,hr,λv H' k f R=>q v H' k f R.sm (R.bor hd)⟩
 .cases hf
end
noncomputable def dH:Nat:=1000000
theorem lF(h:n<=dH):n<=bQ:=by rw[m6];unfold dH at h;lia
def dB(K:aJ)(r:R2)(op:az->az->Option Vl):Prop:=
 ∀(Z Θ:List aq)(aj:En)(C:Ce)(σ:St)(H:Hp)(x y:V)(dx dy:az)(res:Vl),Sm K Z Θ aj C σ H->dM Z Θ aj σ H dx x->dM Z Θ aj σ H dy y->op dx dy=aa res->
  ∀Q:VK,(∀v H',bf Θ H H'->Res K Z Θ aj C σ H H' res v->Q v H')->r x y H Q
def aY(op:az->az->Option Vl)(fa fb:FB):FE:=λaj C=>match fa aj C with
 |some (x,e1,C1)=>match fb e1 C1 with
  |some (y,e2,C2)=>match op x y with
   |some r=>aa (r,rst r aj e2,C2)
   |none=>ak
  |none=>ak
 |none=>ak
theorem Dp{K:aJ}{r:R2}{op:az->az->Option Vl}(L:dB K r op){fa fb:FB}:∀σ H Q,tE K (aY op fa fb) σ H Q->yq r (cN K fa) (cN K fb) σ H Q:=by
 rintro σ H Q ⟨Z,Θ,aj,C,res,aU,C',S,hf,q⟩;unfold aY at hf;split at hf
 .rename_i x e1 C1 h1;split at hf
  .rename_i y e2 C2 h2;split at hf
   .rename_i r0 h3;cases hf
    refine⟨Z,Θ,aj,C,x,e1,C1,S,h1,λv H1 k1 f1 S1 b1=>⟨Z,Θ,e1,C1,y,e2,C',S1,h2,λu H2 k2 f2 S2 b2=>?_⟩⟩
    refine L Z Θ e2 C' σ H2 v u x y res S2 (b1.go S1 k2 f2) b2 h3 Q λz H3 k3 R=>?_
    have k:=(k1.trans k2).trans k3;exact q z H3 k ((f1.trans f2).rst res) ((R.from (k1.trans k2)).rst S k)
   .cases hf
  .cases hf
 .cases hf
section
variable{X:Cx}{a b:Expr}{fa fb:FB}{pos:Pos}{r:R2}{op:az->az->Option Vl}
theorem bY(ho:cz X (kO o) r)(L:dB X.K r op)(ha:PE X a (cN X.K fa))(hb:PE X b (cN X.K fb)):PE X (.BinOp a o b pos) (tE X.K (aY op fa fb)):=(afP ho ha hb).weak (Dp L)
theorem qJ(ho:cz X (dm o) r)(L:dB X.K r op)(ha:PE X a (cN X.K fa))(hb:PE X b (cN X.K fb))(hm:wD o b=aF):PE X (.Compare a [o] [b] pos) (tE X.K (aY op fa fb)):=(acX ho ha hb hm).weak (Dp L)
theorem iC(ho:mX X r)(L:dB X.K r op)(ha:PE X a (cN X.K fa))(hb:PE X b (cN X.K fb))(hs:zK b):PE X (.Subscript a b pos) (tE X.K (aY op fa fb)):=(Ez ho ha hb hs).weak (Dp L)
end
theorem dB.or{K:aJ}{r r':R2}{op op':az->az->Option Vl}(h:dB K r op)(h':dB K r' op'):dB K (λx y H Q=>r x y H Q\/r' x y H Q) (λx y=>match op x y with|some z=>aa z|none=>op' x y):=by
 intro Z Θ aj C σ H x y dx dy res S bx cI e Q q;cases h1:op dx dy with
 |some z=>
  simp only[h1] at e;cases e;exact .inl (h Z Θ aj C σ H x y dx dy _ S bx cI h1 Q q)
 |none=>
  simp only[h1] at e;exact .inr (h' Z Θ aj C σ H x y dx dy res S bx cI e Q q)
section
variable{K:aJ}{Z Θ:List aq}{aj:En}{C:Ce}{σ:St}{H:Hp}{x:V}
theorem dM.int(h:dM Z Θ aj σ H (.int i) x):x=.int i:=h
theorem dM.str(h:dM Z Θ aj σ H (.str i) x):x=.str i:=h
theorem dM.tup(h:dM Z Θ aj σ H (.tuple ds) x):∃a vs,x=.ref a/\H a=aa (.tup vs)/\bV (er (bh Z Θ aj σ) H) ds vs:=by
 obtain⟨a,vs,e,q,r⟩:=h
 exact⟨a,vs,e,eU q,r⟩
theorem dM.lst(h:dM Z Θ aj σ H (.list ds) x):∃a vs,x=.ref a/\H a=aa (.lst vs)/\bV (er (bh Z Θ aj σ) H) ds vs:=by
 obtain⟨a,vs,e,q,r⟩:=h
 exact⟨a,vs,e,eU q,r⟩
theorem dM.dct(h:dM Z Θ aj σ H (.dict aC) x):∃a vs,x=.ref a/\vQ H a aC vs/\jg (er (bh Z Θ aj σ) H) aC vs:=by
 obtain⟨a,vs,e,q,r⟩:=h
 exact⟨a,vs,e,q.same (pU _ _),r⟩
theorem dM.flat(f:eY d=au)(h:dM Z Θ aj σ H d x):x=toV d:=by
 cases d<;>first|exact h|cases f
theorem dM.rx(n:nP d=au)(h:dM Z Θ aj σ H d x):RX H d x:=by
 cases d<;>first|exact h|skip
 .obtain⟨a,vs,e,q,r⟩:=h
  exact⟨a,vs,e,eU q,(r.same (pU _ _)).rx n⟩
 .obtain⟨a,vs,e,q,r⟩:=h
  exact⟨a,vs,e,eU q,(r.same (pU _ _)).rx n⟩
 .cases n
end
section
variable{X:Cx}
def cH:az->az->Option Vl
 |.int i,.int j=>aa (.im (.int (i+j)))
 |.str x,.str y=>if x.length+y.length<=dH then aa (.im (.str (x++y))) else ak
 |.list xs,.list ys=>if xs.length+ys.length<=dH then aa (.ow (.list (xs++ys))) else ak
 |.tuple xs,.tuple ys=>if xs.isEmpty then aa (.im (.tuple ys)) else if xs.length+ys.length<=dH then aa (.im (.tuple (xs++ys))) else ak
 |_,_=>ak
def VG(K:aJ):R2:=λx y H Q=>∃a b ys,x=.ref a/\y=.ref b/\bO K H a []/\bO K H b ys/\Q (.ref b) H
theorem adk:cz X (kO .Add) (VG X.K):=by
 intro ao s σ H x y v u Q I rx ry h
 obtain⟨a,b,ys,rfl,rfl,ha,hb,q⟩:=h
 cases rx;cases ry
 obtain⟨aD,r1,p1,_⟩:=I.tuple ha
 obtain⟨its2,r2,p2,_⟩:=I.tuple hb
 obtain⟨⟨cls,dd,data,sl⟩,ho,hc,n,hd⟩:=id p1
 obtain⟨⟨cls2,dd2,data2,sl2⟩,ho2,hc2,n2,hd2⟩:=id p2
 simp only at hc hd hc2 hd2;subst hc hd hc2 hd2;exact Qo ⟨_,ho,rfl⟩ ⟨_,ho2,rfl⟩ Pu Qh OD Ov (Oo _ _)
  (tuple_addW0 a b aD.toArray its2.toArray n n2 dd dd2 sl sl2 (by cases r1;rfl)) ⟨ho,ho2,⟨.ref b,H,I,rfl,q⟩⟩
def VH(K:aJ):R2:=λx y H Q=>(((mW λi j=>.int (i+j)) x y H Q\/∃i j,x=.str i/\y=.str j/\i.length+j.length<=bQ/\Q (.str (i++j)) H)\/Wm x y H Q)\/VG K x y H Q\/VB K x y H Q
theorem eV:cz X (kO .Add) (VH X.K):=((aex.or aaB).or aeK).or (adk.or ac3)
theorem eX{K:aJ}:dB K (VH K) cH:=by
 intro Z Θ aj C σ H x y dx dy res S bx cI e Q q;unfold cH at e;split at e
 .cases e;cases bx.int;cases cI.int;exact .inl (.inl (.inl ⟨_,_,rfl,rfl,q _ _ (bf.refl _ _) (fM S rfl rfl)⟩))
 .split at e
  .rename_i hl;cases e;cases bx.str;cases cI.str;exact .inl (.inl (.inr ⟨_,_,rfl,rfl,lF hl,q _ _ (bf.refl _ _) (fM S rfl rfl)⟩))
  .cases e
 .split at e
  .rename_i hl;cases e
   obtain⟨a,vs,rfl,ha,r1⟩:=bx.lst
   obtain⟨b,ws,rfl,hb,r2⟩:=cI.lst
   exact .inl (.inr ⟨a,b,vs,ws,rfl,rfl,ha,hb,by rw[fV r1,fV r2];exact lF hl,λp hp=>q _ _ (bf.upd hp) (DQ S (xx r1 r2) hp)⟩)
  .cases e
 .split at e
  .rename_i xs ys he;cases e;have:xs=[]:=List.isEmpty_iff.mp he;subst this;have by2:=cI
   obtain⟨a,vs,rfl,ha,r1⟩:=bx.tup
   obtain⟨b,ws,rfl,hb,r2⟩:=cI.tup
   cases(show vs=[] from r1)
   exact .inr (.inl ⟨a,b,ws,rfl,rfl,bO.of ha,bO.of hb,q _ _ (bf.refl _ _) ⟨S,by2⟩⟩)
  split at e
  .rename_i xs ys he hl;cases e
   obtain⟨a,vs,rfl,ha,r1⟩:=bx.tup
   obtain⟨b,ws,rfl,hb,r2⟩:=cI.tup
   have l1:=fV r1;have l2:=fV r2;have hv:vs≠[]:=λz=>by
    subst z;cases xs with
    |nil=>exact he rfl
    |cons _ _=>cases l1
   refine .inr (.inr ⟨a,b,vs,ws,rfl,rfl,bO.of ha,bO.of hb,hv,by rw[l1,l2];exact lF hl,λz=>?_,λ_ p hp=>q _ _ (bf.upd hp) (zO S (xx r1 r2) hp)⟩);subst z;have:ys=[]:=List.eq_nil_of_length_eq_zero l2.symm;subst this;rw[jP] at q;refine q _ _ (bf.refl _ _) ⟨S,?_⟩;exact bx
  .cases e
 .cases e
def Fe:az->az->Option Vl
 |.int i,.int j=>aa (.im (.int (i-j)))
 |_,_=>ak
theorem Kc{K:aJ}{g:Int->Int->V}{op:az->az->Option Vl}(h:∀dx dy res,op dx dy=aa res->∃i j d,dx=.int i/\dy=.int j/\res=.im d/\eY d=au/\g i j=toV d):dB K (mW g) op:=by
 intro Z Θ aj C σ H x y dx dy res S bx cI e Q q
 obtain⟨i,j,d,rfl,rfl,rfl,f,hv⟩:=h _ _ _ e
 cases bx.int;cases cI.int
 exact⟨_,_,rfl,rfl,q _ _ (bf.refl _ _) (fM S f hv)⟩
theorem Ej{K:aJ}{Cn:Int->Int->Prop}{g:Int->Int->V}{op:az->az->Option Vl}(h:∀dx dy res,op dx dy=aa res->∃i j d,dx=.int i/\dy=.int j/\res=.im d/\eY d=au/\g i j=toV d/\Cn i j):dB K (rI Cn g) op:=by
 intro Z Θ aj C σ H x y dx dy res S bx cI e Q q
 obtain⟨i,j,d,rfl,rfl,rfl,f,hv,c⟩:=h _ _ _ e
 cases bx.int;cases cI.int
 exact⟨_,_,rfl,rfl,c,q _ _ (bf.refl _ _) (fM S f hv)⟩
theorem aeQ{K:aJ}:dB K (mW λi j=>.int (i-j)) Fe:=Kc λdx dy res e=>by
 unfold Fe at e;split at e<;>cases e
 exact⟨_,_,_,rfl,rfl,rfl,rfl,rfl⟩
def jc:az->az->Option Vl
 |.int i,.int j=>if 0<j then aa (.im (.int (i%j))) else ak
 |_,_=>ak
theorem oH{K:aJ}:dB K (rI (λ_ j=>0<j) λi j=>.int (i%j)) jc:=Ej λdx dy res e=>by
 unfold jc at e;split at e
 .split at e
  .rename_i h;cases e;exact⟨_,_,_,rfl,rfl,rfl,rfl,rfl,h⟩
  .cases e
 .cases e
def xJ:az->az->Option Vl
 |.int i,.int j=>if 0<j/\j<1073741824 then aa (.im (.int (i / j))) else ak
 |_,_=>ak
theorem Tw{K:aJ}:dB K (rI Wg λi j=>.int (i / j)) xJ:=Ej λdx dy res e=>by
 unfold xJ at e;split at e
 .split at e
  .rename_i h;cases e;exact⟨_,_,_,rfl,rfl,rfl,rfl,rfl,h⟩
  .cases e
 .cases e
def vg:az->az->Option Vl
 |.int i,.int j=>if 0<=j/\j<=1000000/\i.natAbs<2^64 then aa (.im (.int (i^j.toNat))) else ak
 |_,_=>ak
theorem K9{K:aJ}:dB K (rI Wh λi j=>.int (i^j.toNat)) vg:=Ej λdx dy res e=>by
 unfold vg at e;split at e
 .split at e
  .rename_i h;cases e;exact⟨_,_,_,rfl,rfl,rfl,rfl,rfl,h⟩
  .cases e
 .cases e
def nD:az->az->Option Vl
 |.int i,.int j=>if(-(2^64)<i/\i<2^64)\/(-(2^64)<j/\j<2^64) then aa (.im (.int (i*j))) else ak
 |_,_=>ak
theorem sS{K:aJ}:dB K (rI FQ λi j=>.int (i*j)) nD:=Ej λdx dy res e=>by
 unfold nD at e;split at e
 .split at e
  .rename_i h;cases e;exact⟨_,_,_,rfl,rfl,rfl,rfl,rfl,h⟩
  .cases e
 .cases e
end
section
variable{X:Cx}
noncomputable def jh:az->az->Option Bool
 |.int i,.int j=>aa (i==j)
 |.str x,.str y=>aa (x==y)
 |.bool a,.bool b=>aa (a==b)
 |d,e=>if nP d&&nP e&&(lX d&&lX e) then aa (zj d e) else ak
def dX(d e:az):Option Vl:=(jh d e).map λb=>.im (.bool b)
def jL(d e:az):Option Vl:=(jh d e).map λb=>.im (.bool (!b))
theorem aaK(hu:X.A.units+64<gn):cz X (dm .Eq) (λx y H Q=>∃d e,RX H d x/\RX H e y/\lX d=au/\lX e=au/\Q (.bl (zj d e)) H):=by
 intro ao s σ H x y v u Q I rx ry h
 obtain⟨d,e,hd,he,h1,h2,q⟩:=h
 obtain⟨as,ra⟩:=RD.reads I (hd.rd (K:=X.K)) rx
 obtain⟨bs,rb⟩:=RD.reads I (he.rd (K:=X.K)) ry
 exact PySem.SeqAt.compareEq_shaped ra rb h1 h2 hu ⟨.bl _,H,I,rfl,q⟩
def Ws:R2:=λx y H Q=>WT x y H Q\/∃d e,RX H d x/\RX H e y/\lX d=au/\lX e=au/\Q (.bl (zj d e)) H
def Wt:R2:=λx y H Q=>WW x y H Q\/∃d e,RX H d x/\RX H e y/\lX d=au/\lX e=au/\Q (.bl (!PyData.eqv d e)) H
theorem nu(hu:X.A.units+64<gn):cz X (dm .Eq) Ws:=afQ.or (aaK hu)
theorem uU(hu:X.A.units+64<gn):cz X (dm .NotEq) Wt:=afR.or (aaJ hu)
theorem Rk(h:jh d e=aa b):(eY d=au/\eY e=au/\MF (toV d) (toV e)=au/\b=decide (toV d=toV e))\/(nP d=au/\nP e=au/\lX d=au/\lX e=au/\b=zj d e):=by
 unfold jh at h;split at h
 .cases h;exact .inl ⟨rfl,rfl,rfl,J3.symm⟩
 .cases h;exact .inl ⟨rfl,rfl,rfl,J4.symm⟩
 .cases h;exact .inl ⟨rfl,rfl,rfl,K3.symm⟩
 .split at h
  .rename_i q;cases h;rw[fU,fU,fU] at q;exact .inr ⟨q.1.1,q.1.2,q.2.1,q.2.2,rfl⟩
  .cases h
theorem nF{K:aJ}:dB K Ws dX:=by
 intro Z Θ aj C σ H x y dx dy res S bx cI e Q q;unfold dX at e;cases h:jh dx dy with
 |none=>rw[h] at e;cases e
 |some b=>
  rw[h] at e;cases e;have fin:=q (.bl b) H (bf.refl _ _) (fM S rfl rfl);rcases Rk h with⟨f1,f2,sc,eb⟩|⟨n1,n2,s1,s2,eb⟩
  .rw[bx.flat f1,cI.flat f2];rw[eb] at fin;exact .inl ⟨sc,fin⟩
  .rw[eb] at fin;exact .inr ⟨dx,dy,bx.rx n1,cI.rx n2,s1,s2,fin⟩
theorem vh{K:aJ}:dB K Wt jL:=by
 intro Z Θ aj C σ H x y dx dy res S bx cI e Q q;unfold jL at e;cases h:jh dx dy with
 |none=>rw[h] at e;cases e
 |some b=>
  rw[h] at e;cases e;have fin:=q (.bl (!b)) H (bf.refl _ _) (fM S rfl rfl);rcases Rk h with⟨f1,f2,sc,eb⟩|⟨n1,n2,s1,s2,eb⟩
  .rw[bx.flat f1,cI.flat f2];rw[eb] at fin;exact .inl ⟨sc,fin⟩
  .rw[eb] at fin;exact .inr ⟨dx,dy,bx.rx n1,cI.rx n2,s1,s2,fin⟩
def strLt(x y:Str):Bool:=decide (x.cps.toList<y.cps.toList)
def VJ(xs ys:List az):Option Bool:=match keysOf xs,keysOf ys with
 |some ks,some js=>if ks.map gK=js.map gK then aa (mO ks js) else ak
 |_,_=>ak
def yg:az->az->Option Vl
 |.int i,.int j=>aa (.im (.bool (decide (i<j))))
 |.str x,.str y=>aa (.im (.bool (strLt x y)))
 |.tuple xs,.tuple ys=>(VJ xs ys).map λb=>.im (.bool b)
 |_,_=>ak
theorem zq:∀{ds:List az}{ks:List Key}{vs:List V},keysOf ds=aa ks->bV E ds vs->vs=ks.map kV
 |[],ks,vs,h,r=>by cases h;exact r
 |d::ds,ks,vs,h,r=>by
  unfold keysOf at h;split at h
  .rename_i k t h1 h2;cases h
   obtain⟨u,w,e1,q,s⟩:=r
   rw[e1,zq h2 s];have:u=kV k:=by
    cases d<;>first|(cases h1;exact q)|cases h1
   rw[this];rfl
  .cases h
def ag0:R2:=λx y H Q=>(∃a b,x=kV a/\y=kV b/\gK a=gK b/\Q (.bl (kLt a b)) H)\/∃a b ks js,x=.ref a/\y=.ref b/\H a=aa (.tup (ks.map kV))/\H b=aa (.tup (js.map kV))/\ks.map gK=js.map gK/\Q (.bl (mO ks js)) H
theorem VL{K:aJ}:dB K ag0 yg:=by
 intro Z Θ aj C σ H x y dx dy res S bx cI e Q q;unfold yg at e;split at e
 .cases e;cases bx.int;cases cI.int;exact .inl ⟨.inl _,.inl _,rfl,rfl,rfl,q _ _ (bf.refl _ _) (fM S rfl rfl)⟩
 .cases e;cases bx.str;cases cI.str;exact .inl ⟨.inr _,.inr _,rfl,rfl,rfl,q _ _ (bf.refl _ _) (fM S rfl rfl)⟩
 .rename_i xs ys;unfold VJ at e;split at e
  .rename_i ks js h1 h2;split at e
   .rename_i ht;cases e
    obtain⟨a,vs,rfl,ha,r1⟩:=bx.tup
    obtain⟨b,ws,rfl,hb,r2⟩:=cI.tup
    rw[zq h1 r1] at ha;rw[zq h2 r2] at hb;exact .inr ⟨a,b,ks,js,rfl,rfl,ha,hb,ht,q _ _ (bf.refl _ _) (fM S rfl rfl)⟩
   .cases e
  .cases e
 .cases e
def gJ:az->az->Option Vl
 |.int i,.int j=>aa (.im (.bool (decide (i<=j))))
 |.str x,.str y=>aa (.im (.bool (!strLt y x)))
 |_,_=>ak
def Wu:R2:=λx y H Q=>(mW λi j=>.bl (decide (i<=j))) x y H Q\/∃i j,x=.str i/\y=.str j/\Q (.bl (!(decide (j.cps.toList<i.cps.toList)))) H
theorem oJ:cz X (dm .LtE) Wu:=afS.or abh
theorem oR{K:aJ}:dB K Wu gJ:=by
 intro Z Θ aj C σ H x y dx dy res S bx cI e Q q;unfold gJ at e;split at e
 .cases e;cases bx.int;cases cI.int;exact .inl ⟨_,_,rfl,rfl,q _ _ (bf.refl _ _) (fM S rfl rfl)⟩
 .cases e;cases bx.str;cases cI.str;exact .inr ⟨_,_,rfl,rfl,q _ _ (bf.refl _ _) (fM S rfl rfl)⟩
 .cases e
def Ar:az->az->Option Vl
 |.int i,.int j=>aa (.im (.bool (decide (j<i))))
 |_,_=>ak
def Gb:az->az->Option Vl
 |.int i,.int j=>aa (.im (.bool (decide (j<=i))))
 |_,_=>ak
theorem VM{K:aJ}:dB K (mW λi j=>.bl (decide (j<i))) Ar:=Kc λdx dy res e=>by
 unfold Ar at e;split at e<;>cases e
 exact⟨_,_,_,rfl,rfl,rfl,rfl,rfl⟩
theorem af5{K:aJ}:dB K (mW λi j=>.bl (decide (j<=i))) Gb:=Kc λdx dy res e=>by
 unfold Gb at e;split at e<;>cases e
 exact⟨_,_,_,rfl,rfl,rfl,rfl,rfl⟩
def isNone:az->Bool
 |.none=>au
 |_=>aF
def kZ(d e:az):Option Vl:=if isNone e then aa (.im (.bool (isNone d))) else ak
theorem RV(h:dM Z Θ aj σ H d x):decide (x=V.non)=isNone d:=by
 cases d<;>first
  |(cases(show x=_ from h);rfl)
  |(obtain⟨a,vs,e,_⟩:=h;subst e;rfl)
theorem La{K:aJ}:dB K (λx y H Q=>y=.non/\Q (.bl (decide (x=.non))) H) kZ:=by
 intro Z Θ aj C σ H x y dx dy res S bx cI e Q q;unfold kZ at e;split at e
 .rename_i hn;cases e;have hy:y=.non:=of_decide_eq_true ((RV cI).trans hn)
  exact⟨hy,by rw[RV bx];exact q _ _ (bf.refl _ _) (fM S rfl rfl)⟩
 .cases e
end
section
variable{X:Cx}{ao:List (aq×Obj)}{σ:St}{H:Hp}{s:aH}{a b:aq}
theorem Inv.Nz(I:Inv X ao σ H s)(h:H a=aa (.dK [] rC)):Inv X ao σ (upd H a (.dT [] rC)) s:=by
 obtain⟨z,hm,vs,r,o,es,h1,h2,h3,h4,h5,h6⟩:=I.hok a _ h
 cases r;have e0:es.toList=[]:=by
  cases hh:es.toList with
  |nil=>rfl
  |cons x xs=>rw[hh] at h5;cases h5
 have:=DP (t':=s.toks) (ob:=.dT [] rC) I (by rw[h];trivial) (Pn a s.heap) ⟨_,h1⟩ ⟨Cp _,hm,[],.nil,o,es,h1,h2,h3,e0,n6⟩;exact this
theorem Inv.Xd(I:Inv X ao σ (upd H a (.dT [] rC)) s)(h:H a=aa (.dK [] rC)):Inv X ao σ H s:=by
 obtain⟨z,hm,xs,r,o,es,h1,h2,h3,h4,h5⟩:=I.hok a _ fL
 cases r;have e0:es=#[]:=by
  cases es;simp at h4;rw[h4]
 subst e0;have:=DP (t':=s.toks) (ob:=.dK [] rC) I (by rw[fL];trivial) (Pn a s.heap) ⟨_,h1⟩ (UT (Cp _) hm .nil ⟨o,#[],h1,h2,h3,λi hi=>absurd hi bz,.nil,n6⟩);rw[S7] at this;have e:upd H a (.dK [] rC)=H:=by
  funext b;by_cases hb:b=a
  .subst hb;rw[fL,h]
  .exact cR hb
 rw[e] at this;exact this
end
def pB(H:Hp)(a:aq)(y:V)(r:Option V):Prop:=jZ H a y r\/((∃ep,H a=aa (.dK [] ep))/\(∃(b:aq)(ks:List Key),y=.ref b/\H b=aa (.tup (ks.map kV)))/\r=ak)
section
variable{X:Cx}{ao:List (aq×Obj)}{σ:St}{H:Hp}{s:aH}{a:aq}{y v:V}{u r:aA}{o:Option V}{A:b7}{E:aA->aH->Prop}
theorem pB.re(ha:H a=aa (.dK [] rC)){b:aq}{ks:List Key}(hb:H b=aa (.tup (ks.map kV))):jZ (upd H a (.dT [] rC)) a (.ref b) ak:=by
 have:(upd H a (.dT [] rC)) b=aa (.tup (ks.map kV)):=by rw[cR (LQ hb ha (λz=>nomatch z))];exact hb
 exact jZ.t (aC:=[]) (k:=ks) fL this
theorem af6(hu:A.units+1<gn)(I:Inv X ao σ H s)(g:pB H a y o)(ry:RelV y u)(h:∀s',Inv X ao σ H s'->Q (.bool o.isSome) s'):bu (model X.prog X.w) A (dm .In u (.ref a)) Q E s:=by
 rcases g with g|⟨⟨ep,ha⟩,⟨b,ks,rfl,hb⟩,rfl⟩
 .exact Wn hu I g ry h
 .exact Wn hu (I.Nz ha) (pB.re ha hb) ry λs' I'=>h s' (I'.Xd ha)
theorem abY(hu:A.units+1<gn)(I:Inv X ao σ H s)(g:pB H a y o)(ry:RelV y u)(h:∀s',Inv X ao σ H s'->Q (.bool (!o.isSome)) s'):bu (model X.prog X.w) A (dm .NotIn u (.ref a)) Q E s:=by
 rcases g with g|⟨⟨ep,ha⟩,⟨b,ks,rfl,hb⟩,rfl⟩
 .exact Tq hu I g ry h
 .exact Tq hu (I.Nz ha) (pB.re ha hb) ry λs' I'=>h s' (I'.Xd ha)
theorem aeR(hu:X.A.units+1<gn):cz X (dm .In) (λy x H Q=>∃a o,x=.ref a/\pB H a y o/\Q (.bl o.isSome) H):=by
 intro ao s σ H x y v u Q I rx ry h
 obtain⟨a,o,rfl,g,q⟩:=h
 cases ry;exact af6 hu I g rx λs' I'=>⟨.bl _,H,I',rfl,q⟩
theorem abi(hu:X.A.units+1<gn):cz X (dm .NotIn) (λy x H Q=>∃a o,x=.ref a/\pB H a y o/\Q (.bl (!o.isSome)) H):=by
 intro ao s σ H x y v u Q I rx ry h
 obtain⟨a,o,rfl,g,q⟩:=h
 cases ry;exact abY hu I g rx λs' I'=>⟨.bl _,H,I',rfl,q⟩
theorem adl(hu:X.A.units+1<gn):mX X (λx y H Q=>∃a v,x=.ref a/\jZ H a y (aa v)/\Q v H):=by
 intro value slice ao s σ H x y v u Q I rx ry h hs
 obtain⟨a,z,rfl,g,q⟩:=h
 cases rx;have hT:=aao I g;have h2:bu (model X.prog X.w) X.A (rZ (.ref a) u) (EP X ao σ Q) X.xe s:=aba hu I g ry λw' s' I' r'=>⟨z,H,I',r',q⟩
 unfold subscriptTail;refine aX ?_;rw[getitemInPython_of_ne hT.not_modules];refine aX (wpAny_specialOf hT PySem.F.slot_dict_getitem.lookup ?_);have fin:bu (model X.prog X.w) X.A (QF slice aF (.ref a) u) (λr s₃=>bu (model X.prog X.w) X.A (letTemporaryGo value (.ref a) r >>= λ_=>pure r) (EP X ao σ Q) X.xe s₃) X.xe s:=by
  rw[hs];exact wpAny_operating (zg h2 (λr s₃ h₃=>aX (wpAny_letTemporaryGo (cj h₃))) λ_ _ x=>x)
 first
  |exact cj (aX fin)
  |exact aX (cj (aX fin))
  |exact aX fin
end
def qM{κ:Type}[DecidableEq κ](f:az->Option κ)(k:κ):List (az×az)->Option az
 |[]=>ak
 |p::r=>if f p.1=aa k then aa p.2 else qM f k r
def Af(aC:List (az×az))(d:az):Option (Option az):=match mQ d with
 |some k=>if(dW mQ aC).isSome then aa (qM mQ k aC) else ak
 |none=>match pW d with
  |some ks=>if(dW pW aC).isSome then aa (qM pW ks aC) else ak
  |none=>ak
theorem Js[DecidableEq κ]:∀{aC:List (az×az)}{ks:List κ}{vs:List V},dW f aC=aa ks->jg E aC vs->
  (∃d v,qM f k aC=aa d/\jY (ks.zip vs) k=aa v/\RZ E d v)\/(qM f k aC=ak/\jY (ks.zip vs) k=ak)
 |[],ks,vs,h,r=>by
  cases h
  cases(show vs=[] from r)
  exact .inr ⟨rfl,rfl⟩
 |(p,d)::aC,ks,vs,h,r=>by
  unfold dW at h;split at h
  .rename_i k' t h1 h2;cases h
   obtain⟨v,w,rfl,q,s⟩:=r
   by_cases e:k'=k
   .subst e;refine .inl ⟨d,v,?_,?_,q⟩
    .unfold qM;rw[bB h1]
    .exact Dm (p:=(k',v)) rfl
   .have e1:qM f k ((p,d)::aC)=qM f k aC:=by
     show(if f p=aa k then aa d else qM f k aC)=_
     rw[bK];intro z;rw[h1] at z;exact e (gG z)
    have e2:jY ((k'::t).zip (v::w)) k=jY (t.zip w) k:=Dn (p:=(k',v)) e;rw[e1,e2];exact Js h2 s
  .cases h
theorem zE:∀{aC:List (az×az)}{ks:List κ},dW f aC=aa ks->ks.length=aC.length
 |[],ks,h=>by cases h;rfl
 |p::aC,ks,h=>by
  unfold dW at h;split at h
  .rename_i k' t h1 h2;cases h;rw[eE,eE,zE h2]
  .cases h
theorem aeS(h:mQ d=aa k)(g:pW d=aa ks):False:=by
 cases d<;>first|(cases h;done)|(cases g;done)
section
variable{K:aJ}{Z Θ:List aq}{aj:En}{C:Ce}{σ:St}{H:Hp}{x y:V}
theorem wY(h:dW mQ aC=aa ks)(g:dW pW aC=aa js):aC=[]:=by
 cases aC with
 |nil=>rfl
 |cons p r=>
  unfold dW at h g;split at h
  .rename_i h1 h2;split at g
   .rename_i h3 h4
    exact(aeS h1 h3).elim
   .cases g
  .cases h
theorem dM.get(h:dM Z Θ aj σ H (.dict aC) x)(hy:dM Z Θ aj σ H d y)(e:Af aC d=aa o):
  ∃a r,x=.ref a/\pB H a y r/\((∃v,r=aa v/\∃d',o=aa d'/\RZ (er (bh Z Θ aj σ) H) d' v/\jZ H a y (aa v))\/(r=ak/\o=ak)):=by
 obtain⟨a,vs,rfl,dt,rd⟩:=h.dct
 unfold Af at e;split at e
 .rename_i k hk;split at e
  .rename_i hs;cases e;have yk:y=kV k:=by
    cases d<;>first|(cases hk;exact hy)|cases hk
   have dk:∃ks,dW mQ aC=aa ks/\∃ep,H a=aa (.dK (ks.zip vs) ep):=by
    rcases dt with h|⟨ks,⟨ne,h2⟩,_⟩
    .exact h
    .obtain⟨ks',h1⟩:=vY.mp hs
     exact absurd (wY h1 h2) ne
   obtain⟨ks,h1,ep,ha⟩:=dk
   have g:=jZ.k (k:=k) ha;rw[<-yk] at g;rcases Js (k:=k) h1 rd with⟨d',v,e1,e2,r⟩|⟨e1,e2⟩
   .rw[e2] at g
    exact⟨a,aa v,rfl,.inl g,.inl ⟨v,rfl,d',e1,r,g⟩⟩
   .rw[e2] at g
    exact⟨a,ak,rfl,.inl g,.inr ⟨rfl,e1⟩⟩
  .cases e
 .split at e
  .rename_i ks hks;split at e
   .rename_i hs;cases e
    obtain⟨b,hb,rfl⟩:∃b,H b=aa (.tup (ks.map kV))/\y=.ref b:=by
     cases d<;>first|cases hks|skip
     obtain⟨b,ws,rfl,hb,r⟩:=hy.tup
     rw[zq hks r] at hb
     exact⟨b,hb,rfl⟩
    rcases dt with⟨js,h1,ha⟩|⟨js,⟨ne,h1⟩,ep,ha⟩
    .obtain⟨js',h2⟩:=vY.mp hs
     have:=wY h1 h2;subst this;cases h1
     exact⟨a,ak,rfl,.inr ⟨ha,⟨b,ks,rfl,hb⟩,rfl⟩,.inr ⟨rfl,rfl⟩⟩
    .have g:=jZ.t (k:=ks) ha hb;rcases Js (k:=ks) h1 rd with⟨d',v,e1,e2,r⟩|⟨e1,e2⟩
     .rw[e2] at g
      exact⟨a,aa v,rfl,.inl g,.inl ⟨v,rfl,d',e1,r,g⟩⟩
     .rw[e2] at g
      exact⟨a,ak,rfl,.inl g,.inr ⟨rfl,e1⟩⟩
   .cases e
  .cases e
end
noncomputable def inD (d:az) (ds:List az):Bool:=ds.any λe=>j7 (toV e) (toV d)
def inB(d:az):az->Option Bool
 |.list ds=>if eY d&&ds.all eY then aa (inD d ds) else ak
 |.tuple ds=>if eY d&&ds.all eY then aa (inD d ds) else ak
 |.dict aC=>(Af aC d).map (·.isSome)
 |_=>ak
def vI(d e:az):Option Vl:=(inB d e).map λb=>.im (.bool b)
def uO(d e:az):Option Vl:=(inB d e).map λb=>.im (.bool (!b))
def Wv(K:aJ):R2:=λx y H Q=>Gr K aF x y H Q\/∃a o,y=.ref a/\pB H a x o/\Q (.bl o.isSome) H
def Tz(K:aJ):R2:=λx y H Q=>Gr K au x y H Q\/∃a o,y=.ref a/\pB H a x o/\Q (.bl (!o.isSome)) H
theorem aeT(hu:X.A.units+1<gn):cz X (dm .In) (Wv X.K):=aa8.or (aeR hu)
theorem Rm(hu:X.A.units+1<gn):cz X (dm .NotIn) (Tz X.K):=Z6.or (abi hu)
theorem I9(f:eY d=au):jt (toV d)=au:=by
 cases d<;>first|rfl|cases f
theorem VN:inV (toV d) (ds.map toV)=inD d ds:=by
 unfold inV inD;rw[aaa];rfl
theorem TF{ds:List az}(f:ds.all eY=au):(ds.map toV).all jt=au:=by
 rw[Qu,iW];intro d hd;exact I9 (iW.mp f d hd)
theorem RW{K:aJ}{Z Θ:List aq}{aj:En}{σ:St}{H:Hp}{x y:V}{dx dy:az}{b:Bool}(bx:dM Z Θ aj σ H dx x)(cI:dM Z Θ aj σ H dy y)(e:inB dx dy=aa b):
  (∃p xs,y=.ref p/\(bL K H p xs\/bO K H p xs)/\jt x=au/\xs.all jt=au/\inV x xs=b)\/∃a o,y=.ref a/\pB H a x o/\o.isSome=b:=by
 unfold inB at e;split at e
 .split at e
  .rename_i ds hf;rw[fU] at hf;cases e
   obtain⟨a,vs,rfl,ha,r⟩:=cI.lst
   rw[Jr hf.2 r] at ha;rw[bx.flat hf.1];exact .inl ⟨a,_,rfl,.inl (bL.of ha),I9 hf.1,TF hf.2,VN⟩
  .cases e
 .split at e
  .rename_i ds hf;rw[fU] at hf;cases e
   obtain⟨a,vs,rfl,ha,r⟩:=cI.tup
   rw[Jr hf.2 r] at ha;rw[bx.flat hf.1];exact .inl ⟨a,_,rfl,.inr (bO.of ha),I9 hf.1,TF hf.2,VN⟩
  .cases e
 .rename_i aC;cases hl:Af aC dx with
  |none=>rw[hl] at e;cases e
  |some o=>
   rw[hl] at e;cases e
   obtain⟨a,r,rfl,g,q⟩:=cI.get bx hl
   refine .inr ⟨a,r,rfl,g,?_⟩;rcases q with⟨v,rfl,d',rfl,_⟩|⟨rfl,rfl⟩<;>rfl
 .cases e
theorem af7{K:aJ}:dB K (Wv K) vI:=by
 intro Z Θ aj C σ H x y dx dy res S bx cI e Q q;unfold vI at e;cases h:inB dx dy with
 |none=>rw[h] at e;cases e
 |some b=>
  rw[h] at e;cases e;have fin:=q (.bl b) H (bf.refl _ _) (fM S rfl rfl);rcases RW (K:=K) bx cI h with⟨p,xs,e1,e2,e3,e4,e5⟩|⟨a,o,e1,e2,e3⟩
  .rw[<-e5] at fin;exact .inl ⟨p,xs,e1,e2,e3,e4,fin⟩
  .rw[<-e3] at fin;exact .inr ⟨a,o,e1,e2,fin⟩
theorem R0{K:aJ}:dB K (Tz K) uO:=by
 intro Z Θ aj C σ H x y dx dy res S bx cI e Q q;unfold uO at e;cases h:inB dx dy with
 |none=>rw[h] at e;cases e
 |some b=>
  rw[h] at e;cases e;have fin:=q (.bl (!b)) H (bf.refl _ _) (fM S rfl rfl);rcases RW (K:=K) bx cI h with⟨p,xs,e1,e2,e3,e4,e5⟩|⟨a,o,e1,e2,e3⟩
  .rw[<-e5] at fin;exact .inl ⟨p,xs,e1,e2,e3,e4,fin⟩
  .rw[<-e3] at fin;exact .inr ⟨a,o,e1,e2,fin⟩
def nQ:az->az->Option az
 |.list ds,.int i=>dG ds i
 |.tuple ds,.int i=>dG ds i
 |.str z,.int i=>if z.length<=dH then(dG z.cps.toList i).map λc=>.str ⟨#[c]⟩ else ak
 |.dict aC,d=>match Af aC d with
  |some (some e)=>aa e
  |_=>ak
 |_,_=>ak
def cg(d e:az):Option Vl:=(nQ d e).map .im
def Ww(K:aJ):R2:=λx y H Q=>WY K x y H Q\/∃a v,x=.ref a/\jZ H a y (aa v)/\Q v H
theorem iw(hu:X.A.units+1<gn):mX X (Ww X.K):=aeH.or (adl hu)
theorem TJ(r:bV E ds vs)(e:dG ds i=aa d):∃v,dG vs i=aa v/\RZ E d v:=by
 unfold dG at e⊢;rw[fV r];cases h:j6 ds.length i with
 |none=>rw[h] at e;cases e
 |some j=>
  rw[h] at e;exact nq r e
theorem iD{K:aJ}:dB K (Ww K) cg:=by
 intro Z Θ aj C σ H x y dx dy res S bx cI e Q q;unfold cg at e;cases h:nQ dx dy with
 |none=>rw[h] at e;cases e
 |some d=>
  rw[h] at e;cases e;unfold nQ at h;split at h
  .obtain⟨a,vs,rfl,ha,r⟩:=bx.lst
   cases cI.int
   obtain⟨v,e1,r1⟩:=TJ r h
   exact .inl (.inl ⟨a,vs,_,v,rfl,rfl,bL.of ha,e1,q _ _ (bf.refl _ _) ⟨S,r1⟩⟩)
  .obtain⟨a,vs,rfl,ha,r⟩:=bx.tup
   cases cI.int
   obtain⟨v,e1,r1⟩:=TJ r h
   exact .inl (.inr (.inl ⟨a,vs,_,v,rfl,rfl,bO.of ha,e1,q _ _ (bf.refl _ _) ⟨S,r1⟩⟩))
  .split at h
   .rename_i z i hz;cases bx.str;cases cI.int;cases hc:dG z.cps.toList i with
    |none=>rw[hc] at h;cases h
    |some c=>
     rw[hc] at h;cases h;exact .inl (.inr (.inr ⟨z,i,c,rfl,rfl,lF hz,hc,q _ _ (bf.refl _ _) (fM S rfl rfl)⟩))
   .cases h
  .split at h
   .rename_i aC e' hl;cases h
    obtain⟨a,r,rfl,g,hq⟩:=bx.get cI hl
    rcases hq with⟨v,rfl,d',e1,r1,g1⟩|⟨_,e1⟩
    .cases e1;exact .inr ⟨a,v,rfl,g1,q _ _ (bf.refl _ _) ⟨S,r1⟩⟩
    .cases e1
   .cases h
  .cases h
def Av:az->Option Bool
 |.none=>aa aF
 |.bool b=>aa b
 |.int i=>aa (i != 0)
 |.str x=>if x.length<=dH then aa ((x.length:Int) != 0) else ak
 |.list ds=>aa (!ds.isEmpty)
 |.tuple ds=>aa (!ds.isEmpty)
 |.dict aC=>if(dW mQ aC).isSome then aa (!aC.isEmpty) else ak
def jM(f:FB):FT:=λaj C=>match f aj C with
 |some (d,_,C')=>match Av d with
  |some b=>aa (b,C')
  |none=>ak
 |none=>ak
def eG(f:FE):FT:=λaj C=>match f aj C with
 |some (.im (.bool b),_,C')=>aa (b,C')
 |_=>ak
def lg(f:FT):FT:=λaj C=>match f aj C with
 |some (b,C')=>aa (!b,C')
 |none=>ak
def sY(f g:FT):FT:=λaj C=>match f aj C with
 |some (true,C')=>g aj C'
 |some (false,C')=>aa (aF,C')
 |none=>ak
def mR(f g:FT):FT:=λaj C=>match f aj C with
 |some (true,C')=>aa (au,C')
 |some (false,C')=>g aj C'
 |none=>ak
theorem aeU{K:aJ}{Z Θ:List aq}{aj:En}{σ:St}{H:Hp}{x:V}{d:az}{b:Bool}(h:dM Z Θ aj σ H d x)(e:Av d=aa b):MJ K x H b:=by
 cases d with
 |none=>cases e;cases(show x=_ from h);rfl
 |bool c=>cases e;cases(show x=_ from h);rfl
 |int i=>cases e;cases(show x=_ from h);rfl
 |str z=>
  simp only[Av] at e;split at e
  .rename_i hz;cases e;cases(show x=_ from h);exact⟨lF hz,rfl⟩
  .cases e
 |list ds=>
  cases e
  obtain⟨a,vs,rfl,ha,r⟩:=h.lst
  refine .inl ⟨vs,bL.of ha,?_⟩;have:=fV r;cases ds<;>cases vs<;>first|rfl|cases this
 |tuple ds=>
  cases e
  obtain⟨a,vs,rfl,ha,r⟩:=h.tup
  refine .inr (.inl ⟨vs,bO.of ha,?_⟩);have:=fV r;cases ds<;>cases vs<;>first|rfl|cases this
 |dict aC=>
  simp only[Av] at e;split at e
  .rename_i hs;cases e
   obtain⟨a,vs,rfl,da,r⟩:=h.dct
   rcases da with⟨ks,h1,ep,ha⟩|⟨ks,⟨ne,h2⟩,ha⟩
   .refine .inr (.inr ⟨_,ep,ha,?_⟩);have l1:=zE h1;have l2:=J9 r;cases aC<;>cases ks<;>cases vs<;>first|rfl|cases l1|cases l2
   .obtain⟨ks',h1⟩:=vY.mp hs
    exact absurd (wY h1 h2) ne
  .cases e
section
variable{X:Cx}{a b:Expr}{pos:Pos}
theorem mH(h:PE X a (cN X.K f))(he:∀whole,isTrue a X.env whole=(do let v <-whole;DK a.pos;uM [v] (truthy v)):=by intro _;rfl):PT X a (fH X.K (jM f)):=
 (abN h he).weak λσ H Q aR=>by
  obtain⟨Z,Θ,aj,C,b,C',S,hf,q⟩:=aR
  unfold jM at hf;split at hf
  .rename_i d e1 C1 h1;split at hf
   .rename_i b' hb;cases hf
    exact⟨Z,Θ,aj,C,d,e1,C',S,h1,λv H' k f S' bo=>⟨b,aeU bo hb,q H' k (S.go k S'.cell)⟩⟩
   .cases hf
  .cases hf
theorem Jt{K:aJ}{t:TE}{f:FE}(w:∀σ H Q,tE K f σ H Q->t σ H Q):∀σ H Q,fH K (eG f) σ H Q->Mg t σ H Q:=by
 rintro σ H Q ⟨Z,Θ,aj,C,b,C',S,hf,q⟩;unfold eG at hf;split at hf
 .rename_i b' e1 C1 h1;cases hf;refine w _ _ _ ⟨Z,Θ,aj,C,.im (.bool b),e1,C',S,h1,λv H' k f R=>?_⟩
  obtain⟨S',r⟩:=R
  exact⟨b,r,q H' k (S.go k S'.cell)⟩
 .cases hf
theorem iy(ho:cz X (dm o) r)(L:dB X.K r op)(ha:PE X a (cN X.K fa))(hb:PE X b (cN X.K fb))(hm:wD o b=aF):
  PT X (.Compare a [o] [b] pos) (fH X.K (eG (aY op fa fb))):=(Ti ho ha hb hm).weak (Jt (Dp L))
theorem pQ(h:PT X a (fH X.K f)):PT X (.UnaryOp .Not a pos) (fH X.K (lg f)):=(aeq h).weak λσ H Q aR=>by
 obtain⟨Z,Θ,aj,C,b,C',S,hf,q⟩:=aR
 unfold lg at hf;split at hf
 .rename_i b' C1 h1;cases hf
  exact⟨Z,Θ,aj,C,b',C',S,h1,q⟩
 .cases hf
theorem abZ{K:aJ}{f g:FT}:∀σ H Q,fH K (sY f g) σ H Q->Wb (fH K f) (fH K g) σ H Q:=by
 rintro σ H Q ⟨Z,Θ,aj,C,b,C',S,hf,q⟩;unfold sY at hf;split at hf
 .rename_i C1 h1
  exact⟨Z,Θ,aj,C,au,C1,S,h1,λH1 k1 S1=>tU ⟨Z,Θ,aj,C1,b,C',S1,hf,λH2 k2 S2=>q H2 (k1.trans k2) S2⟩⟩
 .rename_i C1 h1;cases hf
  exact⟨Z,Θ,aj,C,aF,C',S,h1,λH1 k1 S1=>tR (q H1 k1 S1)⟩
 .cases hf
theorem adm{K:aJ}{f g:FT}:∀σ H Q,fH K (mR f g) σ H Q->WR (fH K f) (fH K g) σ H Q:=by
 rintro σ H Q ⟨Z,Θ,aj,C,b,C',S,hf,q⟩;unfold mR at hf;split at hf
 .rename_i C1 h1;cases hf
  exact⟨Z,Θ,aj,C,au,C',S,h1,λH1 k1 S1=>tU (q H1 k1 S1)⟩
 .rename_i C1 h1
  exact⟨Z,Θ,aj,C,aF,C1,S,h1,λH1 k1 S1=>tR ⟨Z,Θ,aj,C1,b,C',S1,hf,λH2 k2 S2=>q H2 (k1.trans k2) S2⟩⟩
 .cases hf
variable{rest:List Expr}
theorem Kd(h:PT X a (fH X.K f)):PW X (.BoolOp .And [a] pos) (fH X.K f):=pw_and1 h
theorem sU(h:PT X a (fH X.K f)):PW X (.BoolOp .Or [a] pos) (fH X.K f):=pw_or1 h
theorem Lb(h:PT X a (fH X.K f))(hb:PW X (.BoolOp .And (b::rest) pos) (fH X.K g)):PW X (.BoolOp .And (a::b::rest) pos) (fH X.K (sY f g)):=(pw_and h hb).weak abZ
theorem sZ(h:PT X a (fH X.K f))(hb:PW X (.BoolOp .Or (b::rest) pos) (fH X.K g)):PW X (.BoolOp .Or (a::b::rest) pos) (fH X.K (mR f g)):=(pw_or h hb).weak adm
end
def lR(op op':az->az->Option Vl)(fa fb fc:FB):FE:=λaj C=>match fa aj C with
 |some (x,e1,C1)=>match fb e1 C1 with
  |some (y,e2,C2)=>match op x y with
   |some (.im (.bool true))=>match fc e2 C2 with
    |some (z,e3,C3)=>match op' y z with
     |some (.im (.bool b))=>aa (.im (.bool b),aj,C3)
     |_=>ak
    |none=>ak
   |some (.im (.bool false))=>aa (.im (.bool aF),aj,C2)
   |_=>ak
  |none=>ak
 |none=>ak
theorem R3{K:aJ}{r r':R2}{op op':az->az->Option Vl}(L:dB K r op)(L':dB K r' op'){fa fb fc:FB}:∀σ H Q,tE K (lR op op' fa fb fc) σ H Q->K5 r r' (cN K fa) (cN K fb) (cN K fc) σ H Q:=by
 rintro σ H Q ⟨Z,Θ,aj,C,res,aU,C',S,hf,q⟩;unfold lR at hf;split at hf
 .rename_i x e1 C1 h1;split at hf
  .rename_i y e2 C2 h2
   refine⟨Z,Θ,aj,C,x,e1,C1,S,h1,λv H1 k1 f1 S1 b1=>⟨Z,Θ,e1,C1,y,e2,C2,S1,h2,λu H2 k2 f2 S2 b2=>?_⟩⟩
   split at hf
   .rename_i h3;split at hf
    .rename_i z e3 C3 h4;split at hf
     .rename_i b h5;cases hf;refine L Z Θ e2 C2 σ H2 v u x y _ S2 (b1.go S1 k2 f2) b2 h3 _ λw H3 k3 R=>⟨au,R.2,tU ⟨Z,Θ,e2,C2,z,e3,C',R.1,h4,λw2 H4 k4 f4 S4 b4=>?_⟩⟩
      refine L' Z Θ e3 C' σ H4 u w2 y z _ S4 ((b2.go S2 k3 (Fz.refl _)).go R.1 k4 f4) b4 h5 Q λw3 H5 k5 R5=>?_
      have k:=(((k1.trans k2).trans k3).trans k4).trans k5;exact q w3 H5 k (Fz.refl _) ⟨S.go k R5.1.cell,R5.2⟩
     .cases hf
    .cases hf
   .rename_i h3;cases hf;refine L Z Θ e2 C' σ H2 v u x y _ S2 (b1.go S1 k2 f2) b2 h3 _ λw H3 k3 R=>⟨aF,R.2,tR ?_⟩
    have k:=(k1.trans k2).trans k3;exact q _ H3 k (Fz.refl _) ⟨S.go k R.1.cell,rfl⟩
   .cases hf
  .cases hf
 .cases hf
section
variable{X:Cx}{a b c:Expr}{pos:Pos}{r r':R2}{o o':CmpOp}{op op':az->az->Option Vl}{fa fb fc:FB}
theorem U8(ho:cz X (dm o) r)(L:dB X.K r op)(ho':cz X (dm o') r')(L':dB X.K r' op')(ha:PE X a (cN X.K fa))(hb:PE X b (cN X.K fb))(hc:PE X c (cN X.K fc))
  (hm:IK [o,o'] [b,c]=aF:=by with_unfolding_all rfl):PE X (.Compare a [o,o'] [b,c] pos) (tE X.K (lR op op' fa fb fc)):=(abL ho ho' ha hb hc hm).weak (R3 L L')
theorem Ld(ho:cz X (dm o) r)(L:dB X.K r op)(ho':cz X (dm o') r')(L':dB X.K r' op')(ha:PE X a (cN X.K fa))(hb:PE X b (cN X.K fb))(hc:PE X c (cN X.K fc))
  (hm:IK [o,o'] [b,c]=aF:=by with_unfolding_all rfl):PT X (.Compare a [o,o'] [b,c] pos) (fH X.K (eG (lR op op' fa fb fc))):=(abM ho ho' ha hb hc hm).weak (Jt (R3 L L'))
end
def pX(f g:FE):FE:=λaj C=>match f aj C with
 |some (.im (.bool true),_,C')=>g aj C'
 |some (.im (.bool false),_,C')=>aa (.im (.bool aF),aj,C')
 |_=>ak
def qZ(f g:FE):FE:=λaj C=>match f aj C with
 |some (.im (.bool true),_,C')=>aa (.im (.bool au),aj,C')
 |some (.im (.bool false),_,C')=>g aj C'
 |_=>ak
def Ag(f:FE):FE:=λaj C=>match f aj C with
 |some (.im (.bool b),_,C')=>aa (.im (.bool (!b)),aj,C')
 |_=>ak
def mU(c:FT)(f g:FE):FE:=λaj C=>match c aj C with
 |some (true,C')=>f aj C'
 |some (false,C')=>g aj C'
 |none=>ak
def ag1(f:FB):FE:=λaj C=>match f aj C with
 |some (.int i,_,C')=>aa (.im (.int (-i)),aj,C')
 |_=>ak
section
variable{X:Cx}{a b c:Expr}{pos:Pos}{rest:List Expr}
theorem zW{o}(h:PE X a (tE X.K f)):PE X (.BoolOp o [a] pos) (tE X.K f):=aer h
theorem Ek(ha:PE X a (tE X.K f))(hb:PE X (.BoolOp .And (b::rest) pos) (tE X.K g)):PE X (.BoolOp .And (a::b::rest) pos) (tE X.K (pX f g)):=(aes ha hb).weak λσ H Q aR=>by
 obtain⟨Z,Θ,aj,C,r,aU,C',S,hf,q⟩:=aR
 unfold pX at hf;split at hf
 .rename_i e1 C1 h1
  refine⟨Z,Θ,aj,C,_,e1,C1,S,h1,λv H1 k1 f1 R1=>⟨au,R1.2,tU ⟨Z,Θ,aj,C1,r,aU,C',S.go k1 R1.1.cell,hf,λw H2 k2 f2 R2=>q w H2 (k1.trans k2) f2 (R2.from k1)⟩⟩⟩
 .rename_i e1 C1 h1;cases hf
  exact⟨Z,Θ,aj,C,_,e1,C',S,h1,λv H1 k1 f1 R1=>⟨aF,R1.2,tR (q _ H1 k1 (Fz.refl _) ⟨S.go k1 R1.1.cell,rfl⟩)⟩⟩
 .cases hf
theorem VP(ha:PE X a (tE X.K f))(hb:PE X (.BoolOp .Or (b::rest) pos) (tE X.K g)):PE X (.BoolOp .Or (a::b::rest) pos) (tE X.K (qZ f g)):=(afJ ha hb).weak λσ H Q aR=>by
 obtain⟨Z,Θ,aj,C,r,aU,C',S,hf,q⟩:=aR
 unfold qZ at hf;split at hf
 .rename_i e1 C1 h1;cases hf
  exact⟨Z,Θ,aj,C,_,e1,C',S,h1,λv H1 k1 f1 R1=>⟨au,R1.2,tU (q _ H1 k1 (Fz.refl _) ⟨S.go k1 R1.1.cell,rfl⟩)⟩⟩
 .rename_i e1 C1 h1
  refine⟨Z,Θ,aj,C,_,e1,C1,S,h1,λv H1 k1 f1 R1=>⟨aF,R1.2,tR ⟨Z,Θ,aj,C1,r,aU,C',S.go k1 R1.1.cell,hf,λw H2 k2 f2 R2=>q w H2 (k1.trans k2) f2 (R2.from k1)⟩⟩⟩
 .cases hf
theorem aeV(ha:PE X a (tE X.K f)):PE X (.UnaryOp .Not a pos) (tE X.K (Ag f)):=(aet ha).weak λσ H Q aR=>by
 obtain⟨Z,Θ,aj,C,r,aU,C',S,hf,q⟩:=aR
 unfold Ag at hf;split at hf
 .rename_i b e1 C1 h1;cases hf
  exact⟨Z,Θ,aj,C,_,e1,C',S,h1,λv H1 k1 f1 R1=>⟨b,R1.2,q _ H1 k1 (Fz.refl _) ⟨S.go k1 R1.1.cell,rfl⟩⟩⟩
 .cases hf
theorem tu(hc:PT X c (fH X.K t))(ha:PE X a (tE X.K f))(hb:PE X b (tE X.K g)):PE X (.IfExp c a b pos) (tE X.K (mU t f g)):=(abI hc ha hb).weak λσ H Q aR=>by
 obtain⟨Z,Θ,aj,C,r,aU,C',S,hf,q⟩:=aR
 unfold mU at hf;split at hf
 .rename_i C1 h1
  exact⟨Z,Θ,aj,C,au,C1,S,h1,λH1 k1 S1=>tU ⟨Z,Θ,aj,C1,r,aU,C',S1,hf,λw H2 k2 f2 R2=>q w H2 (k1.trans k2) f2 (R2.from k1)⟩⟩
 .rename_i C1 h1
  exact⟨Z,Θ,aj,C,aF,C1,S,h1,λH1 k1 S1=>tR ⟨Z,Θ,aj,C1,r,aU,C',S1,hf,λw H2 k2 f2 R2=>q w H2 (k1.trans k2) f2 (R2.from k1)⟩⟩
 .cases hf
end
def qN(K:aJ)(E:Hp)(Θ:List aq):Vl->V->Prop
 |.im d,v=>RZ E d v
 |.ow _,_=>False
 |.ce n,v=>∃a,v=.ref a/\Θ[n]?=aa a
 |.sc ns,v=>∃a,v=.ref a/\bL K E a (ns.map V.int)
 |.ks ns,v=>∃a,v=.ref a/\bO K E a (ns.map toV)
 |.tp _ _ _,_=>False
inductive qK(K:aJ)(E:Hp)(Θ:List aq):List Vl->List V->Prop
 |nil:qK K E Θ [] []
 |cons {x:Vl} {v:V} {xs:List Vl} {vs:List V}:qN K E Θ x v->qK K E Θ xs vs->qK K E Θ (x::xs) (v::vs)
theorem qN.same{K:aJ}{E E':Hp}{Θ:List aq}(s:bN E E'){x:Vl}{v:V}(h:qN K E Θ x v):qN K E' Θ x v:=by
 cases x with
 |im d=>exact RZ.same s h
 |ow d=>exact h
 |ce n=>exact h
 |sc ns=>obtain⟨a,e,q⟩:=h;exact⟨a,e,s.seq q⟩
 |ks ns=>obtain⟨a,e,q⟩:=h;exact⟨a,e,s.oZ q⟩
 |tp=>exact h
inductive ud(K:aJ)(f:FA)(σ:St)(H:Hp)(Q:List V->Hp->Prop):Prop
 |mk (Z Θ:List aq) (aj:En) (C:Ce) (xs:List Vl) (aU:En) (C':Ce) (S:Sm K Z Θ aj C σ H) (hf:f aj C=aa (xs,aU,C')) (q:∀vs H',bf Θ H H'->Fz aj aU->Sm K Z Θ aU C' σ H'->qK K (er (bh Z Θ aU σ) H') Θ xs vs->Q vs H'):ud K f σ H Q
noncomputable def bF:FA:=λaj C=>aa ([],aj,C)
def aL(f:FE)(g:FA):FA:=λaj C=>match f aj C with
 |some (r,e1,C1)=>match g e1 C1 with
  |some (xs,e2,C2)=>aa (still r::xs,e2,C2)
  |none=>ak
 |none=>ak
noncomputable def eN:t7:=λaj C=>aa ([],aj,C)
def dg(f:FB)(g:t7):t7:=λaj C=>match f aj C with
 |some (d,e1,C1)=>match g e1 C1 with
  |some (ds,e2,C2)=>aa (d::ds,e2,C2)
  |none=>ak
 |none=>ak
theorem Res.arg{K:aJ}{Z Θ:List aq}{aj:En}{C:Ce}{σ:St}{H H':Hp}{r:Vl}{v:V}(h:Res K Z Θ aj C σ H H' r v):Sm K Z Θ aj C σ H'/\qN K (er (bh Z Θ aj σ) H') Θ (L2.still r) v:=by
 have g:=h.still;cases r with
 |im d=>exact g
 |ow d=>exact g
 |ce n=>exact g
 |sc ns=>exact g
 |ks ns=>exact g
 |tp=>exact h.elim
section
variable{X:Cx}{e:Expr}{es:List Expr}{pos:Pos}
theorem bH:PA X [] (ud X.K bF):=lN.weak λσ H Q aR=>by
 obtain⟨Z,Θ,aj,C,xs,aU,C',S,hf,q⟩:=aR
 cases hf;exact q [] H (bf.refl _ _) (Fz.refl _) S .nil
theorem aN{f:FE}{g:FA}(h:PE X e (tE X.K f))(hr:PA X es (ud X.K g))(hs:bG (e::es) X.env=(aF,eval e X.env)::bG es X.env:=by rfl):PA X (e::es) (ud X.K (aL f g)):=(jA h hr hs).weak λσ H Q aR=>by
 obtain⟨Z,Θ,aj,C,xs,aU,C',S,hf,q⟩:=aR
 unfold aL at hf;split at hf
 .rename_i r e1 C1 h1;split at hf
  .rename_i ys e2 C2 h2;cases hf
   refine⟨Z,Θ,aj,C,r,e1,C1,S,h1,λv H1 k1 f1 R1=>?_⟩
   obtain⟨S1,a1⟩:=R1.arg
   exact⟨Z,Θ,e1,C1,ys,aU,C',S1,h2,λvs H2 k2 f2 S2 a2=>q _ H2 (k1.trans k2) (f1.trans f2) S2 (.cons (a1.same (Fb S1 k2 f2)) a2)⟩
  .cases hf
 .cases hf
theorem fO:PA X [] (t8 X.K eN):=lN.weak λσ H Q aR=>by
 obtain⟨Z,Θ,aj,C,xs,aU,C',S,hf,q⟩:=aR
 cases hf;exact q [] H (bf.refl _ _) (Fz.refl _) S .nil
theorem dJ(h:PE X e (cN X.K f))(hr:PA X es (t8 X.K g))(hs:bG (e::es) X.env=(aF,eval e X.env)::bG es X.env:=by rfl):PA X (e::es) (t8 X.K (dg f g)):=(jA h hr hs).weak λσ H Q aR=>by
 obtain⟨Z,Θ,aj,C,xs,aU,C',S,hf,q⟩:=aR
 unfold dg at hf;split at hf
 .rename_i d e1 C1 h1;split at hf
  .rename_i ys e2 C2 h2;cases hf
   exact⟨Z,Θ,aj,C,d,e1,C1,S,h1,λv H1 k1 f1 S1 b1=>⟨Z,Θ,e1,C1,ys,aU,C',S1,h2,λvs H2 k2 f2 S2 b2=>q _ H2 (k1.trans k2) (f1.trans f2) S2 (.cons (b1.go S1 k2 f2) b2)⟩⟩
  .cases hf
 .cases hf
end
noncomputable def xT:List Vl->Option (List az)
 |[]=>aa []
 |.im d::r=>match xT r with
  |some ds=>aa (d::ds)
  |none=>ak
 |_=>ak
theorem Ju{K:aJ}{E:Hp}{Θ:List aq}:∀{xs:List Vl}{ds:List az}{vs:List V},xT xs=aa ds->qK K E Θ xs vs->bV E ds vs
 |[],ds,vs,h,a=>by cases h;cases a;rfl
 |.im d::r,ds,vs,h,a=>by
  unfold xT at h;split at h
  .rename_i t ht;cases h;cases a with
   |cons a1 a2=>exact⟨_,_,rfl,a1,Ju ht a2⟩
  .cases h
 |.ow _::r,ds,vs,h,a=>by cases h
 |.ce _::r,ds,vs,h,a=>by cases h
 |.sc _::r,ds,vs,h,a=>by cases h
 |.ks _::r,ds,vs,h,a=>by cases h
 |.tp _ _ _::r,ds,vs,h,a=>by cases h
def jm(g:FA):FE:=λaj C=>match g aj C with
 |some (xs,e',C')=>match xT xs with
  |some ds=>if ds.length<=dH then aa (.ow (.list ds),e',C') else ak
  |none=>ak
 |none=>ak
def eZ(g:FA):FE:=λaj C=>match g aj C with
 |some (xs,e',C')=>match xT xs with
  |some ds=>if ds.length<=dH then aa (.im (.tuple ds),e',C') else ak
  |none=>ak
 |none=>ak
section
variable{X:Cx}{e:Expr}{es:List Expr}{pos:Pos}
theorem jG{g:FA}(h:PA X es (ud X.K g)):PE X (.List es pos) (tE X.K (jm g)):=(aeA h).weak λσ H Q aR=>by
 obtain⟨Z,Θ,aj,C,r,aU,C',S,hf,q⟩:=aR
 unfold jm at hf;split at hf
 .rename_i xs e1 C1 h1;split at hf
  .rename_i ds hd;split at hf
   .rename_i hl;cases hf
    refine⟨Z,Θ,aj,C,xs,aU,C',S,h1,λvs H1 k1 f1 S1 a1=>?_⟩
    have r:=Ju hd a1
    exact⟨by rw[fV r];exact lF hl,λp hp=>q _ _ (k1.trans (bf.upd hp)) f1 ((DQ S1 r hp).from k1)⟩
   .cases hf
  .cases hf
 .cases hf
theorem fW{x1}{g:FA}(h:PA X es (ud X.K g)):PE X (.Tuple es x1 pos) (tE X.K (eZ g)):=(UL h).weak λσ H Q aR=>by
 obtain⟨Z,Θ,aj,C,r,aU,C',S,hf,q⟩:=aR
 unfold eZ at hf;split at hf
 .rename_i xs e1 C1 h1;split at hf
  .rename_i ds hd;split at hf
   .rename_i hl;cases hf
    refine⟨Z,Θ,aj,C,xs,aU,C',S,h1,λvs H1 k1 f1 S1 a1=>?_⟩
    have r:=Ju hd a1
    exact⟨by rw[fV r];exact lF hl,λp hp=>q _ _ (k1.trans (bf.upd hp)) f1 ((zO S1 r hp).from k1)⟩
   .cases hf
  .cases hf
 .cases hf
end
def nR(K:aJ)(r:List V->Hp->VK->Prop)(op:List az->Option Vl):Prop:=
 ∀(Z Θ:List aq)(aj:En)(C:Ce)(σ:St)(H:Hp)(xs:List V)(ds:List az)(res:Vl),Sm K Z Θ aj C σ H->Fd Z Θ aj σ H ds xs->op ds=aa res->
  ∀Q:VK,(∀v H',bf Θ H H'->Res K Z Θ aj C σ H H' res v->Q v H')->r xs H Q
def dY(op:List az->Option Vl)(g:t7):FE:=λaj C=>match g aj C with
 |some (ds,e',C')=>match op ds with
  |some r=>aa (r,rst r aj e',C')
  |none=>ak
 |none=>ak
theorem R4{K:aJ}{r:List V->Hp->VK->Prop}{op:List az->Option Vl}(L:nR K r op){g:t7}:∀σ H Q,tE K (dY op g) σ H Q->Nr r (t8 K g) σ H Q:=by
 rintro σ H Q ⟨Z,Θ,aj,C,res,aU,C',S,hf,q⟩;unfold dY at hf;split at hf
 .rename_i ds e1 C1 h1;split at hf
  .rename_i r0 h2;cases hf
   refine⟨Z,Θ,aj,C,ds,e1,C',S,h1,λvs H1 k1 f1 S1 b1=>L Z Θ e1 C' σ H1 vs ds res S1 b1 h2 Q λz H2 k2 R=>?_⟩
   exact q z H2 (k1.trans k2) (f1.rst res) ((R.from k1).rst S (k1.trans k2))
  .cases hf
 .cases hf
section
variable{X:Cx}{x:Str}{p pos:Pos}{e:Expr}{es:List Expr}{g:t7}{id T:String}{r:List V->Hp->VK->Prop}{op:List az->Option Vl}
theorem jb(hc:iz X (.builtin id) r)(L:nR X.K r op)(hg:Gl X x)(hm:X.mg x=ak)(hv:oA x=aa (.builtin id))(ha:PA X (e::es) (t8 X.K g))(hn:x≠"__name__":=by decide)(hdb:(x==("__debug__":Str))=aF:=by decide)
  (he:bG (e::es) X.env=(aF,eval e X.env)::bG es X.env:=by rfl)(hpl:(gb pos (bG es X.env)).any (·.1)=aF:=by rfl):PE X (.Call (.Name x p) (e::es) [] pos) (tE X.K (dY op g)):=(zy hc hg hm hv ha hn hdb he hpl).weak (R4 L)
theorem rW(hc:iz X (.type T) r)(L:nR X.K r op)(hg:Gl X x)(hm:X.mg x=ak)(hv:oA x=aa (.type T))(ha:PA X (e::es) (t8 X.K g))(hn:x≠"__name__":=by decide)(hdb:(x==("__debug__":Str))=aF:=by decide)
  (he:bG (e::es) X.env=(aF,eval e X.env)::bG es X.env:=by rfl)(hpl:(gb pos (bG es X.env)).any (·.1)=aF:=by rfl):PE X (.Call (.Name x p) (e::es) [] pos) (tE X.K (dY op g)):=(aa7 hc hg hm hv ha hn hdb he hpl).weak (R4 L)
end
abbrev FN:=List Vl->Ce->Option (Vl×Ce)
def Aw:Vl->Bool
 |.tp _ _ _=>au
 |_=>aF
def Gd(K:aJ)(Z Θ:List aq)(C:Ce)(H H':Hp):Vl->V->Prop
 |.tp p d q,v=>∃t a vs us,v=.ref t/\H' t=aa (.tup (vs++.ref a::us))/\H a=ak/\Sm K (a::Z) Θ [] C [] H'/\jl (er (bh (a::Z) Θ [] []) H') H' a d/\bV (er (bh (a::Z) Θ [] []) H') p vs/\bV (er (bh (a::Z) Θ [] []) H') q us
 |r,v=>Res K Z Θ [] C [] H H' r v
theorem Gd.res{K:aJ}{Z Θ:List aq}{C:Ce}{H H':Hp}{r:Vl}{v:V}(n:Aw r=aF)(h:Gd K Z Θ C H H' r v):Res K Z Θ [] C [] H H' r v:=by
 cases r<;>first|exact h|cases n
def spT(K:aJ)(f:FN):Sp:=λvs H Q _=>∃Z Θ C xs r C',Sm K Z Θ [] C [] H/\qK K (er (bh Z Θ [] []) H) Θ xs vs/\f xs C=aa (r,C')/\
 ∀v H',bf Θ H H'->Gd K Z Θ C' H H' r v->Q v H'
def cu(f:FN)(g:FA):FE:=λaj C=>match g aj C with
 |some (xs,e',C1)=>match f xs C1 with
  |some (r,C2)=>if Aw r then ak else aa (r,rst r aj e',C2)
  |none=>ak
 |none=>ak
theorem qL(h:∀a,a∈P↔a∈P'):er P H=er P' H:=by
 funext b;unfold er;by_cases hb:b∈P
 .rw[bB hb,bB ((h b).mp hb)]
 .rw[bK hb,bK (λz=>hb ((h b).mpr z))]
theorem Ke(a:aq):a∈bh (Z++bM aj σ) Θ [] []↔a∈bh Z Θ aj σ:=by
 simp only[bh,bM,cL,jP];constructor
 .rintro((h|h)|h)
  .exact .inl h
  .exact .inr (.inr h)
  .exact .inr (.inl h)
 .rintro(h|h|h)
  .exact .inl (.inl h)
  .exact .inr h
  .exact .inl (.inr h)
section
variable{K:aJ}{Z Θ:List aq}{aj:En}{C C':Ce}{σ:St}{H H':Hp}{a:aq}
theorem Sm.Ml(S:Sm K Z Θ aj C σ H)(ha:H a=ak)(k:bf Θ H H')(h':NT (H' a))(c:mG Θ C' H'):Sm K (a::Z) Θ aj C' σ H':=by
 have sm:bN (er (bh Z Θ aj σ) H) (er (bh (a::Z) Θ aj σ) H'):=jV k S.qe λb m=>by
  rcases cD.mp m with rfl|m
  .exact .inr ha
  .exact .inl m
 refine⟨S.len,lE.mpr ⟨λm=>S.vH a m ha,S.nd⟩,λb m=>?_,λi x e=>?_,c⟩
 .rcases cD.mp m with rfl|m
  .exact h'
  .obtain⟨u,e,n⟩:=S.dom b m
   exact⟨u,k.keep _ _ e λz=>by
    have h:=S.nd;rw[lD] at h;exact h.2.2 b m b (gf _ z) rfl,n⟩
 .obtain⟨v,e1,r⟩:=S.slot i x e
  refine⟨v,e1,r.same sm λd b ex ev o' ho=>k.keep _ _ ho ?_⟩
  subst ex ev
  exact(S.kY (jQ.mpr ⟨i,d,e,e1⟩)).2
theorem Sm.bare(S:Sm K Z Θ aj C σ H):Sm K (Z++bM aj σ) Θ [] C [] H:=by
 refine⟨rfl,?_,λb m=>?_,λi x e=>by simp at e,S.cell⟩
 .have h:=S.nd
  show((Z++bM aj σ)++(Θ++[])).Nodup
  rw[jP,nY];have p:(Z++(Θ++bM aj σ)).Perm (Z++(bM aj σ++Θ)):=List.Perm.append_left Z List.perm_append_comm;exact p.nodup h
 .rcases cL.mp m with m|m
  .exact S.dom b m
  .exact S.Gw b (dj _ (dj _ m))
theorem Res.back(S:Sm K Z Θ aj C σ H)(k:bf Θ H H')(h:Res K (Z++bM aj σ) Θ [] C' [] H H' r v):Res K Z Θ aj C' σ H H' r v:=by
 have e1:er (bh (Z++bM aj σ) Θ [] []) H'=er (bh Z Θ aj σ) H':=qL Ke;cases r with
 |im d=>
  obtain⟨S',r⟩:=h
  rw[e1] at r
  exact⟨S.go k S'.cell,r⟩
 |ow d=>
  obtain⟨a,rfl,hn,S',r⟩:=h
  have e2:er (bh (a::(Z++bM aj σ)) Θ [] []) H'=er (bh (a::Z) Θ aj σ) H':=qL λb=>by
   show b∈a::bh (Z++bM aj σ) Θ [] []↔b∈a::bh Z Θ aj σ;rw[cD,cD,Ke]
  rw[e2] at r
  exact⟨a,rfl,hn,S.Ml hn k (S'.dom a gh) S'.cell,r⟩
 |ce n=>exact⟨S.go k h.1.cell,h.2⟩
 |sc ns=>
  obtain⟨S',a,rfl,q⟩:=h
  rw[e1] at q
  exact⟨S.go k S'.cell,a,rfl,q⟩
 |ks ns=>
  obtain⟨S',a,rfl,q⟩:=h
  rw[e1] at q
  exact⟨S.go k S'.cell,a,rfl,q⟩
 |tp=>exact h
end
section
variable{X:Cx}{x:Str}{k:Nat}{ps:List Str}{p pos:Pos}{e:Expr}{es:List Expr}{f:FN}{g:FA}
theorem ab0{K:aJ}:∀σ H Q,tE K (cu f g) σ H Q->Mh (spT K f) [] E0 (ud K g) σ H Q:=by
 rintro σ H Q ⟨Z,Θ,aj,C,res,aU,C',S,hf,q⟩;unfold cu at hf;split at hf
 .rename_i xs e1 C1 h1;split at hf
  .rename_i r C2 h2;split at hf
   .cases hf
   rename_i nt;cases hf
   refine⟨Z,Θ,aj,C,xs,e1,C1,S,h1,λvs H1 k1 f1 S1 a1=>?_⟩
   show spT K f (vs++[]) H1 Q E0;rw[jP];have e2:er (bh (Z++bM e1 σ) Θ [] []) H1=er (bh Z Θ e1 σ) H1:=qL Ke;rw[<-e2] at a1
   exact⟨Z++bM e1 σ,Θ,C1,xs,res,C',S1.bare,a1,h2,λv H2 k2 R=>q v H2 (k1.trans k2) (f1.rst res) (((Res.back S1 k2 (R.res (Y0.mpr nt))).from k1).rst S (k1.trans k2))⟩
  .cases hf
 .cases hf
theorem cJ(F:dh X.prog X.w X.K X.mg X.base x k ps (spT X.K f))(hr:gR k X.A)(hg:Gl X x)(ha:PA X (e::es) (ud X.K g))(hdb:(x==("__debug__":Str))=aF:=by decide)
  (he:bG (e::es) X.env=(aF,eval e X.env)::bG es X.env:=by rfl)(hpl:(gb pos (bG es X.env)).any (·.1)=aF:=by rfl):PE X (.Call (.Name x p) (e::es) [] pos) (tE X.K (cu f g)):=(af4 F hr hg ha hdb he hpl).weak ab0
end
theorem Ja:∀{aj:En}{σ:St},(∀(i j:Nat)(d e:az)(a:aq),aj[i]?=aa (aa (Vl.ow d))->σ[i]?=aa (aa (V.ref a))->aj[j]?=aa (aa (Vl.ow e))->σ[j]?=aa (aa (V.ref a))->i=j)->(bM aj σ).Nodup
 |[],σ,_=>by cases σ<;>exact n6
 |_::_,[],_=>n6
 |x::en,v::s,h=>by
  rw[bM,lD]
  refine⟨?_,Ja λi j d e a h1 h2 h3 h4=>?_,λa ha b hb e=>?_⟩
  .unfold own1;split
   .exact lE.mpr ⟨bz,n6⟩
   .exact n6
  .have:=h (i+1) (j+1) d e a (by simpa using h1) (by simpa using h2) (by simpa using h3) (by simpa using h4);lia
  .subst e;unfold own1 at ha;split at ha
   .rw[gZ] at ha;subst ha
    obtain⟨j,d,h1,h2⟩:=jQ.mp hb
    have:=h 0 (j+1) _ d a rfl rfl (by simpa using h1) (by simpa using h2);lia
   .simp at ha
theorem get_set{α:Type}{l:List α}{i j:Nat}{x y:α}(h:(l.set i x)[j]?=aa y):(j=i/\y=x/\i<l.length)\/(j≠i/\l[j]?=aa y):=by
 by_cases e:i=j
 .subst e;rw[Ht,bB rfl] at h;split at h
  .rename_i hl;cases h;exact .inl ⟨rfl,rfl,hl⟩
  .cases h
 .rw[BL e] at h;exact .inr ⟨λz=>e z.symm,h⟩
theorem TQ{α:Type}{l:List α}{i:Nat}{x:α}(h:i<l.length):(l.set i x)[i]?=aa x:=by
 rw[Ht,bB rfl,bB h]
theorem uP{aj:En}{σ:St}{i:Nat}{x:Vl}{v:V}{a:aq}(h:a∈bM (aj.set i (aa x)) (σ.set i (aa v))):a∈bM aj σ\/(∃d,x=.ow d)/\v=.ref a:=by
 obtain⟨j,d,h1,h2⟩:=jQ.mp h
 rcases get_set h1 with⟨rfl,e,_⟩|⟨n,h1⟩
 .rcases get_set h2 with⟨_,e2,_⟩|⟨n,_⟩
  .cases e;cases e2;exact .inr ⟨⟨d,rfl⟩,rfl⟩
  .exact absurd rfl n
 .rcases get_set h2 with⟨e,_,_⟩|⟨_,h2⟩
  .exact absurd e n
  .exact .inl (jQ.mpr ⟨j,d,h1,h2⟩)
section
variable{K:aJ}{Z Θ:List aq}{aj:En}{C:Ce}{σ:St}{H:Hp}{a:aq}{i:Nat}{v:V}
theorem Sm.cX(S:Sm K Z Θ aj C σ H):Z.Nodup/\Θ.Nodup/\(bM aj σ).Nodup/\(∀b∈Z,b∉Θ):=by
 have h:=S.nd;rw[lD,lD] at h
 obtain⟨h1,⟨h2,h3,_⟩,h4⟩:=h
 exact⟨h1,h2,h3,λb m m'=>h4 b m b (gf _ m') rfl⟩
theorem vU(h1:Z.Nodup)(h2:Θ.Nodup)(h3:O.Nodup)(h4:∀b∈Z,b∉Θ)(h5:∀b∈O,b∉Z/\b∉Θ):(Z++(Θ++O)).Nodup:=by
 rw[lD,lD]
 refine⟨h1,⟨h2,h3,λb m c m' e=>?_⟩,λb m c m' e=>?_⟩
 .subst e;exact(h5 b m').2 m
 .subst e;rcases cL.mp m' with m'|m'
  .exact h4 b m m'
  .exact(h5 b m').1 m
theorem Sm.vJ(S:Sm K Z Θ aj C σ H){x:Vl}(hx:∀d,x≠.ow d)(r:ye K (er (bh Z Θ aj σ) H) H Θ x v):Sm K Z Θ (aj.set i (aa x)) C (σ.set i (aa v)) H:=by
 have sub:∀b,b∈bM (aj.set i (aa x)) (σ.set i (aa v))->b∈bM aj σ:=λb m=>by
  rcases uP m with m|⟨⟨d,e⟩,_⟩
  .exact m
  .exact absurd e (hx d)
 have cX:=S.cX;have sm:bN (er (bh Z Θ aj σ) H) (er (bh Z Θ (aj.set i (aa x)) (σ.set i (aa v))) H):=pP λb m=>by
  rcases cL.mp m with m|m
  .exact gf _ m
  .rcases cL.mp m with m|m
   .exact dj _ (gf _ m)
   .exact dj _ (dj _ (sub b m))
 refine⟨by rw[wz,wz];exact S.len,?_,S.dom,λj y e=>?_,S.cell⟩
 .refine vU cX.1 cX.2.1 (Ja λp q d e b h1 h2 h3 h4=>?_) cX.2.2.2 λb m=>S.kY (sub b m)
  rcases get_set h1 with⟨rfl,e1,_⟩|⟨n1,h1⟩
  .cases e1;exact absurd rfl (hx d)
  .rcases get_set h3 with⟨rfl,e1,_⟩|⟨n2,h3⟩
   .cases e1;exact absurd rfl (hx e)
   .rcases get_set h2 with⟨e2,_,_⟩|⟨_,h2⟩
    .exact absurd e2 n1
    .rcases get_set h4 with⟨e4,_,_⟩|⟨_,h4⟩
     .exact absurd e4 n2
     .exact zN cX.2.2.1 h1 h2 h3 h4
 .rcases get_set e with⟨rfl,e1,hl⟩|⟨n,e⟩
  .cases e1
   exact⟨v,TQ (by rw[S.len];exact hl),r.same sm λd b ex _=>absurd ex (hx d)⟩
  .obtain⟨u,e1,r1⟩:=S.slot j y e
   exact⟨u,by rw[BL (mD n)];exact e1,r1.same sm λ_ _ _ _ _ h=>h⟩
theorem Sm.Wx(S:Sm K (a::Z) Θ aj C σ H){d:az}(r:jl (er (bh (a::Z) Θ aj σ) H) H a d):Sm K Z Θ (aj.set i (aa (.ow d))) C (σ.set i (aa (.ref a))) H:=by
 have sub:∀b,b∈bM (aj.set i (aa (.ow d))) (σ.set i (aa (.ref a)))->b∈bM aj σ\/b=a:=λb m=>by
  rcases uP m with m|⟨_,e⟩
  .exact .inl m
  .cases e;exact .inr rfl
 have cX:=S.cX;have Bv:=lE.mp cX.1;have sm:bN (er (bh (a::Z) Θ aj σ) H) (er (bh Z Θ (aj.set i (aa (.ow d))) (σ.set i (aa (.ref a)))) H):=pP λb m=>by
  rcases cL.mp m with m|m
  .exact gf _ (fQ _ m)
  .rcases cL.mp m with m|m
   .exact dj _ (gf _ m)
   .rcases sub b m with m|rfl
    .exact dj _ (dj _ m)
    .exact gf _ gh
 have Wy:a∉bM aj σ:=λm=>(S.kY m).1 gh
 refine⟨by rw[wz,wz];exact S.len,?_,λb m=>S.dom b (fQ _ m),λj y e=>?_,S.cell⟩
 .refine vU Bv.2 cX.2.1 (Ja λp q d1 e b h1 h2 h3 h4=>?_) (λb m=>cX.2.2.2 b (fQ _ m)) λb m=>?_
  .rcases get_set h1 with⟨rfl,e1,_⟩|⟨n1,h1⟩
   .rcases get_set h3 with⟨e3,_,_⟩|⟨n2,h3⟩
    .exact e3.symm
    .rcases get_set h2 with⟨_,e2,_⟩|⟨n,_⟩
     .cases e2;rcases get_set h4 with⟨e4,_,_⟩|⟨_,h4⟩
      .exact e4.symm
      .exact absurd (jQ.mpr ⟨q,e,h3,h4⟩) Wy
     .exact absurd rfl n
   .rcases get_set h2 with⟨e2,_,_⟩|⟨_,h2'⟩
    .exact absurd e2 n1
    .have mp:=jQ.mpr ⟨p,d1,h1,h2'⟩;rcases get_set h3 with⟨rfl,e3,_⟩|⟨n2,h3⟩
     .rcases get_set h4 with⟨_,e4,_⟩|⟨n,_⟩
      .cases e4;exact absurd mp Wy
      .exact absurd rfl n
     .rcases get_set h4 with⟨e4,_,_⟩|⟨_,h4⟩
      .exact absurd e4 n2
      .exact zN cX.2.2.1 h1 h2' h3 h4
  .rcases sub b m with m|rfl
   .obtain⟨p,q⟩:=S.kY m
    exact⟨λz=>p (fQ _ z),q⟩
   .exact⟨Bv.1,cX.2.2.2 b gh⟩
 .rcases get_set e with⟨rfl,e1,hl⟩|⟨n,e⟩
  .cases e1
   exact⟨_,TQ (by rw[S.len];exact hl),a,rfl,r.same sm λ_ h=>h⟩
  .obtain⟨u,e1,r1⟩:=S.slot j y e
   exact⟨u,by rw[BL (mD n)];exact e1,r1.same sm λ_ _ _ _ _ h=>h⟩
theorem Res.set(h:Res K Z Θ aj C σ H0 H r v):Sm K Z Θ (aj.set i (aa r)) C (σ.set i (aa v)) H:=by
 cases r with
 |im d=>exact h.1.vJ (λ_ e=>nomatch e) h.2
 |ow d=>obtain⟨a,rfl,_,S,r⟩:=h;exact S.Wx r
 |ce n=>exact h.1.vJ (λ_ e=>nomatch e) h.2
 |sc ns=>exact h.1.vJ (λ_ e=>nomatch e) h.2
 |ks ns=>exact h.1.vJ (λ_ e=>nomatch e) h.2
 |tp=>exact h.elim
end
inductive Fl where
 |nx|rt (r:Vl)|bk|ct
abbrev FS:=En->Ce->Option (Fl×En×Ce)
structure jq(Θ Θ':List aq)(H:Hp):Prop where
 ex:∃Δ,Θ'=Θ++Δ/\∀a∈Δ,H a=ak
theorem jq.refl(Θ:List aq)(H:Hp):jq Θ Θ H:=⟨[],by rw[jP],λ_ m=>nomatch m⟩
structure dO(K:aJ)(Z Θ:List aq)(aj:En)(σ:St)(H:Hp)(Θ':List aq)(aU:En)(C':Ce)(σ':St)(H':Hp):Prop where
 th:jq Θ Θ' H
 kp:bf (Θ++bM aj σ) H H'
 own:∀a∈bM aU σ',a∈bM aj σ\/H a=ak
 sm:Sm K Z Θ' aU C' σ' H'
def Ff(K:aJ)(Z Θ:List aq)(C:Ce)(own:List aq)(H H':Hp):Vl->V->Prop
 |.im d,v=>Sm K Z Θ [] C [] H'/\RZ (er (bh Z Θ [] []) H') d v
 |.ow d,v=>∃a,v=.ref a/\(a∈own\/H a=ak)/\Sm K (a::Z) Θ [] C [] H'/\jl (er (bh (a::Z) Θ [] []) H') H' a d
 |.ce n,v=>Sm K Z Θ [] C [] H'/\∃a,v=.ref a/\Θ[n]?=aa a
 |.sc ns,v=>Sm K Z Θ [] C [] H'/\∃a,v=.ref a/\bL K (er (bh Z Θ [] []) H') a (ns.map V.int)
 |.ks ns,v=>Sm K Z Θ [] C [] H'/\∃a,v=.ref a/\bO K (er (bh Z Θ [] []) H') a (ns.map toV)
 |.tp p d q,v=>∃t a vs us,v=.ref t/\H' t=aa (.tup (vs++.ref a::us))/\(a∈own\/H a=ak)/\Sm K (a::Z) Θ [] C [] H'/\jl (er (bh (a::Z) Θ [] []) H') H' a d/\bV (er (bh (a::Z) Θ [] []) H') p vs/\bV (er (bh (a::Z) Θ [] []) H') q us
structure NB(K:aJ)(Z Θ:List aq)(aj:En)(σ:St)(H:Hp)(Θ':List aq)(C':Ce)(r:Vl)(v:V)(H':Hp):Prop where
 th:jq Θ Θ' H
 kp:bf (Θ++bM aj σ) H H'
 ok:Ff K Z Θ' C' (bM aj σ) H H' r v
def Ge(K:aJ)(Z Θ:List aq)(aj:En)(σ:St)(H:Hp)(aU:En)(C':Ce)(D:Ends):Fl->Prop
 |.nx=>∀Θ' σ' H',dO K Z Θ aj σ H Θ' aU C' σ' H'->D.nx σ' H'
 |.bk=>∀Θ' σ' H',dO K Z Θ aj σ H Θ' aU C' σ' H'->D.bk σ' H'
 |.ct=>∀Θ' σ' H',dO K Z Θ aj σ H Θ' aU C' σ' H'->D.ct σ' H'
 |.rt r=>∀Θ' v H',NB K Z Θ aj σ H Θ' C' r v H'->D.rt v H'
inductive tS(K:aJ)(f:FS)(D:Ends)(σ:St)(H:Hp):Prop
 |mk (Z Θ:List aq) (aj:En) (C:Ce) (fl:Fl) (aU:En) (C':Ce) (S:Sm K Z Θ aj C σ H) (hf:f aj C=aa (fl,aU,C')) (q:Ge K Z Θ aj σ H aU C' D fl):tS K f D σ H
section
variable{K:aJ}{Z Θ Θ1 Θ2:List aq}{aj e1 e2:En}{C C1 C2:Ce}{σ σ1 σ2:St}{H H1 H2:Hp}
theorem jq.trans(h:jq Θ Θ1 H)(k:∀a,H a≠ak->H1 a≠ak)(g:jq Θ1 Θ2 H1):jq Θ Θ2 H:=by
 obtain⟨Δ,e,n⟩:=h.ex
 obtain⟨Δ',e',n'⟩:=g.ex
 refine⟨Δ++Δ',by rw[e',e,nY],λa m=>?_⟩
 rcases cL.mp m with m|m
 .exact n a m
 .cases h:H a with
  |none=>rfl
  |some o=>exact absurd (n' a m) (k a (by rw[h];exact rJ _))
theorem R6(th:jq Θ Θ1 H)(k1:bf (Θ++bM aj σ) H H1)(ow:∀a∈bM e1 σ1,a∈bM aj σ\/H a=ak)(k2:bf (Θ1++bM e1 σ1) H1 H2):bf (Θ++bM aj σ) H H2:=by
 refine⟨λa o e n=>k2.keep a o (k1.keep a o e n) λm=>n ?_,λa e=>k2.dom a (k1.dom a e)⟩
 have hn:H a≠ak:=by rw[e];exact rJ _
 rcases cL.mp m with m|m
 .obtain⟨Δ,e',n'⟩:=th.ex
  rw[e'] at m;rcases cL.mp m with m|m
  .exact gf _ m
  .exact absurd (n' a m) hn
 .rcases ow a m with m|m
  .exact dj _ m
  .exact absurd m hn
theorem dO.trans(p:dO K Z Θ aj σ H Θ1 e1 C1 σ1 H1)(q:dO K Z Θ1 e1 σ1 H1 Θ2 e2 C2 σ2 H2):dO K Z Θ aj σ H Θ2 e2 C2 σ2 H2 where
 th:=p.th.trans p.kp.dom q.th
 kp:=R6 p.th p.kp p.own q.kp
 own:=λa m=>by
  rcases q.own a m with m|m
  .exact p.own a m
  .exact .inr (p.kp.none m)
 sm:=q.sm
theorem dO.ret(p:dO K Z Θ aj σ H Θ1 e1 C1 σ1 H1)(q:NB K Z Θ1 e1 σ1 H1 Θ2 C2 r v H2):NB K Z Θ aj σ H Θ2 C2 r v H2 where
 th:=p.th.trans p.kp.dom q.th
 kp:=R6 p.th p.kp p.own q.kp
 ok:=by
  have h:=q.ok;cases r with
  |im d=>exact h
  |ow d=>
   obtain⟨a,e,m,S,r⟩:=h
   refine⟨a,e,?_,S,r⟩
   rcases m with m|m
   .exact p.own a m
   .exact .inr (p.kp.none m)
  |ce n=>exact h
  |sc ns=>exact h
  |ks ns=>exact h
  |tp=>
   obtain⟨t,a,vs,us,e,e',m,R⟩:=h
   exact⟨t,a,vs,us,e,e',m.elim (p.own a) λm=>.inr (p.kp.none m),R⟩
theorem Ge.trans(p:dO K Z Θ aj σ H Θ1 e1 C1 σ1 H1)(h:Ge K Z Θ aj σ H e2 C2 D fl):Ge K Z Θ1 e1 σ1 H1 e2 C2 D fl:=by
 cases fl with
 |nx=>exact λΘ' σ' H' q=>h Θ' σ' H' (p.trans q)
 |bk=>exact λΘ' σ' H' q=>h Θ' σ' H' (p.trans q)
 |ct=>exact λΘ' σ' H' q=>h Θ' σ' H' (p.trans q)
 |rt r=>exact λΘ' v H' q=>h Θ' v H' (p.ret q)
theorem sy(k:bf Θ H H1):bf (Θ++O) H H1:=⟨λa o e n=>k.keep a o e λm=>n (gf _ m),k.dom⟩
theorem dO.rD(k:bf Θ H H1)(f:Fz aj e1)(S:Sm K Z Θ e1 C1 σ H1):dO K Z Θ aj σ H Θ e1 C1 σ H1:=
 ⟨jq.refl _ _,sy k,λa m=>.inl (f.own.subset m),S⟩
end
def iG:FS:=λaj C=>aa (.nx,aj,C)
noncomputable def bU (f g:FS):FS:=λaj C=>match f aj C with
 |some (.nx,e1,C1)=>g e1 C1
 |r=>r
def gU(c:FT)(f g:FS):FS:=λaj C=>match c aj C with
 |some (true,C1)=>f aj C1
 |some (false,C1)=>g aj C1
 |none=>ak
noncomputable def c7 (f:FE):FS:=λaj C=>match f aj C with
 |some (r,e1,C1)=>aa (.rt r,e1,C1)
 |none=>ak
def xU(i:Nat):FS:=λaj C=>match aj[i]? with
 |some (some x)=>aa (.rt x,aj,C)
 |_=>ak
noncomputable def fj (i:Nat) (f:FE):FS:=λaj C=>match f aj C with
 |some (r,e1,C1)=>aa (.nx,e1.set i (aa r),C1)
 |none=>ak
section
variable{X:Cx}{st:cZ}{rest:List cZ}{pos:Pos}
theorem dO.same{K:aJ}{Z Θ:List aq}{aj:En}{C:Ce}{σ:St}{H:Hp}(S:Sm K Z Θ aj C σ H):dO K Z Θ aj σ H Θ aj C σ H:=dO.rD (bf.refl _ _) (Fz.refl _) S
theorem jr:iI X [] (tS X.K iG):=acV.weak λD σ H aR=>by
 obtain⟨Z,Θ,aj,C,fl,aU,C',S,hf,q⟩:=aR
 cases hf;exact q Θ σ H (dO.same S)
theorem cQ(h:PS X st (tS X.K f)):iI X [st] (tS X.K f):=acW h
theorem ab1{K:aJ}{f g:FS}:∀D σ H,tS K (bU f g) D σ H->Wc (tS K f) (tS K g) D σ H:=by
 rintro D σ H ⟨Z,Θ,aj,C,fl,aU,C',S,hf,q⟩;unfold bU at hf;split at hf
 .rename_i e1 C1 h1
  exact⟨Z,Θ,aj,C,.nx,e1,C1,S,h1,λΘ1 σ1 H1 p=>⟨Z,Θ1,e1,C1,fl,aU,C',p.sm,hf,q.trans p⟩⟩
 .rename_i hne
  refine⟨Z,Θ,aj,C,fl,aU,C',S,hf,?_⟩
  cases fl with
  |nx=>exact absurd hf (hne _ _)
  |bk=>exact q
  |ct=>exact q
  |rt r=>exact q
theorem bZ(h:PS X st (tS X.K f))(hr:iI X rest (tS X.K g)):iI X (st::rest) (tS X.K (bU f g)):=(abJ h hr).weak ab1
theorem ju(hc:PT X c (fH X.K t))(ha:iI X a (tS X.K f))(hb:iI X b (tS X.K g)):PS X (.If c a b pos) (tS X.K (gU t f g)):=(afM hc ha hb).weak λD σ H aR=>by
 obtain⟨Z,Θ,aj,C,fl,aU,C',S,hf,q⟩:=aR
 unfold gU at hf;split at hf
 .rename_i C1 h1
  exact⟨Z,Θ,aj,C,au,C1,S,h1,λH1 k1 S1=>tU ⟨Z,Θ,aj,C1,fl,aU,C',S1,hf,q.trans (dO.rD k1 (Fz.refl _) S1)⟩⟩
 .rename_i C1 h1
  exact⟨Z,Θ,aj,C,aF,C1,S,h1,λH1 k1 S1=>tR ⟨Z,Θ,aj,C1,fl,aU,C',S1,hf,q.trans (dO.rD k1 (Fz.refl _) S1)⟩⟩
 .cases hf
theorem Sm.none{K:aJ}{Z Θ:List aq}{aj:En}{C:Ce}{σ:St}{H:Hp}(S:Sm K Z Θ aj C σ H):Sm K Z Θ [] C [] H:=by
 have cX:=S.cX
 exact⟨rfl,vU cX.1 cX.2.1 n6 cX.2.2.2 (λ_ m=>nomatch m),S.dom,λi x e=>by simp at e,S.cell⟩
theorem uL:bN (er (bh Z Θ aj σ) H) (er (bh Z Θ [] []) H):=pP λb m=>by
 rcases cL.mp m with m|m
 .exact gf _ m
 .rcases cL.mp m with m|m
  .exact dj _ (gf _ m)
  .nomatch m
theorem Res.ret{K:aJ}{Z Θ:List aq}{aj:En}{C:Ce}{σ:St}{H H':Hp}{O:List aq}{r:Vl}{v:V}(h:Res K Z Θ aj C σ H H' r v):Ff K Z Θ C O H H' r v:=by
 cases r with
 |im d=>exact⟨h.1.none,h.2.same uL⟩
 |ow d=>obtain⟨a,e,n,S,r⟩:=h;exact⟨a,e,.inr n,S.none,r.same uL λ_ h=>h⟩
 |ce n=>exact⟨h.1.none,h.2⟩
 |sc ns=>obtain⟨S,a,e,q⟩:=h;exact⟨S.none,a,e,uL.seq q⟩
 |ks ns=>obtain⟨S,a,e,q⟩:=h;exact⟨S.none,a,e,uL.oZ q⟩
 |tp=>exact h.elim
theorem dF(h:PE X e (tE X.K f)):PS X (.Return (aa e) pos) (tS X.K (c7 f)):=(Uy h).weak λD σ H aR=>by
 obtain⟨Z,Θ,aj,C,fl,aU,C',S,hf,q⟩:=aR
 unfold c7 at hf;split at hf
 .rename_i r e1 C1 h1;cases hf
  exact⟨Z,Θ,aj,C,r,aU,C',S,h1,λv H1 k f R=>q Θ v H1 ⟨jq.refl _ _,sy k,R.ret⟩⟩
 .cases hf
theorem Kf(h:PE X e (mL i)):PS X (.Return (aa e) pos) (tS X.K (xU i)):=(Uy h).weak λD σ H aR=>by
 obtain⟨Z,Θ,aj,C,fl,aU,C',S,hf,q⟩:=aR
 unfold xU at hf;split at hf
 .rename_i x hx;cases hf
  obtain⟨v,e1,r⟩:=S.slot i x hx
  refine⟨v,e1,q Θ v H ⟨jq.refl _ _,bf.refl _ _,?_⟩⟩
  cases x with
  |im d=>exact⟨S.none,RZ.same uL r⟩
  |ow d=>
   obtain⟨a,rfl,r⟩:=r
   have m:a∈bM aj σ:=jQ.mpr ⟨i,d,hx,e1⟩;have sm:bN (er (bh Z Θ aj σ) H) (er (bh (a::Z) Θ [] []) H):=pP λb mb=>by
    rcases cL.mp mb with mb|mb
    .rcases cD.mp mb with rfl|mb
     .exact dj _ (dj _ m)
     .exact gf _ mb
    .rcases cL.mp mb with mb|mb
     .exact dj _ (gf _ mb)
     .nomatch mb
   have cX:=S.cX
   refine⟨a,rfl,.inl m,⟨rfl,vU (lE.mpr ⟨(S.kY m).1,cX.1⟩) cX.2.1 n6 (λb mb=>?_) (λ_ m=>nomatch m),λb mb=>?_,λi x e=>by simp at e,S.cell⟩,r.same sm λ_ h=>h⟩
   .rcases cD.mp mb with rfl|mb
    .exact(S.kY m).2
    .exact cX.2.2.2 b mb
   .rcases cD.mp mb with rfl|mb
    .exact r.nt
    .exact S.dom b mb
  |ce n=>exact⟨S.none,r⟩
  |sc ns=>obtain⟨a,e,q⟩:=r;exact⟨S.none,a,e,uL.seq q⟩
  |ks ns=>obtain⟨a,e,q⟩:=r;exact⟨S.none,a,e,uL.oZ q⟩
  |tp=>exact r.elim
 .cases hf
theorem R7{K:aJ}{i:Nat}{t:TE}{f:FE}(w:∀σ H Q,tE K f σ H Q->t σ H Q):∀D σ H,tS K (fj i f) D σ H->An t (u6 i) D σ H:=by
 rintro D σ H ⟨Z,Θ,aj,C,fl,aU,C',S,hf,q⟩;unfold fj at hf;split at hf
 .rename_i r e1 C1 h1;cases hf;refine w _ _ _ ⟨Z,Θ,aj,C,r,e1,C',S,h1,λv H1 k f R=>q Θ _ H1 ⟨jq.refl _ _,sy k,λa m=>?_,R.set⟩⟩;rcases uP m with m|⟨⟨d,e⟩,e2⟩
  .exact .inl (f.own.subset m)
  .subst e
   obtain⟨b,e3,n,_⟩:=R
   rw[e2] at e3;cases e3;exact .inr n
 .cases hf
theorem ie(hN:X.N.Nodup)(hi:X.N[i]?=aa x)(hx:Loc X.env.scope x)(he:PE X e (tE X.K f))(hs:uG e (aa (.Name x pos')) pos.line X.env=pure aF:=by rfl)(hf:X.fn x=au\/X.env.scope.names.lookup x=aa .local:=by first|exact .inl rfl|exact .inr rfl|assumption):
  PS X (.Assign [.Name x pos'] e pos) (tS X.K (fj i f)):=(UG hN hi hx he hs hf).weak (R7 λ_ _ _ h=>h)
end
abbrev FG:=az->En->Option En
abbrev yw:=List az->En->Option En
def vV(K:aJ)(g:TG)(fg:FG):Prop:=∀(Z Θ:List aq)(aj:En)(C:Ce)(σ:St)(H:Hp)(v:V)(d:az)(aU:En),Sm K Z Θ aj C σ H->RZ (er (bh Z Θ aj σ) H) d v->fg d aj=aa aU->
 ∀Q:St->Hp->Prop,(∀σ',Sm K Z Θ aU C σ' H->(∀a∈bM aU σ',a∈bM aj σ)->Q σ' H)->g v σ H Q
def Ax(K:aJ)(g:o8)(fg:yw):Prop:=∀(Z Θ:List aq)(aj:En)(C:Ce)(σ:St)(H:Hp)(vs:List V)(ds:List az)(aU:En),Sm K Z Θ aj C σ H->bV (er (bh Z Θ aj σ) H) ds vs->fg ds aj=aa aU->
 ∀Q:St->Hp->Prop,(∀σ',Sm K Z Θ aU C σ' H->(∀a∈bM aU σ',a∈bM aj σ)->Q σ' H)->g vs σ H Q
noncomputable def gB (i:Nat):FG:=λd aj=>aa (aj.set i (aa (.im d)))
def Ah:yw:=λds aj=>match ds with
 |[]=>aa aj
 |_=>ak
def oK(g:FG)(u:yw):yw:=λds aj=>match ds with
 |d::r=>match g d aj with
  |some e1=>u r e1
  |none=>ak
 |[]=>ak
def Gx(n:Nat)(u:yw):FG:=λd aj=>match d with
 |.tuple ds=>if ds.length=n then u ds aj else ak
 |_=>ak
theorem U9(h:∀a∈bM e1 σ1,a∈bM aj σ):bN (er (bh Z Θ aj σ) H) (er (bh Z Θ e1 σ1) H):=pP λb m=>by
 rcases cL.mp m with m|m
 .exact gf _ m
 .rcases cL.mp m with m|m
  .exact dj _ (gf _ m)
  .exact dj _ (dj _ (h b m))
section
variable{K:aJ}
theorem lJ:vV K (u6 i) (gB i):=by
 intro Z Θ aj C σ H v d aU S r e Q q;cases e;refine q _ (S.vJ (λ_ z=>nomatch z) r) λa m=>?_
 rcases uP m with m|⟨⟨_,z⟩,_⟩
 .exact m
 .cases z
theorem TV:Ax K Mw Ah:=by
 intro Z Θ aj C σ H vs ds aU S r e Q q;unfold Ah at e;split at e
 .cases e
  exact⟨r,q _ S λ_ m=>m⟩
 .cases e
theorem rY(h:vV K g fg)(hu:Ax K u fu):Ax K (Ma g u) (oK fg fu):=by
 intro Z Θ aj C σ H vs ds aU S r e Q q;unfold oK at e;split at e
 .rename_i d r'
  obtain⟨v,ws,rfl,r1,r2⟩:=r
  split at e
  .rename_i e1 h1
   refine⟨v,ws,rfl,h Z Θ aj C σ H v d e1 S r1 h1 _ λσ1 S1 o1=>?_⟩
   exact hu Z Θ e1 C σ1 H ws r' aU S1 (r2.same (U9 o1)) e Q λσ2 S2 o2=>q σ2 S2 λa m=>o1 a (o2 a m)
  .cases e
 .cases e
theorem aeW(hu:Ax K u fu):vV K (Mx K n u) (Gx n fu):=by
 intro Z Θ aj C σ H v d aU S r e Q q;unfold Gx at e;split at e
 .rename_i ds;split at e
  .rename_i hl
   obtain⟨a,vs,rfl,ha,r⟩:=r
   exact⟨a,vs,rfl,bO.of (eU ha),(fV r).trans hl,hu Z Θ aj C σ H vs ds aU S r e Q q⟩
  .cases e
 .cases e
end
def yh(f:FE)(g:FG):FS:=λaj C=>match f aj C with
 |some (r,e1,C1)=>match still r with
  |.im d=>match g d e1 with
   |some e2=>aa (.nx,e2,C1)
   |none=>ak
  |_=>ak
 |none=>ak
theorem Res.vm{K:aJ}{Z Θ:List aq}{aj:En}{C:Ce}{σ:St}{H H':Hp}{r:Vl}{v:V}{d:az}(h:Res K Z Θ aj C σ H H' r v)(e:L2.still r=.im d):Sm K Z Θ aj C σ H'/\RZ (er (bh Z Θ aj σ) H') d v:=by
 have g:=h.still;rw[e] at g;exact g
section
variable{X:Cx}{pos:Pos}
theorem Va{tg e:Expr}{f:FE}{g:TG}{fg:FG}(he:PE X e (tE X.K f))(hg:PG X tg g)(L:vV X.K g fg)(hs:uy [tg] e pos.line X.env=pure aF:=by rfl)(hw:uz [tg] e X.env=pure ak:=by rfl)(h1:(ni [tg] X.env).map (·.2)=[assign tg X.env]:=by rfl):
  PS X (.Assign [tg] e pos) (tS X.K (yh f fg)):=(KY he hg hs hw h1).weak λD σ H aR=>by
 obtain⟨Z,Θ,aj,C,fl,aU,C',S,hf,q⟩:=aR
 unfold yh at hf;split at hf
 .rename_i r e1 C1 h1;split at hf
  .rename_i d hd;split at hf
   .rename_i e2 h2;cases hf
    refine⟨Z,Θ,aj,C,r,e1,C',S,h1,λv H1 k f R=>?_⟩
    obtain⟨S1,r1⟩:=R.vm hd
    exact L Z Θ e1 C' σ H1 v d aU S1 r1 h2 D.nx λσ' S' o=>q Θ σ' H1 ⟨jq.refl _ _,sy k,λa m=>.inl (f.own.subset (o a m)),S'⟩
   .cases hf
  .cases hf
 .cases hf
end
inductive qO(K:aJ)(E H:Hp)(Θ:List aq):List aq->List Vl->List V->Prop
 |nil:qO K E H Θ [] [] []
 |cons {as:List aq} {x:Vl} {v:V} {xs:List Vl} {vs:List V}:qN K E Θ x v->qO K E H Θ as xs vs->qO K E H Θ as (x::xs) (v::vs)
 |own {as:List aq} {a:aq} {d:az} {xs:List Vl} {vs:List V}:jl E H a d->qO K E H Θ as xs vs->qO K E H Θ (as++[a]) (.ow d::xs) (.ref a::vs)
inductive vW(K:aJ)(f:FA)(σ:St)(H:Hp)(Q:List V->Hp->Prop):Prop
 |mk (Z Θ:List aq) (aj:En) (C:Ce) (xs:List Vl) (aU:En) (C':Ce) (S:Sm K Z Θ aj C σ H) (hf:f aj C=aa (xs,aU,C')) (q:∀vs as H',bf Θ H H'->Fz aj aU->(∀a∈as,H a=ak)->Sm K (as++Z) Θ aU C' σ H'->qO K (er (bh (as++Z) Θ aU σ) H') H' Θ as xs vs->Q vs H'):vW K f σ H Q
def nG(f:FE)(g:FA):FA:=λaj C=>match f aj C with
 |some (r,e1,C1)=>match g e1 C1 with
  |some (xs,e2,C2)=>aa (r::xs,e2,C2)
  |none=>ak
 |none=>ak
section
variable{K:aJ}{Z Z' Θ:List aq}{aj:En}{C:Ce}{σ:St}{H:Hp}
theorem iQ:a∈bh Z Θ aj σ↔a∈Z\/a∈Θ\/a∈bM aj σ:=by rw[cL,cL]
theorem Sm.perm(S:Sm K Z Θ aj C σ H)(p:Z.Perm Z'):Sm K Z' Θ aj C σ H:=by
 have e:er (bh Z Θ aj σ) H=er (bh Z' Θ aj σ) H:=qL λa=>by rw[iQ,iQ,p.mem_iff]
 refine⟨S.len,(List.Perm.append_right _ p).nodup S.nd,λa m=>S.dom a (p.mem_iff.mpr m),λi x h=>?_,S.cell⟩
 rw[<-e];exact S.slot i x h
end
section
variable{X:Cx}{e:Expr}{es:List Expr}{pos:Pos}
theorem El:PA X [] (vW X.K bF):=lN.weak λσ H Q aR=>by
 obtain⟨Z,Θ,aj,C,xs,aU,C',S,hf,q⟩:=aR
 cases hf;exact q [] [] H (bf.refl _ _) (Fz.refl _) (λ_ m=>nomatch m) S .nil
theorem qF(h:PE X e (tE X.K f))(hr:PA X es (vW X.K g))(hs:bG (e::es) X.env=(aF,eval e X.env)::bG es X.env:=by rfl):PA X (e::es) (vW X.K (nG f g)):=(jA h hr hs).weak λσ H Q aR=>by
 obtain⟨Z,Θ,aj,C,xs,aU,C',S,hf,q⟩:=aR
 unfold nG at hf;split at hf
 .rename_i r e1 C1 h1;split at hf
  .rename_i ys e2 C2 h2;cases hf
   refine⟨Z,Θ,aj,C,r,e1,C1,S,h1,λv H1 k1 f1 R1=>?_⟩
   have plain:∀{x:Vl},Sm X.K Z Θ e1 C1 σ H1->qN X.K (er (bh Z Θ e1 σ) H1) Θ x v->r=x->vW X.K g σ H1 λxs H2=>Q (v::xs) H2:=λ{x} S1 a1 ex=>by
    subst ex
    refine⟨Z,Θ,e1,C1,ys,aU,C',S1,h2,λvs as H2 k2 f2 n2 S2 a2=>q _ as H2 (k1.trans k2) (f1.trans f2) (λa m=>k1.none (n2 a m)) S2 (.cons (a1.same (jV k2 S1.qe λa m=>?_)) a2)⟩
    rcases cL.mp m with m|m
    .rcases cL.mp m with m|m
     .exact .inr (n2 a m)
     .exact .inl (gf _ m)
    .exact .inl (f2.sub (Z:=Z) a (dj _ m))
   cases r with
   |im d=>exact plain (x:=.im d) R1.1 R1.2 rfl
   |ce n=>exact plain (x:=.ce n) R1.1 R1.2 rfl
   |sc ns=>exact plain (x:=.sc ns) R1.1 R1.2 rfl
   |ks ns=>exact plain (x:=.ks ns) R1.1 R1.2 rfl
   |tp=>exact R1.elim
   |ow d=>
    obtain⟨a,rfl,hn,S1,r1⟩:=R1
    refine⟨a::Z,Θ,e1,C1,ys,aU,C',S1,h2,λvs as H2 k2 f2 n2 S2 a2=>?_⟩
    have ez:as++a::Z=(as++[a])++Z:=by rw[nY];rfl
    rw[ez] at S2 a2;have na:a∉Θ:=λm=>(S1.cX.2.2.2 a gh) m
    refine q _ (as++[a]) H2 (k1.trans k2) (f1.trans f2) (λb m=>?_) S2 (.own (r1.same (jV k2 S1.qe λb m=>?_) λo ho=>k2.keep _ _ ho na) a2)
    .rcases cL.mp m with m|m
     .exact k1.none (n2 b m)
     .rw[gZ.mp m];exact hn
    .rcases cL.mp m with m|m
     .rcases cL.mp m with m|m
      .rcases cL.mp m with m|m
       .exact .inr (n2 b m)
       .rw[gZ.mp m];exact .inl gh
      .exact .inl (gf _ (fQ _ m))
     .exact .inl (f2.sub (Z:=a::Z) b (dj _ m))
  .cases hf
 .cases hf
end
noncomputable def setM {α:Type}:List Nat->List α->List (Option α)->List (Option α)
 |i::is,x::xs,e=>setM is xs (e.set i (aa x))
 |_,_,e=>e
theorem Kg{K:aJ}{Z Θ:List aq}{C:Ce}{H:Hp}{E:Hp}:∀{as:List aq}{xs:List Vl}{vs:List V},qO K E H Θ as xs vs->∀{is:List Nat}{aj:En}{σ:St},is.length=xs.length->bN E (er (bh (as++Z) Θ aj σ) H)->Sm K (as++Z) Θ aj C σ H->
  Sm K Z Θ (setM is xs aj) C (setM is vs σ) H/\∀a∈bM (setM is xs aj) (setM is vs σ),a∈bM aj σ\/a∈as:=by
 intro as xs vs h;induction h with
 |nil=>
  intro is aj σ hl _ S;cases is with
  |nil=>exact⟨S,λa m=>.inl m⟩
  |cons _ _=>cases hl
 |@cons as x v xs vs a1 _ ih=>
  intro is aj σ hl sm S;cases is with
  |nil=>cases hl
  |cons i is=>
   have hx:∀d,x≠.ow d:=λd z=>by subst z;exact a1
   have sl:ye K (er (bh (as++Z) Θ aj σ) H) H Θ x v:=by
    have a2:=a1.same sm;cases x with
    |im d=>exact a2
    |ow d=>exact absurd rfl (hx d)
    |ce n=>exact a2
    |sc ns=>exact a2
    |ks ns=>exact a2
    |tp=>exact a2
   have S1:Sm K (as++Z) Θ (aj.set i (aa x)) C (σ.set i (aa v)) H:=S.vJ hx sl;have o1:∀b∈bM (aj.set i (aa x)) (σ.set i (aa v)),b∈bM aj σ:=λb m=>by
    rcases uP m with m|⟨⟨d,z⟩,_⟩
    .exact m
    .exact absurd z (hx d)
   obtain⟨S2,o2⟩:=ih (is:=is) (by simpa using hl) (sm.trans (U9 o1)) S1
   refine⟨S2,λb m=>?_⟩
   rcases o2 b m with m|m
   .exact .inl (o1 b m)
   .exact .inr m
 |@own as a d xs vs r _ ih=>
  intro is aj σ hl sm S;cases is with
  |nil=>cases hl
  |cons i is=>
   have pm:((as++[a])++Z).Perm (a::(as++Z)):=by
    rw[nY];exact List.perm_middle
   have S0:=S.perm pm;have ee:er (bh ((as++[a])++Z) Θ aj σ) H=er (bh (a::(as++Z)) Θ aj σ) H:=qL λb=>by rw[iQ,iQ,pm.mem_iff]
   rw[ee] at sm;have S1:Sm K (as++Z) Θ (aj.set i (aa (.ow d))) C (σ.set i (aa (.ref a))) H:=S0.Wx (r.same sm λ_ h=>h);have o1:∀b∈bM (aj.set i (aa (.ow d))) (σ.set i (aa (.ref a))),b∈bM aj σ\/b=a:=λb m=>by
    rcases uP m with m|⟨_,z⟩
    .exact .inl m
    .cases z;exact .inr rfl
   obtain⟨S2,o2⟩:=ih (is:=is) (by simpa using hl) (sm.trans (pP λb m=>by
    rcases cL.mp m with m|m
    .exact gf _ (fQ _ m)
    .rcases cL.mp m with m|m
     .exact dj _ (gf _ m)
     .rcases o1 b m with m|rfl
      .exact dj _ (dj _ m)
      .exact gf _ gh)) S1
   refine⟨S2,λb m=>?_⟩
   rcases o2 b m with m|m
   .rcases o1 b m with m|rfl
    .exact .inl m
    .exact .inr (dj _ (gZ.mpr rfl))
   .exact .inr (gf _ m)
theorem TX{K:aJ}{E H:Hp}{Θ as:List aq}{xs:List Vl}{vs:List V}(h:qO K E H Θ as xs vs):vs.length=xs.length:=by
 induction h with
 |nil=>rfl
 |cons _ _ ih=>rw[eE,eE,ih]
 |own _ _ ih=>rw[eE,eE,ih]
def q9(is:List Nat)(g:FA):FS:=λaj C=>match g aj C with
 |some (xs,e1,C1)=>if is.length=xs.length/\xs.length<=dH then aa (.nx,setM is xs e1,C1) else ak
 |none=>ak
def NK(is:List Nat):o8:=match is with
 |[]=>Mw
 |i::r=>Ma (u6 i) (NK r)
theorem TY:∀{is:List Nat}{vs:List V}{σ:St}{H:Hp}{Q:St->Hp->Prop},is.length=vs.length->Q (setM is vs σ) H->NK is vs σ H Q
 |[],[],σ,H,Q,_,q=>⟨rfl,q⟩
 |i::is,v::vs,σ,H,Q,h,q=>⟨v,vs,rfl,TY (by simpa using h) q⟩
 |[],_::_,_,_,_,h,_=>by cases h
 |_::_,[],_,_,_,h,_=>by cases h
section
variable{X:Cx}{pos:Pos}
theorem Le{i j:Nat}{x y:Str}{a b:Expr}{g:FA}{px py pt:Pos}{kt k2 lz}(hc:X.calm=au)(hN:X.N.Nodup)(hi:X.N[i]?=aa x)(hj:X.N[j]?=aa y)(hij:i≠j)
  (hx:X.env.scope.names.lookup x=aa .local)(hy:X.env.scope.names.lookup y=aa .local)(ha:PA X [a,b] (vW X.K g))
  (hw:uz [.Tuple [.Name x px,.Name y py] kt pt] (.Tuple [a,b] k2 lz) X.env=pure (aa [x,y]))
  (hs:uy [.Tuple [.Name x px,.Name y py] kt pt] (.Tuple [a,b] k2 lz) pos.line X.env=pure aF:=by rfl):
  PS X (.Assign [.Tuple [.Name x px,.Name y py] kt pt] (.Tuple [a,b] k2 lz) pos) (tS X.K (q9 [i,j] g)):=(aev hc hN hi hj hij hx hy ha hw hs).weak λD σ H aR=>by
 obtain⟨Z,Θ,aj,C,fl,aU,C',S,hf,q⟩:=aR
 unfold q9 at hf;split at hf
 .rename_i xs e1 C1 h1;split at hf
  .rename_i hl;cases hf
   refine⟨Z,Θ,aj,C,xs,e1,C',S,h1,λvs as H1 k1 f1 n1 S1 a1=>?_⟩
   have l2:=TX a1
   obtain⟨S2,o2⟩:=Kg a1 hl.1 (bN.refl _) S1
   have e2:∃v w,vs=[v,w]:=by
    have:vs.length=2:=by rw[l2,<-hl.1];rfl
    match vs,this with
    |[v,w],_=>exact⟨v,w,rfl⟩
   obtain⟨v,w,rfl⟩:=e2
   refine⟨v,w,rfl,q Θ _ H1 ⟨jq.refl _ _,sy k1,λb m=>?_,S2⟩⟩
   rcases o2 b m with m|m
   .exact .inl (f1.own.subset m)
   .exact .inr (n1 b m)
  .cases hf
 .cases hf
end
theorem R8:∀{aj:En}{σ:St}{i:Nat}{d d':az},aj[i]?=aa (aa (.ow d))->bM (aj.set i (aa (.ow d'))) σ=bM aj σ
 |[],σ,i,d,d',h=>by simp at h
 |x::e,[],i,d,d',h=>by cases i<;>rfl
 |x::e,v::s,0,d,d',h=>by
  simp at h;subst h;show own1 (aa (.ow d')) v++bM e s=own1 (aa (.ow d)) v++bM e s;rcases v with _|v
  .rfl
  .cases v<;>rfl
 |x::e,v::s,i+1,d,d',h=>by
  show own1 x v++bM (e.set i (aa (.ow d'))) s=own1 x v++bM e s;rw[R8 (by simpa using h)]
section
variable{K:aJ}{Z Θ:List aq}{aj:En}{C:Ce}{σ:St}{H:Hp}{a:aq}{i:Nat}{d d':az}{o:HO}
theorem Vb(h:a∈P):er P (upd H a o)=er P H:=by
 funext b;unfold er;by_cases hb:b=a
 .subst hb;rw[bB h,bB h]
 .rw[cR hb]
theorem Sm.write(S:Sm K Z Θ aj C σ H)(e1:aj[i]?=aa (aa (.ow d)))(e2:σ[i]?=aa (aa (.ref a)))(r:jl (er (bh Z Θ aj σ) H) (upd H a o) a d'):dO K Z Θ aj σ H Θ (aj.set i (aa (.ow d'))) C σ (upd H a o):=by
 have m:a∈bM aj σ:=jQ.mpr ⟨i,d,e1,e2⟩;have no:=S.kY m;have eo:bM (aj.set i (aa (.ow d'))) σ=bM aj σ:=R8 e1;have mp:a∈bh Z Θ aj σ:=dj _ (dj _ m);have ep:bh Z Θ (aj.set i (aa (.ow d'))) σ=bh Z Θ aj σ:=by show _++(_++_)=_;rw[eo]
 refine⟨jq.refl _ _,⟨λb u hb n=>?_,λb hb=>?_⟩,λb mb=>.inl (by rw[eo] at mb;exact mb),⟨by rw[wz];exact S.len,by rw[ep];exact S.nd,λb mb=>?_,λj y ej=>?_,⟨S.cell.len,λn b ns h1 h2=>?_⟩⟩⟩
 .rw[cR (λz=>n (dj _ (by rw[z];exact m)))];exact hb
 .by_cases z:b=a
  .subst z;rw[fL];exact rJ _
  .rw[cR z];exact hb
 .rw[cR (λz=>no.1 (by rw[<-z];exact mb))];exact S.dom b mb
 .rw[ep,Vb mp];rcases get_set ej with⟨rfl,ex,hl⟩|⟨n,ej⟩
  .cases ex
   exact⟨_,e2,a,rfl,r⟩
  .obtain⟨v,e3,r3⟩:=S.slot j y ej
   refine⟨v,e3,r3.same (bN.refl _) λd2 b ex ev u hu=>?_⟩
   subst ex ev;rw[cR]
   .exact hu
   .intro z;subst z;exact n (zN S.cX.2.2.1 ej e3 e1 e2)
 .rw[cR (λz=>no.2 (by rw[<-z];exact nW h1))];exact S.cell.at_ n b ns h1 h2
end
def qP:Option (Option Vl)->Bool
 |some (some (.ow (.list _)))=>au
 |_=>aF
def p6(i:Nat)(f:FE):FS:=λaj C=>if qP aj[i]? then match f aj C with
  |some (r,e1,C1)=>match still r,e1[i]? with
   |.im d,some (some (.ow (.list ds)))=>if ds.length<dH then aa (.nx,e1.set i (aa (.ow (.list (ds++[d])))),C1) else ak
   |_,_=>ak
  |none=>ak
 else ak
theorem R9(h:qP x=au):∃ds,x=aa (aa (.ow (.list ds))):=by
 unfold qP at h;split at h
 .exact⟨_,rfl⟩
 .cases h
section
variable{X:Cx}{pos:Pos}
theorem Em(ho:PE X o (mL i))(he:PE X e (tE X.K f))
  (hs0:uG (.Call (.Attribute o "append" apos) [e] [] cpos) ak pos.line X.env=pure aF:=by rfl)
  (hbase:uA o "append" X.env (eval o X.env)=eval o X.env:=by rfl)
  (hfew:((gb cpos (bG [e] X.env)).all (λx=>!x.1)&&(uK cpos (uD [] X.env)).all (λx=>x.1.isSome)
   &&decide (([e]:List Expr).length+([]:List jU).length+(if([]:List jU).isEmpty then 0 else 1)<30))=au:=by rfl)
  (hline:(apos.endLine==cpos.line)=au:=by rfl)(hs:bG [e] X.env=(aF,eval e X.env)::bG [] X.env:=by rfl)(hplain:(gb cpos (bG [] X.env)).any (·.1)=aF:=by rfl):
  PS X (.Expr (.Call (.Attribute o "append" apos) [e] [] cpos) pos) (tS X.K (p6 i f)):=
 (Td (EY Ow YG PySem.F.type_list_append (tZ.r Rg) ho (jA he lN hs) hbase hfew hline hs hplain) hs0).weak λD σ H aR=>by
  obtain⟨Z,Θ,aj,C,fl,aU,C',S,hf,q⟩:=aR
  unfold p6 at hf;split at hf
  .rename_i h0
   obtain⟨ds0,h0⟩:=R9 h0
   obtain⟨v0,vX,a,rfl,NP,ha0,r0⟩:=S.slot i _ h0
   split at hf
   .rename_i r e1 C1 h1;split at hf
    .rename_i d ds hd hi;split at hf
     .rename_i hl;cases hf
      refine⟨_,vX,.inl ⟨rfl,NP,bL.of ha0⟩,Z,Θ,aj,C,r,e1,C',S,h1,λv H1 k f R=>?_⟩
      obtain⟨S1,r1⟩:=R.vm hd
      obtain⟨v1,ev1,a1,NQ,vs,ha1,r2⟩:=S1.slot i _ hi
      subst NQ;rw[vX] at ev1;cases ev1
      refine⟨a,vs,v,rfl,rfl,ha1,by rw[fV r2,m6];unfold dH at hl;lia,?_⟩
      have w:dO X.K Z Θ e1 σ H1 Θ (e1.set i (aa (.ow (.list (ds++[d]))))) C' σ (upd H1 a (.lst (vs++[v]))):=S1.write hi vX ⟨_,fL,xx r2 ⟨v,[],rfl,r1,rfl⟩⟩;exact q Θ σ _ ((dO.rD k f S1).trans w)
     .cases hf
    .cases hf
   .cases hf
  .cases hf
def vK{κ:Type}[DecidableEq κ](f:az->Option κ)(k:κ)(dk d:az)(aC:List (az×az)):List (az×az):=
 if(aC.any λp=>decide (f p.1=aa k))=au then aC.map (λp=>if f p.1=aa k then(p.1,d) else p) else aC++[(dk,d)]
def putD(aC:List (az×az))(dk d:az):Option (List (az×az)):=match mQ dk with
 |some k=>if(dW mQ aC).isSome then aa (vK mQ k dk d aC) else ak
 |none=>match pW dk with
  |some ks=>if(dW pW aC).isSome then aa (vK pW ks dk d aC) else ak
  |none=>ak
theorem T3[DecidableEq κ]:∀{aC:List (az×az)}{ks:List κ}{vs:List V},dW f aC=aa ks->jg E aC vs->(aC.any λp=>decide (f p.1=aa k))=((ks.zip vs).any λkv=>decide (kv.1=k))
 |[],ks,vs,h,r=>by
  cases h
  cases(show vs=[] from r)
  rfl
 |(p,d)::aC,ks,vs,h,r=>by
  unfold dW at h;split at h
  .rename_i k' t h1 h2;cases h
   obtain⟨v,w,rfl,q,s⟩:=r
   show(decide (f p=aa k)||_)=(decide (k'=k)||_)
   rw[T3 h2 s,h1];congr 1;rw[pF,decide_eq_true_iff,decide_eq_true_iff]
   exact⟨λe=>gG e,λe=>by rw[e]⟩
  .cases h
theorem T4[DecidableEq κ](hv:RZ E d v):∀{aC:List (az×az)}{ks:List κ}{vs:List V},dW f aC=aa ks->jg E aC vs->
  ∃vs',dW f (aC.map λp=>if f p.1=aa k then(p.1,d) else p)=aa ks/\jg E (aC.map λp=>if f p.1=aa k then(p.1,d) else p) vs'/\ks.zip vs'=(ks.zip vs).map λkv=>if kv.1=k then(kv.1,v) else kv
 |[],ks,vs,h,r=>by
  cases h
  exact⟨[],rfl,rfl,rfl⟩
 |(p,e)::aC,ks,vs,h,r=>by
  unfold dW at h;split at h
  .rename_i k' t h1 h2;cases h
   obtain⟨u,w,rfl,q,s⟩:=r
   obtain⟨vs',g1,g2,g3⟩:=T4 (k:=k) hv h2 s
   have h1':f p=aa k':=h1;by_cases ek:k'=k
   .subst ek
    refine⟨v::vs',?_,?_,?_⟩
    .rw[fD];show dW f ((if f p=aa k' then(p,d) else(p,e))::_)=_;rw[bB h1'];unfold dW;rw[g1];simp only[h1']
    .rw[fD];show jg E ((if f p=aa k' then(p,d) else(p,e))::_) _;rw[bB h1']
     exact⟨v,vs',rfl,hv,g2⟩
    .show(k',v)::t.zip vs'=(if k'=k' then(k',v) else(k',u))::_
     rw[bB rfl,g3];rfl
   .have ne:¬f p=aa k:=λz=>ek (gG (h1'.symm.trans z))
    refine⟨u::vs',?_,?_,?_⟩
    .rw[fD];show dW f ((if f p=aa k then(p,d) else(p,e))::_)=_;rw[bK ne];unfold dW;rw[g1];simp only[h1']
    .rw[fD];show jg E ((if f p=aa k then(p,d) else(p,e))::_) _;rw[bK ne]
     exact⟨u,vs',rfl,q,g2⟩
    .show(k',u)::t.zip vs'=(if k'=k then(k',v) else(k',u))::_
     rw[bK ek,g3];rfl
  .cases h
theorem Sd{κ:Type}{f:az->Option κ}{k:κ}{E:Hp}{dk d:az}{v:V}(hk:f dk=aa k)(hv:RZ E d v):∀{aC:List (az×az)}{ks:List κ}{vs:List V},dW f aC=aa ks->jg E aC vs->
  dW f (aC++[(dk,d)])=aa (ks++[k])/\jg E (aC++[(dk,d)]) (vs++[v])/\(ks++[k]).zip (vs++[v])=ks.zip vs++[(k,v)]
 |[],ks,vs,h,r=>by
  cases h
  cases(show vs=[] from r)
  refine⟨?_,⟨v,[],rfl,hv,rfl⟩,rfl⟩
  show dW f [(dk,d)]=_;unfold dW dW;simp only[hk];rfl
 |(p,e)::aC,ks,vs,h,r=>by
  unfold dW at h;split at h
  .rename_i k' t h1 h2;cases h
   obtain⟨u,w,rfl,q,s⟩:=r
   obtain⟨g1,g2,g3⟩:=Sd hk hv h2 s
   refine⟨?_,⟨u,_,rfl,q,g2⟩,?_⟩
   .show dW f ((p,e)::(aC++[(dk,d)]))=_;unfold dW;rw[g1];simp only[show f p=aa k' from h1];rfl
   .show(k',u)::(t++[k]).zip (w++[v])=_
    rw[g3];rfl
  .cases h
theorem Kh{κ:Type}[DecidableEq κ]{f:az->Option κ}{k:κ}{E:Hp}{dk d:az}{v:V}(hk:f dk=aa k)(hv:RZ E d v){aC:List (az×az)}{ks:List κ}{vs:List V}(h:dW f aC=aa ks)(r:jg E aC vs):
  ∃ks' vs',dW f (vK f k dk d aC)=aa ks'/\jg E (vK f k dk d aC) vs'/\ks'.zip vs'=putK (ks.zip vs) k v:=by
 unfold vK putK;rw[T3 h r];split
 .obtain⟨vs',g1,g2,g3⟩:=T4 (k:=k) hv h r
  exact⟨ks,vs',g1,g2,g3⟩
 .obtain⟨g1,g2,g3⟩:=Sd hk hv h r
  exact⟨_,_,g1,g2,g3⟩
theorem set_dict(hu:X.A.units+1<gn):qX X (λo i v H Q=>∃a H',o=.ref a/\oY H a i v H'/\∀e,Q (H' e)):=by
 intro ao s σ H o i v ov iv u Q I ro ri rv h
 obtain⟨a,H',rfl,g,q⟩:=h
 cases ro;exact Ri hu I g ri rv λe s' I'=>⟨H' e,I',q e⟩
theorem abj(hu:X.A.units+1<gn):qX X (λo i v H Q=>∃(a b:aq)(ks:List Key),o=.ref a/\(∃ep,H a=aa (.dK [] ep))/\i=.ref b/\H b=aa (.tup (ks.map kV))/\∀e,Q (upd H a (.dT [(ks,v)] e))):=by
 intro ao s σ H o i v ov iv u Q I ro ri rv h
 obtain⟨a,b,ks,rfl,⟨ep,ha⟩,rfl,hb,q⟩:=h
 cases ro;have hb':(upd H a (.dT [] ep)) b=aa (.tup (ks.map kV)):=by rw[cR (LQ hb ha (λz=>nomatch z))];exact hb
 refine Ri hu (I.Nz ha) (oY.t (aC:=[]) (k:=ks) (v:=v) fL hb' (by rw[m6];decide)) ri rv λe s' I'=>⟨_,I',?_⟩
 show Q (upd (upd H a (.dT [] ep)) a _);rw[S7];exact q e
theorem qX.or(h:qX X t)(h':qX X t'):qX X (λo i v H Q=>t o i v H Q\/t' o i v H Q):=by
 intro ao s σ H o i v ov iv u Q I ro ri rv q;rcases q with q|q
 .exact h ao s σ H o i v ov iv u Q I ro ri rv q
 .exact h' ao s σ H o i v ov iv u Q I ro ri rv q
theorem adn(hu:X.A.units+1<gn):qX X (λo i v H Q=>(Mi o i v H Q\/∃a H',o=.ref a/\oY H a i v H'/\∀e,Q (H' e))\/∃(a b:aq)(ks:List Key),o=.ref a/\(∃ep,H a=aa (.dK [] ep))/\i=.ref b/\H b=aa (.tup (ks.map kV))/\∀e,Q (upd H a (.dT [(ks,v)] e))):=
 (set_list.or (set_dict hu)).or (abj hu)
def xV:Option (Option Vl)->Bool
 |some (some _)=>au
 |_=>aF
theorem ado(h:xV x=au):∃y,x=aa (aa y):=by
 unfold xV at h;split at h
 .exact⟨_,rfl⟩
 .cases h
def yj(i:Nat)(d dk:az)(e:En)(C:Ce):Option Vl->Option (Fl×En×Ce)
 |some (.ow (.list ds))=>(intD dk).bind λz=>(j6 ds.length z).bind λj=>aa (.nx,e.set i (aa (.ow (.list (ds.set j d)))),C)
 |some (.ow (.dict aC))=>(putD aC dk d).bind λkvs'=>bif decide (aC.length<dH) then aa (.nx,e.set i (aa (.ow (.dict kvs'))),C) else ak
 |some (.ce n)=>(intD dk).bind λz=>(intD d).bind λy=>(C[n]?).bind λns=>(j6 ns.length z).bind λj=>aa (.nx,e,C.set n (ns.set j y))
 |_=>ak
def Ay(i:Nat)(fk:FB)(fe:FE):FS:=λaj C=>(fe aj C).bind λp=>(Bu (still p.1)).bind λd=>(fk p.2.1 p.2.2).bind λk=>bif xV p.2.1[i]? then(k.2.1[i]?).bind (yj i d k.1 k.2.1 k.2.2) else ak
def Ai(o i v:V)(H:Hp)(Q:Hp->Prop):Prop:=(Mi o i v H Q\/∃a H',o=.ref a/\oY H a i v H'/\∀e,Q (H' e))\/∃(a b:aq)(ks:List Key),o=.ref a/\(∃ep,H a=aa (.dK [] ep))/\i=.ref b/\H b=aa (.tup (ks.map kV))/\∀e,Q (upd H a (.dT [(ks,v)] e))
section
variable{K:aJ}{Z Θ:List aq}{e2:En}{C2:Ce}{σ:St}{H2:Hp}{i:Nat}{d dk:az}{v w:V}{a:aq}{R:Hp->Prop}{p:Fl×En×Ce}
theorem ab2(S2:Sm K Z Θ e2 C2 σ H2)(eu:σ[i]?=aa (aa (.ref a)))(hi:e2[i]?=aa (aa (.ow (.list ds))))(rt:jl (er (bh Z Θ e2 σ) H2) H2 a (.list ds))(r2:RZ (er (bh Z Θ e2 σ) H2) d v)(b2:dM Z Θ e2 σ H2 dk w)(hf:yj i d dk e2 C2 (aa (.ow (.list ds)))=aa p):
  p.1=.nx/\((∀Hx,dO K Z Θ e2 σ H2 Θ p.2.1 p.2.2 σ Hx->R Hx)->Ai (.ref a) w v H2 R):=by
 obtain⟨z,hz,hf⟩:=gj hf
 obtain⟨j,hj,hf⟩:=gj hf
 cases hf;have hz:=Ka hz;subst hz
 obtain⟨vs,ha,r3⟩:=rt
 have b2:w=.int z:=b2;subst b2
 exact⟨rfl,λq=>.inl (.inl ⟨a,vs,z,j,rfl,rfl,ha,by rw[fV r3];exact hj,q _ (S2.write hi eu ⟨_,fL,Tt r2 j r3⟩)⟩)⟩
theorem T5(aC:List (az×az)):vK pW NZ dk d aC≠[]:=λz=>by
 unfold vK at z;split at z
 .rename_i hz;cases aC with
  |nil=>cases hz
  |cons _ _=>cases z
 .cases aC<;>cases z
theorem ab3{aC:List (az×az)}(S2:Sm K Z Θ e2 C2 σ H2)(eu:σ[i]?=aa (aa (.ref a)))(hi:e2[i]?=aa (aa (.ow (.dict aC))))(rt:jl (er (bh Z Θ e2 σ) H2) H2 a (.dict aC))(r2:RZ (er (bh Z Θ e2 σ) H2) d v)(b2:dM Z Θ e2 σ H2 dk w)(hf:yj i d dk e2 C2 (aa (.ow (.dict aC)))=aa p):
  p.1=.nx/\((∀Hx,dO K Z Θ e2 σ H2 Θ p.2.1 p.2.2 σ Hx->R Hx)->Ai (.ref a) w v H2 R):=by
 refine hide λGG gg=>?_
 obtain⟨kvs',hp,hf⟩:=gj hf
 cases hl:decide (aC.length<dH) with
 |false=>rw[hl] at hf;cases hf
 |true=>
 rw[hl] at hf;cases hf;have hl:=of_decide_eq_true hl;have hl':∀{κ:Type}(ks:List κ)(vs:List V),ks.length=aC.length->(ks.zip vs).length<bQ:=λks vs e=>by
  rw[Zw,m6,e];unfold dH at hl;lia
 obtain⟨vs,da,r3⟩:=rt
 unfold putD at hp;split at hp
 .rename_i k hk;split at hp
  case isFalse=>cases hp
  rename_i hs';cases hp;have wk:w=kV k:=by
   cases dk<;>first|(cases hk;exact b2)|cases hk
  rcases da with⟨ks,g1,ep,ha⟩|⟨ks,⟨ne,g2⟩,ha⟩
  .obtain⟨ks',vs',g3,g4,g5⟩:=Kh hk r2 g1 r3
   subst wk;exact gg ⟨rfl,λq=>.inl (.inr ⟨a,_,rfl,oY.k (k:=k) (v:=v) ha (hl' ks vs (zE g1)),λe=>q _ (S2.write hi eu ⟨vs',.inl ⟨ks',g3,e,by rw[g5];exact fL⟩,g4⟩)⟩)⟩
  .obtain⟨ag2,g1⟩:=vY.mp hs'
   exact absurd (wY g1 g2) ne
 .split at hp
  case h_2=>cases hp
  rename_i NZ hks;split at hp
  case isFalse=>cases hp
  rename_i hs';cases hp
  obtain⟨b,hb,rfl⟩:∃b,H2 b=aa (.tup (NZ.map kV))/\w=.ref b:=by
   cases dk<;>first|cases hks|skip
   obtain⟨b,ws,rfl,hb,rr⟩:=b2.tup
   rw[zq hks rr] at hb
   exact⟨b,hb,rfl⟩
  rcases da with⟨ks,g1,ha⟩|⟨ks,⟨ne,g1⟩,ep,ha⟩
  .obtain⟨ag2,g2⟩:=vY.mp hs'
   have e0:=wY g1 g2;subst e0;cases g1;have e0:vs=[]:=r3;subst e0
   obtain⟨ks',vs',g3,g4,g5⟩:=Kh (aC:=[]) (vs:=[]) (ks:=[]) hks r2 rfl rfl
   exact gg ⟨rfl,λq=>.inr ⟨a,b,NZ,rfl,ha,rfl,hb,λe=>q _ (S2.write hi eu ⟨vs',.inr ⟨ks',⟨T5 [],g3⟩,e,by rw[g5];exact fL⟩,g4⟩)⟩⟩
  .obtain⟨ks',vs',g3,g4,g5⟩:=Kh hks r2 g1 r3
   exact gg ⟨rfl,λq=>.inl (.inr ⟨a,_,rfl,oY.t ha hb (hl' ks vs (zE g1)),λe=>q _ (S2.write hi eu ⟨vs',.inr ⟨ks',⟨T5 aC,g3⟩,e,by rw[g5];exact fL⟩,g4⟩)⟩)⟩
theorem ab4(S2:Sm K Z Θ e2 C2 σ H2)(hth:Θ[n]?=aa a)(r2:RZ (er (bh Z Θ e2 σ) H2) d v)(b2:dM Z Θ e2 σ H2 dk w)(hf:yj i d dk e2 C2 (aa (.ce n))=aa p):
  p.1=.nx/\((∀Hx,dO K Z Θ e2 σ H2 Θ p.2.1 p.2.2 σ Hx->R Hx)->Ai (.ref a) w v H2 R):=by
 refine hide λGG gg=>?_
 obtain⟨z,hz,hf⟩:=gj hf
 obtain⟨y,hy,hf⟩:=gj hf
 obtain⟨ns,hns,hf⟩:=gj hf
 obtain⟨j,hj,hf⟩:=gj hf
 cases hf;have hz:=Ka hz;have hy:=Ka hy;subst hz hy;have b2:w=.int z:=b2;have ev:v=.int y:=r2;subst ev b2;have ha:=S2.cell.at_ n a ns hth hns;have am:a∈Θ:=nW hth;refine gg ⟨rfl,λq=>.inl (.inl ⟨a,_,z,j,rfl,rfl,ha,by rw[cV];exact hj,q _ ?_⟩)⟩;have kc:bf Θ H2 (upd H2 a (.lst ((ns.map V.int).set j (.int y)))):=⟨λb o hb nb=>by rw[cR (λzz=>nb (by rw[zz];exact am))];exact hb,λb hb=>by
  by_cases zz:b=a
  .subst zz;rw[fL];exact rJ _
  .rw[cR zz];exact hb⟩
 refine dO.rD kc (Fz.refl _) (S2.go kc ⟨by rw[wz];exact S2.cell.len,λm b ms h5 h6=>?_⟩);rcases get_set h6 with⟨rfl,e6,_⟩|⟨nm,h6⟩
 .rw[hth] at h5;cases h5;cases e6;rw[fL,List.map_set]
 .rw[cR]
  .exact S2.cell.at_ m b ms h5 h6
  .intro zz;subst zz
   obtain⟨l1,l1'⟩:=iU.mp h5
   obtain⟨l2,Xe⟩:=iU.mp hth
   rcases Pq m n with hlt|heq|hgt
   .exact Ol.mp S2.cX.2.1 m n l1 l2 hlt (l1'.trans Xe.symm)
   .exact nm heq
   .exact Ol.mp S2.cX.2.1 n m l2 l1 hgt (Xe.trans l1'.symm)
theorem adp(S2:Sm K Z Θ e2 C2 σ H2)(eu:σ[i]?=aa (aa u))(hi:e2[i]?=aa s)(r2:RZ (er (bh Z Θ e2 σ) H2) d v)(b2:dM Z Θ e2 σ H2 dk w)(hf:yj i d dk e2 C2 s=aa p):
  p.1=.nx/\((∀Hx,dO K Z Θ e2 σ H2 Θ p.2.1 p.2.2 σ Hx->R Hx)->Ai u w v H2 R):=by
 cases s with
 |none=>cases hf
 |some s=>
 obtain⟨u',Xf,sl⟩:=S2.slot i _ hi
 rw[eu] at Xf;cases Xf;cases s with
 |im _=>cases hf
 |sc _=>cases hf
 |ks _=>cases hf
 |tp=>cases hf
 |ce n=>
  obtain⟨a,rfl,hth⟩:=sl
  exact ab4 S2 hth r2 b2 hf
 |ow x=>
  obtain⟨a,rfl,rt⟩:=sl
  cases x<;>first|exact ab2 S2 eu hi rt r2 b2 hf|exact ab3 S2 eu hi rt r2 b2 hf|cases hf
end
theorem Vc(hu:X.A.units+1<gn)(ho:PE X o (mL i))(hk:PE X k (cN X.K fk))(he:PE X e (tE X.K fe))
  (ha:∀v,assign (.Subscript o k p) X.env v=(do
   let ov <-uM [v] (eval o X.env)
   let iv <-uM [v,ov] (eval k X.env)
   DK p
   uM [v,ov,iv] (setItem ov iv v)
   release [v,ov,iv] []):=by intro _;rfl)
  (hs:uy [.Subscript o k p] e pos.line X.env=pure aF:=by rfl)(hw:uz [.Subscript o k p] e X.env=pure ak:=by rfl)(h1:(ni [.Subscript o k p] X.env).map (·.2)=[assign (.Subscript o k p) X.env]:=by rfl):
  PS X (.Assign [.Subscript o k p] e pos) (tS X.K (Ay i fk fe)):=(KY he (aeu (t:=Ai) ho hk (adn hu) ha) hs hw h1).weak λD σ H aR=>by
 obtain⟨Z,Θ,aj,C,fl,aU,C',S,hf,q⟩:=aR
 obtain⟨p,h1,hf⟩:=gj hf
 obtain⟨d,hd,hf⟩:=gj hf
 obtain⟨kp,h2,hf⟩:=gj hf
 cases h3:xV p.2.1[i]? with
 |false=>rw[h3] at hf;cases hf
 |true=>
 rw[h3] at hf
 obtain⟨s,hi,hf⟩:=gj hf
 obtain⟨y3,h3⟩:=ado h3
 refine⟨Z,Θ,aj,C,p.1,p.2.1,p.2.2,S,h1,λv H1 k1 f1 R1=>?_⟩
 obtain⟨S1,r1⟩:=R1.vm (U6 hd)
 obtain⟨u,eu,_⟩:=S1.slot i _ h3
 refine⟨u,eu,Z,Θ,p.2.1,p.2.2,kp.1,kp.2.1,kp.2.2,S1,h2,λw H2 k2 f2 S2 b2=>?_⟩
 obtain⟨e0,go⟩:=adp (R:=λHx=>D.nx σ Hx) S2 eu hi (r1.same (Fb S1 k2 f2)) b2 hf
 have e0:fl=.nx:=e0;subst e0;exact go λHx st=>q Θ σ _ ((dO.rD (k1.trans k2) (f1.trans f2) S2).trans st)
end
noncomputable def intsOf:List az->Option (List Int)
 |[]=>aa []
 |.int i::r=>match intsOf r with
  |some t=>aa (i::t)
  |none=>ak
 |_=>ak
theorem Sh:∀{ds:List az}{ns:List Int}{vs:List V},intsOf ds=aa ns->bV E ds vs->vs=ns.map V.int
 |[],ns,vs,h,r=>by cases h;exact r
 |.int i::ds,ns,vs,h,r=>by
  unfold intsOf at h;split at h
  .rename_i t ht;cases h
   obtain⟨u,w,rfl,q,s⟩:=r
   rw[Sh ht s];have:u=.int i:=q;rw[this];rfl
  .cases h
 |.none::_,_,_,h,_=>by cases h
 |.bool _::_,_,_,h,_=>by cases h
 |.str _::_,_,_,h,_=>by cases h
 |.list _::_,_,_,h,_=>by cases h
 |.tuple _::_,_,_,h,_=>by cases h
 |.dict _::_,_,_,h,_=>by cases h
def Az(i:Nat)(f:FE):FS:=λaj C=>match f aj C with
 |some (.ow (.list ds),e1,C1)=>match intsOf ds with
  |some ns=>aa (.nx,e1.set i (aa (.ce C1.length)),C1++[ns])
  |none=>ak
 |_=>ak
section
variable{X:Cx}{pos:Pos}
theorem Sm.aeX{K:aJ}{Z Θ:List aq}{e1:En}{C1:Ce}{σ:St}{H1:Hp}{a:aq}{ns:List Int}(S1:Sm K (a::Z) Θ e1 C1 σ H1)(ha:H1 a=aa (.lst (ns.map V.int))):Sm K Z (Θ++[a]) e1 (C1++[ns]) σ H1:=by
 have cX:=S1.cX;have Bv:=lE.mp cX.1;have cl:=S1.cell.len;have c':mG (Θ++[a]) (C1++[ns]) H1:=by
  refine⟨by rw[gD,gD,cl];rfl,λm b ms h5 h6=>?_⟩
  by_cases hm:m<Θ.length
  .rw[kj hm] at h5;rw[kj (by rw[cl];exact hm)] at h6;exact S1.cell.at_ m b ms h5 h6
  .rw[lB aP] at h5;rw[lB aP] at h6;rw[cl] at h6;cases hm0:m-Θ.length with
   |zero=>rw[hm0] at h5 h6;cases h5;cases h6;exact ha
   |succ j=>rw[hm0] at h5;simp at h5
 have mm:∀b,b∈bh Z (Θ++[a]) e1 σ↔b∈bh (a::Z) Θ e1 σ:=λb=>by
  rw[iQ,iQ,cL,gZ,cD];constructor
  .rintro(h|(h|h)|h)
   .exact .inl (.inr h)
   .exact .inr (.inl h)
   .exact .inl (.inl h)
   .exact .inr (.inr h)
  .rintro((h|h)|h|h)
   .exact .inr (.inl (.inr h))
   .exact .inl h
   .exact .inr (.inl (.inl h))
   .exact .inr (.inr h)
 refine⟨S1.len,vU Bv.2 ?_ cX.2.2.1 (λb m=>?_) λb m=>?_,λb m=>S1.dom b (fQ _ m),λj x e=>?_,c'⟩
 .rw[lD]
  exact⟨cX.2.1,lE.mpr ⟨bz,n6⟩,λb m c m' e=>by
   rw[gZ] at m';subst e m';exact cX.2.2.2 b gh m⟩
 .intro m';rcases cL.mp m' with m'|m'
  .exact cX.2.2.2 b (fQ _ m) m'
  .rw[gZ.mp m'] at m;exact Bv.1 m
 .obtain⟨p1,p2⟩:=S1.kY m
  refine⟨λz=>p1 (fQ _ z),λm'=>?_⟩
  rcases cL.mp m' with m'|m'
  .exact p2 m'
  .rw[gZ.mp m'] at p1;exact p1 gh
 .obtain⟨v,e3,r3⟩:=S1.slot j x e
  rw[qL mm]
  refine⟨v,e3,?_⟩
  cases x with
  |im d=>exact r3
  |ow d=>exact r3
  |ce n=>
   obtain⟨b,e5,e6⟩:=r3
   exact⟨b,e5,by rw[kj (iU.mp e6).1];exact e6⟩
  |sc ns=>exact r3
  |ks ns=>exact r3
  |tp=>exact r3
theorem ab5{K:aJ}{i:Nat}{f:FE}:∀D σ H,tS K (Az i f) D σ H->An (tE K f) (u6 i) D σ H:=by
 rintro D σ H ⟨Z,Θ,aj,C,fl,aU,C',S,hf,q⟩;unfold Az at hf;split at hf
 .rename_i ds e1 C1 h1;split at hf
  .rename_i ns hns;cases hf
   refine⟨Z,Θ,aj,C,_,e1,C1,S,h1,λv H1 k f R=>?_⟩
   obtain⟨a,rfl,hn,S1,vs,ha,r⟩:=R
   have ev:=Sh hns r;subst ev;have cl:=S1.cell.len;have o1:∀b∈bM (e1.set i (aa (.ce C1.length))) (σ.set i (aa (.ref a))),b∈bM e1 σ:=λb m=>by
    rcases uP m with m|⟨⟨_,z⟩,_⟩
    .exact m
    .cases z
   have S2:=S1.aeX ha;have S3:Sm K Z (Θ++[a]) (e1.set i (aa (.ce C1.length))) (C1++[ns]) (σ.set i (aa (.ref a))) H1:=
    S2.vJ (λ_ z=>nomatch z) ⟨a,rfl,by rw[cl,lB (cO _),Ia];rfl⟩
   exact q (Θ++[a]) _ H1 ⟨⟨[a],rfl,λb m=>by rw[gZ.mp m];exact hn⟩,sy k,λb m=>.inl (f.own.subset (o1 b m)),S3⟩
  .cases hf
 .cases hf
theorem aeY(hN:X.N.Nodup)(hi:X.N[i]?=aa x)(hx:Loc X.env.scope x)(he:PE X e (tE X.K f))(hs:uG e (aa (.Name x pos')) pos.line X.env=pure aF:=by rfl)(hf:X.fn x=au\/X.env.scope.names.lookup x=aa .local:=by first|exact .inl rfl|exact .inr rfl|assumption):
  PS X (.Assign [.Name x pos'] e pos) (tS X.K (Az i f)):=(UG hN hi hx he hs hf).weak ab5
end
abbrev FI:=En->Ce->Option (List az×En×Ce)
def p7(P T:List aq)(H:Hp)(J:It)(aD:List az):Prop:=∀(i:Nat)(H2:Hp)(P2:List aq),bN (er P H) (er P2 H2)->bN (er T H) (er T H2)->(∀a∈P2,H2 a≠ak)->
 (∀d,aD[i]?=aa d->J.go i H2/\∀x H3,J.Gn i H2 x H3->bN H2 H3/\RZ (er P2 H3) d x)/\(i=aD.length->J.stop i H2)
inductive tI(K:aJ)(b:Bool)(f:FI)(σ:St)(H:Hp)(R:It->Hp->Prop):Prop
 |mk (Z Θ:List aq) (aj:En) (C:Ce) (aD:List az) (aU:En) (C':Ce) (S:Sm K Z Θ aj C σ H) (hf:f aj C=aa (aD,aU,C')) (q:∀J H',bf Θ H H'->Fz aj aU->Sm K Z Θ aU C' σ H'->p7 (bh Z Θ aU σ) (if b then Θ else bh Z Θ aU σ) H' J aD->R J H'):tI K b f σ H R
theorem PI.weak(h:PI X tg e t)(w:∀σ H Q,t' σ H Q->t σ H Q):PI X tg e t':=λao s σ H Q I q=>h ao s σ H Q I (w σ H Q q)
theorem PI.or(h:PI X tg e t)(h':PI X tg e t'):PI X tg e (λσ H R=>t σ H R\/t' σ H R):=λao s σ H R I q=>q.elim (h ao s σ H R I) (h' ao s σ H R I)
section
variable{K:aJ}{P T:List aq}{H:Hp}{a:aq}{ds:List az}{vs:List V}
theorem Kl(ha:er T H a=aa (.lst vs))(r:bV (er P H) ds vs):p7 P T H (Nj K a) ds:=λi H2 P2 s1 s2 n=>by
 have h2:bL K H2 a vs:=bL.of (eU (s2 _ _ ha))
 refine⟨λd hd=>?_,λhi=>⟨vs,h2,by rw[fV r,hi];exact cO _⟩⟩
 obtain⟨v,ev,rv⟩:=nq r hd
 refine⟨⟨vs,v,h2,ev⟩,λx H3 y=>?_⟩
 obtain⟨rfl,y⟩:=y
 have:=y vs h2;rw[ev] at this;cases this
 exact⟨bN.refl _,rv.same s1⟩
theorem Lf(ha:er P H a=aa (.tup vs))(r:bV (er P H) ds vs):p7 P T H (Nk K a) ds:=λi H2 P2 s1 s2 n=>by
 have h2:bO K H2 a vs:=bO.of (eU (s1 _ _ ha))
 refine⟨λd hd=>?_,λhi=>⟨vs,h2,by rw[fV r,hi];exact cO _⟩⟩
 obtain⟨v,ev,rv⟩:=nq r hd
 refine⟨⟨vs,v,h2,ev⟩,λx H3 y=>?_⟩
 obtain⟨rfl,y⟩:=y
 have:=y vs h2;rw[ev] at this;cases this
 exact⟨bN.refl _,rv.same s1⟩
def chars(z:Str):List az:=z.cps.toList.map λc=>.str ⟨#[c]⟩
theorem Vd(z:Str):p7 P T H (Nv z) (chars z):=λi H2 P2 s1 s2 n=>by
 refine⟨λd hd=>?_,λhi=>?_⟩
 .unfold chars at hd;rw[jy] at hd;cases hc:z.cps.toList[i]? with
  |none=>rw[hc] at hd;cases hd
  |some c=>
   rw[hc] at hd;cases hd;have hc':z.cps[i]?=aa c:=by rw[<-Array.getElem?_toList];exact hc
   have hlt:i<z.cps.size:=by
    obtain⟨h,_⟩:=Array.getElem?_eq_some_iff.mp hc'
    exact h
   refine⟨hlt,λx H3 y=>?_⟩
   obtain⟨rfl,c',ec,rfl⟩:=y
   rw[hc'] at ec;cases ec
   exact⟨bN.refl _,rfl⟩
 .show z.cps.size<=i;rw[hi];unfold chars;rw[cV,lC];exact cO _
def lq(lo:Int)(n:Nat):List az:=(wL n).map λ(k:Nat)=>.int (lo+(k:Int))
theorem ab6(lo:Int)(n:Nat):p7 P T H (Gp lo n) (lq lo n):=λi H2 P2 s1 s2 nn=>by
 refine⟨λd hd=>?_,λhi=>?_⟩
 .unfold lq at hd;rw[jy] at hd;by_cases hlt:i<n
  .rw[Yv hlt] at hd;cases hd
   refine⟨hlt,λx H3 y=>?_⟩
   obtain⟨rfl,rfl⟩:=y
   exact⟨bN.refl _,rfl⟩
  .rw[Yh (by rw[Hu];lia)] at hd;cases hd
 .show n<=i;rw[hi];unfold lq;rw[cV,Hu];exact cO _
end
def N5:az->Option (List az)
 |.list ds=>aa ds
 |.tuple ds=>aa ds
 |.str z=>aa (chars z)
 |_=>ak
def iB(f:FB):FI:=λaj C=>match f aj C with
 |some (d,e1,C1)=>match N5 d with
  |some aD=>aa (aD,e1,C1)
  |none=>ak
 |none=>ak
def iV(f:FE):FI:=λaj C=>match f aj C with
 |some (r,e1,C1)=>match still r with
  |.im d=>match N5 d with
   |some aD=>aa (aD,e1,C1)
   |none=>ak
  |_=>ak
 |none=>ak
def pC(f:FB):FI:=λaj C=>match f aj C with
 |some (.int j,_,C1)=>if -(2^62)<=j/\j<2^62 then aa (lq 0 j.toNat,aj,C1) else ak
 |_=>ak
section
variable{X:Cx}{tg e:Expr}
theorem Gf(h:PE X e (cN X.K f))(hgo:∀i u,um tg i u=pure ():=by intro _ _;rfl):PI X tg e (tI X.K au (iB f)):=(((J2 h).or (KZ h)).or (U3 h hgo)).weak λσ H R aR=>by
 obtain⟨Z,Θ,aj,C,aD,aU,C',S,hf,q⟩:=aR
 unfold iB at hf;split at hf
 .rename_i d e1 C1 h1;split at hf
  .rename_i ys hi;cases hf;cases d<;>first|cases hi|skip
   .refine .inr ⟨Z,Θ,aj,C,_,aU,C',S,h1,λv H1 k f S1 b=>⟨_,b,q _ H1 k f S1 (Vd _)⟩⟩
   .refine .inl (.inl ⟨Z,Θ,aj,C,_,aU,C',S,h1,λv H1 k f S1 b=>?_⟩)
    obtain⟨a,vs,rfl,ha,r⟩:=b
    exact⟨a,rfl,⟨vs,bL.of (eU ha)⟩,q _ H1 k f S1 (Kl ha r)⟩
   .refine .inl (.inr ⟨Z,Θ,aj,C,_,aU,C',S,h1,λv H1 k f S1 b=>?_⟩)
    obtain⟨a,vs,rfl,ha,r⟩:=b
    exact⟨a,rfl,⟨vs,bO.of (eU ha)⟩,q _ H1 k f S1 (Lf ha r)⟩
  .cases hf
 .cases hf
theorem MN(h:PE X e (tE X.K f))(hgo:∀i u,um tg i u=pure ():=by intro _ _;rfl):PI X tg e (tI X.K aF (iV f)):=(((J2 h).or (KZ h)).or (U3 h hgo)).weak λσ H R aR=>by
 obtain⟨Z,Θ,aj,C,aD,aU,C',S,hf,q⟩:=aR
 unfold iV at hf;split at hf
 .rename_i r e1 C1 h1;split at hf
  .rename_i d hd;split at hf
   .rename_i ys hi;cases hf;cases d<;>first|cases hi|skip
    .refine .inr ⟨Z,Θ,aj,C,_,aU,C',S,h1,λv H1 k f R=>?_⟩
     obtain⟨S1,b⟩:=R.vm hd
     exact⟨_,b,q _ H1 k f S1 (Vd _)⟩
    .refine .inl (.inl ⟨Z,Θ,aj,C,_,aU,C',S,h1,λv H1 k f R=>?_⟩)
     obtain⟨S1,a,vs,rfl,ha,r⟩:=R.vm hd
     exact⟨a,rfl,⟨vs,bL.of (eU ha)⟩,q _ H1 k f S1 (Kl ha r)⟩
    .refine .inl (.inr ⟨Z,Θ,aj,C,_,aU,C',S,h1,λv H1 k f R=>?_⟩)
     obtain⟨S1,a,vs,rfl,ha,r⟩:=R.vm hd
     exact⟨a,rfl,⟨vs,bO.of (eU ha)⟩,q _ H1 k f S1 (Lf ha r)⟩
   .cases hf
  .cases hf
 .cases hf
theorem zF(hg:Gl X "range")(hm:X.mg "range"=ak)(ha:PE X a (cN X.K f))(hs:bG [a] X.env=(aF,eval a X.env)::bG [] X.env:=by rfl)(hs':bG [a] X.env=[(aF,eval a X.env)]:=by rfl):PI X tg (.Call (.Name "range" p) [a] [] pos) (tI X.K b (pC f)):=
 (aa1 hg hm (dJ ha fO hs) hs').weak λσ H R aR=>by
  obtain⟨Z,Θ,aj,C,aD,aU,C',S,hf,q⟩:=aR
  unfold pC at hf;split at hf
  .rename_i j e1 C1 h1;split at hf
   .rename_i hj;cases hf
    refine⟨Z,Θ,aj,C,[.int j],e1,C',S,by unfold dg eN;rw[h1],λvs H1 k f S1 b1=>?_⟩
    cases b1 with
    |cons b1 b2=>
     cases b2
     exact⟨j,by rw[show _=V.int j from b1],hj.1,hj.2,q _ H1 k (Fz.refl _) (S.go k S1.cell) (ab6 0 j.toNat)⟩
   .cases hf
  .cases hf
end
def jJ(g:FG)(body:FS):List az->FS
 |[]=>λaj C=>aa (.nx,aj,C)
 |d::r=>λaj C=>match g d aj with
  |some e1=>match body e1 C with
   |some (.nx,e2,C2)=>jJ g body r e2 C2
   |some (.ct,e2,C2)=>jJ g body r e2 C2
   |some (.bk,e2,C2)=>aa (.nx,e2,C2)
   |some (.rt v,e2,C2)=>aa (.rt v,e2,C2)
   |none=>ak
  |none=>ak
def lu(fi:FI)(g:FG)(body:FS):FS:=λaj C=>match fi aj C with
 |some (aD,e1,C1)=>jJ g body aD e1 C1
 |none=>ak
theorem dO.er{K:aJ}{Z Θ Θ1:List aq}{aj e1:En}{C1:Ce}{σ σ1:St}{H H1:Hp}(p:dO K Z Θ aj σ H Θ1 e1 C1 σ1 H1):bN (er (bh Z Θ aj σ) H) (er (bh Z Θ1 e1 σ1) H1):=λb o h=>by
 unfold L2.er at h⊢;split at h
 .cases h
 .rename_i n;have hb:H b≠ak:=by rw[h];exact rJ _
  rw[bK]
  .refine p.kp.keep b o h λm=>n ?_
   rcases cL.mp m with m|m
   .exact iQ.mpr (.inr (.inl m))
   .exact iQ.mpr (.inr (.inr m))
  .intro m;rcases iQ.mp m with m|m|m
   .exact n (iQ.mpr (.inl m))
   .obtain⟨Δ,e,hn⟩:=p.th.ex
    rw[e] at m;rcases cL.mp m with m|m
    .exact n (iQ.mpr (.inr (.inl m)))
    .exact hb (hn b m)
   .rcases p.own b m with m|m
    .exact n (iQ.mpr (.inr (.inr m)))
    .exact hb m
theorem adq(s:bN (er P H) (er P2 H2)):bN (er P H) (er P H2):=λb o h=>by
 have h2:=eU (s b o h);unfold er at h⊢;split at h
 .cases h
 .rename_i n;rw[bK n];exact h2
theorem ab7{K:aJ}{fi:FI}{g:TG}{fg:FG}{body:FS}(L:vV K g fg):∀D σ H,tS K (lu fi fg body) D σ H->We (tI K aF fi) g (tS K body) D σ H:=by
 rintro D σ H ⟨Z,Θ,aj,C,fl,aU,C',S,hf,q⟩;unfold lu at hf;split at hf
 .rename_i aD e1 C1 h1
  refine⟨Z,Θ,aj,C,aD,e1,C1,S,h1,λJ H1 k1 f1 S1 it=>?_⟩
  have p1:=dO.rD k1 f1 S1
  refine⟨λi m σ2 H2=>m=aD.length-i/\i<=aD.length/\∃Θ2 e2 C2,dO K Z Θ e1 σ H1 Θ2 e2 C2 σ2 H2/\jJ fg body (aD.drop i) e2 C2=aa (fl,aU,C'),⟨aD.length,rfl,Cp _,Θ,e1,C1,dO.same S1,hf⟩,?_⟩
  rintro i m σ2 H2 ⟨rfl,hi,Θ2,e2,C2,p2,hl⟩
  obtain⟨N6,N7⟩:=it i H2 (bh Z Θ2 e2 σ2) p2.er (adq p2.er) p2.sm.vH
  cases hd:aD[i]? with
  |none=>
   have hi2:i=aD.length:=by
    have:=XN.mp hd;lia
   rw[hi2,Py] at hl;cases hl;exact .inl ⟨N7 hi2,q Θ2 σ2 H2 (p1.trans p2)⟩
  |some d=>
   have hlt:i<aD.length:=(iU.mp hd).1;have ed:aD.drop i=d::aD.drop (i+1):=by
    rw[Om hlt]
    obtain⟨_,e⟩:=iU.mp hd
    rw[e]
   rw[ed] at hl;unfold jJ at hl
   obtain⟨go,yl⟩:=N6 d hd
   refine .inr ⟨go,λσ' H'=>∃Θ2 e2 C2,dO K Z Θ e1 σ H1 Θ2 e2 C2 σ' H'/\jJ fg body (aD.drop (i+1)) e2 C2=aa (fl,aU,C'),λσ' H' h=>⟨aD.length-(i+1),aP,rfl,hlt,h⟩,λx H3 y=>?_⟩
   obtain⟨s3,r3⟩:=yl x H3 y
   have S3:=p2.sm.Mj s3;have p3:=p2.trans (dO.rD (bf.of s3) (Fz.refl _) S3);split at hl
   .rename_i e4 h4;refine L Z Θ2 e2 C2 σ2 H3 x d e4 S3 r3 h4 _ λσ4 S4 o4=>?_
    have p4:dO K Z Θ e1 σ H1 Θ2 e4 C2 σ4 H3:=p3.trans ⟨jq.refl _ _,bf.refl _ _,λa m=>.inl (o4 a m),S4⟩;split at hl
    .rename_i e5 C5 h5
     exact⟨Z,Θ2,e4,C2,.nx,e5,C5,S4,h5,λΘ5 σ5 H5 p5=>⟨Θ5,e5,C5,p4.trans p5,hl⟩⟩
    .rename_i e5 C5 h5
     exact⟨Z,Θ2,e4,C2,.ct,e5,C5,S4,h5,λΘ5 σ5 H5 p5=>⟨Θ5,e5,C5,p4.trans p5,hl⟩⟩
    .rename_i e5 C5 h5;cases hl
     exact⟨Z,Θ2,e4,C2,.bk,aU,C',S4,h5,λΘ5 σ5 H5 p5=>q Θ5 σ5 H5 (p1.trans (p4.trans p5))⟩
    .rename_i r e5 C5 h5;cases hl
     exact⟨Z,Θ2,e4,C2,.rt r,aU,C',S4,h5,λΘ5 v H5 p5=>q Θ5 v H5 (p1.ret (p4.ret p5))⟩
    .cases hl
   .cases hl
 .cases hf
theorem xK(hp:PassesOwn (model X.prog X.w) X.A X.env X.xe)(hc:X.calm=au)(hi:PI X tg iter (tI X.K aF fi))(hg:PG X tg g)(L:vV X.K g fg)(hb:iI X body (tS X.K f))
  (hs:∀x,yJ iter X.env x=pure x:=by intro _;rfl):PS X (.For tg iter body [] pos) (tS X.K (lu fi fg f)):=(aew hp hc hi hg hb hs).weak (ab7 L)
def yx:iT->az->Option (List az)
 |.one,d=>aa [d]
 |.many n,.tuple ds=>if ds.length=n then aa ds else ak
 |_,_=>ak
def frB(js:List Nat)(aj:En):En:=js.map λj=>((aj[j]?).join).map still
def fP(ds:List az):En:=ds.map λd=>aa (.im d)
def jW(T:iT)(ft:FT)(fe:FE)(fs:En):List az->Ce->Option (List az×Ce)
 |[],C=>aa ([],C)
 |d::r,C=>match yx T d with
  |some ts=>match ft (fP ts++fs) C with
   |some (false,C1)=>jW T ft fe fs r C1
   |some (true,C1)=>match fe (fP ts++fs) C1 with
    |some (x,_,C2)=>match still x with
     |.im y=>match jW T ft fe fs r C2 with
      |some (ys,C3)=>aa (y::ys,C3)
      |none=>ak
     |_=>ak
    |none=>ak
   |none=>ak
  |none=>ak
def iJ(js:List Nat)(aj:En):En:=aj.mapIdx λi x=>if i∈js then x.map still else x
def j8(fi:FI)(T:iT)(ft:FT)(fe:FE)(js:List Nat):FE:=λaj C=>match fi aj C with
 |some (aD,e1,C1)=>match jW T ft fe (frB js e1) aD C1 with
  |some (ys,C2)=>if ys.length<=dH then aa (.ow (.list ys),if cW ys then e1 else iJ js e1,C2) else ak
  |none=>ak
 |none=>ak
theorem VR:∀{a b:En},a.length=b.length->(∀(i:Nat)(x y:Option Vl),a[i]?=aa x->b[i]?=aa y->Ny x y)->Fz a b
 |[],[],_,_=>trivial
 |x::r,y::t,hl,h=>⟨h 0 x y rfl rfl,VR (by simpa using hl) λi u v h1 h2=>h (i+1) u v (by simpa using h1) (by simpa using h2)⟩
 |[],_::_,hl,_=>by cases hl
 |_::_,[],hl,_=>by cases hl
theorem Eo(js:List Nat)(aj:En):Fz aj (iJ js aj):=VR (by unfold iJ;rw[List.length_mapIdx]) λi x y h1 h2=>by
 unfold iJ at h2;rw[Yo,h1] at h2;have h2:(if i∈js then wQ still x else x)=y:=gG h2;rw[<-h2];split
 .cases x with
  |none=>exact .inl rfl
  |some x=>
   cases x with
   |ow d=>exact .inr ⟨d,rfl,rfl⟩
   |im d=>exact .inl rfl
   |ce n=>exact .inl rfl
   |sc ns=>exact .inl rfl
   |ks ns=>exact .inl rfl
   |tp=>exact .inl rfl
 .exact .inl rfl
theorem Ve{js:List Nat}{aj:En}{k:Nat}{x:Vl}(h:(frB js aj)[k]?=aa (aa x)):∃j:Nat,js[k]?=aa j/\(iJ js aj)[j]?=aa (aa x)/\∀d,x≠.ow d:=by
 unfold frB at h;rw[jy] at h;cases hj:js[k]? with
 |none=>rw[hj] at h;cases h
 |some j=>
  rw[hj] at h;have h':((aj[j]?).join).map still=aa x:=gG h
  refine⟨j,rfl,?_,?_⟩
  .unfold iJ;rw[Yo];cases hv:aj[j]? with
   |none=>rw[hv] at h';cases h'
   |some y=>
    rw[hv] at h';show aa (if j∈js then wQ still y else y)=_;rw[bB (nW hj)];exact congrArg aa h'
  .cases hv:(aj[j]?).join with
   |none=>rw[hv] at h';cases h'
   |some y=>
    rw[hv] at h';have e:still y=x:=gG h';rw[<-e];intro d z;cases y<;>cases z
theorem zX:∀{aj:En}{σ:St},(∀(i:Nat)(d:az),aj[i]?≠aa (aa (.ow d)))->bM aj σ=[]
 |[],σ,_=>by cases σ<;>rfl
 |_::_,[],_=>rfl
 |x::e,v::s,h=>by
  rw[bM,zX (aj:=e) (σ:=s) λi d z=>h (i+1) d (by simpa using z)];have h0:=h 0;simp at h0;unfold own1;split
  .rename_i d a;exact absurd rfl (h0 d)
  .rfl
section
variable{K:aJ}{Z Θ:List aq}{aj:En}{C C2:Ce}{σ:St}{H H2:Hp}{D:aq}
abbrev lU(D:aq)(Z:List aq)(aj:En)(σ:St):List aq:=D::(Z++bM aj σ)
theorem pM{js:List Nat}{a:aq}{eB:En}{sB:St}(h:bM eB sB=[]):a∈bh (lU D Z aj σ) Θ eB sB↔a=D\/a∈bh Z Θ aj σ:=by
 rw[iQ,iQ,h,cD,cL];constructor
 .rintro((h|h|h)|h|h)
  .exact .inl h
  .exact .inr (.inl h)
  .exact .inr (.inr (.inr h))
  .exact .inr (.inr (.inl h))
  .nomatch h
 .rintro(h|h|h|h)
  .exact .inl (.inl h)
  .exact .inl (.inr (.inl h))
  .exact .inr (.inl h)
  .exact .inl (.inr (.inr h))
theorem Lg{js:List Nat}{ts:List az}:∀(i:Nat)(d:az),(fP ts++frB js aj)[i]?≠aa (aa (.ow d)):=λi d z=>by
 by_cases hi:i<(fP ts).length
 .rw[kj hi] at z;unfold fP at z;rw[jy] at z;cases h:ts[i]? with
  |none=>rw[h] at z;cases z
  |some t=>rw[h] at z;cases z
 .rw[lB aP] at z
  obtain⟨j,_,_,h⟩:=Ve z
  exact h d rfl
theorem Sm.blk{js:List Nat}{ts:List az}{vs:List V}(S:Sm K Z Θ (iJ js aj) C σ H)(hD:H D=mj)(k:bf Θ H H2)(nt:NT (H2 D))(c:mG Θ C2 H2)(r:bV (er (bh (lU D Z (iJ js aj) σ) Θ [] []) H2) ts vs):
  Sm K (lU D Z (iJ js aj) σ) Θ (fP ts++frB js aj) C2 (vs.map aa++frees js σ) H2:=by
 have no:=zX (aj:=fP ts++frB js aj) (σ:=vs.map aa++frees js σ) Lg;have cX:=S.cX;have lv:=fV r;have Gy:(fP ts).length=ts.length:=by unfold fP;rw[cV]
 have ee:er (bh (lU D Z (iJ js aj) σ) Θ (fP ts++frB js aj) (vs.map aa++frees js σ)) H2=er (bh (lU D Z (iJ js aj) σ) Θ [] []) H2:=qL λa=>by rw[pM (js:=js) no,pM (js:=js) rfl]
 have sm:bN (er (bh Z Θ (iJ js aj) σ) H) (er (bh (lU D Z (iJ js aj) σ) Θ [] []) H2):=jV k S.qe λb m=>by
  rcases(pM (js:=js) rfl).mp m with rfl|m
  .exact .inr hD
  .exact .inl m
 refine⟨?_,?_,λb m=>?_,λi x e=>?_,c⟩
 .rw[gD,gD,cV,lv,Gy];unfold frees frB;rw[cV,cV]
 .show(lU D Z (iJ js aj) σ++(Θ++bM (fP ts++frB js aj) (vs.map aa++frees js σ))).Nodup
  rw[no];refine vU (lE.mpr ⟨λm=>?_,?_⟩) cX.2.1 n6 (λb m m'=>?_) (λ_ m=>nomatch m)
  .rcases cL.mp m with m|m
   .exact(S.dom D m).ne hD
   .exact S.vH D (iQ.mpr (.inr (.inr m))) hD
  .rw[lD]
   exact⟨cX.1,cX.2.2.1,λb m c' m' e=>by subst e;exact(S.kY m').1 m⟩
  .rcases cD.mp m with rfl|m
   .exact S.vH b (iQ.mpr (.inr (.inl m'))) hD
   .rcases cL.mp m with m|m
    .exact cX.2.2.2 b m m'
    .exact(S.kY m).2 m'
 .rcases cD.mp m with rfl|m
  .exact nt
  .have:NT (H b)/\b∉Θ:=by
    rcases cL.mp m with m|m
    .exact⟨S.dom b m,cX.2.2.2 b m⟩
    .exact⟨S.Gw b (iQ.mpr (.inr (.inr m))),(S.kY m).2⟩
   obtain⟨⟨u,e,n⟩,nb⟩:=this
   exact⟨u,k.keep _ _ e nb,n⟩
 .rw[ee];by_cases hi:i<ts.length
  .rw[kj (by rw[Gy];exact hi)] at e;unfold fP at e;rw[jy] at e;cases ht:ts[i]? with
   |none=>rw[ht] at e;cases e
   |some t=>
    rw[ht] at e;cases e
    obtain⟨v,ev,rv⟩:=nq r ht
    exact⟨v,by rw[kj (by rw[cV,lv];exact hi),jy,ev];rfl,rv⟩
  .rw[lB (by rw[Gy];lia),Gy] at e
   obtain⟨j,hj,hx,nx⟩:=Ve e
   obtain⟨v,ev,rv⟩:=S.slot j x hx
   refine⟨v,?_,rv.same sm λd _ z=>absurd z (nx d)⟩
   rw[lB (by rw[cV,lv];lia),cV,lv];unfold frees;rw[jy,hj];show aa ((σ[j]?).join)=_;rw[ev];rfl
end
def jo:FT:=λ_ C=>aa (au,C)
theorem sE{X:Cx}:qb X [] (fH X.K jo):=λao s σ H Q I aR=>by
 obtain⟨Z,Θ,aj,C,b,C',S,hf,q⟩:=aR
 cases hf;exact ac9 ao s σ H Q I (q H (bf.refl _ _) S)
theorem T6{X:Cx}{c:Expr}{f:FT}(h:PT X c (fH X.K f)):qb X [c] (fH X.K f):=ada h
theorem af8{K:aJ}{T:iT}{E H:Hp}{d:az}{x:V}{ts:List az}(h:yx T d=aa ts)(r:RZ E d x)(s:bN E H):∃vs,yu K T x H vs/\bV E ts vs:=by
 cases T with
 |one=>cases h;exact⟨[x],rfl,x,[],rfl,r,rfl⟩
 |many n=>
  cases d<;>first|cases h|skip
  rename_i ds;have h:(if ds.length=n then aa ds else ak)=aa ts:=h;split at h
  .rename_i hl;cases h
   obtain⟨a,vs,rfl,ha,r⟩:=r
   exact⟨vs,⟨a,rfl,bO.of (s _ _ ha),(fV r).trans hl⟩,r⟩
  .cases h
def xW{α:Type}(T:iT)(ft:FT)(st:En->α->Ce->Option (α×Ce))(fs:En):List az->α->Ce->Option (α×Ce)
 |[],a,C=>aa (a,C)
 |d::r,a,C=>(yx T d).bind λts=>(ft (fP ts++fs) C).bind λp=>bif p.1 then(st (fP ts++fs) a p.2).bind λq=>xW T ft st fs r q.1 q.2 else xW T ft st fs r a p.2
inductive Wz{α:Type}(Θ:List aq)(H1:Hp)(n:Nat)(Ob:α->Hp->Prop)(run:Nat->α->Ce->Prop)(i m:Nat)(H2:Hp):Prop
 |mk (a:α) (Ci:Ce) (hm:m=n-i) (hi:i<=n) (ki:bf Θ H1 H2) (ci:mG Θ Ci H2) (ob:Ob a H2) (hc:run i a Ci):Wz Θ H1 n Ob run i m H2
section
variable{K:aJ}{α:Type}{T:iT}{ft:FT}{st:En->α->Ce->Option (α×Ce)}{js:List Nat}{Z Θ:List aq}{e1:En}{C1 C':Ce}{σ:St}{H1:Hp}{J:It}{aD:List az}{D:aq}{o0:HO}{a0 aE:α}
theorem aeZ{Hx Hy:Hp}{u:HO}(hD:H1 D=mj)(kk:bf Θ H1 Hx):bf Θ H1 (upd Hx D u):=by
 refine⟨λa o ha na=>?_,λa ha=>?_⟩
 .rw[cR (pK ha hD)];exact kk.keep _ _ ha na
 .by_cases z:a=D
  .subst z;rw[fL];exact rJ _
  .rw[cR z];exact kk.dom a ha
theorem Sq{Hx:Hp}{u:HO}(hD:D∉Θ)(c:mG Θ C1 Hx):mG Θ C1 (upd Hx D u):=by
 refine⟨c.len,λn b ns e2 e3=>?_⟩
 rw[cR]
 .exact c.at_ n b ns e2 e3
 .intro z;subst z;exact hD (nW e2)
theorem ab8{em:TM}{Ob:α->Hp->Prop}{done:Hp->Prop}(S1:Sm K Z Θ e1 C1 σ H1)(it:p7 (bh Z Θ e1 σ) Θ H1 J aD)(hD:H1 D=mj)(ob0:Ob a0 (upd H1 D o0))(N8:∀a Hx Hy,bf Θ Hx Hy->Ob a Hx->Ob a Hy)(Xg:∀a Hx,Ob a Hx->NT (Hx D))
  (hem:∀(ts:List az)(a:α)(C2:Ce)(p:α×Ce)(vs:List V)(H4:Hp)(Q:Hp->Prop),st (fP ts++frB js e1) a C2=aa p->Sm K (lU D Z (iJ js e1) σ) Θ (fP ts++frB js e1) C2 (vs.map aa++frees js σ) H4->bf Θ H1 H4->Ob a H4->(∀H6,bf Θ H1 H6->mG Θ p.2 H6->Ob p.1 H6->Q H6)->em (vs.map aa++frees js σ) H4 Q)
  (hc:xW T ft st (frB js e1) aD a0 C1=aa (aE,C'))(hq:∀H2,bf Θ H1 H2->mG Θ C' H2->Ob aE H2->done H2):FZ K T (fH K ft) em (frees js σ) J (upd H1 D o0) done:=by
 have Ba:D∉Θ:=λm=>(S1.cell.dom D m).ne hD
 have Xh:=S1.fz (Eo js e1)
 refine⟨Wz Θ H1 aD.length Ob (λi a Ci=>xW T ft st (frB js e1) (aD.drop i) a Ci=aa (aE,C')),⟨aD.length,⟨a0,C1,rfl,Cp _,bf.upd hD,Sq Ba S1.cell,ob0,hc⟩⟩,λi m H2 hh=>?_⟩
 cases hh with
 |mk a Ci hm hi ki ci ob hc=>
 subst hm;have nt:=Xg a H2 ob;have smP:bN (er (bh Z Θ e1 σ) H1) (er (bh (lU D Z (iJ js e1) σ) Θ [] []) H2):=jV ki S1.qe λb m=>by
  rcases(pM (js:=js) rfl).mp m with rfl|m
  .exact .inr hD
  .exact .inl ((Eo js e1).sub b m)
 have ag3:∀a∈bh (lU D Z (iJ js e1) σ) Θ [] [],H2 a≠mj:=λa m=>(Xh.blk hD ki nt ci (show bV _ [] [] from rfl)).vH a ((pM (js:=js) (zX (aj:=fP []++frB js e1) Lg)).mpr ((pM (js:=js) rfl).mp m))
 obtain⟨N6,N7⟩:=it i H2 _ smP (U5 ki) ag3
 cases hd:aD[i]? with
 |none=>
  have hi2:i=aD.length:=Nat.le_antisymm hi (XN.mp hd);rw[hi2,Py] at hc;cases hc;exact .inl ⟨N7 hi2,hq H2 ki ci ob⟩
 |some d=>
  obtain⟨hlt,ed⟩:=iU.mp hd
  rw[Om hlt,ed] at hc
  obtain⟨go,yl⟩:=N6 d hd
  refine .inr ⟨go,λx H3 y=>?_⟩
  obtain⟨s3,r3⟩:=yl x H3 y
  obtain⟨ts,ht,hc⟩:=gj hc
  obtain⟨p,hft,hc⟩:=gj hc
  obtain⟨vs,tv,rvs⟩:=af8 (K:=K) ht r3 (pU _ _)
  refine⟨vs,tv,?_⟩
  have k3:bf Θ H1 H3:=ki.trans (bf.of s3);have Oa:=N8 a _ _ (bf.of s3) ob;have SB:=Xh.blk (js:=js) hD k3 (Xg a H3 Oa) ⟨ci.len,λn b ns e2 e3=>s3 _ _ (ci.at_ n b ns e2 e3)⟩ rvs;have lt:aD.length-(i+1)<aD.length-i:=aP
  refine⟨_,Θ,_,Ci,p.1,p.2,SB,hft,λH4 k4 S4=>?_⟩
  cases hp:p.1 with
  |false=>
   rw[hp] at hc;exact tR ⟨_,lt,⟨a,p.2,rfl,hlt,k3.trans k4,S4.cell,N8 a _ _ k4 Oa,hc⟩⟩
  |true=>
   rw[hp] at hc
   obtain⟨q,hs,hc⟩:=gj hc
   exact tU (hem ts a p.2 q vs H4 _ hs S4 (k3.trans k4) (N8 a _ _ k4 Oa) λH6 k6 c6 o6=>⟨_,lt,⟨q.1,q.2,rfl,hlt,k6,c6,o6,hc⟩⟩)
end
def MP(fe:FE):En->List az->Ce->Option (List az×Ce):=λaj cG C=>(fe aj C).bind λq=>(Bu (still q.1)).bind λy=>bif decide (cG.length<dH) then aa (cG++[y],q.2.2) else ak
theorem Km{T:iT}{ft:FT}{fe:FE}{fs:En}{C':Ce}:∀{aD:List az}{ys cG:List az}{C:Ce},jW T ft fe fs aD C=aa (ys,C')->cG.length+ys.length<=dH->xW T ft (MP fe) fs aD cG C=aa (cG++ys,C')
 |[],ys,cG,C,h,_=>by
  cases h;rw[jP];rfl
 |d::r,ys,cG,C,h,hl=>by
  unfold jW at h;unfold xW;split at h
  case h_2=>cases h
  rename_i ts ht;rw[ht,qg];split at h
  case h_3=>cases h
  .rename_i C1 hf;rw[hf,qg];exact Km h hl
  .rename_i C1 hf;rw[hf,qg];split at h
   case h_2=>cases h
   rename_i x e2 C2 hx;split at h
   case h_2=>cases h
   rename_i y hy;split at h
   case h_2=>cases h
   rename_i zs C3 hz;cases h;rw[eE] at hl
   show(MP fe (fP ts++fs) cG C1).bind _=_
   unfold MP;rw[hx,qg,hy,show Bu (.im y)=aa y from rfl,qg,gH aP,show cG++y::zs=(cG++[y])++zs by rw[nY];rfl];exact Km hz (by rw[gD];show cG.length+1+_<=_;lia)
theorem T7{K:aJ}{fi:FI}{T:iT}{ft:FT}{fe:FE}{js:List Nat}:∀σ H Q,tE K (j8 fi T ft fe js) σ H Q->Nu K (tI K au fi) T (λ_=>fH K ft) (λ_=>tE K fe) js σ H Q:=by
 rintro σ H Q ⟨Z,Θ,aj,C,res,aU,C',S,hf,q⟩;unfold j8 at hf;split at hf
 case h_2=>cases hf
 rename_i aD e1 C1 h1;split at hf
 case h_2=>cases hf
 rename_i ys C2 h2;split at hf
 case isFalse=>cases hf
 rename_i hl;cases hf
 refine⟨Z,Θ,aj,C,aD,e1,C1,S,h1,λJ H1 k1 f1 S1 it D hD b=>?_⟩
 have Ba:D∉Θ:=λm=>(S1.cell.dom D m).ne hD
 have dPB:D∈bh (lU D Z (iJ js e1) σ) Θ [] []:=(pM (js:=js) rfl).mpr (.inl rfl);refine ab8 (a0:=[]) (Ob:=λcG Hx=>jl (er (bh (lU D Z (iJ js e1) σ) Θ [] []) Hx) Hx D (.list cG)) S1 it hD ⟨[],fL,rfl⟩ (λa Hx Hy kk r=>r.same (jV kk (λa m=>iQ.mpr (.inr (.inl m))) λa m=>.inl m) λo h=>kk.keep _ _ h Ba)
  (λa Hx r=>by obtain⟨vs,e,_⟩:=r;exact⟨_,e,λ_ z=>nomatch z⟩) ?_ (Km (cG:=[]) h2 (by rw[Zr,wG];exact hl)) λH2 ki ci r=>?_
 .intro ts cG C2 p vs H4 Q hs S4 k4 r4 hQ
  obtain⟨w,hfe,hs⟩:=gj hs
  obtain⟨yd,Oc,hs⟩:=gj hs
  have Oc:=U6 Oc;cases hlt:decide (cG.length<dH) with
  |false=>rw[hlt] at hs;cases hs
  |true=>
  rw[hlt] at hs;cases hs
  refine⟨_,Θ,_,C2,w.1,w.2.1,w.2.2,S4,hfe,λy H5 k5 f5 R5=>?_⟩
  obtain⟨S5,r5⟩:=R5.vm Oc
  obtain⟨Gg,hD5,rr⟩:=r4.same (jV k5 (λa m=>iQ.mpr (.inr (.inl m))) λa m=>.inl m) λo h=>k5.keep _ _ h Ba
  have noB:bM w.2.1 (vs.map aa++frees js σ)=[]:=by
   have:=(Fz.own (σ:=vs.map aa++frees js σ) f5)
   rw[zX Lg] at this;exact List.sublist_nil.mp this
  have e5:er (bh (lU D Z (iJ js e1) σ) Θ w.2.1 (vs.map aa++frees js σ)) H5=er (bh (lU D Z (iJ js e1) σ) Θ [] []) H5:=qL λa=>by rw[pM (js:=js) noB,pM (js:=js) rfl]
  rw[e5] at r5;have lt:=of_decide_eq_true hlt
  refine⟨Gg,hD5,by rw[fV rr,m6];unfold dH at lt;lia,hQ _ (aeZ (Hy:=H5) hD (k4.trans k5)) (Sq Ba S5.cell) ⟨_,fL,?_⟩⟩
  rw[Vb dPB];exact xx rr ⟨y,[],rfl,r5,rfl⟩
 .obtain⟨Gg,hDi,ri⟩:=r
  refine q _ H2 (k1.trans ki) ?_ ?_
  .split
   .exact f1
   .exact f1.trans (Eo js e1)
  .refine⟨D,rfl,k1.none hD,?_⟩
   split
   .rename_i hn;have SD:=S1.Ml hD ki ⟨_,hDi,λ_ z=>nomatch z⟩ ci
    exact⟨SD,Gg,hDi,ri.dZ (λa vs e=>K8 SD (eU e)) hn⟩
   .refine⟨(S1.fz (Eo js e1)).Ml hD ki ⟨_,hDi,λ_ z=>nomatch z⟩ ci,Gg,hDi,?_⟩
    rw[qL (P':=bh (D::Z) Θ (iJ js e1) σ) λa=>by rw[pM (js:=js) rfl];show _↔a∈D::bh Z Θ (iJ js e1) σ;rw[cD]] at ri;exact ri
section
variable{X:Cx}{NT NF:List Str}{js:List Nat}{elt tg iter:Expr}{ifs:List Expr}{T:iT}{fi:FI}{ft:FT}{fe:FE}{scope:jj}{pos:Pos}
theorem vo(B:vf X NT NF js scope)(tk:tV tg NT T)(hc:X.calm=au)(hi:PI X tg iter (tI X.K au fi))
  (hin:∀b,qb (X.bk (NT++NF) scope b) ifs (fH X.K ft)/\PE (X.bk (NT++NF) scope b) elt (tE X.K fe))
  (hs:∀x,yJ iter X.env x=pure x:=by intro _;rfl):PE X (.ListComp elt [⟨tg,iter,ifs,0⟩] scope pos) (tE X.K (j8 fi T ft fe js)):=(af3 B tk hc hi hin hs).weak T7
theorem Jv{i:Nat}{y:Str}{pos' spos:Pos}(B:vf X NT NF js scope)(tk:tV tg NT T)(hc:X.calm=au)(hi:PI X tg iter (tI X.K au fi))
  (hin:∀b,qb (X.bk (NT++NF) scope b) ifs (fH X.K ft)/\PE (X.bk (NT++NF) scope b) elt (tE X.K fe))
  (hsw:uG (.ListComp elt [⟨tg,iter,ifs,0⟩] scope pos) (aa (.Name y pos')) spos.line X.env=pure au)(hN:X.N.Nodup)(hI:X.N[i]?=aa y)(hy:X.env.scope.names.lookup y=aa .local)
  (hs:∀x,yJ iter X.env x=pure x:=by intro _;rfl):PS X (.Assign [.Name y pos'] (.ListComp elt [⟨tg,iter,ifs,0⟩] scope pos) spos) (tS X.K (fj i (j8 fi T ft fe js))):=(abU B tk hc hi hin hsw hN hI hy hs).weak (R7 T7)
end
def vp(n:Nat):Vl->Bool
 |.ce m=>decide (m<n)
 |_=>au
noncomputable def fN (k n:Nat) (body:FS):FN:=λxs C=>if xs.length=k then match body (xs.map aa++cM (n-xs.length) ak) C with
  |some (.rt r,_,C')=>if vp C.length r then aa (r,C'.take C.length) else ak
  |some (.nx,_,C')=>aa (.im .none,C'.take C.length)
  |_=>ak
 else ak
section
variable{K:aJ}{Z Θ:List aq}{C:Ce}{H:Hp}{xs:List Vl}{vs:List V}
theorem Jw(a:qK K E Θ xs vs):vs.length=xs.length:=by
 induction a with
 |nil=>rfl
 |cons _ _ ih=>rw[eE,eE,ih]
theorem adt(a:qK K E Θ xs vs):∀{i:Nat}{x:Vl},xs[i]?=aa x->∃v,vs[i]?=aa v/\qN K E Θ x v:=by
 induction a with
 |nil=>intro i x e;simp at e
 |cons h _ ih=>
  intro i x e;cases i with
  |zero=>simp at e;subst e;exact⟨_,rfl,h⟩
  |succ i=>
   obtain⟨v,e2,h2⟩:=ih (i:=i) (by simpa using e)
   exact⟨v,by simpa using e2,h2⟩
theorem Sm.start(S:Sm K Z Θ [] C [] H)(a:qK K (er (bh Z Θ [] []) H) Θ xs vs):Sm K Z Θ (xs.map aa++cM n mj) C (vs.map aa++cM n mj) H/\bM (xs.map aa++cM n mj) (vs.map aa++cM n mj)=[]:=by
 have lv:=Jw a;have at':∀{i:Nat}{x:Vl},(xs.map aa++cM n mj)[i]?=aa (aa x)->∃v,vs[i]?=aa v/\qN K (er (bh Z Θ [] []) H) Θ x v/\i<vs.length:=λ{i x} e=>by
  by_cases hi:i<xs.length
  .rw[kj (by rw[cV];exact hi),jy] at e;cases hx:xs[i]? with
   |none=>rw[hx] at e;cases e
   |some y=>
    rw[hx] at e;cases e
    obtain⟨v,e1,h⟩:=adt a hx
    exact⟨v,e1,h,by rw[lv];exact hi⟩
  .rw[lB (by rw[cV];lia)] at e;have:=nW e;exact nomatch(G9 this)
 have no:bM (xs.map aa++cM n mj) (vs.map aa++cM n mj)=[]:=zX λi d e=>by
  obtain⟨v,_,h,_⟩:=at' e
  exact h
 refine⟨⟨by simp[lv],?_,S.dom,λi x e=>?_,S.cell⟩,no⟩
 .show(Z++(Θ++bM _ _)).Nodup
  rw[no];exact S.nd
 .obtain⟨v,e1,h,hl⟩:=at' e
  refine⟨v,by rw[kj (by rw[cV];exact hl),jy,e1];rfl,?_⟩
  have ee:er (bh Z Θ (xs.map aa++cM n mj) (vs.map aa++cM n mj)) H=er (bh Z Θ [] []) H:=by
   show er (Z++(Θ++bM _ _)) H=_;rw[no];rfl
  rw[ee];cases x with
  |im d=>exact h
  |ow d=>exact h.elim
  |ce m=>exact h
  |sc ns=>exact h
  |ks ns=>exact h
  |tp=>exact h.elim
theorem Sm.cut(S:Sm K Z (Θ++Δ) [] C [] H):Sm K Z Θ [] (C.take Θ.length) [] H:=by
 have cX:=S.cX;have cl:=S.cell.len;rw[gD] at cl
 refine⟨rfl,vU cX.1 (lD.mp cX.2.1).1 n6 (λb m m'=>cX.2.2.2 b m (gf _ m')) (λ_ m=>nomatch m),S.dom,λi x e=>by simp at e,⟨by rw[BR];lia,λn a ns e1 e2=>?_⟩⟩
 have hn:n<Θ.length:=(iU.mp e1).1;rw[YK,bB hn] at e2;exact S.cell.at_ n a ns (by rw[kj hn];exact e1) e2
theorem Ff.cut(t:jq Θ Θ' H)(ok:vp Θ.length r=au)(no:O=[])(h:Ff K Z Θ' C' O H H' r v):Gd K Z Θ (C'.take Θ.length) H H' r v:=by
 obtain⟨Δ,rfl,hn⟩:=t.ex
 have sm:∀{Y:List aq},bN (er (bh Y (Θ++Δ) [] []) H') (er (bh Y Θ [] []) H'):=λ{Y}=>pP λa m=>by
  rcases iQ.mp m with m|m|m
  .exact iQ.mpr (.inl m)
  .exact iQ.mpr (.inr (.inl (gf _ m)))
  .nomatch m
 cases r with
 |im d=>exact⟨h.1.cut,h.2.same sm⟩
 |ow d=>
  obtain⟨a,e,m,S,r⟩:=h
  refine⟨a,e,?_,S.cut,r.same sm λ_ h=>h⟩
  rcases m with m|m
  .rw[no] at m;nomatch m
  .exact m
 |ce n=>
  obtain⟨S,a,e,e2⟩:=h
  refine⟨S.cut,a,e,?_⟩
  rw[kj (of_decide_eq_true ok)] at e2;exact e2
 |sc ns=>
  obtain⟨S,a,e,q⟩:=h
  exact⟨S.cut,a,e,sm.seq q⟩
 |ks ns=>
  obtain⟨S,a,e,q⟩:=h
  exact⟨S.cut,a,e,sm.oZ q⟩
 |tp=>
  obtain⟨t,a,vs,us,e,e',m,S,r,p,q⟩:=h
  refine⟨t,a,vs,us,e,e',?_,S.cut,r.same sm λ_ h=>h,p.same sm,q.same sm⟩
  rcases m with m|m
  .rw[no] at m;nomatch m
  .exact m
end
section
variable{P:bI}{w:bC}{K:aJ}{mg:Str->Option aA}{base:bw}
theorem iH{x qual:Str}{st:cZ}{f:aq}{fd:di}{N ps:List Str}{k:Nat}{body:FS}{k1 k2:Nat}(F:fB K x qual st f fd)(S:gA N ps (cY st))
  (hb:∀(cdv:aA)(A:b7)(outer:List Env)(s:aH)(H:Hp)(E:XK),gR k (A.deeper (envOfC qual (cY st) s.heap.objs.size f cdv))->iI (vC dN P w K mg base N qual (cY st) f cdv A outer s H E).Bo (su st) (tS K body))
  (e1:k1=ps.length:=by rfl)(e2:k2=N.length:=by rfl):dI P w K mg base dN (k+1) f fd ps (spT K (fN k1 k2 body)):=by
 subst e1 e2;refine F.ok S (λvs H Q E h=>?_) (λcdv A outer s H vs Q E hr h=>⟨_,hb cdv A outer s H E hr,?_⟩)
 .obtain⟨Z,Θ,C,xs,r,C',S0,a,hf,_⟩:=h
  unfold fN at hf;split at hf
  .rename_i hl;rw[Jw a,hl]
  .cases hf
 .obtain⟨Z,Θ,C,xs,r,C',S0,a,hf,q⟩:=h
  unfold fN at hf;split at hf
  case isFalse=>cases hf
  rename_i hl;have lv:=Jw a
  obtain⟨S1,no⟩:=S0.start (n:=N.length-vs.length) a
  rw[lv] at S1 no;have hs:start N vs=vs.map aa++cM (N.length-xs.length) ak:=by unfold start;rw[lv]
  rw[hs];have cl:=S0.cell.len;split at hf
  .rename_i r0 e' C1 hb';split at hf
   .rename_i hok;cases hf
    refine⟨Z,Θ,_,C,.rt r,e',C1,S1,hb',λΘ' v H' R=>?_⟩
    have kp:=R.kp;rw[no,jP] at kp;rw[cl] at q hok;exact q v H' kp (R.ok.cut R.th hok no)
   .cases hf
  .rename_i e' C1 hb';cases hf
   refine⟨Z,Θ,_,C,.nx,e',C1,S1,hb',λΘ' σ' H' R=>?_⟩
   have kp:=R.kp;rw[no,jP] at kp
   obtain⟨Δ,e,hn⟩:=R.th.ex
   have S2:=R.sm.none;rw[e] at S2;rw[cl] at q;exact q .non H' kp ⟨S2.cut,rfl⟩
  .cases hf
theorem ae0(hS:bL K H a (ns.map V.int))(h:f [.sc ns] []=aa (.im (.bool au),C')):spT K f [.ref a] H (λv _=>v=.bl au) E:=by
 refine⟨[],[],[],[.sc ns],_,C',⟨rfl,n6,(λ_ m=>nomatch m),λi x e=>by simp at e,⟨rfl,λn b ms e _=>by simp at e⟩⟩,.cons ⟨a,rfl,?_⟩ .nil,h,λv H' _ R=>R.2⟩
 show bL K (er [] H) a _;rw[aeP];exact hS
end
def tB(i:Nat):FE:=λaj C=>match aj[i]? with
 |some (some (.sc ns))=>aa (.im (.int ns.length),aj,C)
 |_=>ak
def Bb(i:Nat)(f:FB):FE:=λaj C=>match aj[i]? with
 |some (some (.sc ns))=>match f aj C with
  |some (.int k,_,C1)=>match dG ns k with
   |some z=>aa (.im (.int z),aj,C1)
   |none=>ak
  |_=>ak
 |_=>ak
section
variable{X:Cx}{o k:Expr}{i:Nat}{p pos:Pos}
theorem T8(ho:PE X o (mL i))(hg:Gl X "len")(hm:X.mg "len"=ak)(hv:oA "len"=aa (.builtin "len"))
  (he:bG [o] X.env=(aF,eval o X.env)::bG [] X.env:=by rfl)(hpl:(gb pos (bG [] X.env)).any (·.1)=aF:=by rfl):PE X (.Call (.Name "len" p) [o] [] pos) (tE X.K (tB i)):=
 (zy HY hg hm hv (jA ho lN he) aO aO he hpl).weak λσ H Q aR=>by
  obtain⟨Z,Θ,aj,C,r,aU,C',S,hf,q⟩:=aR
  unfold tB at hf;split at hf
  .rename_i ns h0;cases hf
   obtain⟨v,ev,a,rfl,sq⟩:=S.slot i _ h0
   have:=q (.int ns.length) H (bf.refl _ _) (Fz.refl _) ⟨S,rfl⟩
   exact⟨_,ev,a,_,rfl,.inl ((pU _ _).seq sq),by rw[cV];exact this⟩
  .cases hf
theorem ae1(ho:PE X o (mL i))(hk:PE X k (cN X.K f))(hs:zK k):PE X (.Subscript o k pos) (tE X.K (Bb i f)):=(Ez J7 ho hk hs).weak λσ H Q aR=>by
 obtain⟨Z,Θ,aj,C,r,aU,C',S,hf,q⟩:=aR
 unfold Bb at hf;split at hf
 case h_2=>cases hf
 rename_i ns h0;split at hf
 case h_2=>cases hf
 rename_i z e1 C1 h1;split at hf
 case h_2=>cases hf
 rename_i y hy;cases hf
 obtain⟨v,ev,a,rfl,sq⟩:=S.slot i _ h0
 refine⟨_,ev,Z,Θ,aj,C,_,e1,C',S,h1,λw H1 k1 f1 S1 b1=>?_⟩
 have S2:=S.go k1 S1.cell
 obtain⟨v2,ev2,a2,ea2,sq2⟩:=S2.slot i _ h0
 rw[ev] at ev2;cases ev2;cases ea2
 refine⟨a,_,z,.int y,rfl,b1,(pU _ _).seq sq2,?_,q _ H1 k1 (Fz.refl _) ⟨S2,rfl⟩⟩
 unfold dG at hy⊢;rw[cV];cases hj:j6 ns.length z with
 |none=>rw[hj] at hy;cases hy
 |some j=>
  rw[hj] at hy
  show(ns.map V.int)[j]?=_
  rw[jy,show ns[j]?=aa y from hy];rfl
end
section
variable{K:aJ}{X:Cx}
theorem qQ(h:Fd Z Θ aj σ H [d] vs):∃v,vs=[v]/\dM Z Θ aj σ H d v:=by
 cases h with
 |cons a b=>cases b;exact⟨_,rfl,a⟩
theorem Fg(h:Fd Z Θ aj σ H [d,e] vs):∃v w,vs=[v,w]/\dM Z Θ aj σ H d v/\dM Z Θ aj σ H e w:=by
 cases h with
 |cons a b=>
  cases b with
  |cons b c=>cases c;exact⟨_,_,rfl,a,b⟩
def Bc:az->Option Nat
 |.list ds=>aa ds.length
 |.tuple ds=>aa ds.length
 |.str z=>if z.length<=dH then aa z.length else ak
 |.dict aC=>if(dW mQ aC).isSome then aa aC.length else ak
 |_=>ak
def jd:List az->Option Vl
 |[d]=>(Bc d).map λn=>.im (.int n)
 |_=>ak
def VV(K:aJ):List V->Hp->VK->Prop:=λxs H Q=>((∃p ys,xs=[.ref p]/\(bL K H p ys\/bO K H p ys)/\Q (.int ys.length) H)\/∃z,xs=[.str z]/\z.length<=bQ/\Q (.int z.length) H)\/∃a aC,xs=[V.ref a]/\yt H a aC/\Q (.int aC.length) H
theorem oE:iz X (.builtin "len") (VV X.K):=(HY.or Z7).or abe
theorem oM:nR K (VV K) jd:=by
 intro Z Θ aj C σ H xs ds res S b e Q q;unfold jd at e;split at e
 case h_2=>cases e
 rename_i d
 obtain⟨v,rfl,bb⟩:=qQ b
 cases hn:Bc d with
 |none=>rw[hn] at e;cases e
 |some n=>
  rw[hn] at e;cases e;have fin:=q (.int n) H (bf.refl _ _) (fM S rfl rfl);cases d<;>first|cases hn|skip
  .rename_i z;simp only[Bc] at hn;split at hn
   .rename_i hl;cases hn;cases bb.str;exact .inl (.inr ⟨z,rfl,lF hl,fin⟩)
   .cases hn
  .obtain⟨a,vs,rfl,ha,r⟩:=bb.lst
   exact .inl (.inl ⟨a,vs,rfl,.inl (bL.of ha),by rw[fV r];exact fin⟩)
  .obtain⟨a,vs,rfl,ha,r⟩:=bb.tup
   exact .inl (.inl ⟨a,vs,rfl,.inr (bO.of ha),by rw[fV r];exact fin⟩)
  .rename_i aC;simp only[Bc] at hn;split at hn
   .rename_i hs;cases hn
    obtain⟨a,vs,rfl,da,r⟩:=bb.dct
    rcases da with⟨ks,h1,ha⟩|⟨ks,⟨ne,h2⟩,ha⟩
    .refine .inr ⟨a,_,rfl,rdK ha,?_⟩;rw[Zw,zE h1,J9 r,Nat.min_self];exact fin
    .obtain⟨ks',h1⟩:=vY.mp hs
     exact absurd (wY h1 h2) ne
   .cases hn
def Aj:List az->Option Vl
 |[.int i]=>aa (.im (.int (if i<0 then -i else i)))
 |_=>ak
theorem Vf:nR K (λxs H Q=>∃i,xs=[.int i]/\Q (.int (if i<0 then -i else i)) H) Aj:=by
 intro Z Θ aj C σ H xs ds res S b e Q q;unfold Aj at e;split at e
 case h_2=>cases e
 cases e
 obtain⟨v,rfl,bb⟩:=qQ b
 cases bb.int
 exact⟨_,rfl,q _ H (bf.refl _ _) (fM S rfl rfl)⟩
def Fi:List az->Option Vl
 |[.int i]=>aa (.im (.int i))
 |[.bool k]=>aa (.im (.int (if k then 1 else 0)))
 |_=>ak
theorem ae2:nR K (λxs H Q=>(∃i,xs=[.int i]/\Q (.int i) H)\/∃k,xs=[.bl k]/\Q (.int (if k then 1 else 0)) H) Fi:=by
 intro Z Θ aj C σ H xs ds res S b e Q q;unfold Fi at e;split at e
 case h_3=>cases e
 .cases e
  obtain⟨v,rfl,bb⟩:=qQ b
  cases bb.int;exact .inl ⟨_,rfl,q _ H (bf.refl _ _) (fM S rfl rfl)⟩
 .cases e
  obtain⟨v,rfl,bb⟩:=qQ b
  cases(show v=.bl _ from bb)
  exact .inr ⟨_,rfl,q _ H (bf.refl _ _) (fM S rfl rfl)⟩
def sV:List az->Option Vl
 |[.int i,.int j]=>aa (.im (.int (if j>i then j else i)))
 |_=>ak
def xM:List az->Option Vl
 |[.int i,.int j]=>aa (.im (.int (if j<i then j else i)))
 |_=>ak
theorem Ko:nR K (λxs H Q=>∃i j,xs=[.int i,.int j]/\Q (.int (if j>i then j else i)) H) sV:=by
 intro Z Θ aj C σ H xs ds res S b e Q q;unfold sV at e;split at e
 case h_2=>cases e
 cases e
 obtain⟨v,w,rfl,b1,b2⟩:=Fg b
 cases b1.int;cases b2.int
 exact⟨_,_,rfl,q _ H (bf.refl _ _) (fM S rfl rfl)⟩
theorem T9:nR K (λxs H Q=>∃i j,xs=[.int i,.int j]/\Q (.int (if j<i then j else i)) H) xM:=by
 intro Z Θ aj C σ H xs ds res S b e Q q;unfold xM at e;split at e
 case h_2=>cases e
 cases e
 obtain⟨v,w,rfl,b1,b2⟩:=Fg b
 cases b1.int;cases b2.int
 exact⟨_,_,rfl,q _ H (bf.refl _ _) (fM S rfl rfl)⟩
def boolsOf:List az->Option (List Bool)
 |[]=>aa []
 |.bool b::r=>match boolsOf r with
  |some t=>aa (b::t)
  |none=>ak
 |_=>ak
theorem Rn:∀{ds:List az}{ns:List Bool}{vs:List V},boolsOf ds=aa ns->bV E ds vs->vs=ns.map V.bl
 |[],ns,vs,h,r=>by cases h;exact r
 |.bool i::ds,ns,vs,h,r=>by
  unfold boolsOf at h;split at h
  .rename_i t ht;cases h
   obtain⟨u,w,rfl,q,s⟩:=r
   rw[Rn ht s];have:u=.bl i:=q;rw[this];rfl
  .cases h
 |.none::_,_,_,h,_=>by cases h
 |.int _::_,_,_,h,_=>by cases h
 |.str _::_,_,_,h,_=>by cases h
 |.list _::_,_,_,h,_=>by cases h
 |.tuple _::_,_,_,h,_=>by cases h
 |.dict _::_,_,_,h,_=>by cases h
def qR:List az->Option Vl
 |[.list ds]=>(boolsOf ds).map λbs=>.im (.bool (bs.all id))
 |_=>ak
theorem Lh:nR K (λxs H Q=>∃(p:aq)(bs:List Bool),xs=[.ref p]/\bL K H p (bs.map V.bl)/\Q (.bl (bs.all id)) H) qR:=by
 intro Z Θ aj C σ H xs ds res S b e Q q;unfold qR at e;split at e
 case h_2=>cases e
 rename_i ds;cases hb:boolsOf ds with
 |none=>rw[hb] at e;cases e
 |some bs=>
  rw[hb] at e;cases e
  obtain⟨v,rfl,bb⟩:=qQ b
  obtain⟨a,vs,rfl,ha,r⟩:=bb.lst
  rw[Rn hb r] at ha
  exact⟨a,bs,rfl,bL.of ha,q _ H (bf.refl _ _) (fM S rfl rfl)⟩
def sG:List az->Option Vl
 |[.list ds]=>aa (.im (.tuple ds))
 |[.tuple ds]=>aa (.im (.tuple ds))
 |_=>ak
theorem Jx:nR K (λxs H Q=>∃p ys,xs=[.ref p]/\((bL K H p ys/\∀l,H l=ak->Q (.ref l) (upd H l (.tup ys)))\/(bO K H p ys/\Q (.ref p) H))) sG:=by
 intro Z Θ aj C σ H xs ds res S b e Q q;unfold sG at e;split at e
 case h_3=>cases e
 .cases e
  obtain⟨v,rfl,bb⟩:=qQ b
  obtain⟨a,vs,rfl,ha,r⟩:=bb.lst
  exact⟨a,vs,rfl,.inl ⟨bL.of ha,λl hl=>q _ _ (bf.upd hl) (zO S r hl)⟩⟩
 .cases e
  obtain⟨v,rfl,bb⟩:=qQ b
  obtain⟨a,vs,rfl,ha,r⟩:=bb.tup
  exact⟨a,vs,rfl,.inr ⟨bO.of ha,q _ H (bf.refl _ _) ⟨S,bb⟩⟩⟩
end
def j4(n:String):az->Option Bool
 |.none=>aa aF
 |.bool _=>aa (n=="bool"||n=="int")
 |.int _=>aa (n=="int")
 |.str _=>aa (n=="str")
 |.list _=>aa (n=="list")
 |.tuple _=>aa (n=="tuple")
 |.dict _=>ak
def Bd(n:String):Bool:=n=="bool"||n=="int"||n=="str"||n=="list"||n=="tuple"
theorem Li{K:aJ}{n:String}{d:az}{b:Bool}(hn:Bd n=au)(e:j4 n d=aa b):wB K (Bt d) (.type n)=aa b:=by
 unfold Bd at hn;simp only[PX,beq_iff_eq] at hn;rcases hn with(((rfl|rfl)|rfl)|rfl)|rfl<;>cases d<;>cases e<;>rfl
theorem Ss(e:j4 n d=aa b):∀aC,d≠.dict aC:=λaC z=>by subst z;cases e
theorem dM.ty{K:aJ}{Z Θ:List aq}{aj:En}{σ:St}{H:Hp}{d:az}{v:V}(h:dM Z Θ aj σ H d v)(hd:∀aC,d≠.dict aC):jK K H v (Bt d):=by
 cases d with
 |none=>exact RX.ty (d:=.none) h
 |bool b=>exact RX.ty (d:=.bool b) h
 |int i=>exact RX.ty (d:=.int i) h
 |str z=>exact RX.ty (d:=.str z) h
 |list ds=>
  obtain⟨a,vs,rfl,ha,r⟩:=h.lst
  exact .lst ha
 |tuple ds=>
  obtain⟨a,vs,rfl,ha,r⟩:=h.tup
  exact .tup ha
 |dict aC=>exact absurd rfl (hd aC)
def gW(n:String)(f:FB):FE:=λaj C=>match f aj C with
 |some (d,_,C1)=>match j4 n d with
  |some b=>aa (.im (.bool b),aj,C1)
  |none=>ak
 |none=>ak
def vq(m n:String)(f:FB):FE:=λaj C=>match f aj C with
 |some (d,_,C1)=>match j4 m d,j4 n d with
  |some p,some q=>aa (.im (.bool (p||q)),aj,C1)
  |_,_=>ak
 |none=>ak
section
variable{X:Cx}{a t t':Expr}{p pos tp:Pos}{x1:Nat}
theorem nA(hn:Bd n=au)(ha:PE X a (cN X.K f))(ht:PE X t (tC (.ty n)))(hg:Gl X "isinstance")(hm:X.mg "isinstance"=ak)(hv:oA "isinstance"=aa (.builtin "isinstance"))
  (he:bG [a,t] X.env=(aF,eval a X.env)::bG [t] X.env:=by rfl)(he2:bG [t] X.env=(aF,eval t X.env)::bG [] X.env:=by rfl)(hpl:(gb pos (bG [t] X.env)).any (·.1)=aF:=by rfl):
  PE X (.Call (.Name "isinstance" p) [a,t] [] pos) (tE X.K (gW n f)):=
 (zy aaq hg hm hv (jA ha (jA ht lN he2) he) aO aO he hpl).weak λσ H Q aR=>by
  obtain⟨Z,Θ,aj,C,r,aU,C',S,hf,q⟩:=aR
  unfold gW at hf;split at hf
  case h_2=>cases hf
  rename_i d e1 C1 h1;split at hf
  case h_2=>cases hf
  rename_i b hb;cases hf
  refine⟨Z,Θ,aj,C,d,e1,C',S,h1,λv H1 k f S1 b1=>⟨v,n,Bt d,b,rfl,b1.ty (Ss hb),Li hn hb,q _ H1 k (Fz.refl _) ⟨S.go k S1.cell,rfl⟩⟩⟩
theorem adu(hm':Bd m=au)(hn:Bd n=au)(ha:PE X a (cN X.K f))(ht:PE X t (tC (.ty m)))(ht':PE X t' (tC (.ty n)))(hg:Gl X "isinstance")(hm:X.mg "isinstance"=ak)(hv:oA "isinstance"=aa (.builtin "isinstance"))
  (he:bG [a,.Tuple [t,t'] x1 tp] X.env=(aF,eval a X.env)::bG [.Tuple [t,t'] x1 tp] X.env:=by rfl)(he2:bG [.Tuple [t,t'] x1 tp] X.env=(aF,eval (.Tuple [t,t'] x1 tp) X.env)::bG [] X.env:=by rfl)
  (h3:bG [t,t'] X.env=(aF,eval t X.env)::bG [t'] X.env:=by rfl)(h4:bG [t'] X.env=(aF,eval t' X.env)::bG [] X.env:=by rfl)
  (hpl:(gb pos (bG [.Tuple [t,t'] x1 tp] X.env)).any (·.1)=aF:=by rfl):
  PE X (.Call (.Name "isinstance" p) [a,.Tuple [t,t'] x1 tp] [] pos) (tE X.K (vq m n f)):=
 (zy Z9 hg hm hv (jA ha (jA (UL (jA ht (jA ht' lN h4) h3)) lN he2) he) aO aO he hpl).weak λσ H Q aR=>by
  obtain⟨Z,Θ,aj,C,r,aU,C',S,hf,q⟩:=aR
  unfold vq at hf;split at hf
  case h_2=>cases hf
  rename_i d e1 C1 h1;split at hf
  case h_2=>cases hf
  rename_i b b' hb hb';cases hf
  refine⟨Z,Θ,aj,C,d,e1,C',S,h1,λv H1 k f S1 b1=>⟨by show 2<=bQ;rw[m6];decide,λc hc=>?_⟩⟩
  have kc:bf Θ H1 (upd H1 c (.tup [.ty m,.ty n])):=bf.upd hc;have s2:=S1.Mj (bN.upd (o:=.tup [.ty m,.ty n]) hc);have b2:=b1.go S1 kc (Fz.refl _)
  refine⟨v,c,m,n,Bt d,b,b',rfl,fL,b2.ty (Ss hb),Li hm' hb,Li hn hb',q _ _ (k.trans kc) (Fz.refl _) ⟨S.go (k.trans kc) s2.cell,rfl⟩⟩
end
def ins{α:Type}(lt:α->α->Bool)(x:α):List α->List α
 |[]=>[x]
 |y::r=>if lt y x then y::ins lt x r else x::y::r
section
variable{α:Type}{lt:α->α->Bool}
end
def ltI(i j:Int):Bool:=decide (i<j)
def strsOf:List az->Option (List Str)
 |[]=>aa []
 |.str i::r=>match strsOf r with
  |some t=>aa (i::t)
  |none=>ak
 |_=>ak
theorem Jy:∀{ds:List az}{ns:List Str}{vs:List V},strsOf ds=aa ns->bV E ds vs->vs=ns.map V.str
 |[],ns,vs,h,r=>by cases h;exact r
 |.str i::ds,ns,vs,h,r=>by
  unfold strsOf at h;split at h
  .rename_i t ht;cases h
   obtain⟨u,w,rfl,q,s⟩:=r
   rw[Jy ht s];have:u=.str i:=q;rw[this];rfl
  .cases h
 |.none::_,_,_,h,_=>by cases h
 |.bool _::_,_,_,h,_=>by cases h
 |.int _::_,_,_,h,_=>by cases h
 |.list _::_,_,_,h,_=>by cases h
 |.tuple _::_,_,_,h,_=>by cases h
 |.dict _::_,_,_,h,_=>by cases h
section
variable{X:Cx}{l:Expr}{f:FB}{p1 p2 pos1 pos2:Pos}
end
def xN:az->az->Option Vl
 |.str z,.list ds=>match strsOf ds with
  |some ys=>if(ys.map (·.length)).sum+ys.length*z.length<=dH then aa (.im (.str (Txt.join z ys))) else ak
  |none=>ak
 |_,_=>ak
def vz(f g:FB):FE:=aY xN f g
theorem Kp(ho:PE X o (cN X.K f))(he:PE X e (cN X.K g))
  (hbase:uA o "join" X.env (eval o X.env)=eval o X.env:=by rfl)
  (hfew:((gb cpos (bG [e] X.env)).all (λx=>!x.1)&&(uK cpos (uD [] X.env)).all (λx=>x.1.isSome)
   &&decide (([e]:List Expr).length+([]:List jU).length+(if([]:List jU).isEmpty then 0 else 1)<30))=au:=by rfl)
  (hline:(apos.endLine==cpos.line)=au:=by rfl)(hs:bG [e] X.env=(aF,eval e X.env)::bG [] X.env:=by rfl)(hplain:(gb cpos (bG [] X.env)).any (·.1)=aF:=by rfl):
  PE X (.Call (.Attribute o "join" apos) [e] [] cpos) (tE X.K (vz f g)):=
 (EY OJ PySem.F.slot_str_join PySem.F.type_str_join (tZ.r adb) ho (jA he lN hs) hbase hfew hline hs hplain).weak λσ H Q aR=>by
  obtain⟨Z,Θ,aj,C,r,aU,C',S,hf,q⟩:=aR
  unfold vz aY at hf;split at hf
  case h_2=>cases hf
  rename_i x e1 C1 h1;split at hf
  case h_2=>cases hf
  rename_i y e2 C2 h2;split at hf
  case h_2=>cases hf
  rename_i r0 h3;cases hf
  refine⟨Z,Θ,aj,C,x,e1,C1,S,h1,λv H1 k1 f1 S1 b1=>?_⟩
  unfold xN at h3;split at h3
  case h_2=>cases h3
  rename_i z ds;split at h3
  case h_2=>cases h3
  rename_i ys hys;split at h3
  case isFalse=>cases h3
  rename_i hl;cases h3;cases b1.str
  refine⟨rfl,Z,Θ,e1,C1,_,e2,C',S1,h2,λw H2 k2 f2 S2 b2=>?_⟩
  obtain⟨a,vs,rfl,ha,rr⟩:=b2.lst
  rw[Jy hys rr] at ha;have kk:=k1.trans k2
  refine⟨z,a,ys,rfl,rfl,bL.of ha,by unfold dH at hl;lia,?_⟩
  exact q _ H2 kk ((f1.trans f2).rst _) (Res.rst S kk ⟨S2,rfl⟩)
abbrev FO:=En->Ce->Option (Option Int×Ce)
inductive Bw(K:aJ)(f:FO)(σ:St)(H:Hp)(Q:Option Int->Hp->Prop):Prop
 |mk (Z Θ:List aq) (aj:En) (C:Ce) (o:Option Int) (C':Ce) (S:Sm K Z Θ aj C σ H) (hf:f aj C=aa (o,C')) (q:∀H',bf Θ H H'->Sm K Z Θ aj C' σ H'->Q o H'):Bw K f σ H Q
def j9:FO:=λ_ C=>aa (ak,C)
def jw(f:FB):FO:=λaj C=>match f aj C with
 |some (.int i,_,C1)=>aa (aa i,C1)
 |_=>ak
def p8{α:Type}(xs:List α)(lo hi:Option Int):List α:=(xs.drop (HT.bT xs.length 0 lo)).take (HT.bT xs.length xs.length hi-HT.bT xs.length 0 lo)
def ue(lo hi:Option Int):az->Option Vl
 |.str z=>if z.length<=dH then aa (.im (.str (Txt.slice z lo hi))) else ak
 |.list ds=>aa (.ow (.list (p8 ds lo hi)))
 |.tuple ds=>aa (.im (.tuple (p8 ds lo hi)))
 |_=>ak
def jD(f:FB)(lo hi:FO):FE:=λaj C=>match f aj C with
 |some (d,e1,C1)=>match lo e1 C1 with
  |some (l,C2)=>match hi e1 C2 with
   |some (h,C3)=>match ue l h d with
    |some r=>aa (r,rst r aj e1,C3)
    |none=>ak
   |none=>ak
  |none=>ak
 |none=>ak
theorem Kq{E:Hp}{ds:List az}{vs:List V}{lo hi:Option Int}(r:bV E ds vs):bV E (p8 ds lo hi) (oX vs lo hi):=by
 unfold p8 oX;rw[fV r];exact RQ _ (RT _ r)
section
variable{X:Cx}{e:Expr}{lo hi:Option Expr}{pos p2:Pos}
theorem PO.weak(h:PO X o t)(w:∀σ H Q,t' σ H Q->t σ H Q):PO X o t':=λao s σ H Q I q=>h ao s σ H Q I (w σ H Q q)
theorem xX:PO X ak (Bw X.K j9):=ac1.weak λσ H Q aR=>by
 obtain⟨Z,Θ,aj,C,o,C',S,hf,q⟩:=aR
 cases hf;exact q H (bf.refl _ _) S
theorem tD(h:PE X e (cN X.K f)):PO X (aa e) (Bw X.K (jw f)):=(ac2 h).weak λσ H Q aR=>by
 obtain⟨Z,Θ,aj,C,o,C',S,hf,q⟩:=aR
 unfold jw at hf;split at hf
 .rename_i i e1 C1 h1;cases hf
  exact⟨Z,Θ,aj,C,_,e1,C',S,h1,λv H1 k f S1 b1=>⟨i,b1,q H1 k (S.go k S1.cell)⟩⟩
 .cases hf
theorem vA{f:FB}{Xi Xj:FO}(he:PE X e (cN X.K f))(hl:PO X lo (Bw X.K Xi))(hh:PO X hi (Bw X.K Xj)):PE X (.Subscript e (.Slice lo hi ak p2) pos) (tE X.K (jD f Xi Xj)):=(abP ((aeN.or ac4).or adg) he hl hh).weak λσ H Q aR=>by
 obtain⟨Z,Θ,aj,C,r,aU,C',S,hf,q⟩:=aR
 unfold jD at hf;split at hf
 case h_2=>cases hf
 rename_i d e1 C1 h1;split at hf
 case h_2=>cases hf
 rename_i l C2 h2;split at hf
 case h_2=>cases hf
 rename_i h C3 h3;split at hf
 case h_2=>cases hf
 rename_i r0 h4;cases hf
 refine⟨Z,Θ,aj,C,d,e1,C1,S,h1,λv H1 k1 f1 S1 b1=>⟨Z,Θ,e1,C1,l,C2,S1,h2,λH2 k2 S2=>⟨Z,Θ,e1,C2,h,C',S2,h3,λH3 k3 S3=>?_⟩⟩⟩
 have kk:=(k1.trans k2).trans k3;have b3:=b1.go S1 (k2.trans k3) (Fz.refl _);have fin:∀{w:V}{H4:Hp},bf Θ H3 H4->Res X.K Z Θ e1 C' σ H3 H4 r w->Q w H4:=λ{w H4} k4 R=>q w H4 (kk.trans k4) (f1.rst _) ((R.from kk).rst S (kk.trans k4))
 cases d<;>first|cases h4|skip
 .rename_i z;simp only[ue] at h4;split at h4
  .rename_i hz;cases h4;cases b3.str;exact .inl (.inl ⟨z,rfl,lF hz,fin (bf.refl _ _) (fM S3 rfl rfl)⟩)
  .cases h4
 .obtain⟨a,vs,rfl,ha,rr⟩:=b3.lst
  exact .inl (.inr ⟨a,vs,rfl,bL.of ha,λp hp=>fin (bf.upd hp) (DQ S3 (Kq rr) hp)⟩)
 .rename_i ds;have b3':=b3
  obtain⟨a,vs,rfl,ha,rr⟩:=b3.tup
  refine .inr ⟨a,vs,rfl,bO.of ha,λec=>?_,λp hp=>fin (bf.upd hp) (zO S3 (Kq rr) hp)⟩;have rc:=Kq (lo:=l) (hi:=h) rr;rw[ec] at rc;refine fin (bf.refl _ _) ⟨S3,a,vs,rfl,K8 S3 ha,rc⟩
end
section
variable{X:Cx}{NT NF:List Str}{js:List Nat}{kx vx tg iter:Expr}{ifs:List Expr}{T:iT}{fi:FI}{ft:FT}{fk fv:FE}{scope:jj}{pos:Pos}
end
section
variable{X:Cx}
end
noncomputable def ig:List az->List az->List az
 |x::xs,y::ys=>.tuple [x,y]::ig xs ys
 |_,_=>[]
theorem DR:∀{xs ys:List az}{i:Nat}{d:az},(ig xs ys)[i]?=aa d->∃x y,xs[i]?=aa x/\ys[i]?=aa y/\d=.tuple [x,y]
 |[],_,i,d,h=>by simp[ig] at h
 |_::_,[],i,d,h=>by simp[ig] at h
 |x::xs,y::ys,0,d,h=>by
  simp[ig] at h
  exact⟨x,y,rfl,rfl,h.symm⟩
 |x::xs,y::ys,i+1,d,h=>by
  obtain⟨a,b,h1,h2,h3⟩:=DR (i:=i) (by simpa[ig] using h)
  exact⟨a,b,by simpa using h1,by simpa using h2,h3⟩
theorem Dq:∀{xs ys:List az},(ig xs ys).length=min xs.length ys.length
 |[],_=>by simp[ig]
 |_::_,[]=>by simp[ig]
 |x::xs,y::ys=>by simp[ig,Dq,Nat.succ_min_succ]
theorem ae3{K:aJ}{P T:List aq}{H:Hp}{a b:aq}{ds es:List az}{vs ws:List V}(ha:er T H a=aa (.lst vs))(hb:er T H b=aa (.lst ws))(r1:bV (er P H) ds vs)(r2:bV (er P H) es ws):p7 P T H (Nx K a b) (ig ds es):=λi H2 P2 s1 s2 n=>by
 have h2:bL K H2 a vs:=bL.of (eU (s2 _ _ ha));have h3:bL K H2 b ws:=bL.of (eU (s2 _ _ hb))
 refine⟨λd hd=>?_,λhi=>⟨vs,ws,h2,h3,by rw[hi,Dq,fV r1,fV r2]⟩⟩
 obtain⟨x,y,e1,e2,rfl⟩:=DR hd
 obtain⟨v,ev,rv⟩:=nq r1 e1
 obtain⟨w,ew,rw'⟩:=nq r2 e2
 refine⟨⟨vs,ws,h2,h3,?_⟩,λz H3 yl=>?_⟩
 .have l1:=(iU.mp ev).1;have l2:=(iU.mp ew).1;lia
 .obtain⟨p,v',w',hp,rfl,rfl,hh⟩:=yl
  obtain⟨g1,g2⟩:=hh vs ws h2 h3
  rw[ev] at g1;rw[ew] at g2;cases g1;cases g2;have sp:bN H2 (upd H2 p (.tup [v,w])):=bN.upd hp
  refine⟨sp,p,[v,w],rfl,?_,v,[w],rfl,rv.same (s1.trans (uN sp)),w,[],rfl,rw'.same (s1.trans (uN sp)),rfl⟩
  unfold er;rw[bK (λm=>n p m hp),fL]
section
variable{X:Cx}{tg e:Expr}
def MT:az->Option (List az)
 |.list ds=>aa ds
 |.tuple ds=>aa ds
 |_=>ak
def Gz(f:FB):FI:=λaj C=>match f aj C with
 |some (d,e1,C1)=>match MT d with
  |some aD=>aa (aD,e1,C1)
  |none=>ak
 |none=>ak
def iV2(f:FE):FI:=λaj C=>match f aj C with
 |some (r,e1,C1)=>match still r with
  |.im d=>match MT d with
   |some aD=>aa (aD,e1,C1)
   |none=>ak
  |_=>ak
 |none=>ak
theorem af9(h:PE X e (cN X.K f)):PI X tg e (tI X.K au (Gz f)):=((J2 h).or (KZ h)).weak λσ H R aR=>by
 obtain⟨Z,Θ,aj,C,aD,aU,C',S,hf,q⟩:=aR
 unfold Gz at hf;split at hf
 .rename_i d e1 C1 h1;split at hf
  .rename_i ys hi;cases hf;cases d<;>first|cases hi|skip
   .refine .inl ⟨Z,Θ,aj,C,_,aU,C',S,h1,λv H1 k f S1 b=>?_⟩
    obtain⟨a,vs,rfl,ha,r⟩:=b
    exact⟨a,rfl,⟨vs,bL.of (eU ha)⟩,q _ H1 k f S1 (Kl ha r)⟩
   .refine .inr ⟨Z,Θ,aj,C,_,aU,C',S,h1,λv H1 k f S1 b=>?_⟩
    obtain⟨a,vs,rfl,ha,r⟩:=b
    exact⟨a,rfl,⟨vs,bO.of (eU ha)⟩,q _ H1 k f S1 (Lf ha r)⟩
  .cases hf
 .cases hf
end
def xY:FN:=λ_ _=>ak
theorem adv{P:bI}{w:bC}{K:aJ}{mg:Str->Option aA}{base:bw}{f:aq}{fd:di}{ps:List Str}:dI P w K mg base dN 0 f fd ps (spT K xY):=by
 have no:∀vs H Q E,¬spT K xY vs H Q E:=λvs H Q E ⟨_,_,_,_,_,_,_,_,h,_⟩=>nomatch h
 exact⟨λ_ _ _ _ h=>(no _ _ _ _ h).elim,λ_ _ _ _ _ _ _ _ _ _ _ _ _ h=>(no _ _ _ _ h).elim⟩
def o7(i:Nat)(f:FB):FE:=λaj C=>match aj[i]? with
 |some (some (.ce n))=>match f aj C with
  |some (.int k,_,C1)=>match C1[n]? with
   |some ns=>match dG ns k with
    |some z=>aa (.im (.int z),aj,C1)
    |none=>ak
   |none=>ak
  |_=>ak
 |_=>ak
theorem uV(ho:PE X o (mL i))(hk:PE X k (cN X.K f))(hs:zK k):PE X (.Subscript o k pos) (tE X.K (o7 i f)):=(Ez J7 ho hk hs).weak λσ H Q aR=>by
 obtain⟨Z,Θ,aj,C,r,aU,C',S,hf,q⟩:=aR
 unfold o7 at hf;split at hf
 case h_2=>cases hf
 rename_i n h0;split at hf
 case h_2=>cases hf
 rename_i z e1 C1 h1;split at hf
 case h_2=>cases hf
 rename_i ns hns;split at hf
 case h_2=>cases hf
 rename_i y hy;cases hf
 obtain⟨v,ev,a,rfl,hth⟩:=S.slot i _ h0
 refine⟨_,ev,Z,Θ,aj,C,_,e1,C',S,h1,λw H1 k1 f1 S1 b1=>?_⟩
 have S2:=S.go k1 S1.cell;have ha:=S1.cell.at_ n a ns hth hns
 refine⟨a,_,z,.int y,rfl,b1,bL.of ha,?_,q _ H1 k1 (Fz.refl _) ⟨S2,rfl⟩⟩
 unfold dG at hy⊢;rw[cV];cases hj:j6 ns.length z with
 |none=>rw[hj] at hy;cases hy
 |some j=>
  rw[hj] at hy
  show(ns.map V.int)[j]?=_
  rw[jy,show ns[j]?=aa y from hy];rfl
theorem Vg{C:Ce}{b:Nat}{l l':List Int}(h:C[b]?=aa l):(C.set b l')[b]?=aa l':=by
 rw[Ht,bB rfl,bB (iU.mp h).1]
theorem Su{C C':Ce}(h:C'.length=C.length):C'.take C.length=C':=yH aP
theorem mul_eq(h:(-18446744073709551616<i/\i<18446744073709551616)\/(-18446744073709551616<j/\j<18446744073709551616)):nD (.int i) (.int j)=aa (.im (.int (i*j))):=by
 unfold nD;exact bB h
theorem mod_eq(h:0<j):jc (.int i) (.int j)=aa (.im (.int (i%j))):=by
 unfold jc;exact bB h
theorem fdiv_eq(h:0<j)(h1:j<1073741824):xJ (.int i) (.int j)=aa (.im (.int (i / j))):=by
 unfold xJ;exact bB ⟨h,h1⟩
theorem Sv(I:Nat->En->Ce->Prop):∀{aD:List az}{aj:En}{C:Ce}{k:Nat},I k aj C->
  (∀i d aj C,aD[i]?=aa d->I (k+i) aj C->∃e1 fl aU C',g d aj=aa e1/\body e1 C=aa (fl,aU,C')/\(fl=.nx\/fl=.ct)/\I (k+i+1) aU C')->
  ∃aU C',jJ g body aD aj C=aa (.nx,aU,C')/\I (k+aD.length) aU C'
 |[],aj,C,k,h,_=>⟨aj,C,rfl,h⟩
 |d::r,aj,C,k,h,st=>by
  obtain⟨e1,fl,ag4,C1,h1,h2,h3,h4⟩:=st 0 d aj C rfl h
  obtain⟨ag5,C2,h5,h6⟩:=Sv I (aD:=r) (aj:=ag4) (C:=C1) (k:=k+1) h4 λi d' aj C hd hi=>by
   have:=st (i+1) d' aj C (by simpa using hd) (by rw[show k+(i+1)=k+1+i by lia];exact hi);rw[show k+(i+1)+1=k+1+i+1 by lia] at this;exact this
  refine⟨ag5,C2,?_,by rw[eE,show k+(r.length+1)=k+1+r.length by lia];exact h6⟩
  unfold jJ;rw[h1];simp only;rw[h2];rcases h3 with rfl|rfl<;>exact h5
theorem Df(I:Nat->En->Ce->Prop)(h:I 0 aj C)
  (st:∀i d aj C,aD[i]?=aa d->I i aj C->∃e1 fl aU C',g d aj=aa e1/\body e1 C=aa (fl,aU,C')/\(fl=.nx\/fl=.ct)/\I (i+1) aU C'):
  ∃aU C',jJ g body aD aj C=aa (.nx,aU,C')/\I aD.length aU C':=by
 have:=Sv I (k:=0) h λi d aj C hd hi=>by
  rw[wG] at hi⊢;exact st i d aj C hd hi
 rw[wG] at this;exact this
theorem Dr(lo:Int)(n:Nat):(lq lo n).length=n:=by unfold lq;rw[cV,Hu]
theorem zP{lo:Int}{n i:Nat}{d:az}(h:(lq lo n)[i]?=aa d):d=.int (lo+i)/\i<n:=by
 unfold lq at h;rw[jy] at h;by_cases hi:i<n
 .rw[Yv hi] at h
  exact⟨(gG h).symm,hi⟩
 .rw[Yh (by rw[Hu];lia)] at h;cases h
theorem Jb(I:Nat->Ce->Prop)(R:Nat->az->Prop):∀{aD:List az}{C:Ce}{k:Nat},I k C->(∀i d C,aD[i]?=aa d->I (k+i) C->∃ts x e C' y,yx T d=aa ts/\fe (fP ts++fs) C=aa (x,e,C')/\still x=.im y/\R (k+i) y/\I (k+i+1) C')->
  ∃ys C',jW T jo fe fs aD C=aa (ys,C')/\I (k+aD.length) C'/\ys.length=aD.length/\∀i y,ys[i]?=aa y->R (k+i) y
 |[],C,k,h,_=>⟨[],C,rfl,h,rfl,λi y e=>by simp at e⟩
 |d::r,C,k,h,st=>by
  obtain⟨ts,x,e,C1,y,h1,h2,h3,h4,h5⟩:=st 0 d C rfl h
  obtain⟨ys,C2,h6,h7,h8,h9⟩:=Jb I R (aD:=r) (C:=C1) (k:=k+1) h5 λi d' C hd hi=>by
   have:=st (i+1) d' C (by simpa using hd) (by rw[show k+(i+1)=k+1+i by lia];exact hi);rw[show k+(i+1)+1=k+1+i+1 by lia,show k+(i+1)=k+1+i by lia] at this;exact this
  refine⟨y::ys,C2,?_,by rw[eE,show k+(r.length+1)=k+1+r.length by lia];exact h7,by simp[h8],λi z hz=>?_⟩
  .unfold jW;simp only[h1,jo,h2,h3];rw[h6]
  .cases i with
   |zero=>simp at hz;subst hz;exact h4
   |succ i=>
    have:=h9 i z (by simpa using hz);rw[show k+(i+1)=k+1+i by lia];exact this
theorem Lj(h0:0<=k)(h1:k<xs.length):∃x,dG xs k=aa x/\xs[k.toNat]?=aa x:=by
 have hk:k.toNat<xs.length:=aP
 refine⟨xs[k.toNat],?_,rG hk⟩
 unfold dG j6;rw[bB h0,bB h1];exact rG hk
def azB(z:Str):Bool:=z.cps.toList.all λc=>decide (97<=c)&&decide (c<=122)
def nameB(z:Str):Bool:=decide (1<=z.length)&&decide (z.length<=8)&&azB z
abbrev abc:Str:=aB "abcdefghijklmnopqrstuvwxyz"
theorem ae4(r0:0<=r)(r1:r<26):dG abc.cps.toList r=aa (97+r.toNat):=by
 have h:∀k:Nat,k<26->dG abc.cps.toList (k:Int)=aa (97+k):=aM;have:=h r.toNat aP
 rwa [Ys r0] at this
theorem QZ:∀(l:List Nat)(a:Array Nat),((l.map λc=>(⟨#[c]⟩:Str)).foldl (λcG p=>cG++(aB "").cps++p.cps) a).toList=a.toList++l
 |[],a=>by simp
 |c::r,a=>by
  simp only[fD,Zx];rw[QZ r];have e:(aB "").cps=#[]:=aM;rw[e];simp
theorem Q0:∀(l:List Nat),(Txt.join (aB "") (l.map λc=>(⟨#[c]⟩:Str))).cps.toList=l
 |[]=>by decide +kernel
 |c::r=>by
  show(((r.map λc=>(⟨#[c]⟩:Str))).foldl (λcG p=>cG++(aB "").cps++p.cps) #[c]).toList=c::r
  rw[QZ r];rfl
theorem Ua:∀ys:List Nat,(ys.map ((λx:Str=>x.length) ∘ λc=>(⟨#[c]⟩:Str))).sum=ys.length
 |[]=>rfl
 |c::r=>by
  rw[fD,ZX,Ua r,eE];show 1+r.length=r.length+1;lia
theorem Sw(z:Str)(zs:List Str):inD (.str z) (zs.map .str)=decide (z∈zs):=by
 unfold inD;rw[pF,aaa];simp[Zh,j7,toV]
def aga(ps:List (Str×Str))(z:Str):Option Str:=(ps.find? λp=>decide (p.1=z)).map (·.2)
structure Shw(e B:Nat)(d:az):Prop where
 ag6:d.showable=au
 deep:d.depth<=e
 len:d.shown.length<=B
abbrev tG:=Int×Str×Int×Str×Int×Int
abbrev Vh:=Int×Str×Str×Str×Int×Int×Int
abbrev Mm:=Int×Str
abbrev V0:=Str×Int×List Mm
def tH(r:tG):az:=.tuple [.int r.1,.str r.2.1,.int r.2.2.1,.str r.2.2.2.1,.int r.2.2.2.2.1,.int r.2.2.2.2.2]
def Vi(r:Vh):az:=.tuple [.int r.1,.str r.2.1,.str r.2.2.1,.str r.2.2.2.1,.int r.2.2.2.2.1,.int r.2.2.2.2.2.1,.int r.2.2.2.2.2.2]
def je(s:Mm):az:=.tuple [.int s.1,.str s.2]
def ae5(ss:List Mm):az:=.tuple (ss.map je)
def tK(r:V0):az:=.tuple [.str r.1,.int r.2.1,ae5 r.2.2]
def V1(p:Str×Str):az:=.tuple [.str p.1,.str p.2]
structure zY where
 ps:List (Str×Str)
 V2:List tG
 leaves:List Vh
 rules:List V0
def Ep(h:zY):az:=.tuple [.tuple (h.ps.map V1),.tuple (h.V2.map tH),.tuple (h.leaves.map Vi),.tuple (h.rules.map tK)]
def Xk(f:Str->Option Str):Nat->Str->List Str
 |0,_=>[]
 |n+1,z=>match f z with
  |none=>[]
  |some y=>z::Xk f n y
def up(ps:List (Str×Str))(z:Str):List Str:=Xk (aga ps) (ps.length+1) z
theorem uF(D:α->az)(p:α->Bool)(g:α->az):∀{l:List α},(∀a∈l,∃ts,yx T (D a)=aa ts/\ft (fP ts++fs) C=aa (p a,C)/\(p a=au->∃x e,fe (fP ts++fs) C=aa (x,e,C)/\still x=.im (g a)))->
  jW T ft fe fs (l.map D) C=aa ((l.filter p).map g,C)
 |[],_=>rfl
 |d::r,h=>by
  obtain⟨ts,h1,h2,h3⟩:=h d gh
  have ih:=uF D p g (l:=r) λd m=>h d (fQ _ m)
  rw[fD];unfold jW;simp only[h1];rw[h2];cases hp:p d with
  |true=>
   obtain⟨x,e,h4,h5⟩:=h3 hp
   simp only[h4,h5,ih,Zi,hp,if_true,fD]
  |false=>
   simp only[ih,Zi,hp];rfl
section
variable{prog:bI}{w:bC}{A:b7}{E:aA->aH->Prop}{R:xH->aH->Prop}{s:aH}
variable{T:Type}[DecidableEq T]{knd:uw prog w T}
end
section
variable{P:bI}{w:bC}{T0:Type}[DecidableEq T0](knd:uw P w T0)(mk:T0->V)
end
section
variable{X:Cx}{T0:Type}[DecidableEq T0]{knd:uw X.prog X.w T0}{mk:T0->V}{NT NF:List Str}{js:List Nat}{elt tg iter:Expr}{ifs:List Expr}{T:iT}{wi:TI}{ts:Bk->TT}{te:Bk->TE}{scope:jj}{pos:Pos}
end
section
variable{X:Cx}{tg:Expr}
end
theorem ag7(x:α)(r:List α):dG (x::r) 0=aa x:=sr (j:=0) rfl
theorem ag8(a x:α)(r:List α):dG (a::x::r) 1=aa x:=sr (j:=1) rfl
theorem ag9(a b x:α)(r:List α):dG (a::b::x::r) 2=aa x:=sr (j:=2) rfl
theorem aha(a b c x:α)(r:List α):dG (a::b::c::x::r) 3=aa x:=sr (j:=3) rfl
theorem ahb(a b c d x:α)(r:List α):dG (a::b::c::d::x::r) 4=aa x:=sr (j:=4) rfl
theorem ahc(a b c d e x:α)(r:List α):dG (a::b::c::d::e::x::r) 5=aa x:=sr (j:=5) rfl
theorem ahd(a b c d e f x:α)(r:List α):dG (a::b::c::d::e::f::x::r) 6=aa x:=sr (j:=6) rfl
theorem agb(op:az->az->Option Vl)(fa fb:FB)(aj:En)(C:Ce):aY op fa fb aj C=(fa aj C).bind λp=>(fb p.2.1 p.2.2).bind λq=>(op p.1 q.1).bind λr=>aa (r,rst r aj q.2.1,q.2.2):=by
 unfold aY;rcases h:fa aj C with _|⟨x,e1,C1⟩
 .rfl
 .rcases h2:fb e1 C1 with _|⟨y,e2,C2⟩
  .simp only[qg,h2];rfl
  .simp only[qg,h2];cases op x y<;>rfl
theorem agc(f:FE)(aj:En)(C:Ce):aG f aj C=(f aj C).bind λp=>(dat p.1).map λd=>(d,p.2.1,p.2.2):=by
 unfold aG;rcases h:f aj C with _|⟨x,e1,C1⟩<;>rfl
theorem M3(i:Nat)(aj:En)(C:Ce):aW i aj C=(aj[i]?).bind λo=>o.bind λx=>(dat x).map λd=>(d,aj,C):=by
 unfold aW;rcases aj[i]? with _|(_|x)<;>rfl
theorem agd(f g:FT)(aj:En)(C:Ce):sY f g aj C=(f aj C).bind λp=>if p.1 then g aj p.2 else aa (aF,p.2):=by
 unfold sY;rcases h:f aj C with _|⟨_|_,D⟩<;>rfl
theorem ahe(f g:FT)(aj:En)(C:Ce):mR f g aj C=(f aj C).bind λp=>if p.1 then aa (au,p.2) else g aj p.2:=by
 unfold mR;rcases h:f aj C with _|⟨_|_,D⟩<;>rfl
theorem age(f:FT)(aj:En)(C:Ce):lg f aj C=(f aj C).map λp=>(!p.1,p.2):=by
 unfold lg;rcases h:f aj C with _|⟨b,D⟩<;>rfl
theorem ahf(c:FT)(f g:FS)(aj:En)(C:Ce):gU c f g aj C=(c aj C).bind λp=>if p.1 then f aj p.2 else g aj p.2:=by
 unfold gU;rcases h:c aj C with _|⟨_|_,D⟩<;>rfl
theorem agf(c:FT)(f g:FE)(aj:En)(C:Ce):mU c f g aj C=(c aj C).bind λp=>if p.1 then f aj p.2 else g aj p.2:=by
 unfold mU;rcases h:c aj C with _|⟨_|_,D⟩<;>rfl
theorem Mp(op op':az->az->Option Vl)(fa fb fc:FB)(h1:fa aj C=aa (x,e1,C1))(h2:fb e1 C1=aa (y,e2,C2))(h3:op x y=aa (.im (.bool a)))(h4:fc e2 C2=aa (z,e3,C2))(h5:op' y z=aa (.im (.bool b))):lR op op' fa fb fc aj C=aa (.im (.bool (a&&b)),aj,C2):=by
 unfold lR;simp only[h1,h2,h3];cases a with
 |false=>rfl
 |true=>simp only[h4,h5];rfl
theorem ahg(d:az)(e f:En):rst (.ow d) e f=f:=rfl
theorem ae6(b:Bool)(e f:En):rst (.im (.bool b)) e f=e:=rfl
theorem agg(i:Int)(e f:En):rst (.im (.int i)) e f=e:=rfl
theorem agh(z:Str)(e f:En):rst (.im (.str z)) e f=e:=rfl
theorem ahh(l r:List az)(e f:En):rst (.im (.tuple (.list l::r))) e f=f:=rfl
theorem add_int(i j:Int):cH (.int i) (.int j)=aa (.im (.int (i+j))):=rfl
theorem sub_int(i j:Int):Fe (.int i) (.int j)=aa (.im (.int (i-j))):=rfl
theorem le_int(i j:Int):gJ (.int i) (.int j)=aa (.im (.bool (decide (i<=j)))):=rfl
theorem lt_int(i j:Int):yg (.int i) (.int j)=aa (.im (.bool (decide (i<j)))):=rfl
theorem ge_int(i j:Int):Gb (.int i) (.int j)=aa (.im (.bool (decide (j<=i)))):=rfl
theorem gt_int(i j:Int):Ar (.int i) (.int j)=aa (.im (.bool (decide (j<i)))):=rfl
theorem eq_int(i j:Int):dX (.int i) (.int j)=aa (.im (.bool (i==j))):=rfl
theorem eq_bool(a b:Bool):dX (.bool a) (.bool b)=aa (.im (.bool (a==b))):=rfl
theorem ne_bool(a b:Bool):jL (.bool a) (.bool b)=aa (.im (.bool (!(a==b)))):=rfl
theorem ne_int(i j:Int):jL (.int i) (.int j)=aa (.im (.bool (!(i==j)))):=rfl
theorem Fj(ds:List az):jd [.list ds]=aa (.im (.int ds.length)):=rfl
theorem agi(ds:List az):jd [.tuple ds]=aa (.im (.int ds.length)):=rfl
theorem ahi(ds:List az)(i:Int):cg (.tuple ds) (.int i)=(dG ds i).map .im:=rfl
theorem ahj(ds:List az)(i:Int):cg (.list ds) (.int i)=(dG ds i).map .im:=rfl
theorem add_l(h:xs.length+ys.length<=1000000):cH (.list xs) (.list ys)=aa (.ow (.list (xs++ys))):=bB h
theorem pY{ds:List az}{i:Nat}{d:az}(h:ds[i]?=aa d):cg (.tuple ds) (.int i)=aa (.im d):=by
 simp only[cg,nQ,sr h,kE]
theorem agj(h:zY):cg (Ep h) (.int 0)=aa (.im (.tuple (h.ps.map V1))):=pY (i:=0) rfl
theorem agk(h:zY):cg (Ep h) (.int 1)=aa (.im (.tuple (h.V2.map tH))):=pY (i:=1) rfl
theorem agl(h:zY):cg (Ep h) (.int 2)=aa (.im (.tuple (h.leaves.map Vi))):=pY (i:=2) rfl
theorem agm(h:zY):cg (Ep h) (.int 3)=aa (.im (.tuple (h.rules.map tK))):=pY (i:=3) rfl
theorem agn(r:tG):cg (tH r) (.int 0)=aa (.im (.int r.1)):=pY (i:=0) rfl
theorem ago(r:tG):cg (tH r) (.int 1)=aa (.im (.str r.2.1)):=pY (i:=1) rfl
theorem agp(r:tG):cg (tH r) (.int 2)=aa (.im (.int r.2.2.1)):=pY (i:=2) rfl
theorem agq(r:tG):cg (tH r) (.int 3)=aa (.im (.str r.2.2.2.1)):=pY (i:=3) rfl
theorem agr(r:tG):cg (tH r) (.int 4)=aa (.im (.int r.2.2.2.2.1)):=pY (i:=4) rfl
theorem ags(r:tG):cg (tH r) (.int 5)=aa (.im (.int r.2.2.2.2.2)):=pY (i:=5) rfl
theorem Be(h0:-1000000<=m)(h1:m<=1000000)(a b:α):(if -(2^62)<=m/\m<2^62 then a else b)=a:=bB aP
theorem fK(en:En)(hk:xs.length=k)(he:xs.map aa++cM (n-xs.length) ak=en)(h:(body en C).map (λp=>(p.1,p.2.2))=aa (.rt r,C1))(hr:vp C.length r=au)(hC:C1.length=C.length):fN k n body xs C=aa (r,C1):=by
 unfold fN;rw[bB hk,he];cases hb:body en C with
 |none=>rw[hb] at h;cases h
 |some p=>
  rw[hb] at h
  obtain⟨fl,e1,C2⟩:=p
  have h:(fl,C2)=(Fl.rt r,C1):=gG h;injection h with h1 h2
  subst h1 h2;simp only[hr,if_true,Su hC]
theorem letters(k:Int)(h0:0<=k)(h1:k<26):nQ (.str abc) (.int k)=aa (.str ⟨#[97+k.toNat]⟩):=by
 have e:=ae4 h0 h1;have hl:abc.length<=dH:=aM;simp only[nQ];rw[bB hl,e];rfl
theorem Ro(zs:List Str):(zs.map iM).all eY=au:=by
 rw[Qu,iW];intro _ _;rfl
theorem CJ:∀zs:List Str,strsOf (zs.map iM)=aa zs
 |[]=>rfl
 |z::zs=>by
  show(match strsOf (zs.map iM) with|some t=>aa (z::t)|none=>ak)=_
  rw[CJ zs]
theorem Dg:∀zs:List Str,cW (zs.map iM)=au
 |[]=>rfl
 |z::zs=>by
  show(au&&cW (zs.map iM))=au
  rw[Dg zs];rfl
theorem Q3:∀cs:List Nat,cW (cs.map λc=>iM ⟨#[c]⟩)=au
 |[]=>rfl
 |c::cs=>by
  show(au&&cW (cs.map λc=>iM ⟨#[c]⟩))=au
  rw[Q3 cs];rfl
theorem Qv:∀cs:List Nat,strsOf (cs.map λc=>iM ⟨#[c]⟩)=aa (cs.map λc=>(⟨#[c]⟩:Str))
 |[]=>rfl
 |c::cs=>by
  show(match strsOf (cs.map λc=>iM ⟨#[c]⟩) with|some t=>aa (_::t)|none=>ak)=_
  rw[Qv cs];rfl
theorem abk:(aB "").length=0:=aM
theorem Kr{zs:List Str}{k:Int}(h0:0<=k)(h1:k<zs.length):∃z,z∈zs/\zs[k.toNat]?=aa z/\cg (.list (zs.map .str)) (.int k)=aa (.im (.str z)):=by
 obtain⟨x,e1,e2⟩:=Lj (xs:=zs.map iM) h0 (by rw[cV];exact h1)
 rw[jy] at e2;cases hz:zs[k.toNat]? with
 |none=>rw[hz] at e2;cases e2
 |some z=>
  rw[hz] at e2;cases e2
  refine⟨z,nW hz,rfl,?_⟩
  simp only[cg,nQ,e1,kE]
theorem ab9(r:Vl)(e:En):rst r e e=e:=by
 cases r<;>simp[rst]
theorem Fo(hk:xs.length=k)(he:xs.map aa++cM (n-xs.length) ak=en)(h:body en C=aa (.rt r,e1,C1))(hr:vp C.length r=au)(hC:C1.length=C.length):fN k n body xs C=aa (r,C1):=by
 unfold fN;rw[bB hk,he,h];simp only[hr,if_true,Su hC]
theorem Jc:∀zs:List Str,(zs.map iM).all eY=au
 |[]=>rfl
 |z::zs=>by
  rw[fD,oh,Jc zs];rfl
theorem adw(z:Str)(zs:List Str):vI (.str z) (.list (zs.map .str))=aa (.im (.bool (decide (z∈zs)))):=by
 have:inB (.str z) (.list (zs.map .str))=aa (inD (.str z) (zs.map .str)):=bB (by rw[Jc];rfl);unfold vI;rw[this,Sw];rfl
theorem adx(x z:Str):dX (.str x) (.str z)=aa (.im (.bool (decide (x=z)))):=by
 have:(x==z)=decide (x=z):=by rw[pF];simp
 show aa (Vl.im (.bool (x==z)))=_;rw[this]
theorem ady(x z:Str):jL (.str x) (.str z)=aa (.im (.bool (!decide (x=z)))):=by
 have:(x==z)=decide (x=z):=by rw[pF];simp
 show aa (Vl.im (.bool (!(x==z))))=_;rw[this]
theorem Rp:∀l:List Int,cW (l.map CK)=au
 |[]=>rfl
 |x::l=>by
  show(au&&cW (l.map CK))=au
  rw[Rp l];rfl
theorem aaL:∀(n:Nat),qR [.list (cM n (.bool au))]=aa (.im (.bool au))/\cW (cM n (.bool au))=au:=by
 intro n;have h:boolsOf (cM n (.bool au))=aa (cM n au)/\cW (cM n (.bool au))=au:=by
  induction n with
  |zero=>exact⟨rfl,rfl⟩
  |succ n ih=>
   rw[Hh,Hh]
   refine⟨?_,?_⟩
   .unfold boolsOf;rw[ih.1]
   .show(au&&cW (cM n (.bool au)))=au
    rw[ih.2];rfl
 refine⟨?_,h.2⟩
 unfold qR;simp only[h.1,kE];congr 3;rw[iW];intro b hb
 exact(List.mem_replicate.mp hb).2
theorem agt(a c:Nat)(h:i<n):a+c*(n-i)=a+c*(n-(i+1))+c:=by
 rw[show n-i=(n-(i+1))+1 by lia,Nat.mul_add,Nat.mul_one,Nat.add_assoc]
theorem Lk(a:Nat)(h:i<n):a+(n-i)=a+(n-(i+1))+1:=aP
section
variable{prog:bI}{w:bC}{A:b7}{E:aA->aH->Prop}{s:aH}
theorem ae7(hit:s.heap.IsTupleIter it t i)(ht:s.heap.IsTuple t aD)(hx:aD[i]?=aa x)
  (q:∀h',h'.IsTupleIter it t (i+1)->Cj it s.heap h'->Q x {s with heap:=h'}):bu (model prog w) A (rF (.ref it)) Q E s:=by
 obtain⟨o,ho,hc,hd⟩:=id hit
 obtain⟨ol,hol,_,nl,hdl⟩:=ht
 unfold rF;refine aX (vZ (name:=aB "__next__") hit.typeIs G6 (wj G6 hit.typeIs XD (show bu _ _ (field (.ref it) 0 >>= _) _ _ s from aX (jz ho hd (x:=.ref t) rfl ?_)) (Xz _)));show bu _ _ (if(iZ t==qt)=au then _ else _) _ _ s;rw[bK (show ¬((iZ t==qt)=au) from gq)]
 refine(show bu _ _ (field (.ref it) 1 >>= _) _ _ s from aX (jz ho hd (x:=.int i 0) rfl (show bu _ _ (seqItems? (.ref t) >>= _) _ _ s from aX (rQ hol hdl ?_))))
 simp only[Ph,hx];refine aX (wpAny_setField ho hd bz (cj ⟨x,rfl,cj (q _ ⟨_,Yg _ ho (Obj.isFreed_of_fields (YL hd _)),(Obj.cls_mapFields ..).trans hc,?_⟩ (Yw ..))⟩));rw[YL hd];simp[rawInt]
theorem aaM(hh:A.handled=ak)(hit:s.heap.IsTupleIter it t i)(ht:s.heap.IsTuple t aD)(hx:aD[i]?=ak)
  (q:∀h' e,wI it s.heap h'->(∃o,h'.get? e=aa o/\o.cls=.type "StopIteration")->E (.ref e) {s with heap:=h'}):bu (model prog w) A (rF (.ref it)) Q E s:=by
 obtain⟨o,ho,hc,hd⟩:=id hit
 obtain⟨ol,hol,_,nl,hdl⟩:=ht
 unfold rF;refine aX (vZ (name:=aB "__next__") hit.typeIs G6 (wj G6 hit.typeIs XD (show bu _ _ (field (.ref it) 0 >>= _) _ _ s from aX (jz ho hd (x:=.ref t) rfl ?_)) (Xz _)));show bu _ _ (if(iZ t==qt)=au then _ else _) _ _ s;rw[bK (show ¬((iZ t==qt)=au) from gq)]
 refine(show bu _ _ (field (.ref it) 1 >>= _) _ _ s from aX (jz ho hd (x:=.int i 0) rfl (show bu _ _ (seqItems? (.ref t) >>= _) _ _ s from aX (rQ hol hdl ?_))))
 simp only[Ph,hx];refine aX (wM (aX (wpAny_setField ho hd bz (show bu _ _ (newExc (.type "StopIteration") [] >>= _) _ _ _ from aX ?_))));simp only[newExc,newTuple];refine aX (rM (aX (m:=firstArgMember _ _) (wpAny_of_eq (a:=qt) (by first|rfl|(simp only[firstArgMember];rfl)) (rM ?_ (by size_fits)))) (by size_fits));simp only[raiseNew];refine aX (wpAny_handled ?_)
 first|rw[show A.in1.handled=ak from hh,] |rw[hh]
 exact aX (cj (wpAny_throw (q _ _ (((Yw ..).extBut.push _).push _) ⟨_,gY _ rfl,rfl⟩)))
end
theorem zu(hh:A.handled=ak)(it t:aq)(ne:t≠it)(aD:Array aA):Draws prog w A it [it,t] aD.size (λi v=>aD[i]?=aa v) (λi h=>h.IsTupleIter it t i/\h.IsTuple t aD) where
 live:=λ_ _ st=>let ⟨o,ho,_⟩:=st.1;⟨o,ho⟩
 frame:=λ_ _ _ st k=>⟨let ⟨o,e,r⟩:=st.1;⟨o,k it bz o e,r⟩,let ⟨o,e,r⟩:=st.2;⟨o,k t bz o e,r⟩⟩
 item:=λi s Q E hi st q=>ae7 st.1 st.2 (x:=aD[i]) (by simp[hi]) λh' a b=>q _ h' s.toks (by simp[hi]) ⟨a,st.2.extBut b.extBut ne⟩ b
 done:=λs Q E st q=>aaM hh st.1 st.2 bz q
section
variable{prog:bI}{w:bC}{A:b7}{E:aA->aH->Prop}{s:aH}{z TI TO i1 i2 l1 l2:aq}{f1 f2:List aq}{n m:Nat}{P1 P2:Nat->aA->Prop}{S1 S2:Nat->bw->Prop}
theorem Ub(D:zA z TI TO i1 i2 l1 l2)(D1:Draws prog w A.in1 i1 [i1,l1] n P1 S1)(D2:Draws prog w A.in1 i2 [i2,l2] m P2 S2)(hi:i<n)(hj:i<m)
  (hz:jH s.heap z TI TO .none)(hI:gQ s.heap TI (.ref i1) (.ref i2))(hO:gQ s.heap TO a b)(h1:S1 i s.heap)(h2:S2 i s.heap)
  (q:∀h' tk x y T,P1 i x->P2 i y->s.heap.objs.size<=T->jH h' z TI TO (rawInt T)->gQ h' TO x y->S1 (i+1) h'->S2 (i+1) h'->gQ h' T x y->(∀c o,c∉[z,TO,i1,i2]->s.heap.get? c=aa o->h'.get? c=aa o)->Q (aa (.ref T)) {s with heap:=h',toks:=tk}):
  bu (model prog w) A (qI (.ref z)) Q E s:=by
 have hT:s.TypeIs (.ref z) "zip":=⟨_,hz,rfl⟩
 have k1:∀{h h':bw}{c:aq}{j:Nat},c≠i1->c≠l1->wI c h h'->S1 j h->S1 j h':=λ{h h' c j} e1 e2 k st=>D1.frame _ _ _ st λb hb o e=>k b o (λz=>by subst z;simp at hb;rcases hb with hb|hb;exact e1 hb;exact e2 hb) e
 have k2:∀{h h':bw}{c:aq}{j:Nat},c≠i2->c≠l2->wI c h h'->S2 j h->S2 j h':=λ{h h' c j} e1 e2 k st=>D2.frame _ _ _ st λb hb o e=>k b o (λz=>by subst z;simp at hb;rcases hb with hb|hb;exact e1 hb;exact e2 hb) e
 unfold qI;refine aX (Qj (vZ (name:=aB "__next__") hT yM (wj yM hT Pz ?_ (Pr _))))
 refine(show bu _ _ (field (.ref z) 2 >>= _) _ _ _ from aX (jz hz rfl (x:=.bool aF) rfl (show bu _ _ (field (.ref z) 3 >>= _) _ _ _ from aX (jz hz rfl (x:=.ref TI) rfl (aX (rQ hI rfl ?_))))))
 show bu _ _ (yF (.ref z) >>= _) _ _ _;refine aX ?_;unfold yF;refine aX (jz hz rfl (x:=.none) rfl (cj ?_));simp only[if_true];refine aX (wM (aX (jz hz rfl (x:=.ref TO) rfl (aX (v9 hz bz λg1 z1 m1=>?_)))));replace z1:jH g1 z TI TO .ellipsis:=z1;refine aX ?_;simp only[PB,P0,HB,Qf];refine aX (aX (Ca (show bu _ _ (rF (.ref i1) >>= _) _ _ _ from aX (D1.item i _ _ _ hi (k1 D.i1z.symm D.l1z.symm m1.extBut h1) λx g2 t2 px s2 m2=>cj ?_))));have o2:gQ g2 TO a b:=m2.extBut _ _ D.TOi1 (m1.extBut _ _ D.TOz hO);refine aX (rQ o2 rfl (aX (O5 o2 λg3 o3 m3=>aX (QH (cj ?_)))));replace o3:gQ g3 TO x b:=o3;refine aX (aX (Ca (show bu _ _ (rF (.ref i2) >>= _) _ _ _ from aX (D2.item i _ _ _ hj (k2 D.TOi2 D.l2TO.symm m3.extBut (k2 D.i12 D.l2i1.symm m2.extBut (k2 D.i2z.symm D.l2z.symm m1.extBut h2))) λy g4 t4 py s4 m4=>cj ?_))));have o4:gQ g4 TO x b:=m4.extBut _ _ D.TOi2 o3;refine aX (rQ o4 rfl (aX (O5 o4 λg5 o5 m5=>aX (QH (cj (cj ?_))))));replace o5:gQ g5 TO x y:=o5;refine aX (rQ o5 rfl (aX (wpAny_newTuple ?_)));have sz:g5.objs.size=s.heap.objs.size:=by rw[m5.1,m4.1,m3.1,m2.1,m1.1]
 have z5:jH g5 z TI TO .ellipsis:=m5.extBut _ _ D.TOz.symm (m4.extBut _ _ D.i2z.symm (m3.extBut _ _ D.TOz.symm (m2.extBut _ _ D.i1z.symm z1)));have keep:∀c o,c∉[z,TO,i1,i2]->s.heap.get? c=aa o->g5.get? c=aa o:=λc o hc e=>by
  simp only[cD,gF,or_false,not_or] at hc;exact m5.extBut _ _ hc.2.1 (m4.extBut _ _ hc.2.2.2 (m3.extBut _ _ hc.2.1 (m2.extBut _ _ hc.2.2.1 (m1.extBut _ _ hc.1 e))))
 have u1:S1 (i+1) g5:=k1 D.TOi1 D.l1TO.symm m5.extBut (k1 D.i12.symm D.l1i2.symm m4.extBut (k1 D.TOi1 D.l1TO.symm m3.extBut s2));have u2:S2 (i+1) g5:=k2 D.TOi2 D.l2TO.symm m5.extBut s4;have zl:z<g5.objs.size:=b8 z5;show bu _ _ (Xx (.ref z) (.ref g5.objs.size) >>= _) _ _ _;refine aX ?_;unfold Xx;have z6:jH (g5.push {cls:=.type "tuple",data:=.seq #[x,y]}) z TI TO .ellipsis:=cA _ z5;refine aX (v9 z6 bz λg7 z7 m7=>?_);replace z7:jH g7 z TI TO (rawInt g5.objs.size):=z7;refine v9 z7 bz λg8 z8 m8=>?_
 replace z8:jH g8 z TI TO (rawInt g5.objs.size):=z8;have up:wI z g5 g8:=λc o hc e=>m8.extBut _ _ hc (m7.extBut _ _ hc (cA _ e))
 refine cj ⟨_,rfl,cj ?_⟩;refine q g8 _ x y g5.objs.size px py (Z8 sz.symm) z8 (up _ _ D.TOz o5) (k1 D.i1z.symm D.l1z.symm up u1) (k2 D.i2z.symm D.l2z.symm up u2) ?_ λc o hc e=>up _ _ (λz=>hc (by simp[z])) (keep c o hc e)
 exact m8.extBut _ _ (yV zl) (m7.extBut _ _ (yV zl) (gY _ rfl))
theorem Vj(D:zA z TI TO i1 i2 l1 l2)(D1:Draws prog w A.in1 i1 [i1,l1] n P1 S1)(hz:jH s.heap z TI TO .none)(hI:gQ s.heap TI (.ref i1) (.ref i2))(hO:gQ s.heap TO a b)(h1:S1 n s.heap)
  (q:∀h',(∀c o,c∉[z,TO,i1,i2]->s.heap.get? c=aa o->h'.get? c=aa o)->Q ak {s with heap:=h'}):bu (model prog w) A (qI (.ref z)) Q E s:=by
 have hT:s.TypeIs (.ref z) "zip":=⟨_,hz,rfl⟩
 unfold qI;refine aX (Qj (vZ (name:=aB "__next__") hT yM (wj yM hT Pz ?_ (Pr _))))
 refine(show bu _ _ (field (.ref z) 2 >>= _) _ _ _ from aX (jz hz rfl (x:=.bool aF) rfl (show bu _ _ (field (.ref z) 3 >>= _) _ _ _ from aX (jz hz rfl (x:=.ref TI) rfl (aX (rQ hI rfl ?_))))))
 show bu _ _ (yF (.ref z) >>= _) _ _ _;refine aX ?_;unfold yF;refine aX (jz hz rfl (x:=.none) rfl (cj ?_));simp only[if_true];refine aX (wM (aX (jz hz rfl (x:=.ref TO) rfl (aX (v9 hz bz λg1 z1 m1=>?_)))));replace z1:jH g1 z TI TO .ellipsis:=z1;refine aX ?_;simp only[PB,P0,HB,Qf];refine aX (aX (Ca (show bu _ _ (rF (.ref i1) >>= _) _ _ _ from aX (D1.done _ _ _ (D1.frame _ _ _ h1 λb hb o e=>m1.extBut b o (λz=>by subst z;simp at hb;rcases hb with hb|hb;exact D.i1z hb.symm;exact D.l1z hb.symm) e) λg2 x m2 hx=>?_))))
 obtain⟨ox,e1,e2⟩:=hx
 have z2:jH g2 z TI TO .ellipsis:=m2 _ _ D.i1z.symm z1;have nz:x≠z:=λy=>by subst y;rw[z2] at e1;cases e1;simp at e2
 refine v9 z2 bz λg3 _ m3=>?_
 refine aX (Zj (T:="StopIteration") (b:=au) ⟨ox,m3.extBut _ _ nz e1,e2⟩ isSubtype_stop (cj (q _ λc o hc e=>?_)));simp only[cD,gF,or_false,not_or] at hc;exact m3.extBut _ _ hc.1 (m2 _ _ hc.2.2.1 (m1.extBut _ _ hc.1 e))
end
abbrev pD(h:bw)(a:aq):bw:=h.push {cls:=.type "tuple_iterator",data:=.fields #[.ref a,.int 0 0]}
abbrev GC(h:bw)(a b:aq):bw:=pD (pD h a) b
abbrev GD(h:bw)(a b:aq):bw:=(GC h a b).push {cls:=.type "tuple",data:=.seq #[.ref h.objs.size,.ref (pD h a).objs.size]}
abbrev GF(h:bw)(a b:aq):bw:=(GD h a b).push {cls:=.type "tuple",data:=.seq #[.none,.none]}
abbrev yz(h:bw)(a b:aq):bw:=(GF h a b).push {cls:=.type "zip",data:=.fields #[.none,.bool aF,.bool aF,.ref (GC h a b).objs.size,.ref (GD h a b).objs.size]}
theorem ae8(a b:aq)(xs ys:Array aA):Meets (Builtin.«zip.__new__» ⟨[.type "zip",.ref a,.ref b],[]⟩) (λ_ R s=>s.heap.IsTuple a xs/\s.heap.IsTuple b ys/\R (.ok (.ret (.ref (GF s.heap a b).objs.size))) {s with heap:=yz s.heap a b}):=
 .of_wp λprog w A R s h=>by
  obtain⟨hp,g,d,tk,os⟩:=s;obtain⟨h1,h2,q⟩:=h
  have sub:=sub_zip;have t1:Qw (Ii ⟨hp,g,d,tk,os⟩) a xs:=h1;have t2:Qw (Ii ⟨pD hp a,g,d,tk,os⟩) b ys:=aiU h2 _;wp_walk using Hi t1,Hi t2
  exact⟨_,rfl,q⟩
theorem abl(h1:s.heap.IsTuple a xs)(h2:s.heap.IsTuple b ys)
  (q:∀h',jH h' (s.heap.objs.size+4) (s.heap.objs.size+2) (s.heap.objs.size+3) .none->gQ h' (s.heap.objs.size+2) (.ref s.heap.objs.size) (.ref (s.heap.objs.size+1))->gQ h' (s.heap.objs.size+3) .none .none->h'.IsTupleIter s.heap.objs.size a 0->h'.IsTupleIter (s.heap.objs.size+1) b 0->
   (∀c o,s.heap.get? c=aa o->h'.get? c=aa o)->Q (.ref (s.heap.objs.size+4)) {s with heap:=h'}):bu (model prog w) A (call (.type "zip") [.ref a,.ref b]) Q E s:=by
 refine callType_new F.called_zip aO (Zk _ _) (Zy _ _) (λobj=>Yp obj _ _) Zz (ae8 a b xs ys) ⟨h1,h2,?_⟩;have z1:(pD s.heap a).objs.size=s.heap.objs.size+1:=rP ..;have z2:(GC s.heap a b).objs.size=s.heap.objs.size+2:=(rP ..).trans (by rw[z1]);have z3:(GD s.heap a b).objs.size=s.heap.objs.size+3:=(rP ..).trans (by rw[z2]);have z4:(GF s.heap a b).objs.size=s.heap.objs.size+4:=(rP ..).trans (by rw[z3]);have g5:(yz s.heap a b).get? (GF s.heap a b).objs.size=aa _:=gY _ rfl;have g4:(yz s.heap a b).get? (GD s.heap a b).objs.size=aa _:=cA _ (gY _ rfl);have g3:(yz s.heap a b).get? (GC s.heap a b).objs.size=aa _:=cA _ (cA _ (gY _ rfl));have g2:(yz s.heap a b).get? (pD s.heap a).objs.size=aa _:=cA _ (cA _ (cA _ (gY _ rfl)));have g1:(yz s.heap a b).get? s.heap.objs.size=aa _:=cA _ (cA _ (cA _ (cA _ (gY _ rfl))));rw[z2,z3,z4] at g5;rw[z1,z2] at g3;rw[z3] at g4;rw[z1] at g2;show _/\_;rw[z4]
 exact⟨⟨_,g5,rfl⟩,q _ g5 g3 g4 ⟨_,g1,rfl,rfl⟩ ⟨_,g2,rfl,rfl⟩ λc o e=>cA _ (cA _ (cA _ (cA _ (cA _ e))))⟩
def M4(K:aJ)(a b:aq):It:=⟨λi H=>∃xs ys,bO K H a xs/\bO K H b ys/\xs.length=ys.length/\i<xs.length,
 λi H v H'=>∃p x y,H p=ak/\v=.ref p/\H'=upd H p (.tup [x,y])/\∀xs ys,bO K H a xs->bO K H b ys->xs[i]?=aa x/\ys[i]?=aa y,
 λi H=>∃xs ys,bO K H a xs/\bO K H b ys/\xs.length=ys.length/\i=xs.length⟩
theorem abm{P:bI}{w:bC}{K:aJ}{es:List Expr}{k:Nat}{ps:Pos}{a b z TI TO i1 i2:aq}(D:zA z TI TO i1 i2 a b):
  Turn P w K (.Tuple es k ps) (M4 K a b) [z,TI,TO,i1,i2] z (λi h=>jH h z TI TO .none/\gQ h TI (.ref i1) (.ref i2)/\(∃c d,gQ h TO c d)/\h.IsTupleIter i1 a i/\h.IsTupleIter i2 b i) where
 mem:=bz
 obj:=λi h st c hc=>by
  obtain⟨h1,h2,⟨_,_,h3⟩,⟨o4,e4,_,d4⟩,⟨o5,e5,_,d5⟩⟩:=st
  simp only[cD,gF,or_false] at hc;rcases hc with rfl|rfl|rfl|rfl|rfl
  .exact⟨_,h1,λv q=>by cases q⟩
  .exact⟨_,h2,λv q=>by cases q⟩
  .exact⟨_,h3,λv q=>by cases q⟩
  .exact⟨_,e4,λv q=>by rw[d4] at q;cases q⟩
  .exact⟨_,e5,λv q=>by rw[d5] at q;cases q⟩
 keep:=λi h h' st kk=>by
  obtain⟨h1,h2,⟨c,d,h3⟩,⟨o4,e4,r4⟩,⟨o5,e5,r5⟩⟩:=st
  exact⟨kk z bz _ h1,kk TI bz _ h2,⟨c,d,kk TO bz _ h3⟩,⟨o4,kk i1 bz _ e4,r4⟩,⟨o5,kk i2 bz _ e5,r5⟩⟩
 item:=by
  intro X hP hw hK hc i ao s σ H E I hf st hg;subst hP hw hK
  obtain⟨xs,ys,ha,hb,hn,hi⟩:=hg
  obtain⟨aD,r1,p1,_⟩:=I.tuple ha
  obtain⟨its2,r2,p2,_⟩:=I.tuple hb
  have l1:=r1.length;have l2:=r2.length;have hh:X.A.in1.handled=ak:=by simp[I.ok.hd hc]
  have D1:=zu (prog:=X.prog) (w:=X.w) hh i1 a D.l1i1 aD.toArray;have D2:Draws X.prog X.w X.A.in1 i2 [i2,b] aD.toArray.size (λi v=>its2.toArray[i]?=aa v) (λi h=>h.IsTupleIter i2 b i/\h.IsTuple b its2.toArray):=by
   have:=zu (prog:=X.prog) (w:=X.w) hh i2 b D.l2i2 its2.toArray;rw[show aD.toArray.size=its2.toArray.size by simp;lia];exact this
  obtain⟨s1,s2,⟨c3,d3,s3⟩,s4,s5⟩:=st
  refine Ub D D1 D2 (by simp;lia) (by simp;lia) s1 s2 s3 ⟨s4,p1⟩ ⟨s5,p2⟩ λh' tk x y T px py hT a1 a2 a3 a4 a5 kk=>⟨_,rfl,XQ a1 λh2 z2 m2=>?_⟩
  have yC:z<T:=jO (b8 s1) hT;have ex:xs[i]?=aa (xs.getD i .non):=by
   have:i<xs.length:=hi;simp[wU,this]
  have ey:ys[i]?=aa (ys.getD i .non):=by
   have:i<ys.length:=aP;simp[wU,this]
  obtain⟨u1,hu1,q1⟩:=r1.get ex
  obtain⟨u2,hu2,q2⟩:=r2.get ey
  have e1:u1=x:=by
   have:aD[i]?=aa x:=by simpa using px
   rw[hu1] at this;exact gG this
  have e2:u2=y:=by
   have:its2[i]?=aa y:=by simpa using py
   rw[hu2] at this;exact gG this
  subst e1 e2;have wf:∀c,c∈[z,TO,i1,i2]->jk X ao H c:=λc hc=>hf c (by simp at hc⊢;rcases hc with rfl|rfl|rfl|rfl<;>simp)
  have pq:H T=ak:=I.hok.fresh hT;have kT:gQ h2 T u1 u2:=m2.extBut _ _ (yV yC) a5
  refine⟨.ref T,upd H T (.tup [xs.getD i .non,ys.getD i .non]),I.qD (t':=tk) (λc o hc e=>m2.extBut _ _ (λz=>hc (by simp[z])) (kk c o hc e)) wf (bN.upd pq) (λc o e n=>?_) (λc u e=>?_),rfl,⟨T,_,_,pq,rfl,rfl,λxs' ys' h1 h2=>?_⟩,?_,λc hc=>?_⟩
  .rw[cR]
   .exact n
   .intro z;subst z;exact absurd (b8 e) (uE.mpr hT)
  .by_cases pA:c=T
   .subst pA;rw[fL] at e;cases e;exact .inr ⟨by show 2<=bQ;decide,[u1,u2],.cons q1 (.cons q2 .nil),_,kT,rfl,_,rfl⟩
   .rw[cR pA] at e;exact .inl e
  .rw[I.De h1 ha,I.De h2 hb]
   exact⟨ex,ey⟩
  .have ltI:TI≠z:=D.TIz
   refine⟨z2,m2.extBut _ _ D.TIz (kk _ _ ?_ s2),⟨_,_,m2.extBut _ _ D.TOz a2⟩,a3.1.extBut m2.extBut D.i1z,a4.1.extBut m2.extBut D.i2z⟩
   simp only[cD,gF,or_false,not_or]
   exact⟨D.TIz,D.TITO,D.TIi1,D.TIi2⟩
  .rw[cR]
   .exact(hf c hc).1
   .intro e;subst e;have:c<s.heap.objs.size:=by
     simp only[cD,gF,or_false] at hc
     obtain⟨o4,e4,_⟩:=s4
     obtain⟨o5,e5,_⟩:=s5
     rcases hc with rfl|rfl|rfl|rfl|rfl
     .exact b8 s1
     .exact b8 s2
     .exact b8 s3
     .exact b8 e4
     .exact b8 e5
    exact absurd this (uE.mpr hT)
 done:=by
  intro X hP hw hK hc i ao s σ H E I hf st hg;subst hP hw hK
  obtain⟨xs,ys,ha,hb,hn,hi⟩:=hg
  obtain⟨aD,r1,p1,_⟩:=I.tuple ha
  have l1:=r1.length;have hh:X.A.in1.handled=ak:=by simp[I.ok.hd hc]
  have D1:=zu (prog:=X.prog) (w:=X.w) hh i1 a D.l1i1 aD.toArray
  obtain⟨s1,s2,⟨c3,d3,s3⟩,s4,s5⟩:=st
  have e:i=aD.toArray.size:=by simp;lia
  subst e;have wf:∀c,c∈[z,TO,i1,i2]->jk X ao H c:=λc hc=>hf c (by simp at hc⊢;rcases hc with rfl|rfl|rfl|rfl<;>simp)
  exact Vj D D1 s1 s2 s3 ⟨s4,p1⟩ λh' kk=>⟨rfl,I.qD (t':=s.toks) kk wf (bN.refl H) (λ_ _ _ n=>n) λ_ _ e=>.inl e⟩
 self:=λ_ _ _ _ _ st h=>yL st.1 h
def agu(K:aJ)(t:TA):TI:=λσ H R=>t σ H λvs H1=>∃a b xs ys,vs=[.ref a,.ref b]/\bO K H1 a xs/\bO K H1 b ys/\R (M4 K a b) H1
theorem adz{X:Cx}{es:List Expr}{k:Nat}{ps:Pos}{x y:Expr}{t:TA}{p pos:Pos}(hg:Gl X "zip")(hm:X.mg "zip"=ak)(ha:PA X [x,y] t)(hs:bG [x,y] X.env=[(aF,eval x X.env),(aF,eval y X.env)]:=by rfl)(hs2:bG [y] X.env=[(aF,eval y X.env)]:=by rfl):
  PI X (.Tuple es k ps) (.Call (.Name "zip" p) [x,y] [] pos) (agu X.K t):=by
 intro ao s σ H R I h;refine Call_ (sH I hg hm O3 (yG (bR (ha pos ao s σ H _ I h) λus s1 aR=>?_) (by rw[hs,hs2]) (by rw[hs2];rfl)))
 obtain⟨vs,H1,I1,r1,a,b,xs,ys,e,h1,h2,q⟩:=aR
 subst e;cases r1 with
 |cons r rr=>
  cases rr with
  |cons r' rr=>
   cases rr;cases r;cases r'
   obtain⟨aD,v1,p1,_⟩:=I1.tuple h1
   obtain⟨its2,v2,p2,_⟩:=I1.tuple h2
   have Bs:a<s1.heap.objs.size:=by obtain⟨_,e,_⟩:=p1;exact b8 e
   have t6:b<s1.heap.objs.size:=by obtain⟨_,e,_⟩:=p2;exact b8 e
   refine abl p1 p2 λh' g1 g2 g3 g4 g5 kk=>yL g1 ?_
   have I2:Inv X ao σ H1 {s1 with heap:=h'}:=I1.kept (t':=s1.toks) kk
   refine⟨s1.heap.objs.size+4,[s1.heap.objs.size+4,s1.heap.objs.size+2,s1.heap.objs.size+3,s1.heap.objs.size,s1.heap.objs.size+1],_,_,H1,rfl,I2,abm (zipApart_new Bs t6),⟨g1,g2,⟨_,_,g3⟩,g4,g5⟩,λc hc=>?_,q⟩
   refine I1.qY ?_ (I1.hok.fresh ?_)
   all_goals
    simp only[cD,gF,or_false] at hc;rcases hc with rfl|rfl|rfl|rfl|rfl<;>lia
theorem adA{K:aJ}{P T:List aq}{H:Hp}{a b:aq}{ds es:List az}{vs ws:List V}(ha:er P H a=aa (.tup vs))(hb:er P H b=aa (.tup ws))(r1:bV (er P H) ds vs)(r2:bV (er P H) es ws)(hl:ds.length=es.length):p7 P T H (M4 K a b) (ig ds es):=λi H2 P2 s1 s2 n=>by
 have h2:bO K H2 a vs:=bO.of (eU (s1 _ _ ha));have h3:bO K H2 b ws:=bO.of (eU (s1 _ _ hb));have l1:=fV r1;have l2:=fV r2
 refine⟨λd hd=>?_,λhi=>⟨vs,ws,h2,h3,aP,by rw[hi,Dq];lia⟩⟩
 obtain⟨x,y,e1,e2,rfl⟩:=DR hd
 obtain⟨v,ev,rv⟩:=nq r1 e1
 obtain⟨w,ew,rw'⟩:=nq r2 e2
 refine⟨⟨vs,ws,h2,h3,aP,(iU.mp ev).1⟩,λz H3 yl=>?_⟩
 obtain⟨p,v',w',hp,rfl,rfl,hh⟩:=yl
 obtain⟨g1,g2⟩:=hh vs ws h2 h3
 rw[ev] at g1;rw[ew] at g2;cases g1;cases g2;have sp:bN H2 (upd H2 p (.tup [v,w])):=bN.upd hp
 refine⟨sp,p,[v,w],rfl,?_,v,[w],rfl,rv.same (s1.trans (uN sp)),w,[],rfl,rw'.same (s1.trans (uN sp)),rfl⟩
 unfold er;rw[bK (λm=>n p m hp),fL]
def zL:az->Option (Bool×List az)
 |.list xs=>aa (au,xs)
 |.tuple xs=>aa (aF,xs)
 |_=>ak
def M5:List az->Option (List az)
 |[x,y]=>(zL x).bind λp=>(zL y).bind λq=>if p.1=q.1/\(p.1=au\/p.2.length=q.2.length) then aa (ig p.2 q.2) else ak
 |_=>ak
theorem adB(h:xs.length=ys.length):M5 [.tuple xs,.tuple ys]=aa (ig xs ys):=bB (c:=aF=aF/\(aF=au\/xs.length=ys.length)) (e:=ak) ⟨rfl,.inr h⟩
theorem V3(h:zL x=aa (b,xs)):x=cond b (.list xs) (.tuple xs):=by
 cases x<;>first|(cases h;rfl)|cases h
theorem adC(h:M5 ds=aa l):∃xs ys,(ds=[.list xs,.list ys]\/ds=[.tuple xs,.tuple ys]/\xs.length=ys.length)/\l=ig xs ys:=by
 match ds,h with
 |[x,y],h=>
  obtain⟨⟨b,xs⟩,hx,h⟩:=Ox.mp h
  obtain⟨⟨c,ys⟩,hy,h⟩:=Ox.mp h
  rw[V3 hx,V3 hy];split at h
  .rename_i hc
   obtain⟨h1,h2⟩:=hc
   cases h
   cases(show b=c from h1)
   refine⟨xs,ys,?_,rfl⟩
   cases b with
   |true=>exact .inl rfl
   |false=>exact .inr ⟨rfl,h2.resolve_left gq⟩
  .cases h
def M6(f:t7):FI:=λaj C=>(f aj C).bind λp=>(M5 p.1).map λl=>(l,p.2)
theorem adD(hg:Gl X "zip")(hm:X.mg "zip"=ak)(ha:PA X [x,y] (t8 X.K f))(hs:bG [x,y] X.env=[(aF,eval x X.env),(aF,eval y X.env)]:=by rfl)(hs2:bG [y] X.env=[(aF,eval y X.env)]:=by rfl):
  PI X (.Tuple es k ps) (.Call (.Name "zip" p) [x,y] [] pos) (tI X.K au (M6 f)):=((aeO hg hm ha hs hs2).or (adz hg hm ha hs hs2)).weak λσ H R aR=>by
 obtain⟨Z,Θ,aj,C,aD,aU,C',S,hf,q⟩:=aR
 refine hide λGG gg=>?_
 obtain⟨⟨ds,e1,C1⟩,h1,h2⟩:=Ox.mp hf
 obtain⟨l,h3,h4⟩:=Hf.mp h2
 cases h4
 obtain⟨xs,ys,hd,rfl⟩:=adC h3
 rcases hd with rfl|⟨rfl,hl⟩
 .refine gg (.inl ⟨Z,Θ,aj,C,_,aU,C',S,h1,λvs H1 k f S1 b1=>?_⟩);refine hide λG2 g2=>?_
  obtain⟨_,_,rfl,b1,b2⟩:=Fg b1
  obtain⟨a,vs1,rfl,ha,r1⟩:=b1
  obtain⟨b,vs2,rfl,hb,r2⟩:=b2
  exact g2 ⟨a,b,vs1,vs2,rfl,bL.of (eU ha),bL.of (eU hb),q _ H1 k f S1 (ae3 ha hb r1 r2)⟩
 .refine gg (.inr ⟨Z,Θ,aj,C,_,aU,C',S,h1,λvs H1 k f S1 b1=>?_⟩);refine hide λG2 g2=>?_
  obtain⟨_,_,rfl,b1,b2⟩:=Fg b1
  obtain⟨a,vs1,rfl,ha,r1⟩:=b1
  obtain⟨b,vs2,rfl,hb,r2⟩:=b2
  exact g2 ⟨a,b,vs1,vs2,rfl,bO.of (eU ha),bO.of (eU hb),q _ H1 k f S1 (adA ha hb r1 r2 hl)⟩
section
variable{X:Cx}
end
def Gh(i:Nat)(f:FB):FS:=λaj C=>if qP aj[i]? then match f aj C with
  |some (.list ys,e1,C1)=>match e1[i]? with
   |some (some (.ow (.list ds)))=>if ds.length+ys.length<=dH then aa (.nx,e1.set i (aa (.ow (.list (ds++ys)))),C1) else ak
   |_=>ak
  |_=>ak
 else ak
theorem ae9(ho:PE X o (mL i))(he:PE X e (cN X.K f))
  (hs0:uG (.Call (.Attribute o "extend" apos) [e] [] cpos) ak pos.line X.env=pure aF:=by rfl)
  (hbase:uA o "extend" X.env (eval o X.env)=eval o X.env:=by rfl)
  (hfew:((gb cpos (bG [e] X.env)).all (λx=>!x.1)&&(uK cpos (uD [] X.env)).all (λx=>x.1.isSome)
   &&decide (([e]:List Expr).length+([]:List jU).length+(if([]:List jU).isEmpty then 0 else 1)<30))=au:=by rfl)
  (hline:(apos.endLine==cpos.line)=au:=by rfl)(hs:bG [e] X.env=(aF,eval e X.env)::bG [] X.env:=by rfl)(hplain:(gb cpos (bG [] X.env)).any (·.1)=aF:=by rfl):
  PS X (.Expr (.Call (.Attribute o "extend" apos) [e] [] cpos) pos) (tS X.K (Gh i f)):=
 (Td (EY Ow YH PySem.F.type_list_extend (tZ.r aa9) ho (jA he lN hs) hbase hfew hline hs hplain) hs0).weak λD σ H aR=>by
  obtain⟨Z,Θ,aj,C,fl,aU,C',S,hf,q⟩:=aR
  unfold Gh at hf;split at hf
  .rename_i h0
   obtain⟨ds0,h0⟩:=R9 h0
   obtain⟨v0,vX,a,rfl,NP,ha0,r0⟩:=S.slot i _ h0
   split at hf
   .rename_i ys e1 C1 h1;split at hf
    .rename_i ds hi;split at hf
     .rename_i hl;cases hf
      refine⟨_,vX,.inl ⟨rfl,NP,bL.of ha0⟩,Z,Θ,aj,C,.list ys,e1,C',S,h1,λv H1 k f S1 bo=>?_⟩
      obtain⟨b,ws,rfl,hb,r1⟩:=bo
      obtain⟨v1,ev1,a1,NQ,vs,ha1,r2⟩:=S1.slot i _ hi
      subst NQ;rw[vX] at ev1;cases ev1
      refine⟨a,b,vs,ws,rfl,rfl,ha1,eU hb,by rw[fV r2,fV r1,m6];unfold dH at hl;lia,?_⟩
      have w:dO X.K Z Θ e1 σ H1 Θ (e1.set i (aa (.ow (.list (ds++ys))))) C' σ (upd H1 a (.lst (vs++ws))):=S1.write hi vX ⟨_,fL,xx r2 r1⟩;exact q Θ σ _ ((dO.rD k f S1).trans w)
     .cases hf
    .cases hf
   .cases hf
  .cases hf
section
variable{prog:bI}{w:bC}{A:b7}{E:aA->aH->Prop}{s:aH}{R:xH->aH->Prop}{I S:aq}{fp wr:List aq}{n:Nat}{Pv:Nat->aA->Prop}{St:Nat->bw->Prop}{bt:Nat->Nat->Bool}{HK:bw->Prop}
end
section
variable{X:Cx}
end
def Od(K:aJ)(a:aq):It:=⟨λi H=>∃xs,bL K H a xs/\i<xs.length,
 λi H v H'=>∃p x,H p=ak/\v=.ref p/\H'=upd H p (.tup [.int i,x])/\∀xs,bL K H a xs->xs[i]?=aa x,
 λi H=>∃xs,bL K H a xs/\i=xs.length⟩
theorem abn{P:bI}{w:bC}{K:aJ}{es:List Expr}{k:Nat}{ps:Pos}{a z j:aq}(Xl:z≠j):
  Turn P w K (.Tuple es k ps) (Od K a) [z,j] z (λi h=>(∃old,IsEnum h z j i old)/\h.IsListIter j a i) where
 mem:=bz
 obj:=λi h st c hc=>by
  obtain⟨⟨_,h1⟩,⟨o4,e4,_,d4⟩⟩:=st
  simp only[cD,gF,or_false] at hc;rcases hc with rfl|rfl
  .exact⟨_,h1,λv q=>by cases q⟩
  .exact⟨_,e4,λv q=>by rw[d4] at q;cases q⟩
 keep:=λi h h' st kk=>by
  obtain⟨⟨old,h1⟩,⟨o4,e4,r4⟩⟩:=st
  exact⟨⟨old,kk z bz _ h1⟩,⟨o4,kk j bz _ e4,r4⟩⟩
 item:=by
  intro X hP hw hK hc i ao s σ H E I hf st hg;subst hP hw hK
  obtain⟨xs,ha,hi⟩:=hg
  obtain⟨aD,r1,p1,_⟩:=I.list ha
  obtain⟨⟨old,s1⟩,s2⟩:=st
  have ex:xs[i]?=aa (xs.getD i .non):=by simp[wU,hi]
  obtain⟨u,hu,q1⟩:=r1.get ex
  have hx:aD.toArray[i]?=aa u:=by simpa using hu
  refine wpAny_pyNext_enum_item s1 s2 p1.isList hx Xl λh' a1 a2 a3 a4 kk=>⟨_,rfl,wpAny_letOwnedTupleGo_enum a1 λh2 z2 m2=>?_⟩
  have yC:z<s.heap.objs.size:=b8 s1;have pq:H s.heap.objs.size=ak:=I.hok.fresh (cO _);have kT:h2.get? s.heap.objs.size=aa {cls:=.type "tuple",data:=.seq #[.int i s.toks,u]}:=m2.extBut _ _ (yV yC) a3
  refine⟨.ref s.heap.objs.size,upd H s.heap.objs.size (.tup [.int i,xs.getD i .non]),Inv.qD (s:=s) (h':=h2) (t':=s.toks+1) (ch:=[z,j]) I (λc o hc e=>?_) hf (bN.upd pq) (λc o e n=>?_) (λc v e=>?_),rfl,⟨_,_,pq,rfl,rfl,λxs' h1=>?_⟩,⟨⟨_,z2⟩,a2.extBut m2.extBut (mD Xl)⟩,λc hc=>?_⟩
  .simp only[cD,gF,or_false,not_or] at hc;exact m2.extBut _ _ hc.1 (kk c o hc.1 hc.2 e)
  .rw[cR (iY (b8 e))];exact n
  .by_cases pA:c=s.heap.objs.size
   .subst pA;rw[fL] at e;cases e;exact .inr ⟨by show 2<=bQ;decide,[.int i s.toks,u],.cons ⟨_,rfl⟩ (.cons q1 .nil),_,kT,rfl,_,rfl⟩
   .rw[cR pA] at e;exact .inl e
  .rw[I.zx h1 ha];exact ex
  .rw[cR]
   .exact(hf c hc).1
   .simp only[cD,gF,or_false] at hc
    obtain⟨o4,e4,_⟩:=s2
    rcases hc with rfl|rfl
    .exact iY yC
    .exact iY (b8 e4)
 done:=by
  intro X hP hw hK hc i ao s σ H E I hf st hg;subst hP hw hK
  obtain⟨xs,ha,hi⟩:=hg
  obtain⟨aD,r1,p1,_⟩:=I.list ha
  obtain⟨⟨old,s1⟩,s2⟩:=st
  have l1:=r1.length;refine wpAny_pyNext_enum_end (I.ok.hd hc) s1 s2 p1.isList (by simp;lia) λh' kk=>⟨rfl,I.qD (t':=s.toks) (ch:=[z,j]) (λc o hc e=>?_) hf (bN.refl H) (λ_ _ _ n=>n) λ_ _ e=>.inl e⟩
  simp only[cD,gF,or_false,not_or] at hc;exact kk _ _ hc.2 e
 self:=λ_ _ _ _ _ st h=>by
  obtain⟨⟨_,h1⟩,_⟩:=st
  exact Y4 h1 h
def ahk(K:aJ)(t:TA):TI:=λσ H R=>t σ H λvs H1=>∃a xs,vs=[.ref a]/\bL K H1 a xs/\R (Od K a) H1
theorem afa{X:Cx}{es:List Expr}{k:Nat}{ps:Pos}{x:Expr}{t:TA}{p pos:Pos}(hg:Gl X "enumerate")(hm:X.mg "enumerate"=ak)(ha:PA X [x] t)(hs:bG [x] X.env=[(aF,eval x X.env)]:=by rfl)(hs2:bG ([]:List Expr) X.env=[]:=by rfl):
  PI X (.Tuple es k ps) (.Call (.Name "enumerate" p) [x] [] pos) (ahk X.K t):=by
 intro ao s σ H R I h;refine Call_ (sH I hg hm aim (yG (bR (ha pos ao s σ H _ I h) λus s1 aR=>?_) (by rw[hs,hs2]) (by rw[hs2];rfl)))
 obtain⟨vs,H1,I1,r1,a,xs,e,h1,q⟩:=aR
 subst e
 obtain⟨u,rfl,r⟩:=vals1 r1
 cases r
 obtain⟨aD,v1,p1,_⟩:=I1.list h1
 refine call_enumerate_list p1.isList λh' g1 g2 _ kk=>Y4 g1 ?_
 have I2:Inv X ao σ H1 {s1 with heap:=h'}:=I1.kept (t':=s1.toks) kk
 refine⟨s1.heap.objs.size+1,[s1.heap.objs.size+1,s1.heap.objs.size],_,_,H1,rfl,I2,abn (Nat.succ_ne_self _),⟨⟨_,g1⟩,g2⟩,λc hc=>?_,q⟩
 refine I1.qY ?_ (I1.hok.fresh ?_)
 all_goals
  simp only[cD,gF,or_false] at hc;rcases hc with rfl|rfl<;>lia
def qT(ds:List az):List az:=ds.zipIdx.map λp=>.tuple [.int (p.2:Nat),p.1]
theorem acd{ds:List az}{i:Nat}{d:az}(h:(qT ds)[i]?=aa d):∃x,ds[i]?=aa x/\d=.tuple [.int i,x]:=by
 unfold qT at h;rw[jy,List.getElem?_zipIdx] at h;cases hx:ds[i]? with
 |none=>rw[hx] at h;cases h
 |some x=>
  rw[hx] at h
  refine⟨x,rfl,?_⟩
  have:=gG h;rw[<-this,wG]
theorem abo(ds:List az):(qT ds).length=ds.length:=by
 unfold qT;rw[cV,YM]
section
variable{prog:bI}{w:bC}{A:b7}{E:aA->aH->Prop}{s:aH}{r d:aq}{aC:List (Key×aA)}{ep:Nat}{b c:Bool}{Q:aA->aH->Prop}
end
def ahl:az->Bool
 |.list _=>au
 |.tuple _=>au
 |_=>aF
theorem Rq(hg:X.A.guards=aa [])(hu:X.A.units+64<gn):iz X (.type "str") (λxs H Q=>∃v d,xs=[v]/\ahl d=au/\RD X.K H d v/\d.showable=au/\d.depth<=60/\d.shown.length<=bQ/\Q (.str d.shown) H):=by
 intro ao s σ H xs us Q I r h
 obtain⟨v,d,rfl,hq,hd,hs,M7,hz,q⟩:=h
 obtain⟨u,rfl,ru⟩:=vals1 r
 obtain⟨as,R⟩:=hd.reads I ru
 have ha:∃a,v=.ref a:=by
  cases d<;>first|cases hq|skip
  all_goals
   obtain⟨a,vs,e1,_,_⟩:=hd
   exact⟨a,e1⟩
 obtain⟨a,rfl⟩:=ha
 cases ru;exact str_of_reads R hs (PyData.noDict_hsm hd.nodict) hg aP (λ_ _ e=>e) (λh' u tk hk=>⟨.str _,H,I.kept hk,⟨_,rfl⟩,q⟩) hz
def Bl(L:Nat)(C:Ce)(b k:Nat):Prop:=C.length=L/\∃x y z:Int,C[b]?=aa [x,y,z]/\0<=x/\0<=z/\z+k<=900000
theorem Bl.mono(h:Bl L C b k)(hj:j<=k):Bl L C b j:=by
 obtain⟨l,x,y,z,h1,h2,h5,h6⟩:=h
 exact⟨l,x,y,z,h1,h2,h5,aP⟩
theorem afb(C:Ce)(h0:0<=x):Bl (C.length+1) (C++[[x,y,0]]) C.length 800000:=by
 refine⟨bz,x,y,0,?_,h0,Int.le_refl _,aP⟩
 rw[lB (cO _),Ia];rfl
def n1(f s:Int)(k:Nat):Str:=⟨#[97+((f+s*k)%26).toNat]⟩
def v2(f s:Int)(k:Nat):Int:=(f+s*k)%676
def two(v:Int):Str:=(⟨#[97+(v / 26).toNat]⟩:Str)++(⟨#[97+(v%26).toNat]⟩:Str)
def n2(hd tl:Str)(f s:Int)(q:Nat->Int)(k:Nat):Str:=hd++two (v2 f s k)++Txt.slice tl ak (aa (q k))
def sl(z:Str)(n k:Nat):Str:=Txt.slice z (aa (k:Int)) (aa ((k:Int)+(n:Int)))
def sb(z:Str)(n:Nat):List Str:=(wL (8-n)).map (sl z (n+1))
end L2
namespace L2
section
variable{β:Type}[DecidableEq β]{ws:List (Int×β×β)}{s:β}
end
end L2
namespace L2
open PySem PySem.Spec PyProof.Rows PySem.W
def agv(i j k:Nat)(ta:TA):TS:=λD σ H=>ta σ H λvs H1=>vs.length=3/\(∀v w z,vs=[v,w,z]->D.nx (((σ.set i (aa v)).set j (aa w)).set k (aa z)) H1)
section
variable{X:Cx}{pos:Pos}
theorem adE{kt k2 lz}(hc:X.calm=au)(hN:X.N.Nodup)(hi:X.N[i]?=aa x)(hj:X.N[j]?=aa y)(hk:X.N[k]?=aa z)(hij:i≠j)(hik:i≠k)(hjk:j≠k)
  (hx:X.env.scope.names.lookup x=aa .local)(hy:X.env.scope.names.lookup y=aa .local)(hz:X.env.scope.names.lookup z=aa .local)(ha:PA X [a,b,c] ta)
  (hw:uz [.Tuple [.Name x px,.Name y py,.Name z pz] kt pt] (.Tuple [a,b,c] k2 lz) X.env=pure (aa [x,y,z]))
  (hs:uy [.Tuple [.Name x px,.Name y py,.Name z pz] kt pt] (.Tuple [a,b,c] k2 lz) pos.line X.env=pure aF:=by rfl):
  PS X (.Assign [.Tuple [.Name x px,.Name y py,.Name z pz] kt pt] (.Tuple [a,b,c] k2 lz) pos) (agv i j k ta):=by
 intro ao s σ H D I h;rw[exec_Assign_arm];refine aX (yQ ?_);rw[hs];refine aX (cj ?_);rw[bK aO];refine aX (Tuple_ (bR (ha _ ao s σ H _ I h) λus s1 aR=>?_))
 obtain⟨vs,H1,I1,r1,l1,q1⟩:=aR
 cases r1 with
 |nil=>cases l1
 |cons rv r1=>
 cases r1 with
 |nil=>cases l1
 |cons rw' r1=>
 cases r1 with
 |nil=>cases l1
 |cons rz r1=>
 cases r1 with
 |cons _ _=>cases l1
 |nil=>
 rename_i v u1 w u2 zz u3;refine rM ?_ (by show 3<=bQ;decide);have I2:Inv X ao σ H1 {s1 with heap:=s1.heap.push {cls:=.type "tuple",data:=.seq [u1,u2,u3].toArray}}:=I1.kept (t':=s1.toks) λb o e=>cA _ e
 rw[hw];refine aX (cj ?_);show bu (model X.prog X.w) X.A (do rule "assign.swapped-stores";let items <-Qz (.ref s1.heap.objs.size) 3 ak;wC [λv=>qC X.env z v,λv=>qC X.env y v,λv=>qC X.env x v] items.reverse;pure Iz) _ _ _;refine aX (wM (aX (unpackItems_tuple (items:=#[u1,u2,u3]) (I.ok.hd hc) (IsTup.new s1.heap _) λh' hx'=>?_)));have I3:=I2.kept (h':=h') (t':=s1.toks) λb o e=>hx' b o (iY (b8 e)) e
 show bu _ _ (wC [λv=>qC X.env z v,λv=>qC X.env y v,λv=>qC X.env x v] [u3,u2,u1] >>= λ_=>pure Iz) _ _ _;refine aX (assignInOrder_cons (BZ (qz I3 hN hk (.inl hz) rz (λs2 I4=>?_) (.inr hz))));refine assignInOrder_cons (BZ (qz I4 hN hj (.inl hy) rw' (λs3 I5=>?_) (.inr hy)));refine assignInOrder_cons (BZ (qz I5 hN hi (.inl hx) rv (λs4 I6=>assignInOrder_nil (cj ?_)) (.inr hx)));rw[HR _ _ (mD hij),HR _ _ (mD hik),HR _ _ (mD hjk)] at I6
 exact⟨_,H1,I6,q1 _ _ _ rfl⟩
theorem adF{kt k2 lz}(hc:X.calm=au)(hN:X.N.Nodup)(hi:X.N[i]?=aa x)(hj:X.N[j]?=aa y)(hk:X.N[k]?=aa z)(hij:i≠j)(hik:i≠k)(hjk:j≠k)
  (hx:X.env.scope.names.lookup x=aa .local)(hy:X.env.scope.names.lookup y=aa .local)(hz:X.env.scope.names.lookup z=aa .local)(ha:PA X [a,b,c] (vW X.K g))
  (hw:uz [.Tuple [.Name x px,.Name y py,.Name z pz] kt pt] (.Tuple [a,b,c] k2 lz) X.env=pure (aa [x,y,z]))
  (hs:uy [.Tuple [.Name x px,.Name y py,.Name z pz] kt pt] (.Tuple [a,b,c] k2 lz) pos.line X.env=pure aF:=by rfl):
  PS X (.Assign [.Tuple [.Name x px,.Name y py,.Name z pz] kt pt] (.Tuple [a,b,c] k2 lz) pos) (tS X.K (q9 [i,j,k] g)):=(adE hc hN hi hj hk hij hik hjk hx hy hz ha hw hs).weak λD σ H aR=>by
 obtain⟨Z,Θ,aj,C,fl,aU,C',S,hf,q⟩:=aR
 unfold q9 at hf;split at hf
 case h_2=>cases hf
 rename_i xs e1 C1 h1;split at hf
 case isFalse=>cases hf
 rename_i hl;cases hf
 refine⟨Z,Θ,aj,C,xs,e1,C',S,h1,λvs as H1 k1 f1 n1 S1 a1=>⟨by rw[TX a1,<-hl.1];rfl,λv w zz e=>?_⟩⟩
 obtain⟨S2,o2⟩:=Kg a1 hl.1 (bN.refl _) S1
 subst e;refine q Θ _ H1 ⟨jq.refl _ _,sy k1,λb m=>?_,S2⟩;rcases o2 b m with m|m
 .exact .inl (f1.own.subset m)
 .exact .inr (n1 b m)
end
section
variable{X:Cx}
end
section
variable{X:Cx}{l de:Expr}{tl td:TE}{p pos kp:Pos}
end
inductive fX(K:aJ)(x:Str)(st:cZ):Prop
 |mk {f:aq} {oc:aA} {od an:Option aq} {osl:Array (Option aA)} {kV doc pm cdv ct:aA} (a:jF K fG x=aa (aa (.ref f))) (l:K.lookup f=aa ⟨oc,od,.func (uC x x (xu st) (su st) (cY st) .none kV doc pm an cdv ct),osl⟩) (c:HH K cdv x=au) (k:ur K (.ref f)=au):fX K x st
abbrev Ln(x:Str)(st:cZ)(ps:List Str):Prop:=∀(kV doc pm:aA)(an:Option aq)(cdv ct:aA)(us:List aA),us.length=ps.length->bindArgs (uC x x (xu st) (su st) (cY st) .none kV doc pm an cdv ct) ⟨us,[]⟩=pure (ps.zip us)
section
variable{P:bI}{w:bC}{K:aJ}{mg:Str->Option aA}{base h:bw}{x:Str}{st:cZ}{k:Nat}{ps:List Str}{sp:Sp}
theorem fX.has(d:fX K x st)(X:K.In h)(G:h.Ns fG mg)(o:∀f fd,fB K x x st f fd->dI P w K mg base dN k f fd ps sp)(hb:Ln x st ps):dh P w K mg base x k ps sp:=by
 obtain⟨a,l,c,kp⟩:=d
 have F:=K7 l c kp
 exact⟨_,_,yS X G a,kp,F.binds hb,o _ _ F⟩
theorem fX.WD(d:fX K x st)(X:K.In h)(G:h.Ns fG mg)(o:∀f fd,mg x=aa (.ref f)->ur K (.ref f)=au->Binds K fd ps []->fB K x x st f fd->dh P w K mg base x k ps sp)(hb:Ln x st ps):dh P w K mg base x k ps sp:=by
 obtain⟨a,l,c,kp⟩:=d
 have F:=K7 l c kp;exact o _ _ (yS X G a) kp (F.binds hb) F
theorem fX.law{y:Str}{fa:aq}(d:fX K x st)(X:K.In h)(G:h.Ns fG mg)(hfa:mg x=aa (.ref fa))(o:∀base f fd,fB K x x st f fd->dI P w K mg base dN k f fd [y] sp)(hb:Ln x st [y]):
  ∃fd:di,(∀(s:aH)(v:aA),xj s fd ⟨[v],[]⟩ [(y,v)])/\∀base:bw,K.In base->base.Ns fG mg->dI P w K mg base dN k fa fd [y] sp:=by
 obtain⟨a,l,c,kp⟩:=d
 have e:=hfa.symm.trans (yS X G a);cases e
 exact⟨_,λs v=>.of_eq (hb _ _ _ _ _ _ [v] rfl),λbase _ _=>o base _ _ (K7 l c kp)⟩
theorem iK{B:List aA->Prop}(h:B []):∀us:List aA,us.length=0->B us
 |[],_=>h
theorem eO{n:Nat}{B:List aA->Prop}(h:∀a,∀us:List aA,us.length=n->B (a::us)):∀us:List aA,us.length=n+1->B us
 |a::us,e=>h a us (Nat.succ.inj e)
end
section
open PySem.SeqAt
open PySem.AutoSeq1 (wpAny_loadPart')
open PySem.MeetsSeq PySem.MeetsSeq2 PySem.MeetsSeq3
end
section
variable{X:Cx}{e es:Expr}{p2 pos:Pos}
end
section
variable{prog:bI}{w:bC}{A:b7}{E:aA->aH->Prop}{s:aH}
end
section
variable{X:Cx}
end
section
variable{K:aJ}{E H:Hp}{Θ as:List aq}{xs:List Vl}{vs:List V}{p q:List az}{d:az}
theorem Uc:∀{q:List az}{us:List V},bV E q us->qO K E H Θ [] (q.map .im) us
 |[],us,h=>by cases(show us=[] from h);exact .nil
 |d::q,us,h=>by
  obtain⟨v,r,rfl,h1,h2⟩:=h
  exact .cons h1 (Uc h2)
end
section
variable{X:Cx}{pos:Pos}
end
theorem agw(d:az):Aw (.im d)=aF:=rfl
theorem agx(d:az):Aw (.ow d)=aF:=rfl
theorem agy(n:Nat):Aw (.ce n)=aF:=rfl
section
variable{X:Cx}
end
end L2
namespace HT
open PySem PySem.Spec PyProof.Rows
open Sem (wp)
open Builtin
end HT
namespace L2
open PySem PySem.Spec PyProof.Rows PySem.W
section
variable{X:Cx}
end
section
variable{K:aJ}{Z Z0 Θ Δ:List aq}{aj:En}{C C0:Ce}{σ:St}{H H0 H':Hp}
end
section
variable{X:Cx}{x:Str}{k:Nat}{ps:List Str}{p pos:Pos}{e:Expr}{es:List Expr}{f:FN}{f0:FE}{g:FA}
end
section
variable{X:Cx}
def rm(d:az):Str:=match d with
 |.str x=>x
 |d=>d.shown
theorem Rr(hg:X.A.guards=aa [])(hu:X.A.units+64<gn):iz X (.type "str") (λxs H Q=>∃v d,xs=[v]/\RD X.K H d v/\d.showable=au/\d.depth<=60/\d.shown.length<=bQ/\Q (.str (rm d)) H):=by
 intro ao s σ H xs us Q I r h
 obtain⟨v,d,rfl,hd,hs,M7,hz,q⟩:=h
 cases d with
 |none=>
  obtain⟨u,rfl,ru⟩:=vals1 r
  cases(show v=V.non from hd)
  cases ru;exact PySem.P.str_of_none ⟨.str _,H,I.tok _,⟨_,rfl⟩,by simpa[Ib,rm] using q⟩
 |bool b=>
  obtain⟨u,rfl,ru⟩:=vals1 r
  cases(show v=V.bl b from hd)
  cases ru;exact PySem.P.str_of_bool ⟨.str _,H,I.tok _,⟨_,rfl⟩,by simpa[Ib,rm] using q⟩
 |int i=>
  obtain⟨u,rfl,ru⟩:=vals1 r
  cases(show v=V.int i from hd)
  obtain⟨t,rfl⟩:=ru
  exact PySem.P.str_of_int (by simpa[Qa] using hs) ⟨.str _,H,I.tok _,⟨_,rfl⟩,by simpa[Ib,rm] using q⟩
 |str x=>
  obtain⟨u,rfl,ru⟩:=vals1 r
  cases(show v=V.str x from hd)
  obtain⟨t,rfl⟩:=ru
  exact PySem.P.str_of_str ⟨.str _,H,I,⟨_,rfl⟩,q⟩
 |dict aC=>exact hd.elim
 |tuple ds=>exact Rq hg hu ao s σ H _ us Q I r ⟨v,_,rfl,rfl,hd,hs,M7,hz,q⟩
 |list ds=>exact Rq hg hu ao s σ H _ us Q I r ⟨v,_,rfl,rfl,hd,hs,M7,hz,q⟩
def Bf(d:az):Bool:=nP d&&d.showable&&decide (d.depth<=60)&&decide (d.shown.length<=dH)
def uW:List az->Option Vl
 |[d]=>if Bf d then aa (.im (.str (rm d))) else ak
 |_=>ak
theorem Ud{K:aJ}:nR K (λxs H Q=>∃v d,xs=[v]/\RD K H d v/\d.showable=au/\d.depth<=60/\d.shown.length<=bQ/\Q (.str (rm d)) H) uW:=by
 intro Z Θ aj C σ H xs ds res S b e Q q;cases ds with
 |nil=>cases e
 |cons d ds=>
  cases ds with
  |cons _ _=>cases e
  |nil=>
   by_cases h:Bf d=au
   .rw[uW,bB h] at e;cases e;unfold Bf at h;rw[fU,fU,fU,decide_eq_true_iff,decide_eq_true_iff] at h
    obtain⟨v,rfl,bb⟩:=qQ b
    exact⟨v,d,rfl,(bb.rx h.1.1.1).rd,h.1.1.2,h.1.2,lF h.2,q _ H (bf.refl _ _) (fM S rfl rfl)⟩
   .rw[uW,bK h] at e;cases e
end
def GJ(x:Str):Prop:=∀c∈x.cps.toList,c<16^8
theorem adG(c:Char):c.toNat<16^8:=c.val.toNat_lt
theorem afc(s:String):GJ (aB s):=λc hc=>by
 rw[Yc] at hc
 obtain⟨k,_,rfl⟩:=rR.mp hc
 exact adG k
structure Th(e B:Nat)(M:Int)(d:az):Prop where
 nd:nP d=au
 sh:Shw e B d
 tl:(rm d).length<=B
 cp:GJ (rm d)
 mg:∀i,d=.int i->-M<=i/\i<=M
theorem Th.st(h:Th e B M d)(he:e<=60)(hB:B<=dH):Bf d=au:=by
 unfold Bf;rw[h.nd,h.sh.ag6,gH (kI h.sh.deep he),gH (kI h.sh.len hB)];rfl
theorem adH(s:String):(aB s).length=s.toList.length:=by
 rw[Yc]
 show(s.toList.map CN).toArray.size=_
 simp
theorem afd{i:Int}(h:-M<=i/\i<=M)(hM:M<10^40):Th 0 60 M (.int i):=by
 have ha:i.natAbs<10^40:=aP;have hs:(CK i).shown.length<=60:=by
  rw[Hw,adH];have:=int_text_length_le10 (a:=i) (k:=40) aO ha;rw[<-String.length_toList] at this;lia
 refine⟨rfl,⟨?_,by simp[Ie],hs⟩,hs,?_,λj k=>by cases k;exact h⟩
 .have h2:i.natAbs.log2<1920:=by
   by_cases h0:i.natAbs=0
   .rw[h0];decide
   .have:=(Nat.log2_lt h0).mpr (show i.natAbs<2^140 by lia);lia
  simpa[Qa] using h2
 .show GJ (Ib (.int i));rw[Hw];exact afc _
theorem adI{x:Str}(hl:x.length<=B)(hc:GJ x):Th 0 (10*B+2) M (.str x):=by
 refine⟨rfl,⟨by simp[Qa],by simp[Ie],?_⟩,?_,hc,λi k=>nomatch k⟩
 .rw[PyData.shown_str];have:=StrLaws.reprText_len x hc;lia
 .show x.length<=_;lia
end L2
namespace HT
open PySem PySem.Spec PyProof.Rows
open Sem (wp)
open Builtin
end HT
namespace L2
open PySem PySem.Spec PyProof.Rows PySem.W
section
variable{prog:bI}{w:bC}{A:b7}{E:aA->aH->Prop}{s:aH}{R:xH->aH->Prop}{I S:aq}{fp wr:List aq}{n:Nat}{Pv:Nat->aA->Prop}{St:Nat->bw->Prop}{bt:Nat->Nat->Bool}{HK:bw->Prop}
end
section
variable{X:Cx}
end
section
variable{prog:bI}{w:bC}{A:b7}{E:aA->aH->Prop}{s:aH}
end
section
variable{X:Cx}
end
section
variable{X:Cx}
end
section
variable{prog:bI}{w:bC}{A:b7}{E:aA->aH->Prop}{s:aH}
theorem Rt{it t:aq}{items:Array aA}(hne:t≠it):∀(n i:Nat)(s:aH)(Q:List aA->aH->Prop),s.heap.IsListIter it t i->s.heap.IsList t items->i+n<=items.size->
  (∀h',h'.IsListIter it t (i+n)->Cj it s.heap h'->Q ((items.toList.drop i).take n) {s with heap:=h'})->bu (model prog w) A (draw (.ref it) n) Q E s
 |0,i,s,Q,hit,_,_,hQ=>by
  show bu _ _ (pure []) Q E s;exact cj (by simpa using hQ s.heap hit (Pn ..))
 |n+1,i,s,Q,hit,ht,hle,hQ=>by
  have hlt:i<items.size:=aP;show bu _ _ (qI (.ref it) >>= _) Q E s;refine aX (X7 hit ht (x:=items[i]) (by simp[hlt]) λh₁ hit₁ hs₁=>?_);refine aX (qj (Rt hne n (i+1) _ _ hit₁ (ht.extBut hs₁.extBut hne) aP λh₂ hit₂ hs₂=>cj ?_));have hd:items.toList.drop i=items[i]::items.toList.drop (i+1):=by simp[Om,hlt]
  have:=hQ h₂ (by rw[show i+(n+1)=i+1+n by lia];exact hit₂) (hs₁.trans hs₂);rw[hd,List.take_succ_cons] at this;exact this
theorem aas{t:aq}{items:Array aA}{targets:List (Bool×(aA->Sem Unit))}{Q:Unit->aH->Prop}(hh:A.handled=ak)(ht:s.heap.IsList t items)
  (hn:targets.length=items.size)(hstar:targets.findIdx? (·.1)=ak)
  (h:∀h',wI s.heap.objs.size s.heap h'->bu (model prog w) A (wC (targets.map (·.2)) items.toList) Q E {s with heap:=h'}):
  bu (model prog w) A (unpack (.ref t) targets) Q E s:=by
 have hlt:t≠s.heap.objs.size:=by obtain⟨o,ho,_⟩:=ht;exact iY (b8 ho)
 unfold unpack;rw[hn,hstar];refine aX (qj ?_);unfold Qz;refine aX ?_;unfold notIterableAtAll;refine aX (wpAny_specialOf ht.typeIs slot_list_iter.lookup ?_);refine cj ?_;simp only[Hl,if_false];refine aX (qj (Hq ht ?_));refine aX (qj (Rt hlt items.size 0 _ _ ⟨_,gY _ rfl,rfl,rfl⟩ (ht.push _) aP λh₁ hit₁ hs₁=>?_));have hall:List.take items.size (List.drop 0 items.toList)=items.toList:=by
  rw[HN];exact yH bz
 rw[hall];rw[bK bz];have ht₁:h₁.IsList t items:=(ht.push _).extBut hs₁.extBut hlt;refine aX (qj (Ye hh hit₁ ht₁ bz λh₂ he₂=>?_));simp only[Option.isSome_none,Hl,if_false];exact cj (h h₂ λb o hb e=>he₂ b o hb (hs₁.extBut b o hb (cA _ e)))
end
def WK(K:aJ)(n:Nat)(t:o8):TG:=λv σ H Q=>∃a xs,v=.ref a/\bL K H a xs/\xs.length=n/\t xs σ H Q
section
variable{X:Cx}{pos:Pos}
theorem afe{es:List Expr}{k:Nat}{t:o8}{n:Nat}(hc:X.calm=au)(h:Bp X es t)
  (hn:(ni es X.env).length=n:=by rfl)(hst:(ni es X.env).findIdx? (·.1)=ak:=by rfl):PG X (.Tuple es k pos) (WK X.K n t):=by
 intro ao s σ H v u Q I r hw
 obtain⟨a,xs,e1,hq,hl,hw⟩:=hw
 subst e1;cases r
 obtain⟨aD,rv,ht,hz⟩:=I.list hq
 rw[assign_Tuple];refine aX (yQ (aas (I.ok.hd hc) ht.isList (by simp[hn,<-hl,rv.length]) hst λh' hx=>?_));have I1:Inv X ao σ H {s with heap:=h'}:=I.kept (t':=s.toks) λb o e=>hx b o (iY (b8 e)) e
 exact h ao _ σ H xs _ Q I1 (by simpa using rv) hw
end
def GK(n:Nat)(u:yw):FG:=λd aj=>match d with
 |.list ds=>if ds.length=n then u ds aj else ak
 |_=>ak
theorem afg{K:aJ}(hu:Ax K u fu):vV K (WK K n u) (GK n fu):=by
 intro Z Θ aj C σ H v d aU S r e Q q;unfold GK at e;split at e
 .rename_i ds;split at e
  .rename_i hl
   obtain⟨a,vs,rfl,ha,r⟩:=r
   exact⟨a,vs,rfl,bL.of (eU ha),(fV r).trans hl,hu Z Θ aj C σ H vs ds aU S r e Q q⟩
  .cases e
 .cases e
section
variable{prog:bI}{w:bC}{A:b7}{E:aA->aH->Prop}{s:aH}
end
section
variable{X:Cx}
end
section
variable{X:Cx}{tg e:Expr}
end
section
variable{K:aJ}{P T:List aq}{H:Hp}{a:aq}{aC:List (az×az)}{vs:List V}{ks:List Key}{ep:Nat}
end
section
variable{X:Cx}{tg e:Expr}
end
section
variable{prog:bI}{w:bC}{A:b7}{E:aA->aH->Prop}{s:aH}{d:aq}{es:Array uH}{ep:Nat}
end
def zZ:az->az->Option Vl
 |.str z,.int n=>if 2<=n/\1<=z.length/\z.length*n.toNat<=dH/\(vD z n.toNat).length<=dH then aa (.im (.str (vD z n.toNat))) else ak
 |_,_=>ak
theorem DW{K:aJ}:dB K (λx y H Q=>∃z n,x=.str z/\y=.int n/\2<=n/\1<=z.length/\z.length*n.toNat<=bQ/\(vD z n.toNat).length<=bQ/\Q (.str (vD z n.toNat)) H) zZ:=by
 intro Z Θ aj C σ H x y dx dy res S bx cI e Q q;unfold zZ at e;split at e
 case h_2=>cases e
 split at e
 case isFalse=>cases e
 rename_i h;cases e;cases bx.str;cases cI.int
 exact⟨_,_,rfl,rfl,h.1,h.2.1,lF h.2.2.1,lF h.2.2.2,q _ _ (bf.refl _ _) (fM S rfl rfl)⟩
def ym(K:aJ):List uH->List (Str×List az)->Prop
 |[],[]=>True
 |e::es,p::t=>(∃tk a,e.key=.str p.1 tk/\e.val=.ref a/\∀H,bO K H a (p.2.map toV))/\ym K es t
 |_,_=>False
structure vL(w:bC)(K:aJ)(mg:Str->Option aA)(x:Str)(tab:List (Str×List az)):Prop where
 ex:∃d es n,mg x=aa (.ref d)/\K.lookup d=aa ⟨.type "dict",ak,.dict es n,#[]⟩/\KeysLit w.params es.toList/\(d==qu)=aF/\ym K es.toList tab
theorem Jd{K:aJ}(z:Str):∀{l:List uH}{tab:List (Str×List az)},ym K l tab->match tab.lookup z with
  |none=>(l.find? λe=>uv z e.key).map (·.val)=ak
  |some ds=>∃a,(l.find? λe=>uv z e.key).map (·.val)=aa (.ref a)/\∀H,bO K H a (ds.map toV)
 |[],[],_=>rfl
 |e::es,(x,ds)::t,h=>by
  obtain⟨⟨tk,a,e1,e2,q⟩,r⟩:=h
  have ih:=Jd z r;by_cases c:x=z
  .subst c;rw[nZ,beq_self_eq_true,uo,e1];simp only[uv,beq_self_eq_true]
   exact⟨a,by rw[kE,e2],q⟩
  .have c1:(z==x)=aF:=beq_eq_false_iff_ne.mpr λh=>c h.symm
   have c2:(x==z)=aF:=beq_eq_false_iff_ne.mpr c;rw[nZ,c1,uo,e1];simp only[uv,c2];exact ih
 |[],_::_,h=>nomatch h
 |_::_,[],h=>nomatch h
def Oe(w:bC)(K:aJ)(mg:Str->Option aA)(tab:List (Str×List az))(y:V):Prop:=∃x d,y=.ref d/\mg x=aa (.ref d)/\vL w K mg x tab
theorem afh{X:Cx}:cz X (dm .NotIn) (λx y H Q=>∃z tab,x=.str z/\Oe X.w X.K X.mg tab y/\Q (.bl (tab.lookup z).isNone) H):=by
 intro ao s σ H x y v u Q I rx ry h
 obtain⟨z,tab,rfl,⟨n,d,rfl,hm,G⟩,q⟩:=h
 obtain⟨d',es,k,hm',hl,hk,hs,gr⟩:=G.ex
 rw[hm] at hm';cases hm';cases ry
 obtain⟨t,rfl⟩:∃t,v=.str z t:=rx
 refine wpAny_notIn_of (strKind_is X.prog X.w z t) hs (mapOf_K (prog:=X.prog) I.fZ hl hk) ?_;have f:=Jd z gr;have e:(findBy uv es z).isSome=!(tab.lookup z).isNone:=by
  obtain⟨l⟩:=es
  unfold findBy;rw[YQ];cases hh:tab.lookup z with
  |none=>rw[hh] at f;rw[f];rfl
  |some ds=>rw[hh] at f;obtain⟨a,f,_⟩:=f;rw[f];rfl
 rw[e,Bool.not_not];exact eF (I.tok _) q rfl
theorem afi{X:Cx}:mX X (λx y H Q=>∃z tab ds,y=.str z/\Oe X.w X.K X.mg tab x/\tab.lookup z=aa ds/\∀a,(∀H,bO X.K H a (ds.map toV))->Q (.ref a) H):=by
 intro value slice ao s σ H x y v u Q I rx ry h hs
 obtain⟨z,tab,ds,rfl,⟨n,d,rfl,hm,G⟩,hh,q⟩:=h
 obtain⟨d',es,k,hm',hl,hk,hsy,gr⟩:=G.ex
 rw[hm] at hm';cases hm';cases rx
 obtain⟨t,rfl⟩:∃t,u=.str z t:=ry
 have f:=Jd z gr;rw[hh] at f
 obtain⟨a,f,hq⟩:=f
 have m:=mapOf_K (prog:=X.prog) I.fZ hl hk;have e:findBy uv es z=aa (.ref a):=by
  obtain⟨l⟩:=es
  unfold findBy;rw[YQ];exact f
 exact tail_any m.typeIs slot_dict_getitem.lookup (Ze (strKind_is X.prog X.w z t) m e ⟨.ref a,H,I.tok _,rfl,q a hq⟩) hs
def yo(tab:List (Str×List az))(f:FB):FE:=λaj C=>(f aj C).bind λp=>(yf p.1).bind λz=>aa (.im (.bool (tab.lookup z).isNone),aj,p.2.2)
def tW(tab:List (Str×List az))(f:FB):FE:=λaj C=>(f aj C).bind λp=>(yf p.1).bind λz=>(tab.lookup z).bind λds=>aa (.ks ds,aj,p.2.2)
section
variable{X:Cx}{a b:Expr}{p pos:Pos}{x:Str}{fa:FB}{tab:List (Str×List az)}
theorem Vk(G:vL X.w X.K X.mg x tab)(hg:Gl X x)(hb:PE X b (cN X.K fa))(hs:zK b)(hd:(x==("__debug__":Str))=aF:=by decide):PE X (.Subscript (.Name x p) b pos) (tE X.K (tW tab fa)):=by
 obtain⟨d,es,n,e,_⟩:=G.ex
 refine(Ez afi (zJ (v:=.ref d) hg e rfl hd) hb hs).weak λσ H Q hh=>?_
 obtain⟨Z,Θ,aj,C,r,aU,C',S,hf,q⟩:=hh
 obtain⟨⟨d1,e1,C1⟩,h1,hf⟩:=gj hf
 obtain⟨z,h2,hf⟩:=gj hf
 obtain⟨ds,h3,hf⟩:=gj hf
 cases Tv h2;cases hf
 exact⟨Z,Θ,aj,C,_,e1,C1,S,h1,λv H1 k1 f1 S1 b1=>⟨z,tab,ds,b1,⟨x,d,rfl,e,G⟩,h3,λa ha=>q _ H1 k1 (Fz.refl _) ⟨S.go k1 S1.cell,a,rfl,ha _⟩⟩⟩
end
def mJ(i:Nat):FE:=λaj C=>match aj[i]? with
 |some (some (.ks ns))=>aa (.im (.int ns.length),aj,C)
 |_=>ak
theorem Ks{X:Cx}{o:Expr}{i:Nat}{p pos:Pos}(ho:PE X o (mL i))(hg:Gl X "len")(hm:X.mg "len"=ak)(hv:oA "len"=aa (.builtin "len"))
  (he:bG [o] X.env=(aF,eval o X.env)::bG [] X.env:=by rfl)(hpl:(gb pos (bG [] X.env)).any (·.1)=aF:=by rfl):PE X (.Call (.Name "len" p) [o] [] pos) (tE X.K (mJ i)):=
 (zy HY hg hm hv (jA ho lN he) aO aO he hpl).weak λσ H Q aR=>by
  obtain⟨Z,Θ,aj,C,r,aU,C',S,hf,q⟩:=aR
  unfold mJ at hf;split at hf
  .rename_i ns h0;cases hf
   obtain⟨v,ev,a,rfl,sq⟩:=S.slot i _ h0
   have:=q (.int ns.length) H (bf.refl _ _) (Fz.refl _) ⟨S,rfl⟩
   exact⟨_,ev,a,_,rfl,.inr ((pU _ _).oZ sq),by rw[cV];exact this⟩
  .cases hf
theorem Jz{E:Hp}:∀{ds:List az},ds.all eY=au->bV E ds (ds.map toV)
 |[],_=>rfl
 |d::ds,h=>by
  rw[oh,fU] at h
  exact⟨_,_,rfl,Tu h.1,Jz h.2⟩
def M8(is:List Nat)(e:En)(C:Ce):Vl->Option (Fl×En×Ce)
 |.ks ds=>if is.length=ds.length/\ds.all eY=au then aa (.nx,setM is (ds.map .im) e,C) else ak
 |_=>ak
def Fp(f:FE)(is:List Nat):FS:=λaj C=>(f aj C).bind λx=>M8 is x.2.1 x.2.2 x.1
theorem adJ{X:Cx}{tg e:Expr}{f:FE}{is:List Nat}{n:Nat}{pos:Pos}(he:PE X e (tE X.K f))(hg:PG X tg (Mx X.K n (NK is)))(hn:n=is.length:=by rfl)
  (hs:uy [tg] e pos.line X.env=pure aF:=by rfl)(hw:uz [tg] e X.env=pure ak:=by rfl)(h1:(ni [tg] X.env).map (·.2)=[assign tg X.env]:=by rfl):
  PS X (.Assign [tg] e pos) (tS X.K (Fp f is)):=(KY he hg hs hw h1).weak λD σ H aR=>by
 obtain⟨Z,Θ,aj,C,fl,aU,C',S,hf,q⟩:=aR
 obtain⟨⟨r,e1,C1⟩,h1,hf⟩:=gj hf
 cases r<;>first|cases hf|skip
 rename_i ds;by_cases hl:is.length=ds.length/\ds.all eY=au
 case neg=>rw[M8,bK hl] at hf;cases hf
 rw[M8,bB hl] at hf;cases hf
 refine⟨Z,Θ,aj,C,_,e1,_,S,h1,λv H1 k1 f1 R=>?_⟩
 obtain⟨S1,a,rfl,sq⟩:=R
 have fr:=Uc (K:=X.K) (H:=H1) (Θ:=Θ) (Jz (E:=er (bh Z Θ e1 σ) H1) hl.2);have l3:(ds.map toV).length=ds.length:=cV ..
 refine⟨a,_,rfl,(pU _ _).oZ sq,by rw[l3,hn,hl.1],TY (by rw[hl.1,l3]) ?_⟩
 obtain⟨S3,o3⟩:=Kg (as:=[]) (Z:=Z) fr (is:=is) (hl.1.trans (cV ..).symm) (bN.refl _) S1
 refine q Θ _ _ ⟨jq.refl _ _,sy k1,λb m=>?_,S3⟩;rcases o3 b m with m|m
 .exact .inl (f1.own.subset m)
 .nomatch m
section
variable{prog:bI}{w:bC}{A:b7}{E:aA->aH->Prop}{s:aH}{z TI TO i1 i2 l1 l2:aq}{n m:Nat}{P1 P2:Nat->aA->Prop}{S1 S2:Nat->bw->Prop}
theorem adK(D:zA z TI TO i1 i2 l1 l2)(D1:Draws prog w A.in1 i1 [i1,l1] n P1 S1)(D2:Draws prog w A.in1 i2 [i2,l2] m P2 S2)(hi:m<n)(hz:jH s.heap z TI TO .none)(hI:gQ s.heap TI (.ref i1) (.ref i2))(hO:gQ s.heap TO a b)(h1:S1 m s.heap)(h2:S2 m s.heap)
  (q:∀h' tk,(∀c o,c∉[z,TO,i1,i2]->s.heap.get? c=aa o->h'.get? c=aa o)->Q ak {s with heap:=h',toks:=tk}):bu (model prog w) A (qI (.ref z)) Q E s:=by
 have hT:s.TypeIs (.ref z) "zip":=⟨_,hz,rfl⟩
 have k1:∀{h h':bw}{c:aq}{j:Nat},c≠i1->c≠l1->wI c h h'->S1 j h->S1 j h':=λ{h h' c j} e1 e2 k st=>D1.frame _ _ _ st λb hb o e=>k b o (λz=>by subst z;simp at hb;rcases hb with hb|hb;exact e1 hb;exact e2 hb) e
 have k2:∀{h h':bw}{c:aq}{j:Nat},c≠i2->c≠l2->wI c h h'->S2 j h->S2 j h':=λ{h h' c j} e1 e2 k st=>D2.frame _ _ _ st λb hb o e=>k b o (λz=>by subst z;simp at hb;rcases hb with hb|hb;exact e1 hb;exact e2 hb) e
 unfold qI;refine aX (Qj (vZ (name:=aB "__next__") hT yM (wj yM hT Pz ?_ (Pr _))))
 refine(show bu _ _ (field (.ref z) 2 >>= _) _ _ _ from aX (jz hz rfl (x:=.bool aF) rfl (show bu _ _ (field (.ref z) 3 >>= _) _ _ _ from aX (jz hz rfl (x:=.ref TI) rfl (aX (rQ hI rfl ?_))))))
 show bu _ _ (yF (.ref z) >>= _) _ _ _;refine aX ?_;unfold yF;refine aX (jz hz rfl (x:=.none) rfl (cj ?_));simp only[if_true];refine aX (wM (aX (jz hz rfl (x:=.ref TO) rfl (aX (v9 hz bz λg1 z1 m1=>?_)))));replace z1:jH g1 z TI TO .ellipsis:=z1;refine aX ?_;simp only[PB,P0,HB,Qf];refine aX (aX (Ca (show bu _ _ (rF (.ref i1) >>= _) _ _ _ from aX (D1.item m _ _ _ hi (k1 D.i1z.symm D.l1z.symm m1.extBut h1) λx g2 t2 px s2 m2=>cj ?_))));have o2:gQ g2 TO a b:=m2.extBut _ _ D.TOi1 (m1.extBut _ _ D.TOz hO);refine aX (rQ o2 rfl (aX (O5 o2 λg3 o3 m3=>aX (QH (cj ?_)))));replace o3:gQ g3 TO x b:=o3;refine aX (aX (Ca (show bu _ _ (rF (.ref i2) >>= _) _ _ _ from aX (D2.done _ _ _ (k2 D.TOi2 D.l2TO.symm m3.extBut (k2 D.i12 D.l2i1.symm m2.extBut (k2 D.i2z.symm D.l2z.symm m1.extBut h2))) λg4 x4 m4 hx=>?_))))
 obtain⟨ox,e1,e2⟩:=hx
 have z4:jH g4 z TI TO .ellipsis:=m4 _ _ D.i2z.symm (m3.extBut _ _ D.TOz.symm (m2.extBut _ _ D.i1z.symm z1));have nz:x4≠z:=λy=>by subst y;rw[z4] at e1;cases e1;simp at e2
 refine v9 z4 bz λg5 _ m5=>?_
 refine aX (Zj (T:="StopIteration") (b:=au) ⟨ox,m5.extBut _ _ nz e1,e2⟩ isSubtype_stop (cj (q _ _ λc o hc e=>?_)));simp only[cD,gF,or_false,not_or] at hc;exact m5.extBut _ _ hc.1 (m4 _ _ hc.2.2.2 (m3.extBut _ _ hc.2.1 (m2.extBut _ _ hc.2.2.1 (m1.extBut _ _ hc.1 e))))
end
abbrev zl1(h:bw)(a:aq):bw:=h.push {cls:=.type "list_iterator",data:=.fields #[.ref a,.int 0 0]}
abbrev GP(h:bw)(a b:aq):bw:=zl1 (pD h a) b
abbrev GQ(h:bw)(a b:aq):bw:=(GP h a b).push {cls:=.type "tuple",data:=.seq #[.ref h.objs.size,.ref (pD h a).objs.size]}
abbrev GR(h:bw)(a b:aq):bw:=(GQ h a b).push {cls:=.type "tuple",data:=.seq #[.none,.none]}
abbrev yD(h:bw)(a b:aq):bw:=(GR h a b).push {cls:=.type "zip",data:=.fields #[.none,.bool aF,.bool aF,.ref (GP h a b).objs.size,.ref (GQ h a b).objs.size]}
theorem afj(a b:aq)(xs ys:Array aA):Meets (Builtin.«zip.__new__» ⟨[.type "zip",.ref a,.ref b],[]⟩) (λ_ R s=>s.heap.IsTuple a xs/\s.heap.IsList b ys/\R (.ok (.ret (.ref (GR s.heap a b).objs.size))) {s with heap:=yD s.heap a b}):=
 .of_wp λprog w A R s h=>by
  obtain⟨hp,g,d,tk,os⟩:=s;obtain⟨h1,h2,q⟩:=h
  have sub:=sub_zip;have t1:Qw (Ii ⟨hp,g,d,tk,os⟩) a xs:=h1;have t2:Heap.IsList (Ii ⟨pD hp a,g,d,tk,os⟩) b ys:=let ⟨o,e,r⟩:=h2;⟨o,cA _ e,r⟩
  wp_walk using Hi t1,Hq t2
  exact⟨_,rfl,q⟩
theorem abp(h1:s.heap.IsTuple a xs)(h2:s.heap.IsList b ys)
  (q:∀h',jH h' (s.heap.objs.size+4) (s.heap.objs.size+2) (s.heap.objs.size+3) .none->gQ h' (s.heap.objs.size+2) (.ref s.heap.objs.size) (.ref (s.heap.objs.size+1))->gQ h' (s.heap.objs.size+3) .none .none->h'.IsTupleIter s.heap.objs.size a 0->h'.IsListIter (s.heap.objs.size+1) b 0->
   (∀c o,s.heap.get? c=aa o->h'.get? c=aa o)->Q (.ref (s.heap.objs.size+4)) {s with heap:=h'}):bu (model prog w) A (call (.type "zip") [.ref a,.ref b]) Q E s:=by
 refine callType_new F.called_zip aO (Zk _ _) (Zy _ _) (λobj=>Yp obj _ _) Zz (afj a b xs ys) ⟨h1,h2,?_⟩;have z1:(pD s.heap a).objs.size=s.heap.objs.size+1:=rP ..;have z2:(GP s.heap a b).objs.size=s.heap.objs.size+2:=(rP ..).trans (by rw[z1]);have z3:(GQ s.heap a b).objs.size=s.heap.objs.size+3:=(rP ..).trans (by rw[z2]);have z4:(GR s.heap a b).objs.size=s.heap.objs.size+4:=(rP ..).trans (by rw[z3]);have g5:(yD s.heap a b).get? (GR s.heap a b).objs.size=aa _:=gY _ rfl;have g4:(yD s.heap a b).get? (GQ s.heap a b).objs.size=aa _:=cA _ (gY _ rfl);have g3:(yD s.heap a b).get? (GP s.heap a b).objs.size=aa _:=cA _ (cA _ (gY _ rfl));have g2:(yD s.heap a b).get? (pD s.heap a).objs.size=aa _:=cA _ (cA _ (cA _ (gY _ rfl)));have g1:(yD s.heap a b).get? s.heap.objs.size=aa _:=cA _ (cA _ (cA _ (cA _ (gY _ rfl))));rw[z2,z3,z4] at g5;rw[z1,z2] at g3;rw[z3] at g4;rw[z1] at g2;show _/\_;rw[z4]
 exact⟨⟨_,g5,rfl⟩,q _ g5 g3 g4 ⟨_,g1,rfl,rfl⟩ ⟨_,g2,rfl,rfl⟩ λc o e=>cA _ (cA _ (cA _ (cA _ (cA _ e))))⟩
def M9(K:aJ)(a b:aq):It:=⟨λi H=>∃xs ys,bO K H a xs/\bL K H b ys/\i<xs.length/\i<ys.length,
 λi H v H'=>∃p x y,H p=ak/\v=.ref p/\H'=upd H p (.tup [x,y])/\∀xs ys,bO K H a xs->bL K H b ys->xs[i]?=aa x/\ys[i]?=aa y,
 λi H=>∃xs ys,bO K H a xs/\bL K H b ys/\i=min xs.length ys.length⟩
theorem abq{P:bI}{w:bC}{K:aJ}{es:List Expr}{k:Nat}{ps:Pos}{a b z TI TO i1 i2:aq}(D:zA z TI TO i1 i2 a b):
  Turn P w K (.Tuple es k ps) (M9 K a b) [z,TI,TO,i1,i2] z (λi h=>jH h z TI TO .none/\gQ h TI (.ref i1) (.ref i2)/\(∃c d,gQ h TO c d)/\h.IsTupleIter i1 a i/\h.IsListIter i2 b i) where
 mem:=bz
 obj:=λi h st c hc=>by
  obtain⟨h1,h2,⟨_,_,h3⟩,⟨o4,e4,_,d4⟩,⟨o5,e5,_,d5⟩⟩:=st
  simp only[cD,gF,or_false] at hc;rcases hc with rfl|rfl|rfl|rfl|rfl
  .exact⟨_,h1,λv q=>by cases q⟩
  .exact⟨_,h2,λv q=>by cases q⟩
  .exact⟨_,h3,λv q=>by cases q⟩
  .exact⟨_,e4,λv q=>by rw[d4] at q;cases q⟩
  .exact⟨_,e5,λv q=>by rw[d5] at q;cases q⟩
 keep:=λi h h' st kk=>by
  obtain⟨h1,h2,⟨c,d,h3⟩,⟨o4,e4,r4⟩,⟨o5,e5,r5⟩⟩:=st
  exact⟨kk z bz _ h1,kk TI bz _ h2,⟨c,d,kk TO bz _ h3⟩,⟨o4,kk i1 bz _ e4,r4⟩,⟨o5,kk i2 bz _ e5,r5⟩⟩
 item:=by
  intro X hP hw hK hc i ao s σ H E I hf st hg;subst hP hw hK
  obtain⟨xs,ys,ha,hb,hi,hj⟩:=hg
  obtain⟨aD,r1,p1,_⟩:=I.tuple ha
  obtain⟨its2,r2,p2,_⟩:=I.list hb
  have l1:=r1.length;have l2:=r2.length;have hh:X.A.in1.handled=ak:=by simp[I.ok.hd hc]
  have D1:=zu (prog:=X.prog) (w:=X.w) hh i1 a D.l1i1 aD.toArray;have D2:=aaN (prog:=X.prog) (w:=X.w) hh i2 b D.l2i2 its2.toArray
  obtain⟨s1,s2,⟨c3,d3,s3⟩,s4,s5⟩:=st
  refine Ub D D1 D2 (by simp;lia) (by simp;lia) s1 s2 s3 ⟨s4,p1⟩ ⟨s5,p2.isList⟩ λh' tk x y T px py hT a1 a2 a3 a4 a5 kk=>⟨_,rfl,XQ a1 λh2 z2 m2=>?_⟩
  have yC:z<T:=jO (b8 s1) hT;have ex:xs[i]?=aa (xs.getD i .non):=by
   have:i<xs.length:=hi;simp[wU,this]
  have ey:ys[i]?=aa (ys.getD i .non):=by
   have:i<ys.length:=hj;simp[wU,this]
  obtain⟨u1,hu1,q1⟩:=r1.get ex
  obtain⟨u2,hu2,q2⟩:=r2.get ey
  have e1:u1=x:=by
   have:aD[i]?=aa x:=by simpa using px
   rw[hu1] at this;exact gG this
  have e2:u2=y:=by
   have:its2[i]?=aa y:=by simpa using py
   rw[hu2] at this;exact gG this
  subst e1 e2;have wf:∀c,c∈[z,TO,i1,i2]->jk X ao H c:=λc hc=>hf c (by simp at hc⊢;rcases hc with rfl|rfl|rfl|rfl<;>simp)
  have pq:H T=ak:=I.hok.fresh hT;have kT:gQ h2 T u1 u2:=m2.extBut _ _ (yV yC) a5
  refine⟨.ref T,upd H T (.tup [xs.getD i .non,ys.getD i .non]),I.qD (t':=tk) (λc o hc e=>m2.extBut _ _ (λz=>hc (by simp[z])) (kk c o hc e)) wf (bN.upd pq) (λc o e n=>?_) (λc u e=>?_),rfl,⟨T,_,_,pq,rfl,rfl,λxs' ys' h1 h2=>?_⟩,?_,λc hc=>?_⟩
  .rw[cR]
   .exact n
   .intro z;subst z;exact absurd (b8 e) (uE.mpr hT)
  .by_cases pA:c=T
   .subst pA;rw[fL] at e;cases e;exact .inr ⟨by show 2<=bQ;decide,[u1,u2],.cons q1 (.cons q2 .nil),_,kT,rfl,_,rfl⟩
   .rw[cR pA] at e;exact .inl e
  .rw[I.De h1 ha,I.zx h2 hb]
   exact⟨ex,ey⟩
  .have ltI:TI≠z:=D.TIz
   refine⟨z2,m2.extBut _ _ D.TIz (kk _ _ ?_ s2),⟨_,_,m2.extBut _ _ D.TOz a2⟩,a3.1.extBut m2.extBut D.i1z,(let ⟨o,e,r⟩:=a4.1;⟨o,m2.extBut _ _ D.i2z e,r⟩)⟩
   simp only[cD,gF,or_false,not_or]
   exact⟨D.TIz,D.TITO,D.TIi1,D.TIi2⟩
  .rw[cR]
   .exact(hf c hc).1
   .intro e;subst e;have:c<s.heap.objs.size:=by
     simp only[cD,gF,or_false] at hc
     obtain⟨o4,e4,_⟩:=s4
     obtain⟨o5,e5,_⟩:=s5
     rcases hc with rfl|rfl|rfl|rfl|rfl
     .exact b8 s1
     .exact b8 s2
     .exact b8 s3
     .exact b8 e4
     .exact b8 e5
    exact absurd this (uE.mpr hT)
 done:=by
  intro X hP hw hK hc i ao s σ H E I hf st hg;subst hP hw hK
  obtain⟨xs,ys,ha,hb,hi⟩:=hg
  obtain⟨aD,r1,p1,_⟩:=I.tuple ha
  obtain⟨its2,r2,p2,_⟩:=I.list hb
  have l1:=r1.length;have l2:=r2.length;have hh:X.A.in1.handled=ak:=by simp[I.ok.hd hc]
  have D1:=zu (prog:=X.prog) (w:=X.w) hh i1 a D.l1i1 aD.toArray;have D2:=aaN (prog:=X.prog) (w:=X.w) hh i2 b D.l2i2 its2.toArray
  obtain⟨s1,s2,⟨c3,d3,s3⟩,s4,s5⟩:=st
  have wf:∀c,c∈[z,TO,i1,i2]->jk X ao H c:=λc hc=>hf c (by simp at hc⊢;rcases hc with rfl|rfl|rfl|rfl<;>simp)
  by_cases c:i=aD.toArray.size
  .subst c;exact Vj D D1 s1 s2 s3 ⟨s4,p1⟩ λh' kk=>⟨rfl,I.qD (t':=s.toks) kk wf (bN.refl H) (λ_ _ _ n=>n) λ_ _ e=>.inl e⟩
  .have e:i=its2.toArray.size:=by simp at c⊢;lia
   have e2:its2.toArray.size<aD.toArray.size:=by simp at c e⊢;lia
   subst e;exact adK D D1 D2 e2 s1 s2 s3 ⟨s4,p1⟩ ⟨s5,p2.isList⟩ λh' tk kk=>⟨rfl,I.qD (t':=tk) kk wf (bN.refl H) (λ_ _ _ n=>n) λ_ _ e=>.inl e⟩
 self:=λ_ _ _ _ _ st h=>yL st.1 h
def agz(K:aJ)(t:TA):TI:=λσ H R=>t σ H λvs H1=>∃a b xs ys,vs=[.ref a,.ref b]/\bO K H1 a xs/\bL K H1 b ys/\R (M9 K a b) H1
theorem adL{X:Cx}{es:List Expr}{k:Nat}{ps:Pos}{x y:Expr}{t:TA}{p pos:Pos}(hg:Gl X "zip")(hm:X.mg "zip"=ak)(ha:PA X [x,y] t)(hs:bG [x,y] X.env=[(aF,eval x X.env),(aF,eval y X.env)]:=by rfl)(hs2:bG [y] X.env=[(aF,eval y X.env)]:=by rfl):
  PI X (.Tuple es k ps) (.Call (.Name "zip" p) [x,y] [] pos) (agz X.K t):=by
 intro ao s σ H R I h;refine Call_ (sH I hg hm O3 (yG (bR (ha pos ao s σ H _ I h) λus s1 aR=>?_) (by rw[hs,hs2]) (by rw[hs2];rfl)))
 obtain⟨vs,H1,I1,r1,a,b,xs,ys,e,h1,h2,q⟩:=aR
 subst e;cases r1 with
 |cons r rr=>
  cases rr with
  |cons r' rr=>
   cases rr;cases r;cases r'
   obtain⟨aD,v1,p1,_⟩:=I1.tuple h1
   obtain⟨its2,v2,p2,_⟩:=I1.list h2
   have Bs:a<s1.heap.objs.size:=by obtain⟨_,e,_⟩:=p1;exact b8 e
   have t6:b<s1.heap.objs.size:=by obtain⟨_,e,_⟩:=p2.isList;exact b8 e
   refine abp p1 p2.isList λh' g1 g2 g3 g4 g5 kk=>yL g1 ?_
   have I2:Inv X ao σ H1 {s1 with heap:=h'}:=I1.kept (t':=s1.toks) kk
   refine⟨s1.heap.objs.size+4,[s1.heap.objs.size+4,s1.heap.objs.size+2,s1.heap.objs.size+3,s1.heap.objs.size,s1.heap.objs.size+1],_,_,H1,rfl,I2,abq (zipApart_new Bs t6),⟨g1,g2,⟨_,_,g3⟩,g4,g5⟩,λc hc=>?_,q⟩
   refine I1.qY ?_ (I1.hok.fresh ?_)
   all_goals
    simp only[cD,gF,or_false] at hc;rcases hc with rfl|rfl|rfl|rfl|rfl<;>lia
theorem adM{K:aJ}{P T:List aq}{H:Hp}{a b:aq}{ds es:List az}{ws:List V}(fl:ds.all eY=au)(ha:bO K (er P H) a (ds.map toV))(hb:er T H b=aa (.lst ws))(r2:bV (er P H) es ws):p7 P T H (M9 K a b) (ig ds es):=λi H2 P2 s1 s2 n=>by
 have h2:bO K H2 a (ds.map toV):=(pU _ _).oZ (s1.oZ ha);have h3:bL K H2 b ws:=bL.of (eU (s2 _ _ hb));have l1:(ds.map toV).length=ds.length:=cV ..
 refine⟨λd hd=>?_,λhi=>⟨_,ws,h2,h3,by rw[hi,Dq,l1,fV r2]⟩⟩
 obtain⟨x,y,e1,e2,rfl⟩:=DR hd
 obtain⟨v,ev,rv⟩:=nq (Jz (E:=er P H) fl) e1
 obtain⟨w,ew,rw'⟩:=nq r2 e2
 refine⟨⟨_,ws,h2,h3,(iU.mp ev).1,(iU.mp ew).1⟩,λz H3 yl=>?_⟩
 obtain⟨p,v',w',hp,rfl,rfl,hh⟩:=yl
 obtain⟨g1,g2⟩:=hh _ ws h2 h3
 rw[ev] at g1;rw[ew] at g2;cases g1;cases g2;have sp:bN H2 (upd H2 p (.tup [v,w])):=bN.upd hp
 refine⟨sp,p,[v,w],rfl,?_,v,[w],rfl,rv.same (s1.trans (uN sp)),w,[],rfl,rw'.same (s1.trans (uN sp)),rfl⟩
 unfold er;rw[bK (λm=>n p m hp),fL]
def GX:Option (Option Vl)->Option (List az)
 |some (some (.ks ds))=>if ds.all eY then aa ds else ak
 |_=>ak
theorem afk(h:GX o=aa ds):o=aa (aa (.ks ds))/\ds.all eY=au:=by
 unfold GX at h;split at h
 .split at h
  .rename_i c;cases h
   exact⟨rfl,c⟩
  .cases h
 .cases h
def Bg:az->Option (List az)
 |.list ds=>aa ds
 |_=>ak
theorem Ue(h:Bg d=aa ds):d=.list ds:=by
 cases d<;>cases h;rfl
def Gi(i:Nat)(f:FB):FI:=λaj C=>(GX aj[i]?).bind λds=>(f aj C).bind λp=>(Bg p.1).bind λys=>aa (ig ds ys,p.2)
theorem adN{X:Cx}{es:List Expr}{k i:Nat}{ps:Pos}{x y:Expr}{f:FB}{p pos:Pos}(hg:Gl X "zip")(hm:X.mg "zip"=ak)(hx:PE X x (mL i))(hy:PE X y (cN X.K f))(hs:bG [x,y] X.env=[(aF,eval x X.env),(aF,eval y X.env)]:=by rfl)(hs2:bG [y] X.env=[(aF,eval y X.env)]:=by rfl)(he:bG [x,y] X.env=(aF,eval x X.env)::bG [y] X.env:=by rfl)(he2:bG [y] X.env=(aF,eval y X.env)::bG [] X.env:=by rfl):
  PI X (.Tuple es k ps) (.Call (.Name "zip" p) [x,y] [] pos) (tI X.K au (Gi i f)):=(adL hg hm (jA hx (jA hy lN he2) he) hs hs2).weak λσ H R aR=>by
 obtain⟨Z,Θ,aj,C,aD,aU,C',S,hf,q⟩:=aR
 obtain⟨ds,h0,hf⟩:=gj hf
 obtain⟨⟨d1,e1,C1⟩,h1,hf⟩:=gj hf
 obtain⟨ys,h2,hf⟩:=gj hf
 cases Ue h2;cases hf
 obtain⟨h0,fl⟩:=afk h0
 obtain⟨v,ev,a,rfl,sq⟩:=S.slot i _ h0
 refine⟨_,ev,Z,Θ,aj,C,_,_,_,S,h1,λw H1 k1 f1 S1 b1=>?_⟩
 obtain⟨b,ws,rfl,hb,r2⟩:=b1
 have Xm:=(Fb S k1 f1).oZ sq
 exact⟨a,b,_,ws,rfl,(pU _ _).oZ Xm,bL.of (eU hb),q _ H1 k1 f1 S1 (adM fl Xm hb r2)⟩
section
variable{X:Cx}{o e:Expr}{f g:FB}{name:Str}{apos cpos:Pos}{T id:String}{r:R2}{op:az->az->Option Vl}
theorem Lp(pa:PlainAttrs T)(slot:Slot T name id)(hty:typeOf (.builtin id)=pure (.type "method_descriptor"))(hm:yr X id (λx xs H Q=>∃y,xs=[y]/\r x y H Q))(L:dB X.K r op)
  (ht:∀dx dy z,op dx dy=aa z->(T="str"/\∃w,dx=.str w)\/(T="list"/\∃ds,dx=.list ds))(ho:PE X o (cN X.K f))(he:PE X e (cN X.K g))
  (hbase:uA o name X.env (eval o X.env)=eval o X.env:=by rfl)
  (hfew:((gb cpos (bG [e] X.env)).all (λx=>!x.1)&&(uK cpos (uD [] X.env)).all (λx=>x.1.isSome)
   &&decide (([e]:List Expr).length+([]:List jU).length+(if([]:List jU).isEmpty then 0 else 1)<30))=au:=by rfl)
  (hline:(apos.endLine==cpos.line)=au:=by rfl)(hs:bG [e] X.env=(aF,eval e X.env)::bG [] X.env:=by rfl)(hplain:(gb cpos (bG [] X.env)).any (·.1)=aF:=by rfl):
  PE X (.Call (.Attribute o name apos) [e] [] cpos) (tE X.K (aY op f g)):=
 (EY pa slot hty hm ho (jA he lN hs) hbase hfew hline hs hplain).weak λσ H Q aR=>by
  obtain⟨Z,Θ,aj,C,r,aU,C',S,hf,q⟩:=aR
  unfold aY at hf;split at hf
  case h_2=>cases hf
  rename_i x e1 C1 h1;split at hf
  case h_2=>cases hf
  rename_i y e2 C2 h2;split at hf
  case h_2=>cases hf
  rename_i r0 h3;cases hf
  refine⟨Z,Θ,aj,C,x,e1,C1,S,h1,λv H1 k1 f1 S1 b1=>⟨?_,Z,Θ,e1,C1,y,e2,_,S1,h2,λu H2 k2 f2 S2 b2=>⟨u,rfl,?_⟩⟩⟩
  .rcases ht x y _ h3 with⟨rfl,w,rfl⟩|⟨rfl,ds,rfl⟩
   .cases b1.str;rfl
   .obtain⟨a,vs,rfl,ha,_⟩:=b1
    exact .inl ⟨rfl,vs,bL.of (eU ha)⟩
  .refine L Z Θ e2 _ σ H2 v u x y _ S2 (b1.go S1 k2 f2) b2 h3 Q λz H3 k3 R=>?_
   have k:=(k1.trans k2).trans k3;exact q z H3 k ((f1.trans f2).rst _) ((R.from (k1.trans k2)).rst S k)
end
section
variable{X:Cx}
open PySem.Builtin PySem.Builtin.Str
theorem Ug:∀l:List (Str×Tok),Vals ((l.map (·.1)).map V.str) (strValues l)
 |[]=>.nil
 |p::r=>.cons ⟨p.2,rfl⟩ (Ug r)
def Vm:R2:=λx y H Q=>∃z w,x=.str z/\y=.str w/\(w.length==0)=aF/\z.length+2<=bQ/\∀p,H p=ak->Q (.ref p) (upd H p (.lst ((Txt.split z w).map V.str)))
def V4:R2:=λx y H Q=>∃z w,x=.str z/\y=.str w/\(w.length==0)=aF/\z.length<=bQ/\∀p,H p=ak->Q (.ref p) (upd H p (.tup [.str (Txt.partition z w).1,.str (Txt.partition z w).2.1,.str (Txt.partition z w).2.2]))
theorem ace:yr X "str.split" (λx xs H Q=>∃y,xs=[y]/\Vm x y H Q):=by
 intro ao s σ H x xs v us Q I rx rs h
 obtain⟨y,rfl,z,w,rfl,rfl,hy,hz,q⟩:=h
 obtain⟨t,rfl⟩:=rx
 obtain⟨u',rfl,ru⟩:=vals1 rs
 obtain⟨u,rfl⟩:=ru
 have e0:=split_le z w;have fin:∀(l:List (Str×Tok))(k:Tok),l.map (·.1)=Txt.split z w->EP X ao σ Q (.ref s.heap.objs.size) {s with toks:=k,heap:=s.heap.push {cls:=.type "list",data:=.seq (strValues l).toArray}}:=λl k e=>by
  have hl:((Txt.split z w).map V.str).length<=bQ:=by rw[cV];lia
  have rv:=Ug l;rw[e] at rv
  exact⟨.ref s.heap.objs.size,_,I.laid (t':=k) (λb o e=>cA _ e) (cO _) (show dU X.prog X.w _ _ _ (.lst _) from⟨hl,_,0,rv,gY _ rfl⟩),rfl,q _ (I.hok.fresh (cO _))⟩
 have hn:(partsBetween z (occurrences z w 0 z.length (z.length+1)) w.length).length<=bQ:=by
  have e1:=StrLaws.occ_length_le z w 0 z.length (z.length+1);rw[length_partsBetween];lia
 cases h1:(decide (z.length<w.length)||decide (strKind z<strKind w))
 .cases hf:(occurrences z w 0 z.length (z.length+1)).isEmpty
  .refine wO Hg (wN _ _ _) Oz (Ot _ _) (meets_str_split_sep z w t u h1 hy hf aP hn) ?_;show wants _ _ _ {s with toks:=_,heap:=s.heap.push {cls:=.type "list",data:=.seq (strsFrom s.toks (partsBetween z (occurrences z w 0 z.length (z.length+1)) w.length)).toArray}};rw[strsFrom_eq];exact fin (numbered s.toks _) _ ((numbered_texts _ _).trans ((bK (ne_true_of_eq_false h1)).trans (bK (ne_true_of_eq_false hf))).symm)
  .exact wO Hg (wN _ _ _) Oz (Ot _ _) (meets_str_split_not_found z w t u h1 hy hf)
    (fin [(z,t)] s.toks ((bK (ne_true_of_eq_false h1)).trans (bB hf)).symm)
 .exact wO Hg (wN _ _ _) Oz (Ot _ _) (meets_str_split_cannot_occur z w t u h1)
   (fin [(z,t)] s.toks (bB h1).symm)
theorem adO:yr X "str.partition" (λx xs H Q=>∃y,xs=[y]/\V4 x y H Q):=by
 intro ao s σ H x xs v us Q I rx rs h
 obtain⟨y,rfl,z,w,rfl,rfl,hy,hz,q⟩:=h
 obtain⟨t,rfl⟩:=rx
 obtain⟨u',rfl,ru⟩:=vals1 rs
 obtain⟨u,rfl⟩:=ru
 have rv:∀ta tb tc:Tok,Vals [V.str (Txt.partition z w).1,.str (Txt.partition z w).2.1,.str (Txt.partition z w).2.2] [.str (Txt.partition z w).1 ta,.str (Txt.partition z w).2.1 tb,.str (Txt.partition z w).2.2 tc]:=λta tb tc=>.cons ⟨ta,rfl⟩ (.cons ⟨tb,rfl⟩ (.cons ⟨tc,rfl⟩ .nil))
 have fin:∀(ta tb tc k:Tok),EP X ao σ Q (.ref s.heap.objs.size) {s with toks:=k,heap:=s.heap.push {cls:=.type "tuple",data:=.seq [.str (Txt.partition z w).1 ta,.str (Txt.partition z w).2.1 tb,.str (Txt.partition z w).2.2 tc].toArray}}:=λta tb tc k=>
  ⟨.ref s.heap.objs.size,_,I.laid (t':=k) (λb o e=>cA _ e) (cO _) (show dU X.prog X.w _ _ _ (.tup _) from⟨by show 3<=bQ;decide,[.str (Txt.partition z w).1 ta,.str (Txt.partition z w).2.1 tb,.str (Txt.partition z w).2.2 tc],rv ta tb tc,IsTup.new _ _⟩),rfl,q _ (I.hok.fresh (cO _))⟩
 refine wO XM (wN _ _ _) PySem.F.entry_str_partition (PySem.F.args_str_partition_2 _ _) (meets_str_partition z w t u hy hz) ?_;clear rv q;unfold Txt.partition at fin;revert fin;cases occurrences z w 0 z.length 1 with
 |nil=>intro fin;exact fin _ _ _ _
 |cons i r=>intro fin;exact fin _ _ _ _
end
def uQ:az->az->Option Vl
 |.str z,.str w=>if w.length≠0/\z.length+2<=dH then aa (.ow (.list ((Txt.split z w).map .str))) else ak
 |_,_=>ak
def xO:az->az->Option Vl
 |.str z,.str w=>if w.length≠0/\z.length<=dH then aa (.im (.tuple [.str (Txt.partition z w).1,.str (Txt.partition z w).2.1,.str (Txt.partition z w).2.2])) else ak
 |_,_=>ak
theorem Uh{E:Hp}:∀{l:List Str},bV E (l.map .str) (l.map V.str)
 |[]=>rfl
 |z::r=>⟨_,_,rfl,rfl,Uh⟩
theorem acf{K:aJ}:dB K Vm uQ:=by
 intro Z Θ aj C σ H x y dx dy res S bx cI e Q q;unfold uQ at e;split at e
 case h_2=>cases e
 split at e
 case isFalse=>cases e
 rename_i h;cases e;cases bx.str;cases cI.str
 exact⟨_,_,rfl,rfl,beq_eq_false_iff_ne.mpr h.1,lF h.2,λp hp=>q _ _ (bf.upd hp) (DQ S Uh hp)⟩
theorem adP{K:aJ}:dB K V4 xO:=by
 intro Z Θ aj C σ H x y dx dy res S bx cI e Q q;unfold xO at e;split at e
 case h_2=>cases e
 split at e
 case isFalse=>cases e
 rename_i h;cases e;cases bx.str;cases cI.str
 exact⟨_,_,rfl,rfl,beq_eq_false_iff_ne.mpr h.1,lF h.2,λp hp=>q _ _ (bf.upd hp) (zO S ⟨_,_,rfl,rfl,_,_,rfl,rfl,_,_,rfl,rfl,rfl⟩ hp)⟩
section
variable{X:Cx}{o e:Expr}{f g:FB}{apos cpos:Pos}
theorem acg(ho:PE X o (cN X.K f))(he:PE X e (cN X.K g))
  (hbase:uA o "split" X.env (eval o X.env)=eval o X.env:=by rfl)
  (hfew:((gb cpos (bG [e] X.env)).all (λx=>!x.1)&&(uK cpos (uD [] X.env)).all (λx=>x.1.isSome)
   &&decide (([e]:List Expr).length+([]:List jU).length+(if([]:List jU).isEmpty then 0 else 1)<30))=au:=by rfl)
  (hline:(apos.endLine==cpos.line)=au:=by rfl)(hs:bG [e] X.env=(aF,eval e X.env)::bG [] X.env:=by rfl)(hplain:(gb cpos (bG [] X.env)).any (·.1)=aF:=by rfl):
  PE X (.Call (.Attribute o "split" apos) [e] [] cpos) (tE X.K (aY uQ f g)):=
 Lp OJ Hg PySem.F.type_str_split ace acf (λdx dy z h=>by unfold uQ at h;split at h;exact .inl ⟨rfl,_,rfl⟩;cases h) ho he hbase hfew hline hs hplain
theorem adQ(ho:PE X o (cN X.K f))(he:PE X e (cN X.K g))
  (hbase:uA o "partition" X.env (eval o X.env)=eval o X.env:=by rfl)
  (hfew:((gb cpos (bG [e] X.env)).all (λx=>!x.1)&&(uK cpos (uD [] X.env)).all (λx=>x.1.isSome)
   &&decide (([e]:List Expr).length+([]:List jU).length+(if([]:List jU).isEmpty then 0 else 1)<30))=au:=by rfl)
  (hline:(apos.endLine==cpos.line)=au:=by rfl)(hs:bG [e] X.env=(aF,eval e X.env)::bG [] X.env:=by rfl)(hplain:(gb cpos (bG [] X.env)).any (·.1)=aF:=by rfl):
  PE X (.Call (.Attribute o "partition" apos) [e] [] cpos) (tE X.K (aY xO f g)):=
 Lp OJ XM PySem.F.type_str_partition adO adP (λdx dy z h=>by unfold xO at h;split at h;exact .inl ⟨rfl,_,rfl⟩;cases h) ho he hbase hfew hline hs hplain
end
def uX:List az->Option Vl
 |[.str x]=>if x.length<=640 then(ZJ x).map λn=>.im (.int n) else ak
 |_=>ak
def V5:List V->Hp->VK->Prop:=λxs H Q=>∃x n,xs=[.str x]/\x.length<=640/\ZJ x=aa n/\Q (.int n) H
theorem Ru{X:Cx}:iz X (.type "int") V5:=by
 intro ao s σ H xs us Q I r h
 obtain⟨x,n,rfl,hl,hn,q⟩:=h
 obtain⟨u,rfl,rx⟩:=vals1 r
 obtain⟨t,rfl⟩:=rx
 exact PySem.W.KIN.call_text hn hl ⟨.int n,H,I.tok _,⟨_,rfl⟩,q⟩
theorem Ui{K:aJ}:nR K V5 uX:=by
 intro Z Θ aj C σ H xs ds res S b e Q q;unfold uX at e;split at e
 case h_2=>cases e
 split at e
 case isFalse=>cases e
 rename_i hl
 obtain⟨n,hn,e⟩:=Hf.mp e
 cases e
 obtain⟨v,rfl,bb⟩:=qQ b
 cases bb.str
 exact⟨_,n,rfl,hl,hn,q _ _ (bf.refl _ _) (fM S rfl rfl)⟩
def Mq(d:az):Bool:=eY d||match d with
 |.tuple _=>au
 |_=>aF
def Fq:az->az->Option Vl
 |.none,.list ds=>if ds.all Mq then aa (.im (.bool (ds.any isNone))) else ak
 |_,_=>ak
def WL(K:aJ):R2:=λx y H Q=>∃p xs,x=.non/\y=.ref p/\bL K H p xs/\(∀v∈xs,jt v=au\/∃a ws,v=.ref a/\bO K H a ws)/\Q (.bl (xs.any λy=>j7 y .non)) H
theorem afl{X:Cx}{k:Nat}(hr:gR k X.A):cz X (dm .In) (WL X.K):=by
 intro ao s σ H x y v u Q I rx ry h
 obtain⟨p,xs,rfl,rfl,hq,hf,q⟩:=h
 cases ry;cases rx
 obtain⟨aD,r,pl,hz⟩:=I.list hq
 have all:∀{xs:List V}{us:List aA},Vals xs us->(∀v∈xs,jt v=au\/∃a ws,v=.ref a/\bO X.K H a ws)->(us.any (ir .non)=xs.any λy=>j7 y .non)/\∀u∈us,Cz X.A.in1 s u .none (ir .non u):=λ{xs us} r=>by
  induction r with
  |nil=>exact λ_=>⟨rfl,λu hu=>by cases hu⟩
  |@cons y u ys us r1 _ ih=>
   intro hf
   obtain⟨i1,i2⟩:=ih λv m=>hf v (fQ _ m)
   have h1:ir .non u=j7 y .non/\Cz X.A.in1 s u .none (ir .non u):=by
    rcases hf y gh with f|⟨a,ws,rfl,hw⟩
    .have e:=Eh (x:=.non) r1 f
     exact⟨e,by rw[e];exact K6 r1 (show RelV .non qt from rfl) f rfl⟩
    .cases r1
     obtain⟨aD,_,pt,_⟩:=I.tuple hw
     exact⟨rfl,SeqAt.EqAt.tuple_none pt (by have:=hr.units;show X.A.units+1<_;lia)⟩
   refine⟨by rw[ou,ou,h1.1,i1],λu' hu=>?_⟩
   rcases cD.mp hu with rfl|hu
   .exact h1.2
   .exact i2 u' hu
 obtain⟨a1,a2⟩:=all r hf
 refine Zq (ir .non) pl.isList (λw hw=>a2 w (by simpa using hw)) ⟨.bl _,H,I,rfl,?_⟩;rw[show aD.toArray.any (ir .non)=aD.any (ir .non) by simp,a1];exact q
theorem afm{K:aJ}:dB K (WL K) Fq:=by
 intro Z Θ aj C σ H x y dx dy res S bx cI e Q q;unfold Fq at e;split at e
 case h_2=>cases e
 rename_i ds;split at e
 case isFalse=>cases e
 rename_i h;cases e
 cases(show x=.non from bx)
 obtain⟨a,vs,rfl,ha,r⟩:=cI
 have all:∀{ds:List az}{vs:List V},bV (er (bh Z Θ aj σ) H) ds vs->ds.all Mq=au->(vs.any λy=>j7 y .non)=ds.any isNone/\∀v∈vs,jt v=au\/∃a ws,v=.ref a/\bO K H a ws:=by
  intro ds;induction ds with
  |nil=>intro vs r _;cases(show vs=[] from r);exact⟨rfl,λ_ m=>nomatch m⟩
  |cons d ds ih=>
   intro vs r h
   obtain⟨v,ws,rfl,r1,r2⟩:=r
   rw[oh,fU] at h
   obtain⟨i1,i2⟩:=ih r2 h.2
   have h1:j7 v .non=isNone d/\(jt v=au\/∃a ws,v=.ref a/\bO K H a ws):=by
    cases d with
    |none=>cases(show v=.non from r1);exact⟨rfl,.inl rfl⟩
    |bool b=>cases(show v=.bl b from r1);exact⟨rfl,.inl rfl⟩
    |int b=>cases(show v=.int b from r1);exact⟨rfl,.inl rfl⟩
    |str b=>cases(show v=.str b from r1);exact⟨rfl,.inl rfl⟩
    |tuple ts=>
     obtain⟨a,ws,rfl,ea,_⟩:=r1
     exact⟨rfl,.inr ⟨a,ws,rfl,bO.of (eU ea)⟩⟩
    |list ts=>exact absurd h.1 gq
    |dict ts=>exact absurd h.1 gq
   refine⟨by rw[ou,ou,h1.1,i1],λu hu=>?_⟩
   rcases cD.mp hu with rfl|hu
   .exact h1.2
   .exact i2 u hu
 obtain⟨a1,a2⟩:=all r h
 refine⟨a,vs,rfl,rfl,bL.of (eU ha),a2,?_⟩
 rw[a1];exact q _ _ (bf.refl _ _) (fM S rfl rfl)
def Er:az->az->Option Vl
 |.str z,.int n=>if n=0 then aa (.im (.str IW)) else if n=1 then aa (.im (.str z)) else ak
 |_,_=>ak
def V6:R2:=λx y H Q=>∃z n,x=.str z/\y=.int n/\(n=0/\Q (.str IW) H\/n=1/\Q (.str z) H)
theorem DX{X:Cx}:cz X (kO .Mult) V6:=by
 intro ao s σ H x y v u Q I rx ry h
 obtain⟨z,n,rfl,rfl,h⟩:=h
 obtain⟨t,rfl⟩:=rx
 obtain⟨t',rfl⟩:=ry
 rcases h with⟨rfl,q⟩|⟨rfl,q⟩
 .exact PySem.P.mul_str_none aO aO ⟨.str _,H,I.tok _,⟨_,rfl⟩,q⟩
 .exact Zv aO (λ_ h=>nomatch h) (λ_ h=>nomatch h) ⟨.str _,H,I,⟨_,rfl⟩,q⟩
theorem DY{K:aJ}:dB K V6 Er:=by
 intro Z Θ aj C σ H x y dx dy res S bx cI e Q q;unfold Er at e;split at e
 case h_2=>cases e
 cases bx.str;cases cI.int;split at e
 .rename_i h;cases e
  exact⟨_,_,rfl,rfl,.inl ⟨h,q _ _ (bf.refl _ _) (fM S rfl rfl)⟩⟩
 .split at e
  .rename_i h;cases e
   exact⟨_,_,rfl,rfl,.inr ⟨h,q _ _ (bf.refl _ _) (fM S rfl rfl)⟩⟩
  .cases e
def pR(x y:az):Option Vl:=match Er x y with
 |some z=>aa z
 |none=>zZ x y
theorem ach{K:aJ}{P T:List aq}{H:Hp}{a:aq}{ds:List az}{vs:List V}(ha:er T H a=aa (.lst vs))(r:bV (er P H) ds vs):p7 P T H (Od K a) (qT ds):=λi H2 P2 s1 s2 n=>by
 have h2:bL K H2 a vs:=bL.of (eU (s2 _ _ ha));have l1:=fV r
 refine⟨λd hd=>?_,λhi=>⟨vs,h2,by rw[hi,abo];exact l1.symm⟩⟩
 obtain⟨x,e1,rfl⟩:=acd hd
 obtain⟨v,ev,rv⟩:=nq r e1
 refine⟨⟨vs,h2,(iU.mp ev).1⟩,λy H3 yl=>?_⟩
 obtain⟨p,v',hp,rfl,rfl,hh⟩:=yl
 have g1:=hh vs h2;rw[ev] at g1;cases g1;have sp:bN H2 (upd H2 p (.tup [.int i,v])):=bN.upd hp
 refine⟨sp,p,[.int i,v],rfl,?_,.int i,[v],rfl,rfl,v,[],rfl,rv.same (s1.trans (uN sp)),rfl⟩
 unfold er;rw[bK (λm=>n p m hp),fL]
def Nb(f:FB):FI:=λaj C=>(f aj C).bind λp=>(Bg p.1).bind λds=>aa (qT ds,p.2)
theorem aci{X:Cx}{x:Expr}{f:FB}{es:List Expr}{k:Nat}{ps p pos:Pos}(hg:Gl X "enumerate")(hm:X.mg "enumerate"=ak)(ha:PE X x (cN X.K f))(hs:bG [x] X.env=(aF,eval x X.env)::bG [] X.env:=by rfl)(hs1:bG [x] X.env=[(aF,eval x X.env)]:=by rfl)(hs2:bG ([]:List Expr) X.env=[]:=by rfl):
  PI X (.Tuple es k ps) (.Call (.Name "enumerate" p) [x] [] pos) (tI X.K au (Nb f)):=(afa hg hm (jA ha lN hs) hs1 hs2).weak λσ H R aR=>by
 obtain⟨Z,Θ,aj,C,aD,aU,C',S,hf,q⟩:=aR
 obtain⟨⟨d1,e1,C1⟩,h1,hf⟩:=gj hf
 obtain⟨ds,h2,hf⟩:=gj hf
 cases Ue h2;cases hf
 refine⟨Z,Θ,aj,C,_,_,_,S,h1,λv H1 k f S1 b1=>?_⟩
 obtain⟨a,vs,rfl,ha,r⟩:=b1
 exact⟨a,vs,rfl,bL.of (eU ha),q _ H1 k f S1 (ach ha r)⟩
def Vn(K:aJ):R2:=λx y H Q=>∃(p:aq)(ys:List Str)(z:Str)(j:Nat),x=.ref p/\y=.str z/\bL K H p (ys.map V.str)/\ys.findIdx? (·==z)=aa j/\Q (.int (j:Nat)) H
theorem acj{X:Cx}:yr X "list.index" (λx xs H Q=>∃y,xs=[y]/\Vn X.K x y H Q):=by
 intro ao s σ H x xs v us Q I rx rs h
 obtain⟨y,rfl,p,ys,z,j,rfl,rfl,hp,hj,q⟩:=h
 cases rx
 obtain⟨u',rfl,ru⟩:=vals1 rs
 obtain⟨u,rfl⟩:=ru
 obtain⟨aD,r,pl,hz⟩:=I.list hp
 have ty:=pl.isList.typeIs
 obtain⟨⟨_,_,_,sl⟩,n,hg,rfl,rfl,rfl⟩:=pl
 obtain⟨hl,h1,h2⟩:=Xy.mp hj
 have fs:(ys.map V.str).all jt=au:=by simp[jt]
 have ln:aD.length=ys.length:=by rw[<-r.length,cV]
 have at':∀(m:Nat)(hm:m<aD.toArray.size),ir (.str z) aD.toArray[m]=(ys[m]'(by simpa[ln] using hm)==z):=λm hm=>by
  have hm':m<ys.length:=by simpa[ln] using hm
  obtain⟨w,hw,rw'⟩:=r.get (i:=m) (x:=V.str ys[m]) (by rw[jy,rG hm'];rfl)
  have e:aD.toArray[m]=w:=by
   have:aD[m]?=aa aD.toArray[m]:=bz;rw[this] at hw;exact gG hw
  rw[e,Eh rw' rfl];rfl
 have hj':j<aD.toArray.size:=by simpa[ln] using hl
 have hs:aD.toArray.size<=bQ:=by rw[cV] at hz;simpa[ln] using hz
 have sz:bQ=16777216:=m6;exact wO XX ty PySem.F.entry_list_index (PySem.F.args_list_index_2 _ _)
  (SeqAt.list_indexAt p aD.toArray n ak sl (.str z u) (ir (.str z)) j hj' aP (by rw[at' j hj'];exact h1) (λm hm h=>by rw[at' m hm];exact Y0.mpr (h2 m h)))
  ⟨hg,λw hw=>wX (x:=.str z) (v:=.str z u) ⟨u,rfl⟩ rfl r fs w (by simpa using hw),⟨.int j,H,I.tok _,⟨_,rfl⟩,q⟩⟩
def uR:az->az->Option Vl
 |.list ds,.str z=>(strsOf ds).bind λys=>(ys.findIdx? (·==z)).map λj=>.im (.int (j:Nat))
 |_,_=>ak
theorem ack{K:aJ}:dB K (Vn K) uR:=by
 intro Z Θ aj C σ H x y dx dy res S bx cI e Q q;unfold uR at e;split at e
 case h_2=>cases e
 obtain⟨ys,h1,e⟩:=gj e
 obtain⟨j,h2,e⟩:=Hf.mp e
 cases e;cases cI.str
 obtain⟨a,vs,rfl,ha,rr⟩:=bx.lst
 rw[Jy h1 rr] at ha
 exact⟨a,ys,_,j,rfl,rfl,bL.of ha,h2,q _ _ (bf.refl _ _) (fM S rfl rfl)⟩
section
variable{X:Cx}{o e:Expr}{f g:FB}{apos cpos:Pos}
theorem acn(ho:PE X o (cN X.K f))(he:PE X e (cN X.K g))
  (hbase:uA o "index" X.env (eval o X.env)=eval o X.env:=by rfl)
  (hfew:((gb cpos (bG [e] X.env)).all (λx=>!x.1)&&(uK cpos (uD [] X.env)).all (λx=>x.1.isSome)
   &&decide (([e]:List Expr).length+([]:List jU).length+(if([]:List jU).isEmpty then 0 else 1)<30))=au:=by rfl)
  (hline:(apos.endLine==cpos.line)=au:=by rfl)(hs:bG [e] X.env=(aF,eval e X.env)::bG [] X.env:=by rfl)(hplain:(gb cpos (bG [] X.env)).any (·.1)=aF:=by rfl):
  PE X (.Call (.Attribute o "index" apos) [e] [] cpos) (tE X.K (aY uR f g)):=
 Lp Ow XX PySem.F.type_list_index acj ack (λdx dy z h=>by unfold uR at h;split at h;exact .inr ⟨rfl,_,rfl⟩;cases h) ho he hbase hfew hline hs hplain
end
inductive vB(w:bC)(K:aJ)(x:Str)(tab:List (Str×List az)):Prop
 |mk {d:aq} {es:Array uH} {n:Nat} (a:nsIn K fG x=aa (aa (.ref d))) (l:K.lookup d=aa ⟨.type "dict",ak,.dict es n,#[]⟩) (k:KeysLit w.params es.toList) (s:(d==qu)=aF) (g:ym K es.toList tab):vB w K x tab
theorem vB.to{w:bC}{K:aJ}{x:Str}{tab:List (Str×List az)}{h:bw}{mg:Str->Option aA}(g:vB w K x tab)(X:K.In h)(G:h.Ns fG mg):vL w K mg x tab:=by
 obtain⟨a,l,k,s,g⟩:=g
 exact⟨_,_,_,mg_of X G a,l,k,s,g⟩
theorem gM{K:aJ}{a:aq}{aD:List aA}{n:Nat}{dd:Option aq}{sl:Array (Option aA)}{xs:List V}(l:K.lookup a=aa ⟨.type "tuple",dd,.seq aD.toArray n,sl⟩)(h:aD.length<=1000)(v:Vals xs aD):∀H,bO K H a xs:=λH=>
 .inr ⟨_,_,_,l,rfl,rfl,by show aD.length<=bQ;rw[m6];lia,v⟩
theorem gO{K:aJ}{hs:Int}{tk:Tok}{a:aq}{z:Str}{ds:List az}{es:List uH}{t:List (Str×List az)}(q:∀H,bO K H a (ds.map toV))(r:ym K es t):ym K (⟨hs,.str z tk,.ref a⟩::es) ((z,ds)::t):=⟨⟨tk,a,rfl,rfl,q⟩,r⟩
theorem gP{P:Params}{z:Str}{tk:Tok}{v:aA}{es:List uH}(r:KeysLit P es):KeysLit P (⟨PyData.keyHash P z,.str z tk,v⟩::es):=⟨⟨z,tk,rfl,rfl⟩,r⟩
theorem aco{X:Cx}{x:Str}{d:aq}{tab:List (Str×List az)}{fa:FB}(G:vL X.w X.K X.mg x tab)(e:X.mg x=aa (.ref d)):∀σ H Q,tE X.K (yo tab fa) σ H Q->yq (λx y H Q=>∃z tab,x=.str z/\Oe X.w X.K X.mg tab y/\Q (.bl (tab.lookup z).isNone) H) (cN X.K fa) (tC (.ref d)) σ H Q:=by
 intro σ H Q hh
 obtain⟨Z,Θ,aj,C,r,aU,C',S,hf,q⟩:=hh
 obtain⟨⟨d1,e1,C1⟩,h1,hf⟩:=gj hf
 obtain⟨z,h2,hf⟩:=gj hf
 cases Tv h2;cases hf
 exact⟨Z,Θ,aj,C,_,e1,C1,S,h1,λv H1 k1 f1 S1 b1=>⟨z,tab,b1,⟨x,d,rfl,e,G⟩,q _ H1 k1 (Fz.refl _) ⟨S.go k1 S1.cell,rfl⟩⟩⟩
theorem afn{X:Cx}{a:Expr}{p pos:Pos}{x:Str}{fa:FB}{tab:List (Str×List az)}(G:vL X.w X.K X.mg x tab)(hg:Gl X x)(ha:PE X a (cN X.K fa))(hd:(x==("__debug__":Str))=aF:=by decide)(hm:wD .NotIn (.Name x p)=aF:=by with_unfolding_all rfl):PT X (.Compare a [.NotIn] [.Name x p] pos) (fH X.K (eG (yo tab fa))):=by
 obtain⟨d,es,n,e,_⟩:=G.ex
 exact(Ti afh ha (zJ (v:=.ref d) hg e rfl hd) hm).weak (Jt (aco G e))
theorem acp{P:bI}{w:bC}{K:aJ}{mg:Str->Option aA}{base:bw}{f:aq}{fd:di}{ps:List Str}{k:Nat}:dI P w K mg base dN k f fd ps (spT K xY):=by
 have no:∀vs H Q E,¬spT K xY vs H Q E:=λvs H Q E ⟨_,_,_,_,_,_,_,_,h,_⟩=>nomatch h
 exact⟨λ_ _ _ _ h=>(no _ _ _ _ h).elim,λ_ _ _ _ _ _ _ _ _ _ _ _ _ h=>(no _ _ _ _ h).elim⟩
def sp:Str:=aB " "
theorem Ft:sp=⟨#[32]⟩:=aM
theorem mF{x y:Str}(h:x.cps.toList=y.cps.toList):x=y:=by
 obtain⟨⟨a⟩⟩:=x
 obtain⟨⟨b⟩⟩:=y
 cases h;rfl
theorem ji(x y:Str):(x++y).cps.toList=x.cps.toList++y.cps.toList:=Yx
theorem Vo:sp.cps.toList=[32]:=by rw[Ft]
theorem Je(x y z:Str):x++y++z=x++(y++z):=mF (by rw[ji,ji,ji,ji,nY])
def mY(z:Str):Prop:=32∉z.cps.toList
theorem Vp:∀{a b s t:List Nat},32∉a->32∉b->a++32::s=b++32::t->a=b/\s=t
 |[],[],s,t,_,_,h=>by cases h;exact⟨rfl,rfl⟩
 |[],y::b,s,t,_,hb,h=>by cases h;exact absurd gh hb
 |x::a,[],s,t,ha,_,h=>by cases h;exact absurd gh ha
 |x::a,y::b,s,t,ha,hb,h=>by
  rw[qi,qi,List.cons.injEq] at h
  obtain⟨e,q⟩:=Vp (λm=>ha (fQ _ m)) (λm=>hb (fQ _ m)) h.2
  exact⟨by rw[h.1,e],q⟩
theorem Ku(x y:Str)(r:List Str):jR sp (x::y::r)=x++sp++jR sp (y::r):=rfl
theorem Lq(x y:Str)(r:List Str):(jR sp (x::y::r)).cps.toList=x.cps.toList++32::(jR sp (y::r)).cps.toList:=by
 rw[Ku,ji,ji,Vo,nY];rfl
theorem Vq:∀{ps qs:List Str},(∀p∈ps,mY p)->(∀q∈qs,mY q)->ps≠[]->qs≠[]->jR sp ps=jR sp qs->ps=qs
 |[],_,_,_,h,_,_=>absurd rfl h
 |_::_,[],_,_,_,h,_=>absurd rfl h
 |[x],[y],_,_,_,_,h=>by rw[show x=y from h]
 |[x],y::z::r,hp,_,_,_,h=>by
  have h:x.cps.toList=(jR sp (y::z::r)).cps.toList:=by rw[<-h];rfl
  rw[Lq] at h;exact absurd (by rw[h];exact dj _ gh) (hp x gh)
 |y::z::r,[x],_,hq,_,_,h=>by
  have h:x.cps.toList=(jR sp (y::z::r)).cps.toList:=by rw[h];rfl
  rw[Lq] at h;exact absurd (by rw[h];exact dj _ gh) (hq x gh)
 |x::x2::r,y::y2::t,hp,hq,_,_,h=>by
  have h:=congrArg (λz:Str=>z.cps.toList) h;simp only[Lq] at h
  obtain⟨e1,e2⟩:=Vp (hp x gh) (hq y gh) h
  rw[mF e1,Vq (λp m=>hp p (fQ _ m)) (λp m=>hq p (fQ _ m)) (Hz _ _) (Hz _ _) (mF e2)]
theorem acq{ps:List Str}(hp:∀p∈ps,mY p)(h0:ps≠[]):Txt.split (jR sp ps) sp=ps:=by
 refine Vq (λq m=>?_) hp (λe=>?_) h0 (StrLaws.join_split _ _)
 .rw[Ft] at m;exact StrLaws.split_free _ 32 q m
 .have:=split_pos (jR sp ps) sp;rw[e] at this;cases this
theorem Kv:∀{ps:List Str}(w:Str),ps≠[]->jR sp (ps++[w])=jR sp ps++sp++w
 |[],_,h=>absurd rfl h
 |[x],w,_=>rfl
 |x::y::r,w,_=>by
  show jR sp (x::y::(r++[w]))=_;rw[Ku,Ku,show y::(r++[w])=(y::r)++[w] from rfl,Kv w (Hz _ _)];simp only[Je]
def fJ(n:Nat):Str:=⟨(cM n 32).toArray⟩
theorem Kw(n:Nat):(fJ n).cps.toList=cM n 32:=rfl
theorem Ky(n m:Nat):fJ n++fJ m=fJ (n+m):=mF (by rw[ji,Kw,Kw,Kw,List.replicate_append_replicate])
theorem Kz:fJ 1=sp:=by rw[Ft];rfl
def nl:Str:=aB ""
theorem Es:nl.cps.toList=[]:=aM
theorem Uj:mY nl:=by unfold mY;rw[Es];exact gF
theorem Lr(x:Str):x++nl=x:=mF (by rw[ji,Es,jP])
theorem afo(x:Str):nl++x=x:=mF (by rw[ji,Es,rN])
def Rw(z:Str)(ws:List Str):Prop:=∃ps:List Str,ps≠[]/\(∀p∈ps,mY p)/\z=jR sp ps/\(ps.filter λw=>!(w==nl))=ws
theorem Rw.jx(h:Rw z ws):((Txt.split z sp).filter λw=>!(w==nl))=ws:=by
 obtain⟨ps,h0,h1,rfl,h2⟩:=h
 rw[acq h1 h0];exact h2
theorem V7{w:Str}(h:w≠nl):(!(w==nl))=au:=by rw[beq_eq_false_iff_ne.mpr h];rfl
theorem Vr{w:Str}(h:w≠nl):[w].filter (λw=>!(w==nl))=[w]:=by
 rw[yI];intro a m;rw[gZ.mp m];exact V7 h
theorem Rw.join{ws:List Str}(h0:ws≠[])(h1:∀w∈ws,mY w/\w≠nl):Rw (Txt.join sp ws) ws:=
 ⟨ws,h0,λp m=>(h1 p m).1,Yi _ _,yI.mpr λw m=>V7 (h1 w m).2⟩
theorem CP:∀(n:Nat){ps:List Str},ps≠[]->jR sp (ps++cM n nl)=jR sp ps++fJ n
 |0,ps,_=>by rw[List.replicate_zero,jP];exact mF (by rw[ji];exact(jP _).symm)
 |n+1,ps,h=>by
  rw[show cM (n+1) nl=cM n nl++[nl] from List.replicate_succ',<-nY,Kv _ (by simp[h]),CP n h,Lr,Je,<-Kz,Ky]
theorem Iu(n:Nat):(cM n nl).filter (λw=>!(w==nl))=[]:=by
 rw[List.filter_eq_nil_iff];intro a m;rw[G9 m];simp
theorem Sx{ps:List Str}(h:∀p∈ps,mY p)(n:Nat):∀p∈ps++cM n nl,mY p:=λp m=>by
 rcases cL.mp m with m|m
 .exact h p m
 .rw[G9 m];exact Uj
theorem Rw.ends(h:Rw z ws)(n:Nat):Rw (z++fJ n) ws:=by
 obtain⟨ps,h0,h1,rfl,h2⟩:=h
 exact⟨ps++cM n nl,by simp[h0],Sx h1 n,(CP n h0).symm,by rw[O9,Iu,jP,h2]⟩
theorem Rw.app(h:Rw z ws)(n:Nat)(hf:mY w)(hn:w≠nl):Rw (z++fJ (1+n)++w) (ws++[w]):=by
 obtain⟨ps,h0,h1,rfl,h2⟩:=h
 refine⟨(ps++cM n nl)++[w],bz,λp m=>?_,?_,?_⟩
 .rcases cL.mp m with m|m
  .exact Sx h1 n p m
  .rw[gZ.mp m];exact hf
 .rw[Kv _ (by simp[h0]),CP n h0,aab 1 n,<-Ky,Kz];simp only[Je]
 .rw[O9,O9,Iu,jP,h2,Vr hn]
theorem Rw.spaces(n:Nat):Rw (fJ n) []:=by
 refine⟨cM (n+1) nl,bz,λp m=>by rw[G9 m];exact Uj,?_,Iu _⟩
 have:=CP n (ps:=[nl]) bz;rw[show[nl]++cM n nl=cM (n+1) nl from rfl] at this;rw[this]
 exact(afo _).symm
theorem Rw.first(n:Nat)(hf:mY w)(hn:w≠nl):Rw (fJ n++w) [w]:=by
 cases n with
 |zero=>exact⟨[w],bz,λp m=>by rw[gZ.mp m];exact hf,mF (by rw[ji];rfl),Vr hn⟩
 |succ n=>
  have:=(Rw.spaces 0).app n hf hn;rw[show fJ 0++fJ (1+n)=fJ (n+1) by rw[Ky,wG,aab]] at this;exact this
theorem Uk:∀(n:Nat)(a:Array Nat),((cM n sp.cps).foldl (·++·) a).toList=a.toList++cM n 32
 |0,a=>(jP _).symm
 |n+1,a=>by
  rw[Hh,Zx,Uk n,Yx,show sp.cps.toList=[32] from Vo,nY];rfl
theorem adR(n:Nat):vD sp n=fJ n:=mF (by
 show((cM n sp.cps).foldl (·++·) #[]).toList=_
 rw[Uk];rfl)
theorem qG(n:Nat):(fJ n).length=n:=by
 show(cM n 32).toArray.size=n
 simp
theorem Ea{n:Int}(h0:0<=n)(h1:n<=1000):pR (.str sp) (.int n)=aa (.im (.str (fJ n.toNat))):=by
 have l:sp.length=1:=by rw[Ft];rfl
 unfold pR Er;dsimp only;by_cases c0:n=0
 .subst c0;rw[bB rfl];rfl
 .rw[bK c0];by_cases c1:n=1
  .subst c1;rw[bB rfl];exact congrArg (λz=>aa (Vl.im (.str z))) Kz.symm
  .rw[bK c1];show zZ _ _=_;unfold zZ;dsimp only;rw[adR,qG,l,bB ⟨aP,aP,by unfold dH;lia,by unfold dH;lia⟩]
end L2
namespace Og
open PySem L2
abbrev zaa:List Str:=["thing"]
abbrev zab:List Str:=["row","words","kinds","things","rest","told"]
abbrev zac:List Str:=["row"]
abbrev zad:List Str:=["things","rest","seats"]
abbrev zae:List Str:=["things","rest"]
abbrev zaf:List Str:=["told"]
abbrev zag:List Str:=["kinds","words","things"]
abbrev zah:List Str:=["kinds","words"]
abbrev zai:List Str:=["kind","word"]
abbrev zaj:List Str:=["word"]
abbrev zak:List Str:=["_law_cell","_law_k"]
abbrev zal:List Str:=["_law_script","_law_k"]
abbrev zam:List Str:=["_law_left_here","_law_many"]
abbrev zan:List Str:=["_law_left_here","_law_many","_law_letters","_law_stem","_law_at","_law_first","_law_found","_law_k","_law_sign"]
abbrev zao:List Str:=["_law_left_here"]
abbrev zap:List Str:=["_law_left_here","_law_names_here"]
abbrev zaq:List Str:=["_law_left_here","_law_names_here","_law_a","_law_b","_law_c","_law_d","_law_e","_law_one","_law_other","_law_total_here","_law_n","_law_low","_law_high","_law_rows","_law_at"]
abbrev zar:List Str:=["_law_thing"]
abbrev zas:List Str:=["_law_row_here"]
abbrev zat:List Str:=["_law_found","_law_due"]
abbrev zau:List Str:=["_law_left_here","_law_words_here"]
abbrev zav:List Str:=["_law_script","_law_k","_law_left_here","_law_names_here","_law_due","_law_words_here","_law_row_here"]
abbrev zaw:List Str:=["_law_script"]
def top(i:Nat):cZ:=PySem.Challenge.pw_rankseals_k69_rows_read.main.body.getD i (.Pass ⟨0,0,0,0⟩)
abbrev Dh:cZ:=top 2
theorem aaO:gA zaa zaa (cY Dh):=⟨rfl,rfl,rfl,aM,rfl,aM,aM⟩
abbrev CQ:cZ:=top 8
theorem wJ:gA zab zac (cY CQ):=⟨rfl,rfl,rfl,aM,rfl,aM,aM⟩
abbrev Cq:cZ:=top 9
theorem Qx:gA zad zae (cY Cq):=⟨rfl,rfl,rfl,aM,rfl,aM,aM⟩
abbrev HD:cZ:=top 10
theorem Zm:gA zaf zaf (cY HD):=⟨rfl,rfl,rfl,aM,rfl,aM,aM⟩
abbrev Ck:cZ:=top 11
theorem Qk:gA zag zah (cY Ck):=⟨rfl,rfl,rfl,aM,rfl,aM,aM⟩
abbrev Cr:cZ:=top 12
theorem aac:gA zai zai (cY Cr):=⟨rfl,rfl,rfl,aM,rfl,aM,aM⟩
abbrev HX:cZ:=top 13
theorem HQ:gA (["kind","word","lowest","highest"]:List Str) zai (cY HX):=⟨rfl,rfl,rfl,aM,rfl,aM,aM⟩
abbrev CT:cZ:=top 14
theorem aat:gA zaj zaj (cY CT):=⟨rfl,rfl,rfl,aM,rfl,aM,aM⟩
abbrev Ij:cZ:=top 15
theorem yW:gA (["word","figures","slash","part","rank"]:List Str) zaj (cY Ij):=⟨rfl,rfl,rfl,aM,rfl,aM,aM⟩
abbrev Ls:cZ:=top 17
theorem Ul:gA (["_law_cell","_law_k","_law_m"]:List Str) zak (cY Ls):=⟨rfl,rfl,rfl,aM,rfl,aM,aM⟩
abbrev KC:cZ:=top 18
theorem Sy:gA (["_law_script","_law_k","_law_cell"]:List Str) zal (cY KC):=⟨rfl,rfl,rfl,aM,rfl,aM,aM⟩
abbrev KD:cZ:=top 19
theorem SJ:gA (["_law_left_here","_law_many","_law_digit"]:List Str) zam (cY KD):=⟨rfl,rfl,rfl,aM,rfl,aM,aM⟩
abbrev Ds:cZ:=top 20
theorem wV:gA zan zam (cY Ds):=⟨rfl,rfl,rfl,aM,rfl,aM,aM⟩
abbrev Lw:cZ:=top 21
theorem adS:gA zao zao (cY Lw):=⟨rfl,rfl,rfl,aM,rfl,aM,aM⟩
abbrev JB:cZ:=top 22
theorem abr:gA zao zao (cY JB):=⟨rfl,rfl,rfl,aM,rfl,aM,aM⟩
abbrev Jf:cZ:=top 23
theorem aaP:gA zao zao (cY Jf):=⟨rfl,rfl,rfl,aM,rfl,aM,aM⟩
abbrev JC:cZ:=top 24
theorem Jg:gA (["_law_left_here","_law_names_here","_law_found","_law_turn"]:List Str) zap (cY JC):=⟨rfl,rfl,rfl,aM,rfl,aM,aM⟩
abbrev Et:cZ:=top 25
theorem kW:gA zaq zap (cY Et):=⟨rfl,rfl,rfl,aM,rfl,aM,aM⟩
abbrev Eb:cZ:=top 26
theorem acr:gA zar zar (cY Eb):=⟨rfl,rfl,rfl,aM,rfl,aM,aM⟩
abbrev JD:cZ:=top 27
theorem Jh:gA (["_law_row_here","_law_words_here","_law_thing"]:List Str) zas (cY JD):=⟨rfl,rfl,rfl,aM,rfl,aM,aM⟩
abbrev zQ:cZ:=top 28
theorem acs:gA zat zat (cY zQ):=⟨rfl,rfl,rfl,aM,rfl,aM,aM⟩
abbrev JF:cZ:=top 29
theorem Di:gA (["_law_left_here","_law_words_here","_law_row_here","_law_word_here"]:List Str) zau (cY JF):=⟨rfl,rfl,rfl,aM,rfl,aM,aM⟩
abbrev Fv:cZ:=top 30
theorem uY:gA zav zaw (cY Fv):=⟨rfl,rfl,rfl,aM,rfl,aM,aM⟩
def lK:List (Str×List az):=[((aB "part"),[(.str (aB "name")),(.str (aB "within"))]),((aB "rank"),[(.str (aB "name")),(.str (aB "rank")),(.str (aB "name")),(.str (aB "day")),(.str (aB "day"))]),((aB "endrank"),[(.str (aB "number")),(.str (aB "day"))]),((aB "leave"),[(.str (aB "name")),(.str (aB "name")),(.str (aB "name")),(.str (aB "day")),(.str (aB "day")),(.str (aB "sum"))]),((aB "endleave"),[(.str (aB "number")),(.str (aB "day"))]),((aB "back"),[(.str (aB "number"))]),((aB "again"),[(.str (aB "number"))]),((aB "rule"),[(.str (aB "name")),(.str (aB "sum"))]),((aB "norule"),[(.str (aB "name")),(.str (aB "sum"))]),((aB "paper"),[(.str (aB "name")),(.str (aB "name")),(.str (aB "sum")),(.str (aB "day")),(.str (aB "name")),(.str (aB "name"))]),((aB "sign"),[(.str (aB "name")),(.str (aB "name")),(.str (aB "name")),(.str (aB "day"))]),((aB "draw"),[(.str (aB "name")),(.str (aB "number")),(.str (aB "day"))]),((aB "undo"),[]),((aB "stands"),[(.str (aB "name")),(.str (aB "day"))]),((aB "standing"),[(.str (aB "day"))]),((aB "hands"),[(.str (aB "name")),(.str (aB "day"))]),((aB "more"),[(.str (aB "name")),(.str (aB "day"))]),((aB "row"),[(.str (aB "name")),(.str (aB "number"))]),((aB "leans"),[(.str (aB "number")),(.str (aB "day"))]),((aB "splits"),[(.str (aB "sum")),(.str (aB "days"))]),((aB "seats"),[(.str (aB "name")),(.str (aB "sum"))])]
def rU:List (Str×List az):=[((aB "day"),[(.int 0),(.int 99999)]),((aB "sum"),[(.int 0),(.int 1000000000)]),((aB "rank"),[(.int 1),(.int 9)]),((aB "number"),[(.int 0),(.int 999)]),((aB "days"),[(.int 1),(.int 999)])]
structure Txt(w:bC)(K:aJ)(mg:Str->Option aA)(cB cC cF:Tok):Prop where
 Fw:mg "abs"=ak
 Ak:mg "all"=ak
 Lx:mg "bool"=ak
 Ik:mg "enumerate"=ak
 xZ:mg "int"=ak
 kJ:mg "isinstance"=ak
 jC:mg "len"=ak
 z9:mg "list"=ak
 Al:mg "max"=ak
 Fx:mg "min"=ak
 uT:mg "range"=ak
 tL:mg "str"=ak
 pN:mg "tuple"=ak
 Fy:mg "zip"=ak
 ZK:mg "MOST_FIGURES"=aa (.int 10 cB)
 ZL:mg "MOST_LETTERS"=aa (.int 8 cC)
 aad:mg "MOST_SEATS"=aa (.int 6 cF)
 Um:vL w K mg "KINDS" lK
 abt:vL w K mg "NUMBERS" rU
abbrev aae:FE:=(lR gJ gJ (aG (aQ (.str (aB "a")))) (aW 0) (aG (aQ (.str (aB "z")))))
abbrev Dj:FS:=(bU (gU (mR (lg (jM (aG (gW "str" (aW 0))))) (lg (eG (lR gJ gJ (aG (aQ (.int 1))) (aG (dY jd (dg (aW 0) eN))) (aG (aQ (.int 8))))))) (c7 (aQ (.bool aF))) iG) (c7 (dY qR (dg (aG (j8 (iB (aW 0)) .one jo aae [])) eN))))
def uI:FN:=fN 1 1 Dj
abbrev ZZ:FE:=(lR gJ gJ (aG (aQ (.str (aB "0")))) (aW 0) (aG (aQ (.str (aB "9")))))
abbrev wR:FS:=(bU (gU (mR (lg (eG (lR gJ gJ (aG (aQ (.int 1))) (aG (dY jd (dg (aW 0) eN))) (aG (aQ (.int 10)))))) (lg (jM (aG (dY qR (dg (aG (j8 (iB (aW 0)) .one jo ZZ [])) eN)))))) (c7 (aQ (.bool aF))) iG) (c7 (qZ (aY dX (aW 0) (aG (aQ (.str (aB "0"))))) (aY jL (aG (aY cg (aW 0) (aG (aQ (.int 0))))) (aG (aQ (.str (aB "0"))))))))
def CV:FN:=fN 1 1 wR
abbrev yU:FS:=(bU (gU (lg (jM (aG (cu CV (aL (bA 1) bF))))) (c7 (aQ .none)) iG) (bU (Fp (tW rU (aW 0)) [2,3]) (c7 (mU (eG (lR gJ gJ (aW 2) (aG (dY uX (dg (aW 1) eN))) (aW 3))) (dY uX (dg (aW 1) eN)) (aQ .none)))))
def uB:FN:=fN 2 4 yU
abbrev pI(aau:FN):FS:=(bU (gU (eG (aY dX (aW 0) (aG (aQ (.str (aB "name")))))) (c7 (mU (jM (aG (cu uI (aL (bA 1) bF)))) (bA 1) (aQ .none))) iG) (bU (gU (eG (aY dX (aW 0) (aG (aQ (.str (aB "within")))))) (c7 (mU (eG (aY dX (aW 1) (aG (aQ (.str (aB "-")))))) (aQ (.str (aB ""))) (cu aau (aL (aQ (.str (aB "name"))) (aL (bA 1) bF))))) iG) (c7 (cu uB (aL (bA 0) (aL (bA 1) bF))))))
def m9:Nat->FN
 |0=>xY
 |n+1=>fN 2 2 (pI (m9 n))
abbrev Qc:FE:=(cu (m9 2) (aL (bA 0) (aL (bA 1) bF)))
abbrev yX:FS:=(bU (fj 2 (j8 (Gi 0 (aW 1)) (.many 2) jo Qc [])) (c7 (mU (mR (eG (aY yg (aG (dY jd (dg (aW 2) eN))) (aG (mJ 0)))) (eG (aY vI (aG (aQ .none)) (aW 2)))) (aQ .none) (dY sG (dg (aW 2) eN)))))
def Cm:FN:=fN 2 3 yX
abbrev wK:FS:=(bU (yh (aY xO (aW 0) (aG (aQ (.str (aB "/"))))) (Gx 3 (oK (gB 1) (oK (gB 2) (oK (gB 3) Ah))))) (bU (fj 4 (cu uB (aL (aQ (.str (aB "rank"))) (aL (bA 1) bF)))) (bU (gU (mR (eG (aY kZ (aW 4) (aG (aQ .none)))) (sY (eG (aY jL (aW 2) (aG (aQ (.str (aB "")))))) (lg (jM (aG (cu uI (aL (bA 3) bF))))))) (c7 (aQ .none)) iG) (c7 (eZ (aL (bA 4) (aL (bA 3) bF)))))))
def Cu:FN:=fN 1 5 wK
abbrev Qg:FE:=(cu Cu (aL (bA 0) bF))
abbrev za:FS:=(bU (fj 2 (j8 (iB (aW 1)) .one jo Qg [])) (bU (gU (mR (eG (aY Ar (aG (dY jd (dg (aW 2) eN))) (aG (aQ (.int 6))))) (eG (aY Fq (aG (aQ .none)) (aW 2)))) (c7 (aQ .none)) iG) (c7 (aY cH (aG (aY cH (aG (eZ (aL (aQ (.str (aB "rule"))) bF))) (aW 0))) (aG (eZ (aL (dY sG (dg (aW 2) eN)) bF)))))))
def Cv:FN:=fN 2 3 za
abbrev wA:FS:=(bU (gU (sY (eG (aY dX (aG (aY cg (aW 0) (aG (aQ (.int 0))))) (aG (aQ (.str (aB "leave")))))) (eG (aY dX (aG (aY cg (aW 0) (aG (aQ (.int 1))))) (aG (aY cg (aW 0) (aG (aQ (.int 2)))))))) (c7 (aQ (.bool aF))) iG) (c7 (qZ (aY uO (aG (aY cg (aW 0) (aG (aQ (.int 0))))) (aG (eZ (aL (aQ (.str (aB "rank"))) (aL (aQ (.str (aB "leave"))) bF))))) (aY gJ (aG (aY cg (aW 0) (aG (aQ (.int 4))))) (aG (aY cg (aW 0) (aG (aQ (.int 5)))))))))
def BX:FN:=fN 1 1 wA
abbrev Cd:FT:=(eG (aY jL (aW 0) (aG (aQ (.str (aB ""))))))
abbrev Cg:FE:=(bA 0)
abbrev rT:FS:=(bU (fj 1 (j8 (iB (aG (aY uQ (aW 0) (aG (aQ (.str (aB " "))))))) .one Cd Cg [])) (bU (gU (lg (jM (aW 1))) (c7 (eZ bF)) iG) (bU (gU (eG (yo lK (aG (aY cg (aW 1) (aG (aQ (.int 0))))))) (c7 (aQ .none)) iG) (bU (fj 2 (tW lK (aG (aY cg (aW 1) (aG (aQ (.int 0))))))) (bU (fj 3 (cu Cm (aL (bA 2) (aL (jD (aW 1) (jw (aG (aQ (.int 1)))) (jw (aG (aY cH (aG (mJ 2)) (aG (aQ (.int 1))))))) bF)))) (bU (fj 4 (jD (aW 1) (jw (aG (aY cH (aG (mJ 2)) (aG (aQ (.int 1)))))) j9)) (bU (gU (eG (aY kZ (aW 3) (aG (aQ .none)))) (c7 (aQ .none)) iG) (bU (gU (eG (aY dX (aG (aY cg (aW 1) (aG (aQ (.int 0))))) (aG (aQ (.str (aB "rule")))))) (c7 (cu Cv (aL (bA 3) (aL (bA 4) bF)))) iG) (bU (fj 5 (aY cH (aG (eZ (aL (aY cg (aW 1) (aG (aQ (.int 0)))) bF))) (aW 3))) (c7 (mU (sY (lg (jM (aW 4))) (jM (aG (cu BX (aL (bA 5) bF))))) (bA 5) (aQ .none))))))))))))
def qx:FN:=fN 1 6 rT
abbrev Ly:FS:=(bU (fj 2 (aY jc (aG (aY nD (aG (aY cH (aG (aY cH (aG (aY jc (aW 0) (aG (aQ (.int 2147483629))))) (aG (aY nD (aG (aY nD (aW 1) (aW 1))) (aG (aQ (.int 7919))))))) (aG (aQ (.int 11))))) (aG (aQ (.int 48271))))) (aG (aQ (.int 2147483647))))) (c7 (aY jc (aG (aY nD (aW 2) (aW 2))) (aG (aQ (.int 1999999973))))))
def Aa:FN:=fN 2 3 Ly
abbrev KH:FS:=(bU (fj 2 (mU (eG (aY yg (aW 1) (aG (tB 0)))) (Bb 0 (aW 1)) (aQ (.int 0)))) (c7 (jm (aL (aY nD (aG (dY Aj (dg (aW 2) eN))) (aG (dY Fi (dg (aG (aY Gb (aG (dY Aj (dg (aW 2) eN))) (aG (aY vg (aG (aQ (.int 10))) (aG (aQ (.int 18))))))) eN)))) (aL (aY cH (aW 2) (aG (aY nD (aG (aQ (.int 1000003))) (aW 1)))) (aL (aQ (.int 0)) bF))))))
def Ec:FN:=fN 2 3 KH
abbrev Ed:FS:=(bU (Ay 0 (aG (aQ (.int 2))) (aY cH (aG (o7 0 (aG (aQ (.int 2))))) (aG (aQ (.int 1))))) (bU (gU (eG (aY Ar (aG (o7 0 (aG (aQ (.int 0))))) (aG (aQ (.int 0))))) (bU (fj 2 (aY jc (aG (o7 0 (aG (aQ (.int 0))))) (aW 1))) (bU (Ay 0 (aG (aQ (.int 0))) (aY xJ (aG (o7 0 (aG (aQ (.int 0))))) (aW 1))) (xU 2))) iG) (c7 (aY jc (aG (aY xJ (aG (cu Aa (aL (cu Aa (aL (o7 0 (aG (aQ (.int 1)))) (aL (o7 0 (aG (aQ (.int 2)))) bF))) (aL (aY cH (aG (o7 0 (aG (aQ (.int 2))))) (aG (aQ (.int 64)))) bF)))) (aG (aQ (.int 64))))) (aW 1)))))
def dR:FN:=fN 2 3 Ed
abbrev Il:FS:=(bU (fj 8 (aY cg (aW 2) (aG (aY jc (aG (aY cH (aW 5) (aG (aY nD (aG (aQ (.int 7))) (aW 7))))) (aG (aQ (.int 26))))))) (p6 6 (aY cg (aG (jm (aL (aY cH (aG (aY cH (aG (jD (aW 3) j9 (jw (aW 4)))) (aW 8))) (aG (jD (aW 3) (jw (aW 4)) j9))) (aL (bA 8) bF)))) (aG (aY jc (aW 7) (aG (aQ (.int 2))))))))
abbrev QJ:FE:=(aY cg (aW 1) (aG (cu dR (aL (bA 2) (aL (aQ (.int 26)) bF)))))
abbrev JG:FS:=(bU (fj 2 (aQ (.str (aB "abcdefghijklmnopqrstuvwxyz")))) (bU (fj 3 (vz (aG (aQ (.str (aB "")))) (aG (j8 (pC (aG (aY cH (aG (aQ (.int 1))) (aG (cu dR (aL (bA 0) (aL (aQ (.int 7)) bF))))))) .one jo QJ [2,0])))) (bU (q9 [4,5,6] (nG (cu dR (aL (bA 0) (aL (aY cH (aG (dY jd (dg (aW 3) eN))) (aG (aQ (.int 1)))) bF))) (nG (cu dR (aL (bA 0) (aL (aQ (.int 26)) bF))) (nG (jm bF) bF)))) (bU (lu (pC (aW 1)) (gB 7) Il) (xU 6)))))
def Dt:FN:=fN 2 9 JG
abbrev LC:FS:=(c7 (aY cg (aG (jm (aL (aQ (.int 0)) (aL (aQ (.int 99999)) (aL (cu dR (aL (bA 0) (aL (aQ (.int 100000)) bF))) (aL (cu dR (aL (bA 0) (aL (aQ (.int 10)) bF))) bF)))))) (aG (cu dR (aL (bA 0) (aL (aQ (.int 4)) bF))))))
def Ab:FN:=fN 1 1 LC
abbrev JH:FS:=(c7 (aY cg (aG (jm (aL (aQ (.int 0)) (aL (aY vg (aG (aQ (.int 10))) (aG (aQ (.int 9)))) (aL (cu dR (aL (bA 0) (aL (aY cH (aG (aY vg (aG (aQ (.int 10))) (aG (aQ (.int 9))))) (aG (aQ (.int 1)))) bF))) (aL (cu dR (aL (bA 0) (aL (aQ (.int 100)) bF))) bF)))))) (aG (cu dR (aL (bA 0) (aL (aQ (.int 4)) bF))))))
def Du:FN:=fN 1 1 JH
abbrev Ji:FS:=(c7 (aY cg (aG (jm (aL (aQ (.int 0)) (aL (aQ (.int 999)) (aL (cu dR (aL (bA 0) (aL (aQ (.int 1000)) bF))) (aL (cu dR (aL (bA 0) (aL (aQ (.int 10)) bF))) bF)))))) (aG (cu dR (aL (bA 0) (aL (aQ (.int 4)) bF))))))
def Dk:FN:=fN 1 1 Ji
abbrev Im:FS:=(p6 2 (eZ (aL (aY cH (aG (aQ (.int 1))) (aG (cu dR (aL (bA 0) (aL (aQ (.int 9)) bF))))) (aL (aY cg (aG (aY cH (aW 1) (aG (jm (aL (aQ (.str (aB ""))) (aL (aQ (.str (aB ""))) (aL (aQ (.str (aB ""))) bF))))))) (aG (cu dR (aL (bA 0) (aL (aY cH (aG (dY jd (dg (aW 1) eN))) (aG (aQ (.int 3)))) bF))))) bF))))
abbrev JK:FS:=(bU (fj 2 (jm bF)) (bU (lu (pC (aG (cu dR (aL (bA 0) (aL (aQ (.int 7)) bF))))) (gB 3) Im) (c7 (dY sG (dg (aW 2) eN)))))
def Dv:FN:=fN 2 4 JK
abbrev Jj:FE:=(aY cg (aW 1) (aG (cu dR (aL (bA 2) (aL (dY jd (dg (aW 1) eN)) bF)))))
abbrev Vs:FS:=(bU (yh (j8 (pC (aG (aQ (.int 5)))) .one jo Jj [1,0]) (GK 5 (oK (gB 2) (oK (gB 3) (oK (gB 4) (oK (gB 5) (oK (gB 6) Ah))))))) (bU (q9 [7,8] (nG (cu Ab (aL (bA 0) bF)) (nG (cu Ab (aL (bA 0) bF)) bF))) (bU (q9 [9,10] (nG (cu Du (aL (bA 0) bF)) (nG (cu Dk (aL (bA 0) bF)) bF))) (bU (q9 [11,12] (nG (dY xM (dg (aW 7) (dg (aW 8) eN))) (nG (dY sV (dg (aW 7) (dg (aW 8) eN))) bF))) (bU (fj 13 (jm (aL (eZ (aL (aQ (.str (aB "part"))) (aL (bA 2) (aL (aY cg (aG (jm (aL (bA 3) (aL (aQ (.str (aB ""))) bF)))) (aG (aY jc (aW 10) (aG (aQ (.int 2)))))) bF)))) (aL (eZ (aL (aQ (.str (aB "rank"))) (aL (bA 2) (aL (aY cH (aG (aQ (.int 1))) (aG (aY jc (aW 10) (aG (aQ (.int 9)))))) (aL (bA 3) (aL (bA 11) (aL (bA 12) bF))))))) (aL (eZ (aL (aQ (.str (aB "endrank"))) (aL (bA 10) (aL (bA 7) bF)))) (aL (eZ (aL (aQ (.str (aB "undo"))) bF)) bF)))))) (bU (fj 14 (aY jc (aG (aY cH (aG (aY cH (aG (aY uR (aW 1) (aW 2))) (aG (aQ (.int 1))))) (aG (aY jc (aW 10) (aG (aY Fe (aG (dY jd (dg (aW 1) eN))) (aG (aQ (.int 1))))))))) (aG (dY jd (dg (aW 1) eN))))) (bU (p6 13 (eZ (aL (aQ (.str (aB "leave"))) (aL (bA 2) (aL (aY cg (aW 1) (aW 14)) (aL (bA 4) (aL (bA 11) (aL (bA 12) (aL (bA 9) bF))))))))) (bU (fj 13 (aY cH (aW 13) (aG (jm (aL (eZ (aL (aQ (.str (aB "endleave"))) (aL (bA 10) (aL (bA 7) bF)))) (aL (eZ (aL (aQ (.str (aB "back"))) (aL (bA 10) bF))) (aL (eZ (aL (aQ (.str (aB "again"))) (aL (bA 10) bF))) (aL (eZ (aL (aQ (.str (aB "rule"))) (aL (bA 2) (aL (bA 9) (aL (cu Dv (aL (bA 0) (aL (bA 1) bF))) bF))))) bF)))))))) (bU (fj 13 (aY cH (aW 13) (aG (jm (aL (eZ (aL (aQ (.str (aB "norule"))) (aL (bA 2) (aL (bA 9) bF)))) (aL (eZ (aL (aQ (.str (aB "paper"))) (aL (bA 2) (aL (bA 3) (aL (bA 9) (aL (bA 7) (aL (bA 5) (aL (bA 6) bF)))))))) (aL (eZ (aL (aQ (.str (aB "sign"))) (aL (bA 2) (aL (bA 3) (aL (bA 4) (aL (bA 7) bF)))))) bF))))))) (bU (fj 13 (aY cH (aW 13) (aG (jm (aL (eZ (aL (aQ (.str (aB "draw"))) (aL (bA 2) (aL (bA 10) (aL (bA 7) bF))))) (aL (eZ (aL (aQ (.str (aB "stands"))) (aL (bA 2) (aL (bA 7) bF)))) (aL (eZ (aL (aQ (.str (aB "standing"))) (aL (bA 7) bF))) (aL (eZ (aL (aQ (.str (aB "hands"))) (aL (bA 2) (aL (bA 7) bF)))) bF)))))))) (bU (fj 13 (aY cH (aW 13) (aG (jm (aL (eZ (aL (aQ (.str (aB "more"))) (aL (bA 2) (aL (bA 7) bF)))) (aL (eZ (aL (aQ (.str (aB "row"))) (aL (bA 2) (aL (bA 10) bF)))) (aL (eZ (aL (aQ (.str (aB "leans"))) (aL (bA 10) (aL (bA 7) bF)))) (aL (eZ (aL (aQ (.str (aB "splits"))) (aL (bA 9) (aL (dY sV (dg (aG (aQ (.int 1))) (dg (aW 10) eN))) bF)))) bF)))))))) (bU (p6 13 (eZ (aL (aQ (.str (aB "seats"))) (aL (bA 2) (aL (bA 9) bF))))) (c7 (aY cg (aW 13) (aG (cu dR (aL (bA 0) (aL (aQ (.int 21)) bF))))))))))))))))))
def Eu:FN:=fN 2 15 Vs
abbrev Iv:FE:=(aY cH (aG (dY uW (dg (aW 0) eN))) (aG (mU (eG (aY jL (aW 1) (aG (aQ (.str (aB "")))))) (aY cH (aG (aQ (.str (aB "/")))) (aW 1)) (aQ (.str (aB ""))))))
abbrev xF:FS:=(bU (gU (jM (aG (gW "tuple" (aW 0)))) (c7 (j8 (Gz (aW 0)) (.many 2) jo Iv [])) iG) (c7 (jm (aL (mU (eG (aY dX (aW 0) (aG (aQ (.str (aB "")))))) (aQ (.str (aB "-"))) (dY uW (dg (aW 0) eN))) bF))))
def Ef:FN:=fN 1 1 xF
abbrev zb:FS:=(Gh 1 (aG (cu Ef (aL (bA 2) bF))))
abbrev JL:FS:=(bU (fj 1 (jm bF)) (bU (lu (iV (bA 0)) (gB 2) zb) (xU 1)))
def Dw:FN:=fN 1 3 JL
abbrev Q4(KJ:FN):FE:=(cu KJ (aL (bA 0) (aL (bA 1) bF)))
abbrev xG(KJ:FN):FS:=(bU (gU (jM (aG (vq "list" "tuple" (aW 1)))) (bU (gU (mR (eG (aY jL (aG (gW "list" (aW 0))) (aG (gW "list" (aW 1))))) (eG (aY jL (aG (gW "tuple" (aW 0))) (aG (gW "tuple" (aW 1)))))) (c7 (aQ (.bool aF))) iG) (c7 (pX (aY dX (aG (dY jd (dg (aW 0) eN))) (aG (dY jd (dg (aW 1) eN)))) (dY qR (dg (aG (j8 (M6 (dg (aW 0) (dg (aW 1) eN))) (.many 2) jo (Q4 KJ) [])) eN))))) iG) (bU (gU (mR (eG (aY kZ (aW 1) (aG (aQ .none)))) (jM (aG (gW "str" (aW 1))))) (c7 (pX (aY dX (aW 0) (aW 1)) (aY dX (aG (gW "str" (aW 0))) (aG (gW "str" (aW 1)))))) iG) (c7 (pX (gW "int" (aW 0)) (pX (Ag (gW "bool" (aW 0))) (aY dX (aW 0) (aW 1)))))))
def qH:Nat->FN
 |0=>xY
 |n+1=>fN 2 2 (xG (qH n))
abbrev Io:FS:=(fj 2 (aY cH (aG (aY cH (aW 2) (aG (aY pR (aG (aQ (.str (aB " ")))) (aG (aY cH (aG (aQ (.int 1))) (aG (cu dR (aL (bA 0) (aL (aQ (.int 4)) bF)))))))))) (aW 3)))
abbrev JM:FS:=(bU (fj 2 (aY cH (aG (aY pR (aG (aQ (.str (aB " ")))) (aG (cu dR (aL (bA 0) (aL (aQ (.int 4)) bF)))))) (aG (aY cg (aW 1) (aG (aQ (.int 0))))))) (bU (lu (iV (jD (aW 1) (jw (aG (aQ (.int 1)))) j9)) (gB 3) Io) (c7 (aY cH (aW 2) (aG (aY pR (aG (aQ (.str (aB " ")))) (aG (cu dR (aL (bA 0) (aL (aQ (.int 4)) bF))))))))))
def Dy:FN:=fN 2 4 JM
abbrev Dz:FS:=(gU (lg (jM (aG (cu (qH 4) (aL (cu qx (aL (bA 6) bF)) (aL (bA 4) bF)))))) (c7 (aQ (.bool aF))) iG)
abbrev JN:FT:=(eG (aY uO (aW 1) (aG (jD (aW 2) j9 (jw (aW 0))))))
abbrev JP:FE:=(bA 1)
abbrev JQ:FS:=(bU (Az 2 (cu Ec (aL (bA 0) (aL (bA 1) bF)))) (bU (fj 3 (aY cH (aG (cu Dt (aL (bA 2) (aL (aQ (.int 6)) bF)))) (aG (jD (aG (jm (aL (aQ (.str (aB "part"))) (aL (aQ (.str (aB "rank"))) (aL (aQ (.str (aB "undo"))) (aL (aQ (.str (aB "zzzzzzzz"))) bF)))))) j9 (jw (aG (aY nD (aG (aQ (.int 4))) (aG (cu dR (aL (bA 2) (aL (aQ (.int 2)) bF))))))))))) (bU (fj 4 (cu Eu (aL (bA 2) (aL (j8 (Nb (aW 3)) (.many 2) JN JP [3]) bF)))) (bU (fj 5 (cu Dw (aL (bA 4) bF))) (bU (lu (iV (eZ (aL (vz (aG (aQ (.str (aB " ")))) (aW 5)) (aL (cu Dy (aL (bA 2) (aL (bA 5) bF))) (aL (vz (aG (aQ (.str (aB " ")))) (aW 5)) bF))))) (gB 6) Dz) (gU (mR (eG (aY jL (aG (cu qx (aL (aY pR (aG (aQ (.str (aB " ")))) (aG (cu dR (aL (bA 2) (aL (aQ (.int 161)) bF))))) bF))) (aG (eZ bF)))) (lg (jM (aG (gW "tuple" (aG (cu qx (aL (aQ (.str (aB ""))) bF)))))))) (c7 (aQ (.bool aF))) iG))))))
abbrev Mr:FS:=(bU (lu (pC (aG (dY sV (dg (aG (aQ (.int 6))) (dg (aG (dY xM (dg (aG (aQ (.int 60))) (dg (aG (tB 0)) eN)))) eN))))) (gB 1) JQ) (c7 (aQ (.bool au))))
def yc:FN:=fN 1 7 Mr
theorem aaQ{P:bI}{w:bC}{K:aJ}{mg:Str->Option aA}{base:bw}{cB cC cF:Tok}{f:aq}{fd:di}(F:fB K "is_name" "is_name" Dh f fd)(T:Txt w K mg cB cC cF):dI P w K mg base dN 1 f fd zaa (spT K uI):=
 iH (body:=Dj) F aaO λcdv A outer s H E hr=>(bZ (ju (PW.pt (sZ (pQ (mH (aK (nA aO (aZ (pv 0)) (lH (v:=.ty "str") rfl T.tL aM rfl) rfl T.kJ aM)))) (sU (pQ (Ld oJ oR oJ oR (aK (aV bJ)) (aK (jb oE oM rfl T.jC aM (dJ (aZ (pv 0)) fO))) (aK (aV (zJ (v:=toV (.int 8)) rfl T.ZL ⟨_,rfl⟩)))))))) (cQ (dF (aV u5))) jr) (cQ (dF (jb (Jq rfl) Lh rfl T.Ak aM (dJ (aK (vo (T:=.one) (NT:=(["sign"]:List Str)) (NF:=([]:List Str)) (js:=[]) (pZ.ok (N0:=zaa) (lW:=cY Dh) aM rfl rfl) (⟨_,⟨_,rfl⟩,rfl⟩) rfl (Gf (aZ (pv 0))) (λb=>⟨sE,(U8 oJ oR oJ oR (aK (aV bW)) (aZ (pv 0)) (aK (aV bW)))⟩))) fO)))))
theorem aav{P:bI}{w:bC}{K:aJ}{mg:Str->Option aA}{base:bw}{cB cC cF:Tok}{f:aq}{fd:di}(F:fB K "is_plain" "is_plain" CT f fd)(T:Txt w K mg cB cC cF):dI P w K mg base dN 1 f fd zaj (spT K CV):=
 iH (body:=wR) F aat λcdv A outer s H E hr=>(bZ (ju (PW.pt (sZ (pQ (Ld oJ oR oJ oR (aK (aV bJ)) (aK (jb oE oM rfl T.jC aM (dJ (aZ (pv 0)) fO))) (aK (aV (zJ (v:=toV (.int 10)) rfl T.ZK ⟨_,rfl⟩))))) (sU (pQ (mH (aK (jb (Jq rfl) Lh rfl T.Ak aM (dJ (aK (vo (T:=.one) (NT:=(["sign"]:List Str)) (NF:=([]:List Str)) (js:=[]) (pZ.ok (N0:=zaj) (lW:=cY CT) aM rfl rfl) (⟨_,⟨_,rfl⟩,rfl⟩) rfl (Gf (aZ (pv 0))) (λb=>⟨sE,(U8 oJ oR oJ oR (aK (aV bW)) (aZ (pv 0)) (aK (aV bW)))⟩))) fO)))))))) (cQ (dF (aV u5))) jr) (cQ (dF (VP (qJ (nu hr.units) nF (aZ (pv 0)) (aK (aV bW)) (gk _)) (zW (qJ (uU hr.units) vh (aK (iC (iw hr.gm) iD (aZ (pv 0)) (aK (aV bJ)) (λ_ _=>rfl))) (aK (aV bW)) (gk _)))))))
theorem ZM{P:bI}{w:bC}{K:aJ}{mg:Str->Option aA}{base:bw}{cB cC cF:Tok}{f:aq}{fd:di}(F:fB K "read_number" "read_number" HX f fd)(T:Txt w K mg cB cC cF)(Iw:dh P w K mg base "is_plain" 1 zaj (spT K CV)):dI P w K mg base dN 2 f fd zai (spT K uB):=
 iH (body:=yU) F HQ λcdv A outer s H E hr=>(bZ (ju (pQ (mH (aK (cJ Iw (hr.mono aO) rfl (aN (bD (pv 1)) bH))))) (cQ (dF (aV lM))) jr) (bZ (adJ (is:=[2,3]) (Vk T.abt rfl (aZ (pv 0)) (λ_ _=>rfl)) (Uz rfl (pL (jT (i:=2) HQ.nd rfl (dz rfl)) (pL (jT (i:=3) HQ.nd rfl (dz rfl)) J1)))) (cQ (dF (tu (Ld oJ oR oJ oR (aZ (pv 2)) (aK (rW Ru Ui rfl T.xZ aM (dJ (aZ (pv 1)) fO))) (aZ (pv 3))) (rW Ru Ui rfl T.xZ aM (dJ (aZ (pv 1)) fO)) (aV lM))))))
theorem aaf{P:bI}{w:bC}{K:aJ}{mg:Str->Option aA}{base:bw}{cB cC cF:Tok}{f:aq}{fd:di}(n:Nat)(F:fB K "read_word" "read_word" Cr f fd)(T:Txt w K mg cB cC cF)(qy:dh P w K mg base "is_name" 1 zaa (spT K uI))(ql:dh P w K mg base "read_number" 2 zai (spT K uB))(zf:dh P w K mg base "read_word" (n+2) zai (spT K (m9 n))):dI P w K mg base dN (n+2+1) f fd zai (spT K (m9 (n+1))):=
 iH (body:=pI (m9 n)) F aac λcdv A outer s H E hr=>(bZ (ju (iy (nu hr.units) nF (aZ (pv 0)) (aK (aV bW)) (gk _)) (cQ (dF (tu (mH (aK (cJ qy (hr.mono aP) rfl (aN (bD (pv 1)) bH)))) (bD (pv 1)) (aV lM)))) jr) (bZ (ju (iy (nu hr.units) nF (aZ (pv 0)) (aK (aV bW)) (gk _)) (cQ (dF (tu (iy (nu hr.units) nF (aZ (pv 1)) (aK (aV bW)) (gk _)) (aV bW) (cJ zf hr rfl (aN (aV bW) (aN (bD (pv 1)) bH)))))) jr) (cQ (dF (cJ ql (hr.mono aP) rfl (aN (bD (pv 0)) (aN (bD (pv 1)) bH)))))))
theorem Ql{P:bI}{w:bC}{K:aJ}{mg:Str->Option aA}{base:bw}{cB cC cF:Tok}{f:aq}{fd:di}(hm:mg "read_word"=aa (.ref f))(hk:ur K (.ref f)=au)(hb:Binds K fd zai [])(F:fB K "read_word" "read_word" Cr f fd)(T:Txt w K mg cB cC cF)(qy:dh P w K mg base "is_name" 1 zaa (spT K uI))(ql:dh P w K mg base "read_number" 2 zai (spT K uB)):
  ∀n,dh P w K mg base "read_word" (n+2) zai (spT K (m9 n))
 |0=>⟨f,fd,hm,hk,hb,acp⟩
 |n+1=>⟨f,fd,hm,hk,hb,aaf n F T qy ql (Ql hm hk hb F T qy ql n)⟩
theorem Z1{P:bI}{w:bC}{K:aJ}{mg:Str->Option aA}{base:bw}{cB cC cF:Tok}{f:aq}{fd:di}(F:fB K "read_words" "read_words" Ck f fd)(T:Txt w K mg cB cC cF)(zf:dh P w K mg base "read_word" 4 zai (spT K (m9 2))):dI P w K mg base dN 5 f fd zah (spT K Cm):=
 iH (body:=yX) F Qk λcdv A outer s H E hr=>(bZ (Jv (i:=2) (T:=(.many 2)) (NT:=zai) (NF:=([]:List Str)) (js:=[]) (pZ.ok (N0:=zag) (lW:=cY Ck) aM rfl rfl) (⟨_,_,_,rfl,(.cons ⟨_,rfl⟩ (.cons ⟨_,rfl⟩ .nil)),rfl⟩) rfl (adN rfl T.Fy (pv 0) (aZ (pv 1))) (λb=>⟨sE,(cJ zf (hr.mono aO) rfl (aN (bD (pv 0)) (aN (bD (pv 1)) bH)))⟩) (by rfl) Qk.nd rfl rfl) (cQ (dF (tu (PW.pt (sZ (iy (QX hr.UJ) VL (aK (jb oE oM rfl T.jC aM (dJ (aZ (pv 2)) fO))) (aK (Ks (pv 0) rfl T.jC aM)) (gk _)) (sU (iy (aeT hr.gm) af7 (aK (aV lM)) (aZ (pv 2)) (by with_unfolding_all rfl))))) (aV lM) (rW HS Jx rfl T.pN aM (dJ (aZ (pv 2)) fO))))))
theorem aag{P:bI}{w:bC}{K:aJ}{mg:Str->Option aA}{base:bw}{cB cC cF:Tok}{f:aq}{fd:di}(F:fB K "read_seat" "read_seat" Ij f fd)(T:Txt w K mg cB cC cF)(qy:dh P w K mg base "is_name" 1 zaa (spT K uI))(ql:dh P w K mg base "read_number" 2 zai (spT K uB)):dI P w K mg base dN 3 f fd zaj (spT K Cu):=
 iH (body:=wK) F yW λcdv A outer s H E hr=>(bZ (Va (adQ (aZ (pv 0)) (aK (aV bW))) (Uz rfl (pL (jT (i:=1) yW.nd rfl (dz rfl)) (pL (jT (i:=2) yW.nd rfl (dz rfl)) (pL (jT (i:=3) yW.nd rfl (dz rfl)) J1)))) (aeW (rY lJ (rY lJ (rY lJ TV))))) (bZ (ie (i:=4) yW.nd rfl (dz rfl) (cJ ql (hr.mono aO) rfl (aN (aV bW) (aN (bD (pv 1)) bH)))) (bZ (ju (PW.pt (sZ (iy K4 La (aZ (pv 4)) (aK (aV lM)) (gk _)) (sU (PW.pt (Lb (iy (uU hr.units) vh (aZ (pv 2)) (aK (aV bW)) (gk _)) (Kd (pQ (mH (aK (cJ qy (hr.mono aO) rfl (aN (bD (pv 3)) bH))))))))))) (cQ (dF (aV lM))) jr) (cQ (dF (fW (aN (bD (pv 4)) (aN (bD (pv 3)) bH))))))))
theorem aah{P:bI}{w:bC}{K:aJ}{mg:Str->Option aA}{base:bw}{cB cC cF:Tok}{f:aq}{fd:di}(F:fB K "read_rule" "read_rule" Cq f fd)(T:Txt w K mg cB cC cF)(Ip:dh P w K mg base "read_seat" 3 zaj (spT K Cu)):dI P w K mg base dN 4 f fd zae (spT K Cv):=
 iH (body:=za) F Qx λcdv A outer s H E hr=>(bZ (Jv (i:=2) (T:=.one) (NT:=zaj) (NF:=([]:List Str)) (js:=[]) (pZ.ok (N0:=zad) (lW:=cY Cq) aM rfl rfl) (⟨_,⟨_,rfl⟩,rfl⟩) rfl (Gf (aZ (pv 1))) (λb=>⟨sE,(cJ Ip (hr.mono aO) rfl (aN (bD (pv 0)) bH))⟩) (by rfl) Qx.nd rfl rfl) (bZ (ju (PW.pt (sZ (iy Vz VM (aK (jb oE oM rfl T.jC aM (dJ (aZ (pv 2)) fO))) (aK (aV (zJ (v:=toV (.int 6)) rfl T.aad ⟨_,rfl⟩))) (gk _)) (sU (iy (afl hr) afm (aK (aV lM)) (aZ (pv 2)) (by with_unfolding_all rfl))))) (cQ (dF (aV lM))) jr) (cQ (dF (bY eV eX (aK (bY eV eX (aK (fW (aN (aV bW) bH))) (aZ (pv 0)))) (aK (fW (aN (rW HS Jx rfl T.pN aM (dJ (aZ (pv 2)) fO)) bH))))))))
theorem Zn{P:bI}{w:bC}{K:aJ}{mg:Str->Option aA}{base:bw}{cB cC cF:Tok}{f:aq}{fd:di}(F:fB K "fits_together" "fits_together" HD f fd)(T:Txt w K mg cB cC cF):dI P w K mg base dN 1 f fd zaf (spT K BX):=
 iH (body:=wA) F Zm λcdv A outer s H E hr=>(bZ (ju (PW.pt (Lb (iy (nu hr.units) nF (aK (iC (iw hr.gm) iD (aZ (pv 0)) (aK (aV bJ)) (λ_ _=>rfl))) (aK (aV bW)) (gk _)) (Kd (iy (nu hr.units) nF (aK (iC (iw hr.gm) iD (aZ (pv 0)) (aK (aV bJ)) (λ_ _=>rfl))) (aK (iC (iw hr.gm) iD (aZ (pv 0)) (aK (aV bJ)) (λ_ _=>rfl))) (gk _))))) (cQ (dF (aV u5))) jr) (cQ (dF (VP (qJ (Rm hr.gm) R0 (aK (iC (iw hr.gm) iD (aZ (pv 0)) (aK (aV bJ)) (λ_ _=>rfl))) (aK (fW (aN (aV bW) (aN (aV bW) bH)))) (by with_unfolding_all rfl)) (zW (qJ oJ oR (aK (iC (iw hr.gm) iD (aZ (pv 0)) (aK (aV bJ)) (λ_ _=>rfl))) (aK (iC (iw hr.gm) iD (aZ (pv 0)) (aK (aV bJ)) (λ_ _=>rfl))) (gk _)))))))
theorem aaw{P:bI}{w:bC}{K:aJ}{mg:Str->Option aA}{base:bw}{cB cC cF:Tok}{f:aq}{fd:di}(F:fB K "read_row" "read_row" CQ f fd)(T:Txt w K mg cB cC cF)(Ig:dh P w K mg base "read_words" 5 zah (spT K Cm))(Ir:dh P w K mg base "read_rule" 4 zae (spT K Cv))(HF:dh P w K mg base "fits_together" 1 zaf (spT K BX)):dI P w K mg base dN 6 f fd zac (spT K qx):=
 iH (body:=rT) F wJ λcdv A outer s H E hr=>(bZ (Jv (i:=1) (T:=.one) (NT:=zaj) (NF:=([]:List Str)) (js:=[]) (pZ.ok (N0:=zab) (lW:=cY CQ) aM rfl rfl) (⟨_,⟨_,rfl⟩,rfl⟩) rfl (Gf (aK (acg (aZ (pv 0)) (aK (aV bW))))) (λb=>⟨(T6 (iy (uU hr.units) vh (aZ (pv 0)) (aK (aV bW)) (gk _))),(bD (pv 0))⟩) (by rfl) wJ.nd rfl rfl) (bZ (ju (pQ (mH (aZ (pv 1)))) (cQ (dF (fW bH))) jr) (bZ (ju (afn T.Um rfl (aK (iC (iw hr.gm) iD (aZ (pv 1)) (aK (aV bJ)) (λ_ _=>rfl)))) (cQ (dF (aV lM))) jr) (bZ (ie (i:=2) wJ.nd rfl (dz rfl) (Vk T.Um rfl (aK (iC (iw hr.gm) iD (aZ (pv 1)) (aK (aV bJ)) (λ_ _=>rfl))) (λ_ _=>rfl))) (bZ (ie (i:=3) wJ.nd rfl (dz rfl) (cJ Ig (hr.mono aO) rfl (aN (bD (pv 2)) (aN (vA (aZ (pv 1)) (tD (aK (aV bJ))) (tD (aK (bY eV eX (aK (Ks (pv 2) rfl T.jC aM)) (aK (aV bJ)))))) bH)))) (bZ (ie (i:=4) wJ.nd rfl (dz rfl) (vA (aZ (pv 1)) (tD (aK (bY eV eX (aK (Ks (pv 2) rfl T.jC aM)) (aK (aV bJ))))) xX)) (bZ (ju (iy K4 La (aZ (pv 3)) (aK (aV lM)) (gk _)) (cQ (dF (aV lM))) jr) (bZ (ju (iy (nu hr.units) nF (aK (iC (iw hr.gm) iD (aZ (pv 1)) (aK (aV bJ)) (λ_ _=>rfl))) (aK (aV bW)) (gk _)) (cQ (dF (cJ Ir (hr.mono aO) rfl (aN (bD (pv 3)) (aN (bD (pv 4)) bH))))) jr) (bZ (ie (i:=5) wJ.nd rfl (dz rfl) (bY eV eX (aK (fW (aN (iC (iw hr.gm) iD (aZ (pv 1)) (aK (aV bJ)) (λ_ _=>rfl)) bH))) (aZ (pv 3)))) (cQ (dF (tu (PW.pt (Lb (pQ (mH (aZ (pv 4)))) (Kd (mH (aK (cJ HF (hr.mono aO) rfl (aN (bD (pv 5)) bH))))))) (bD (pv 5)) (aV lM)))))))))))))
theorem adT{P:bI}{w:bC}{K:aJ}{mg:Str->Option aA}{base:bw}{cB cC cF:Tok}{f:aq}{fd:di}(F:fB K "_law_mix" "_law_mix" Ls f fd)(T:Txt w K mg cB cC cF):dI P w K mg base dN 1 f fd zak (spT K Aa):=
 iH (body:=Ly) F Ul λcdv A outer s H E hr=>(bZ (ie (i:=2) Ul.nd rfl (dz rfl) (bY oG oH (aK (bY sJ sS (aK (bY eV eX (aK (bY eV eX (aK (bY oG oH (aZ (pv 0)) (aK (aV bJ)))) (aK (bY sJ sS (aK (bY sJ sS (aZ (pv 1)) (aZ (pv 1)))) (aK (aV bJ)))))) (aK (aV bJ)))) (aK (aV bJ)))) (aK (aV bJ)))) (cQ (dF (bY oG oH (aK (bY sJ sS (aZ (pv 2)) (aZ (pv 2)))) (aK (aV bJ))))))
theorem acu{P:bI}{w:bC}{K:aJ}{mg:Str->Option aA}{base:bw}{cB cC cF:Tok}{f:aq}{fd:di}(F:fB K "_law_left" "_law_left" KC f fd)(T:Txt w K mg cB cC cF):dI P w K mg base dN 1 f fd zal (spT K Ec):=
 iH (body:=KH) F Sy λcdv A outer s H E hr=>(bZ (ie (i:=2) Sy.nd rfl (dz rfl) (tu (iy (QX hr.UJ) VL (aZ (pv 1)) (aK (T8 (pv 0) rfl T.jC aM)) (gk _)) (ae1 (pv 0) (aZ (pv 1)) (λ_ _=>rfl)) (aV bJ))) (cQ (dF (jG (aN (bY sJ sS (aK (jb RG Vf rfl T.Fw aM (dJ (aZ (pv 2)) fO))) (aK (rW aa3 ae2 rfl T.xZ aM (dJ (aK (qJ afT af5 (aK (jb RG Vf rfl T.Fw aM (dJ (aZ (pv 2)) fO))) (aK (bY K1 K9 (aK (aV bJ)) (aK (aV bJ)))) (gk _))) fO)))) (aN (bY eV eX (aZ (pv 2)) (aK (bY sJ sS (aK (aV bJ)) (aZ (pv 1))))) (aN (aV bJ) bH)))))))
theorem acv{P:bI}{w:bC}{K:aJ}{mg:Str->Option aA}{base:bw}{cB cC cF:Tok}{f:aq}{fd:di}(F:fB K "_law_pick" "_law_pick" KD f fd)(T:Txt w K mg cB cC cF)(Ew:dh P w K mg base "_law_mix" 1 zak (spT K Aa)):dI P w K mg base dN 2 f fd zam (spT K dR):=
 iH (body:=Ed) F SJ λcdv A outer s H E hr=>(bZ (Vc hr.gm (pv 0) (aK (aV bJ)) (bY eV eX (aK (uV (pv 0) (aK (aV bJ)) (λ_ _=>rfl))) (aK (aV bJ)))) (bZ (ju (iy Vz VM (aK (uV (pv 0) (aK (aV bJ)) (λ_ _=>rfl))) (aK (aV bJ)) (gk _)) (bZ (ie (i:=2) SJ.nd rfl (dz rfl) (bY oG oH (aK (uV (pv 0) (aK (aV bJ)) (λ_ _=>rfl))) (aZ (pv 1)))) (bZ (Vc hr.gm (pv 0) (aK (aV bJ)) (bY Te Tw (aK (uV (pv 0) (aK (aV bJ)) (λ_ _=>rfl))) (aZ (pv 1)))) (cQ (Kf (pv 2))))) jr) (cQ (dF (bY oG oH (aK (bY Te Tw (aK (cJ Ew (hr.mono aO) rfl (aN (cJ Ew (hr.mono aO) rfl (aN (uV (pv 0) (aK (aV bJ)) (λ_ _=>rfl)) (aN (uV (pv 0) (aK (aV bJ)) (λ_ _=>rfl)) bH))) (aN (bY eV eX (aK (uV (pv 0) (aK (aV bJ)) (λ_ _=>rfl))) (aK (aV bJ))) bH)))) (aK (aV bJ)))) (aZ (pv 1)))))))
theorem abu{P:bI}{w:bC}{K:aJ}{mg:Str->Option aA}{base:bw}{cB cC cF:Tok}{f:aq}{fd:di}(F:fB K "_law_names" "_law_names" Ds f fd)(T:Txt w K mg cB cC cF)(dD:dh P w K mg base "_law_pick" 2 zam (spT K dR)):dI P w K mg base dN 3 f fd zam (spT K Dt):=
 iH (body:=JG) F wV λcdv A outer s H E hr=>(bZ (ie (i:=2) wV.nd rfl (Ei rfl) (aV bW)) (bZ (ie (i:=3) wV.nd rfl (dz rfl) (Kp (aK (aV bW)) (aK (vo (T:=.one) (NT:=(["_law_k"]:List Str)) (NF:=(["_law_letters","_law_left_here"]:List Str)) (js:=[2,0]) (pZ.ok (N0:=zan) (lW:=cY Ds) aM rfl rfl) (⟨_,⟨_,rfl⟩,rfl⟩) rfl (zF rfl T.uT (aK (bY eV eX (aK (aV bJ)) (aK (cJ dD (hr.mono aO) rfl (aN (bD (pv 0)) (aN (aV bJ) bH))))))) (λb=>⟨sE,(iC (iw hr.gm) iD (aZ (pv 1)) (aK (cJ dD (hr.mono aO) rfl (aN (bD (pv 2)) (aN (aV bJ) bH)))) (λ_ _=>rfl))⟩))))) (bZ (adF (i:=4) (j:=5) (k:=6) rfl wV.nd rfl rfl rfl aO aO aO rfl rfl rfl (qF (cJ dD (hr.mono aO) rfl (aN (bD (pv 0)) (aN (bY eV eX (aK (jb oE oM rfl T.jC aM (dJ (aZ (pv 3)) fO))) (aK (aV bJ))) bH))) (qF (cJ dD (hr.mono aO) rfl (aN (bD (pv 0)) (aN (aV bJ) bH))) (qF (jG bH) El))) rfl) (bZ (xK yN rfl (zF rfl T.uT (aZ (pv 1))) (jT (i:=7) wV.nd rfl (dz rfl)) lJ (bZ (ie (i:=8) wV.nd rfl (dz rfl) (iC (iw hr.gm) iD (aZ (pv 2)) (aK (bY oG oH (aK (bY eV eX (aZ (pv 5)) (aK (bY sJ sS (aK (aV bJ)) (aZ (pv 7)))))) (aK (aV bJ)))) (λ_ _=>rfl))) (cQ (Em (pv 6) (iC (iw hr.gm) iD (aK (jG (aN (bY eV eX (aK (bY eV eX (aK (vA (aZ (pv 3)) xX (tD (aZ (pv 4))))) (aZ (pv 8)))) (aK (vA (aZ (pv 3)) (tD (aZ (pv 4))) xX))) (aN (bD (pv 8)) bH)))) (aK (bY oG oH (aZ (pv 7)) (aK (aV bJ)))) (λ_ _=>rfl)))))) (cQ (Kf (pv 6)))))))
theorem adU{P:bI}{w:bC}{K:aJ}{mg:Str->Option aA}{base:bw}{cB cC cF:Tok}{f:aq}{fd:di}(F:fB K "_law_day" "_law_day" Lw f fd)(T:Txt w K mg cB cC cF)(dD:dh P w K mg base "_law_pick" 2 zam (spT K dR)):dI P w K mg base dN 3 f fd zao (spT K Ab):=
 iH (body:=LC) F adS λcdv A outer s H E hr=>(cQ (dF (iC (iw hr.gm) iD (aK (jG (aN (aV bJ) (aN (aV bJ) (aN (cJ dD (hr.mono aO) rfl (aN (bD (pv 0)) (aN (aV bJ) bH))) (aN (cJ dD (hr.mono aO) rfl (aN (bD (pv 0)) (aN (aV bJ) bH))) bH)))))) (aK (cJ dD (hr.mono aO) rfl (aN (bD (pv 0)) (aN (aV bJ) bH)))) (λ_ _=>rfl))))
theorem abv{P:bI}{w:bC}{K:aJ}{mg:Str->Option aA}{base:bw}{cB cC cF:Tok}{f:aq}{fd:di}(F:fB K "_law_total" "_law_total" JB f fd)(T:Txt w K mg cB cC cF)(dD:dh P w K mg base "_law_pick" 2 zam (spT K dR)):dI P w K mg base dN 3 f fd zao (spT K Du):=
 iH (body:=JH) F abr λcdv A outer s H E hr=>(cQ (dF (iC (iw hr.gm) iD (aK (jG (aN (aV bJ) (aN (bY K1 K9 (aK (aV bJ)) (aK (aV bJ))) (aN (cJ dD (hr.mono aO) rfl (aN (bD (pv 0)) (aN (bY eV eX (aK (bY K1 K9 (aK (aV bJ)) (aK (aV bJ)))) (aK (aV bJ))) bH))) (aN (cJ dD (hr.mono aO) rfl (aN (bD (pv 0)) (aN (aV bJ) bH))) bH)))))) (aK (cJ dD (hr.mono aO) rfl (aN (bD (pv 0)) (aN (aV bJ) bH)))) (λ_ _=>rfl))))
theorem aaR{P:bI}{w:bC}{K:aJ}{mg:Str->Option aA}{base:bw}{cB cC cF:Tok}{f:aq}{fd:di}(F:fB K "_law_number" "_law_number" Jf f fd)(T:Txt w K mg cB cC cF)(dD:dh P w K mg base "_law_pick" 2 zam (spT K dR)):dI P w K mg base dN 3 f fd zao (spT K Dk):=
 iH (body:=Ji) F aaP λcdv A outer s H E hr=>(cQ (dF (iC (iw hr.gm) iD (aK (jG (aN (aV bJ) (aN (aV bJ) (aN (cJ dD (hr.mono aO) rfl (aN (bD (pv 0)) (aN (aV bJ) bH))) (aN (cJ dD (hr.mono aO) rfl (aN (bD (pv 0)) (aN (aV bJ) bH))) bH)))))) (aK (cJ dD (hr.mono aO) rfl (aN (bD (pv 0)) (aN (aV bJ) bH)))) (λ_ _=>rfl))))
theorem abw{P:bI}{w:bC}{K:aJ}{mg:Str->Option aA}{base:bw}{cB cC cF:Tok}{f:aq}{fd:di}(F:fB K "_law_seats" "_law_seats" JC f fd)(T:Txt w K mg cB cC cF)(dD:dh P w K mg base "_law_pick" 2 zam (spT K dR)):dI P w K mg base dN 3 f fd zap (spT K Dv):=
 iH (body:=JK) F Jg λcdv A outer s H E hr=>(bZ (ie (i:=2) Jg.nd rfl (dz rfl) (jG bH)) (bZ (xK yN rfl (zF rfl T.uT (aK (cJ dD (hr.mono aO) rfl (aN (bD (pv 0)) (aN (aV bJ) bH))))) (jT (i:=3) Jg.nd rfl (dz rfl)) lJ (cQ (Em (pv 2) (fW (aN (bY eV eX (aK (aV bJ)) (aK (cJ dD (hr.mono aO) rfl (aN (bD (pv 0)) (aN (aV bJ) bH))))) (aN (iC (iw hr.gm) iD (aK (bY eV eX (aZ (pv 1)) (aK (jG (aN (aV bW) (aN (aV bW) (aN (aV bW) bH))))))) (aK (cJ dD (hr.mono aO) rfl (aN (bD (pv 0)) (aN (bY eV eX (aK (jb oE oM rfl T.jC aM (dJ (aZ (pv 1)) fO))) (aK (aV bJ))) bH)))) (λ_ _=>rfl)) bH)))))) (cQ (dF (rW HS Jx rfl T.pN aM (dJ (aZ (pv 2)) fO))))))
theorem adV{P:bI}{w:bC}{K:aJ}{mg:Str->Option aA}{base:bw}{cB cC cF:Tok}{f:aq}{fd:di}(F:fB K "_law_row" "_law_row" Et f fd)(T:Txt w K mg cB cC cF)(dD:dh P w K mg base "_law_pick" 2 zam (spT K dR))(Ex:dh P w K mg base "_law_day" 3 zao (spT K Ab))(JR:dh P w K mg base "_law_total" 3 zao (spT K Du))(Jk:dh P w K mg base "_law_number" 3 zao (spT K Dk))(JS:dh P w K mg base "_law_seats" 3 zap (spT K Dv)):dI P w K mg base dN 4 f fd zap (spT K Eu):=
 iH (body:=Vs) F kW λcdv A outer s H E hr=>(bZ (Va (vo (T:=.one) (NT:=(["_law_turn"]:List Str)) (NF:=(["_law_names_here","_law_left_here"]:List Str)) (js:=[1,0]) (pZ.ok (N0:=zaq) (lW:=cY Et) aM rfl rfl) (⟨_,⟨_,rfl⟩,rfl⟩) rfl (zF rfl T.uT (aK (aV bJ))) (λb=>⟨sE,(iC (iw hr.gm) iD (aZ (pv 1)) (aK (cJ dD (hr.mono aO) rfl (aN (bD (pv 2)) (aN (jb oE oM rfl T.jC aM (dJ (aZ (pv 1)) fO)) bH)))) (λ_ _=>rfl))⟩)) (afe rfl (pL (jT (i:=2) kW.nd rfl (dz rfl)) (pL (jT (i:=3) kW.nd rfl (dz rfl)) (pL (jT (i:=4) kW.nd rfl (dz rfl)) (pL (jT (i:=5) kW.nd rfl (dz rfl)) (pL (jT (i:=6) kW.nd rfl (dz rfl)) J1)))))) (afg (rY lJ (rY lJ (rY lJ (rY lJ (rY lJ TV))))))) (bZ (Le (i:=7) (j:=8) rfl kW.nd rfl rfl aO rfl rfl (qF (cJ Ex (hr.mono aO) rfl (aN (bD (pv 0)) bH)) (qF (cJ Ex (hr.mono aO) rfl (aN (bD (pv 0)) bH)) El)) rfl) (bZ (Le (i:=9) (j:=10) rfl kW.nd rfl rfl aO rfl rfl (qF (cJ JR (hr.mono aO) rfl (aN (bD (pv 0)) bH)) (qF (cJ Jk (hr.mono aO) rfl (aN (bD (pv 0)) bH)) El)) rfl) (bZ (Le (i:=11) (j:=12) rfl kW.nd rfl rfl aO rfl rfl (qF (jb (Q9 rfl) T9 rfl T.Fx aM (dJ (aZ (pv 7)) (dJ (aZ (pv 8)) fO))) (qF (jb (IV rfl) Ko rfl T.Al aM (dJ (aZ (pv 7)) (dJ (aZ (pv 8)) fO))) El)) rfl) (bZ (ie (i:=13) kW.nd rfl (dz rfl) (jG (aN (fW (aN (aV bW) (aN (bD (pv 2)) (aN (iC (iw hr.gm) iD (aK (jG (aN (bD (pv 3)) (aN (aV bW) bH)))) (aK (bY oG oH (aZ (pv 10)) (aK (aV bJ)))) (λ_ _=>rfl)) bH)))) (aN (fW (aN (aV bW) (aN (bD (pv 2)) (aN (bY eV eX (aK (aV bJ)) (aK (bY oG oH (aZ (pv 10)) (aK (aV bJ))))) (aN (bD (pv 3)) (aN (bD (pv 11)) (aN (bD (pv 12)) bH))))))) (aN (fW (aN (aV bW) (aN (bD (pv 10)) (aN (bD (pv 7)) bH)))) (aN (fW (aN (aV bW) bH)) bH)))))) (bZ (ie (i:=14) kW.nd rfl (dz rfl) (bY oG oH (aK (bY eV eX (aK (bY eV eX (aK (acn (aZ (pv 1)) (aZ (pv 2)))) (aK (aV bJ)))) (aK (bY oG oH (aZ (pv 10)) (aK (bY aey aeQ (aK (jb oE oM rfl T.jC aM (dJ (aZ (pv 1)) fO))) (aK (aV bJ)))))))) (aK (jb oE oM rfl T.jC aM (dJ (aZ (pv 1)) fO))))) (bZ (Em (pv 13) (fW (aN (aV bW) (aN (bD (pv 2)) (aN (iC (iw hr.gm) iD (aZ (pv 1)) (aZ (pv 14)) (λ_ _=>rfl)) (aN (bD (pv 4)) (aN (bD (pv 11)) (aN (bD (pv 12)) (aN (bD (pv 9)) bH))))))))) (bZ (ie (i:=13) kW.nd rfl (dz rfl) (bY eV eX (aZ (pv 13)) (aK (jG (aN (fW (aN (aV bW) (aN (bD (pv 10)) (aN (bD (pv 7)) bH)))) (aN (fW (aN (aV bW) (aN (bD (pv 10)) bH))) (aN (fW (aN (aV bW) (aN (bD (pv 10)) bH))) (aN (fW (aN (aV bW) (aN (bD (pv 2)) (aN (bD (pv 9)) (aN (cJ JS (hr.mono aO) rfl (aN (bD (pv 0)) (aN (bD (pv 1)) bH))) bH))))) bH)))))))) (bZ (ie (i:=13) kW.nd rfl (dz rfl) (bY eV eX (aZ (pv 13)) (aK (jG (aN (fW (aN (aV bW) (aN (bD (pv 2)) (aN (bD (pv 9)) bH)))) (aN (fW (aN (aV bW) (aN (bD (pv 2)) (aN (bD (pv 3)) (aN (bD (pv 9)) (aN (bD (pv 7)) (aN (bD (pv 5)) (aN (bD (pv 6)) bH)))))))) (aN (fW (aN (aV bW) (aN (bD (pv 2)) (aN (bD (pv 3)) (aN (bD (pv 4)) (aN (bD (pv 7)) bH)))))) bH))))))) (bZ (ie (i:=13) kW.nd rfl (dz rfl) (bY eV eX (aZ (pv 13)) (aK (jG (aN (fW (aN (aV bW) (aN (bD (pv 2)) (aN (bD (pv 10)) (aN (bD (pv 7)) bH))))) (aN (fW (aN (aV bW) (aN (bD (pv 2)) (aN (bD (pv 7)) bH)))) (aN (fW (aN (aV bW) (aN (bD (pv 7)) bH))) (aN (fW (aN (aV bW) (aN (bD (pv 2)) (aN (bD (pv 7)) bH)))) bH)))))))) (bZ (ie (i:=13) kW.nd rfl (dz rfl) (bY eV eX (aZ (pv 13)) (aK (jG (aN (fW (aN (aV bW) (aN (bD (pv 2)) (aN (bD (pv 7)) bH)))) (aN (fW (aN (aV bW) (aN (bD (pv 2)) (aN (bD (pv 10)) bH)))) (aN (fW (aN (aV bW) (aN (bD (pv 10)) (aN (bD (pv 7)) bH)))) (aN (fW (aN (aV bW) (aN (bD (pv 9)) (aN (jb (IV rfl) Ko rfl T.Al aM (dJ (aK (aV bJ)) (dJ (aZ (pv 10)) fO))) bH)))) bH)))))))) (bZ (Em (pv 13) (fW (aN (aV bW) (aN (bD (pv 2)) (aN (bD (pv 9)) bH))))) (cQ (dF (iC (iw hr.gm) iD (aZ (pv 13)) (aK (cJ dD (hr.mono aO) rfl (aN (bD (pv 0)) (aN (aV bJ) bH)))) (λ_ _=>rfl))))))))))))))))
theorem acw{P:bI}{w:bC}{K:aJ}{mg:Str->Option aA}{base:bw}{cB cC cF:Tok}{f:aq}{fd:di}(F:fB K "_law_word" "_law_word" Eb f fd)(T:Txt w K mg cB cC cF):dI P w K mg base dN 1 f fd zar (spT K Ef):=
 iH (body:=xF) F acr λcdv A outer s H E hr=>(bZ (ju (mH (aK (nA aO (aZ (pv 0)) (lH (v:=.ty "tuple") rfl T.pN aM rfl) rfl T.kJ aM))) (cQ (dF (vo (T:=(.many 2)) (NT:=(["_law_rank","_law_part"]:List Str)) (NF:=([]:List Str)) (js:=[]) (pZ.ok (N0:=zar) (lW:=cY Eb) aM rfl rfl) (⟨_,_,_,rfl,(.cons ⟨_,rfl⟩ (.cons ⟨_,rfl⟩ .nil)),rfl⟩) rfl (af9 (aZ (pv 0))) (λb=>⟨sE,(bY eV eX (aK (rW (Rr hr.gd hr.units) Ud rfl T.tL aM (dJ (aZ (pv 0)) fO))) (aK (tu (iy (uU hr.units) vh (aZ (pv 1)) (aK (aV bW)) (gk _)) (bY eV eX (aK (aV bW)) (aZ (pv 1))) (aV bW))))⟩)))) jr) (cQ (dF (jG (aN (tu (iy (nu hr.units) nF (aZ (pv 0)) (aK (aV bW)) (gk _)) (aV bW) (rW (Rr hr.gd hr.units) Ud rfl T.tL aM (dJ (aZ (pv 0)) fO))) bH)))))
theorem abx{P:bI}{w:bC}{K:aJ}{mg:Str->Option aA}{base:bw}{cB cC cF:Tok}{f:aq}{fd:di}(F:fB K "_law_words" "_law_words" JD f fd)(T:Txt w K mg cB cC cF)(KN:dh P w K mg base "_law_word" 1 zar (spT K Ef)):dI P w K mg base dN 2 f fd zas (spT K Dw):=
 iH (body:=JL) F Jh λcdv A outer s H E hr=>(bZ (ie (i:=1) Jh.nd rfl (dz rfl) (jG bH)) (bZ (xK yN rfl (MN (bD (pv 0))) (jT (i:=2) Jh.nd rfl (dz rfl)) lJ (cQ (ae9 (pv 1) (aK (cJ KN (hr.mono aO) rfl (aN (bD (pv 2)) bH)))))) (cQ (Kf (pv 1)))))
theorem acy{P:bI}{w:bC}{K:aJ}{mg:Str->Option aA}{base:bw}{cB cC cF:Tok}{f:aq}{fd:di}(n:Nat)(F:fB K "_law_same" "_law_same" zQ f fd)(T:Txt w K mg cB cC cF)(zR:dh P w K mg base "_law_same" (n) zat (spT K (qH n))):dI P w K mg base dN (n+1) f fd zat (spT K (qH (n+1))):=
 iH (body:=xG (qH n)) F acs λcdv A outer s H E hr=>(bZ (ju (mH (aK (adu aO aO (aZ (pv 1)) (lH (v:=.ty "list") rfl T.z9 aM rfl) (lH (v:=.ty "tuple") rfl T.pN aM rfl) rfl T.kJ aM))) (bZ (ju (PW.pt (sZ (iy (uU hr.units) vh (aK (nA aO (aZ (pv 0)) (lH (v:=.ty "list") rfl T.z9 aM rfl) rfl T.kJ aM)) (aK (nA aO (aZ (pv 1)) (lH (v:=.ty "list") rfl T.z9 aM rfl) rfl T.kJ aM)) (gk _)) (sU (iy (uU hr.units) vh (aK (nA aO (aZ (pv 0)) (lH (v:=.ty "tuple") rfl T.pN aM rfl) rfl T.kJ aM)) (aK (nA aO (aZ (pv 1)) (lH (v:=.ty "tuple") rfl T.pN aM rfl) rfl T.kJ aM)) (gk _))))) (cQ (dF (aV u5))) jr) (cQ (dF (Ek (qJ (nu hr.units) nF (aK (jb oE oM rfl T.jC aM (dJ (aZ (pv 0)) fO))) (aK (jb oE oM rfl T.jC aM (dJ (aZ (pv 1)) fO))) (gk _)) (zW (jb (Jq rfl) Lh rfl T.Ak aM (dJ (aK (vo (T:=(.many 2)) (NT:=(["_law_one","_law_other"]:List Str)) (NF:=([]:List Str)) (js:=[]) (pZ.ok (N0:=zat) (lW:=cY zQ) aM rfl rfl) (⟨_,_,_,rfl,(.cons ⟨_,rfl⟩ (.cons ⟨_,rfl⟩ .nil)),rfl⟩) rfl (adD rfl T.Fy (dJ (aZ (pv 0)) (dJ (aZ (pv 1)) fO))) (λb=>⟨sE,(cJ zR hr rfl (aN (bD (pv 0)) (aN (bD (pv 1)) bH)))⟩))) fO))))))) jr) (bZ (ju (PW.pt (sZ (iy K4 La (aZ (pv 1)) (aK (aV lM)) (gk _)) (sU (mH (aK (nA aO (aZ (pv 1)) (lH (v:=.ty "str") rfl T.tL aM rfl) rfl T.kJ aM)))))) (cQ (dF (Ek (qJ (nu hr.units) nF (aZ (pv 0)) (aZ (pv 1)) (gk _)) (zW (qJ (nu hr.units) nF (aK (nA aO (aZ (pv 0)) (lH (v:=.ty "str") rfl T.tL aM rfl) rfl T.kJ aM)) (aK (nA aO (aZ (pv 1)) (lH (v:=.ty "str") rfl T.tL aM rfl) rfl T.kJ aM)) (gk _)))))) jr) (cQ (dF (Ek (nA aO (aZ (pv 0)) (lH (v:=.ty "int") rfl T.xZ aM rfl) rfl T.kJ aM) (Ek (aeV (nA aO (aZ (pv 0)) (lH (v:=.ty "bool") rfl T.Lx aM rfl) rfl T.kJ aM)) (zW (qJ (nu hr.units) nF (aZ (pv 0)) (aZ (pv 1)) (gk _)))))))))
theorem Rv{P:bI}{w:bC}{K:aJ}{mg:Str->Option aA}{base:bw}{cB cC cF:Tok}{f:aq}{fd:di}(hm:mg "_law_same"=aa (.ref f))(hk:ur K (.ref f)=au)(hb:Binds K fd zat [])(F:fB K "_law_same" "_law_same" zQ f fd)(T:Txt w K mg cB cC cF):
  ∀n,dh P w K mg base "_law_same" (n) zat (spT K (qH n))
 |0=>⟨f,fd,hm,hk,hb,adv⟩
 |n+1=>⟨f,fd,hm,hk,hb,acy n F T (Rv hm hk hb F T n)⟩
theorem aby{P:bI}{w:bC}{K:aJ}{mg:Str->Option aA}{base:bw}{cB cC cF:Tok}{f:aq}{fd:di}(F:fB K "_law_loose" "_law_loose" JF f fd)(T:Txt w K mg cB cC cF)(dD:dh P w K mg base "_law_pick" 2 zam (spT K dR)):dI P w K mg base dN 3 f fd zau (spT K Dy):=
 iH (body:=JM) F Di λcdv A outer s H E hr=>(bZ (ie (i:=2) Di.nd rfl (dz rfl) (bY eV eX (aK (bY (DX.or CG) (DY.or DW) (aK (aV bW)) (aK (cJ dD (hr.mono aO) rfl (aN (bD (pv 0)) (aN (aV bJ) bH)))))) (aK (iC (iw hr.gm) iD (aZ (pv 1)) (aK (aV bJ)) (λ_ _=>rfl))))) (bZ (xK yN rfl (MN (vA (aZ (pv 1)) (tD (aK (aV bJ))) xX)) (jT (i:=3) Di.nd rfl (dz rfl)) lJ (cQ (ie (i:=2) Di.nd rfl (dz rfl) (bY eV eX (aK (bY eV eX (aZ (pv 2)) (aK (bY (DX.or CG) (DY.or DW) (aK (aV bW)) (aK (bY eV eX (aK (aV bJ)) (aK (cJ dD (hr.mono aO) rfl (aN (bD (pv 0)) (aN (aV bJ) bH)))))))))) (aZ (pv 3)))))) (cQ (dF (bY eV eX (aZ (pv 2)) (aK (bY (DX.or CG) (DY.or DW) (aK (aV bW)) (aK (cJ dD (hr.mono aO) rfl (aN (bD (pv 0)) (aN (aV bJ) bH)))))))))))
theorem afp{P:bI}{w:bC}{K:aJ}{mg:Str->Option aA}{base:bw}{cB cC cF:Tok}{f:aq}{fd:di}(F:fB K "law" "law" Fv f fd)(T:Txt w K mg cB cC cF)(zm:dh P w K mg base "read_row" 6 zac (spT K qx))(KQ:dh P w K mg base "_law_left" 1 zal (spT K Ec))(dD:dh P w K mg base "_law_pick" 2 zam (spT K dR))(JT:dh P w K mg base "_law_names" 3 zam (spT K Dt))(LK:dh P w K mg base "_law_row" 4 zap (spT K Eu))(JV:dh P w K mg base "_law_words" 2 zas (spT K Dw))(zR:dh P w K mg base "_law_same" 4 zat (spT K (qH 4)))(JW:dh P w K mg base "_law_loose" 3 zau (spT K Dy)):dI P w K mg base dN 8 f fd zaw (spT K yc):=
 iH (body:=Mr) F uY λcdv A outer s H E hr=>(bZ (xK yN rfl (zF rfl T.uT (aK (jb (IV rfl) Ko rfl T.Al aM (dJ (aK (aV bJ)) (dJ (aK (jb (Q9 rfl) T9 rfl T.Fx aM (dJ (aK (aV bJ)) (dJ (aK (T8 (pv 0) rfl T.jC aM)) fO)))) fO))))) (jT (i:=1) uY.nd rfl (dz rfl)) lJ (bZ (aeY (i:=2) uY.nd rfl (dz rfl) (cJ KQ (hr.mono aO) rfl (aN (bD (pv 0)) (aN (bD (pv 1)) bH)))) (bZ (ie (i:=3) uY.nd rfl (Ei rfl) (bY eV eX (aK (cJ JT (hr.mono aO) rfl (aN (bD (pv 2)) (aN (aV bJ) bH)))) (aK (vA (aK (jG (aN (aV bW) (aN (aV bW) (aN (aV bW) (aN (aV bW) bH)))))) xX (tD (aK (bY sJ sS (aK (aV bJ)) (aK (cJ dD (hr.mono aO) rfl (aN (bD (pv 2)) (aN (aV bJ) bH))))))))))) (bZ (ie (i:=4) uY.nd rfl (dz rfl) (cJ LK (hr.mono aO) rfl (aN (bD (pv 2)) (aN (vo (T:=(.many 2)) (NT:=(["_law_place","_law_name"]:List Str)) (NF:=(["_law_names_here"]:List Str)) (js:=[3]) (pZ.ok (N0:=zav) (lW:=cY Fv) aM rfl rfl) (⟨_,_,_,rfl,(.cons ⟨_,rfl⟩ (.cons ⟨_,rfl⟩ .nil)),rfl⟩) rfl (aci rfl T.Ik (aZ (pv 3))) (λb=>⟨(T6 (iy (Rm hr.gm) R0 (aZ (pv 1)) (aK (vA (aZ (pv 2)) xX (tD (aZ (pv 0))))) (by with_unfolding_all rfl))),(bD (pv 1))⟩)) bH)))) (bZ (ie (i:=5) uY.nd rfl (dz rfl) (cJ JV (hr.mono aO) rfl (aN (bD (pv 4)) bH))) (bZ (xK yN rfl (MN (fW (aN (Kp (aK (aV bW)) (aZ (pv 5))) (aN (cJ JW (hr.mono aO) rfl (aN (bD (pv 2)) (aN (bD (pv 5)) bH))) (aN (Kp (aK (aV bW)) (aZ (pv 5))) bH))))) (jT (i:=6) uY.nd rfl (dz rfl)) lJ (cQ (ju (pQ (mH (aK (cJ zR (hr.mono aO) rfl (aN (cJ zm (hr.mono aO) rfl (aN (bD (pv 6)) bH)) (aN (bD (pv 4)) bH)))))) (cQ (dF (aV u5))) jr))) (cQ (ju (PW.pt (sZ (iy (uU hr.units) vh (aK (cJ zm (hr.mono aO) rfl (aN (bY (DX.or CG) (DY.or DW) (aK (aV bW)) (aK (cJ dD (hr.mono aO) rfl (aN (bD (pv 2)) (aN (aV bJ) bH))))) bH))) (aK (fW bH)) (gk _)) (sU (pQ (mH (aK (nA aO (aK (cJ zm (hr.mono aO) rfl (aN (aV bW) bH))) (lH (v:=.ty "tuple") rfl T.pN aM rfl) rfl T.kJ aM))))))) (cQ (dF (aV u5))) jr)))))))) (cQ (dF (aV u5))))
local macro_rules|`(tactic|simp_arith[$ts,*])=>`(tactic|simp only[agw,agx,agy,agb,agc,M3,agd,ahe,age,ahf,agf,bA,eG,jM,Av,aQ,dat,still,cu,dY,aL,bF,dg,eN,nG,fj,bU,c7,xU,iG,ag1,jm,eZ,xT,iB,iV,Gz,iV2,N5,MT,j8,frB,q9,setM,yh,Gx,oK,Ah,gB,dH,add_int,sub_int,le_int,lt_int,ge_int,gt_int,eq_int,adx,ady,adw,ahi,ahj,ag7,ag8,ag9,aha,ahb,ahc,ahd,ab9,ahg,ae6,agg,agh,ahh,Option.bind_some,Option.map_some,List.getElem?_cons_zero,List.getElem?_cons_succ,List.set_cons_zero,List.set_cons_succ,List.map_cons,List.map_nil,List.length_cons,List.length_nil,Bool.not_true,Bool.not_false,if_true,if_false,ite_self,Bool.false_eq_true,Option.join,id_eq,Nat.reduceAdd,Nat.reduceLeDiff,Nat.reduceLT,and_true,true_and,and_self,String.reduceBEq,Bool.or_false,Bool.or_true,Bool.false_or,Bool.true_or,Bool.and_true,Bool.and_false,Bool.true_and,Bool.false_and,decide_true,decide_false,reduceCtorEq,eq_bool,ne_bool,ne_int,Fj,agi,beq_self_eq_true,List.length_map,agj,agk,agl,agm,agn,ago,agp,agq,agr,ags,Dg,Rp,Bu,yj,intD,yf,cond_true,cond_false,$ts,*])
theorem Vt{C:Ce}{c k:Int}(k0:0<=k)(k1:k<=1000000):∃r:Int,Aa [.im (.int c),.im (.int k)] C=aa (.im (.int r),C)/\0<=r:=by
 obtain⟨m,hm⟩:∃m,(c%2147483629+k*k*7919+11)*48271%2147483647=m:=⟨_,rfl⟩
 have m0:0<=m:=by rw[<-hm];exact rO _ aO
 have m1:m<2147483647:=by rw[<-hm];exact uh _ aO
 refine⟨m*m%1999999973,fK [aa (.im (.int c)),aa (.im (.int k)),ak] rfl rfl ?_ rfl rfl,rO _ aO⟩
 simp_arith[Ly,mod_eq (i:=c) (j:=2147483629) aO,mul_eq (i:=k) (j:=k) (.inl aP),mul_eq (i:=k*k) (j:=7919) (.inr aO),mul_eq (i:=c%2147483629+k*k*7919+11) (j:=48271) (.inr aO),mod_eq (i:=(c%2147483629+k*k*7919+11)*48271) (j:=2147483647) aO,hm,mul_eq (i:=m) (j:=m) (.inl aP),mod_eq (i:=m*m) (j:=1999999973) aO]
theorem iu{C:Ce}{b L k:Nat}{m:Int}(h:Bl L C b (k+1))(h0:0<m)(h1:m<1073741824):
  ∃t C',dR [.ce b,.im (.int m)] C=aa (.im (.int t),C')/\0<=t/\t<m/\Bl L C' b k:=by
 obtain⟨hL,x,y,z,hc,hx,hz,hz2⟩:=h
 have i0:j6 3 0=aa 0:=rfl;have i2:j6 3 2=aa 2:=rfl;have c2:(C.set b [x,y,z+1])[b]?=aa [x,y,z+1]:=Vg hc;by_cases hp:0<x
 .refine⟨x%m,(C.set b [x,y,z+1]).set b [x / m,y,z+1],fK [aa (.ce b),aa (.im (.int m)),ak] rfl rfl ?_ rfl bz,rO _ aP,uh _ h0,⟨by simpa using hL,x / m,y,z+1,Vg c2,Int.ediv_nonneg hx aP,aP,aP⟩⟩
  simp_arith[Ed,o7,hc,c2,hp,mod_eq h0,fdiv_eq h0 h1,Ay,xV,i0,i2]
 .obtain⟨r1,e1,p1⟩:=Vt (C:=C.set b [x,y,z+1]) (c:=y) (k:=z+1) aP aP
  obtain⟨r2,e2,p2⟩:=Vt (C:=C.set b [x,y,z+1]) (c:=r1) (k:=z+1+64) aP aP
  refine⟨r2 / 64%m,C.set b [x,y,z+1],fK [aa (.ce b),aa (.im (.int m)),ak] rfl rfl ?_ rfl bz,rO _ aP,uh _ h0,⟨by simpa using hL,x,y,z+1,c2,hx,aP,aP⟩⟩
  simp_arith[Ed,o7,hc,c2,hp,Ay,xV,i0,i2,e1,e2,fdiv_eq (j:=64) aP aP,mod_eq h0]
theorem adW{C:Ce}{ns:List Int}{k:Int}(k0:0<=k)(k9:k<=100):∃x y:Int,Ec [.sc ns,.im (.int k)] C=aa (.ow (.list [.int x,.int y,.int 0]),C)/\0<=x:=by
 obtain⟨c,hc⟩:∃c:Int,mU (eG (aY yg (aW 1) (aG (tB 0)))) (Bb 0 (aW 1)) (aQ (.int 0)) [aa (.sc ns),aa (.im (.int k)),ak] C=aa (.im (.int c),[aa (.sc ns),aa (.im (.int k)),ak],C):=by
  by_cases h:k<ns.length
  .obtain⟨c,hc,_⟩:=Lj (xs:=ns) k0 h
   exact⟨c,by simp_arith[tB,Bb,h,hc]⟩
  .exact⟨0,by simp_arith[tB,h]⟩
 have a0:0<=(if c<0 then -c else c):=by split<;>lia
 obtain⟨a,hA⟩:∃a,(if c<0 then -c else c)=a:=⟨_,rfl⟩
 rw[hA] at a0;have pw:vg (.int 10) (.int 18)=aa (.im (.int 1000000000000000000)):=rfl
 obtain⟨j,hj,j0,j1⟩:∃(j:Int),(if decide (1000000000000000000<=a)=au then(1:Int) else 0)=j/\0<=j/\j<=1:=by
  by_cases h:1000000000000000000<=a
  .exact⟨1,by rw[bB (gH h)],aP,aP⟩
  .exact⟨0,by rw[bK (by simpa using h)],aP,aP⟩
 refine⟨a*j,c+1000003*k,fK [aa (.sc ns),aa (.im (.int k)),ak] rfl rfl ?_ rfl rfl,Int.mul_nonneg a0 j0⟩
 simp_arith[KH,↓hc,Aj,hA,pw,Fi,hj,mul_eq (i:=a) (j:=j) (.inr aP),mul_eq (i:=1000003) (j:=k) (.inl aO)]
theorem Uo(c d:Nat):strLt ⟨#[c]⟩ ⟨#[d]⟩=decide (c<d):=by
 unfold strLt;by_cases h:c<d
 .rw[gH h];exact gH (Yj.mpr (.inl h))
 .rw[lQ h];refine lQ λg=>?_
  rcases Yj.mp (show[c]<[d] from g) with g|⟨_,g⟩
  .exact h g
  .exact absurd g (List.lt_irrefl _)
def uf(l h:Nat)(z:Str):Bool:=z.cps.toList.all λc=>decide (l<=c)&&decide (c<=h)
theorem abz{α:Type}(p:α->Bool)(l:List α):boolsOf (l.map λa=>.bool (p a))=aa (l.map p)/\cW (l.map λa=>.bool (p a))=au:=by
 induction l with
 |nil=>exact⟨rfl,rfl⟩
 |cons a l ih=>exact⟨by rw[fD,fD,boolsOf,ih.1],by rw[fD,cW,ih.2];rfl⟩
structure Sg(l h:Nat)(fe:FE)(C:Ce)(z:Str):Prop where
 t:jW .one jo fe [] (chars z) C=aa (z.cps.toList.map (λc=>.bool (decide (l<=c)&&decide (c<=h))),C)
 n:cW (z.cps.toList.map λc=>.bool (decide (l<=c)&&decide (c<=h)))=au
 g:(z.cps.toList.length<=1000000)=True
 a:qR [.list (z.cps.toList.map λc=>.bool (decide (l<=c)&&decide (c<=h)))]=aa (.im (.bool (uf l h z)))
theorem Vu{l h:Nat}{x y:Str}{C:Ce}{z:Str}(hx:x=⟨#[l]⟩)(hy:y=⟨#[h]⟩)(hz:z.length<=1000000):
  Sg l h (lR gJ gJ (aG (aQ (.str x))) (aW 0) (aG (aQ (.str y)))) C z:=by
 subst hx hy;have b:=abz (λc=>decide (l<=c)&&decide (c<=h)) z.cps.toList
 refine⟨?_,b.2,eq_true (by rw[lC];exact hz),?_⟩
 .have:=uF (T:=.one) (ft:=jo) (fe:=lR gJ gJ (aG (aQ (.str ⟨#[l]⟩))) (aW 0) (aG (aQ (.str ⟨#[h]⟩)))) (fs:=[]) (C:=C) (λc:Nat=>iM ⟨#[c]⟩) (λ_=>au) (λc=>.bool (decide (l<=c)&&decide (c<=h))) (l:=z.cps.toList) λc m=>by
   refine⟨[.str ⟨#[c]⟩],rfl,rfl,λ_=>⟨_,[aa (.im (.str ⟨#[c]⟩))],Mp gJ gJ _ (aW 0) _ (a:=decide (l<=c)) (b:=decide (c<=h)) rfl rfl ?_ rfl ?_,rfl⟩⟩
   .show aa (Vl.im (.bool (!strLt ⟨#[c]⟩ ⟨#[l]⟩)))=_;rw[Uo,<-decide_not];simp only[uE]
   .show aa (Vl.im (.bool (!strLt ⟨#[h]⟩ ⟨#[c]⟩)))=_;rw[Uo,<-decide_not];simp only[uE]
  rw[yI.mpr λ_ _=>rfl] at this;exact this
 .simp only[qR,b.1,kE,uf,Qu];rfl
theorem zT{α:Type}(c:α)(r:List α):dG (c::r) 0=aa c:=by
 unfold dG j6;rw[bB (Int.le_refl _),bB (by rw[eE];lia)];rfl
theorem len_str{z:Str}(hz:z.length<=1000000):jd [.str z]=aa (.im (.int z.length)):=by
 have e:Bc (.str z)=aa z.length:=bB hz;simp only[jd,e];rfl
theorem Up{C:Ce}{z:Str}(n:Nat){m:Int}(hm:m=n)(hz:z.length<=1000000):lR gJ gJ (aG (aQ (.int 1))) (aG (dY jd (dg (aW 0) eN))) (aG (aQ (.int m))) [aa (.im (.str z))] C=aa (.im (.bool (decide (1<=z.length)&&decide (z.length<=n))),[aa (.im (.str z))],C):=by
 subst hm;have hlen:=len_str hz;exact Mp gJ gJ _ _ _ (y:=.int z.length) (a:=decide (1<=z.length)) (b:=decide (z.length<=n)) rfl (by simp_arith[hlen];rfl) (by show aa (Vl.im (.bool (decide ((1:Int)<=z.length))))=_;simp[aai,show((1:Int)<=z.length)↔(1<=z.length) by lia]) rfl (by show aa (Vl.im (.bool (decide ((z.length:Int)<=n))))=_;simp[aai])
theorem Q5{C:Ce}{z:Str}(hz:z.length<=1000000):uI [.im (.str z)] C=aa (.im (.bool (nameB z)),C):=by
 have c0:=Up (C:=C) 8 (m:=8) rfl hz;have s:=Vu (C:=C) (z:=z) (l:=97) (h:=122) (x:=aB "a") (y:=aB "z") aM aM hz;have e:nameB z=(decide (1<=z.length)&&decide (z.length<=8)&&uf 97 122 z):=rfl;refine fK [aa (.im (.str z))] rfl rfl ?_ rfl rfl;rw[e];cases hb:decide (1<=z.length)&&decide (z.length<=8) with
 |false=>rw[hb] at c0;simp_arith[Dj,gW,j4,↓c0]
 |true=>rw[hb] at c0;simp_arith[Dj,gW,j4,↓c0,s.t,s.n,s.g,s.a]
def sW(z:Str):Bool:=decide (1<=z.length)&&decide (z.length<=10)&&uf 48 57 z&&(z==aB "0"||!((⟨#[z.cps.toList.headD 0]⟩:Str)==aB "0"))
theorem aaS{C:Ce}{z:Str}(hz:z.length<=1000000):CV [.im (.str z)] C=aa (.im (.bool (sW z)),C):=by
 have c0:=Up (C:=C) 10 (m:=10) rfl hz;have s:=Vu (C:=C) (z:=z) (l:=48) (h:=57) (x:=aB "0") (y:=aB "9") aM aM hz;refine fK [aa (.im (.str z))] rfl rfl ?_ rfl rfl;unfold sW;cases hb:decide (1<=z.length)&&decide (z.length<=10) with
 |false=>rw[hb] at c0;simp_arith[wR,↓c0]
 |true=>
  rw[hb] at c0
  obtain⟨st,sn,sg,sa⟩:=s
  cases hs:uf 48 57 z with
  |false=>rw[hs] at sa;simp_arith[wR,↓c0,st,sn,sg,sa]
  |true=>
   rw[hs] at sa;have e1:dX (.str z) (.str (aB "0"))=aa (.im (.bool (z==aB "0"))):=rfl;have e2:cg (.str z) (.int 0)=aa (.im (.str ⟨#[z.cps.toList.headD 0]⟩)):=by
    have h1:1<=z.cps.toList.length:=by
     have:=(Bool.and_eq_true_iff.mp hb).1;rw[lC];exact of_decide_eq_true this
    have:dG z.cps.toList 0=aa (z.cps.toList.headD 0):=by
     cases h:z.cps.toList with
     |nil=>rw[h] at h1;cases h1
     |cons c r=>exact zT c r
    simp only[cg,nQ,bB (show z.length<=dH from hz),this,kE]
   have e3:jL (.str ⟨#[z.cps.toList.headD 0]⟩) (.str (aB "0"))=aa (.im (.bool (!((⟨#[z.cps.toList.headD 0]⟩:Str)==aB "0")))):=rfl;cases hq:(z==aB "0") with
   |true=>rw[hq] at e1;simp_arith[wR,↓c0,st,sn,sg,sa,e1,qZ]
   |false=>rw[hq] at e1;simp_arith[wR,↓c0,st,sn,sg,sa,e1,e2,e3,qZ]
def nM(z:Str):Int:=((aiP z.cps.toList:Nat):Int)
theorem abA{z:Str}(h:sW z=au):uX [.str z]=aa (.im (.int (nM z))):=by
 unfold sW at h;simp only[fU,decide_eq_true_eq] at h
 obtain⟨⟨⟨h1,h2⟩,h3⟩,_⟩:=h
 have l:z.cps.toList.length=z.length:=lC ..;have:=PySem.intText_digits (x:=z) (λc m=>by
  have:=iW.mp h3 c m;simp only[fU,decide_eq_true_eq] at this;exact this) (λe=>by rw[e] at l;rw[<-l] at h1;cases h1) aP
 simp only[uX,bB (show z.length<=640 by lia),this,kE];rfl
def jf(lo hi:Int)(z:Str):az:=if sW z&&(decide (lo<=nM z)&&decide (nM z<=hi)) then .int (nM z) else .none
theorem Rx{C:Ce}{k z:Str}{lo hi:Int}(hk:rU.lookup k=aa [.int lo,.int hi])(hz:z.length<=1000000):uB [.im (.str k),.im (.str z)] C=aa (.im (jf lo hi z),C):=by
 have p:=aaS (C:=C) hz;unfold jf;cases hp:sW z with
 |false=>
  rw[hp] at p;refine fK [aa (.im (.str k)),aa (.im (.str z)),ak,ak] rfl rfl ?_ rfl rfl;simp_arith[yU,p]
 |true=>
  rw[hp] at p;have v:=abA hp;have u:Fp (tW rU (aW 0)) [2,3] [aa (.im (.str k)),aa (.im (.str z)),ak,ak] C=aa (.nx,[aa (.im (.str k)),aa (.im (.str z)),aa (.im (.int lo)),aa (.im (.int hi))],C):=by
   simp only[Fp,tW,M3,X3,qg,kE,dat,yf,hk];rfl
  have c:=Mp gJ gJ (aW 2) (aG (dY uX (dg (aW 1) eN))) (aW 3) (aj:=[aa (.im (.str k)),aa (.im (.str z)),aa (.im (.int lo)),aa (.im (.int hi))]) (C:=C) (y:=.int (nM z)) (a:=decide (lo<=nM z)) (b:=decide (nM z<=hi)) rfl (by simp_arith[v];rfl) rfl rfl rfl;refine fK [aa (.im (.str k)),aa (.im (.str z)),ak,ak] rfl rfl ?_ (by split<;>rfl) rfl;cases hb:decide (lo<=nM z)&&decide (nM z<=hi) with
  |false=>rw[hb] at c;simp_arith[yU,p,↓u,↓c]
  |true=>rw[hb] at c;simp_arith[yU,p,↓u,↓c,v]
def kh(z:Str):az:=if nameB z then .str z else .none
def gC(k z:Str):az:=if k=aB "name" then kh z else if k=aB "within" then(if z=aB "-" then .str (aB "") else kh z) else match rU.lookup k with
 |some [.int lo,.int hi]=>jf lo hi z
 |_=>.none
def GZ(k:Str):Prop:=k=aB "name"\/k=aB "within"\/k≠aB "name"/\k≠aB "within"/\∃lo hi,rU.lookup k=aa [.int lo,.int hi]
theorem SM{C:Ce}{z:Str}{r:FN}(hz:z.length<=1000000):fN 2 2 (pI r) [.im (.str (aB "name")),.im (.str z)] C=aa (.im (kh z),C):=by
 have n:=Q5 (C:=C) hz;unfold kh;refine fK [aa (.im (.str (aB "name"))),aa (.im (.str z))] rfl rfl ?_ (by split<;>rfl) rfl;cases h:nameB z with
 |false=>rw[h] at n;simp_arith[pI,dX,jh,n]
 |true=>rw[h] at n;simp_arith[pI,dX,jh,n]
theorem adX{C:Ce}{k z:Str}(hk:GZ k)(hz:z.length<=1000000):m9 2 [.im (.str k),.im (.str z)] C=aa (.im (gC k z),C):=by
 rcases hk with rfl|rfl|⟨h1,h2,lo,hi,h3⟩
 .rw[gC,bB rfl];exact SM hz
 .rw[gC,bK aM,bB rfl];have n:=SM (C:=C) (r:=m9 0) hz;have e0:(aB "within"==aB "name")=aF:=aM;show fN 2 2 (pI (m9 1)) _ _=_;refine fK [aa (.im (.str (aB "within"))),aa (.im (.str z))] rfl rfl ?_ ?_ rfl
  .by_cases h:z=aB "-"
   .subst h;rw[bB rfl];simp_arith[pI,dX,jh,e0]
   .have e:(z==aB "-")=aF:=beq_eq_false_iff_ne.mpr h;rw[bK h];have n':m9 1 [.im (.str (aB "name")),.im (.str z)] C=aa (.im (kh z),C):=n;simp_arith[pI,dX,jh,e0,e,n']
  .split
   .rfl
   .unfold kh;split<;>rfl
 .rw[gC,bK h1,bK h2,h3];have n:=Rx (C:=C) h3 hz;have e0:(k==aB "name")=aF:=beq_eq_false_iff_ne.mpr h1;have e1:(k==aB "within")=aF:=beq_eq_false_iff_ne.mpr h2;show fN 2 2 (pI (m9 1)) _ _=_;refine fK [aa (.im (.str k)),aa (.im (.str z))] rfl rfl ?_ ?_ rfl
  .simp_arith[pI,dX,jh,e0,e1,n]
  .show vp _ (.im (jf lo hi z))=au;unfold jf;split<;>rfl
theorem Uq(z:Str):eY (kh z)=au:=by unfold kh;split<;>rfl
theorem JX(lo hi:Int)(z:Str):eY (jf lo hi z)=au:=by unfold jf;split<;>rfl
theorem JZ(k z:Str):eY (gC k z)=au:=by
 unfold gC;split
 .exact Uq z
 .split
  .split
   .rfl
   .exact Uq z
  .split
   .exact JX _ _ z
   .rfl
theorem zG{d:az}(h:eY d=au):dZ d=au:=by cases d<;>first|rfl|cases h
theorem Jl:∀{ds:List az},ds.all eY=au->cW ds=au
 |[],_=>rfl
 |d::ds,h=>by
  rw[oh,fU] at h;rw[cW,zG h.1,Jl h.2];rfl
theorem adY{ds:List az}(h:ds.all eY=au):vI .none (.list ds)=aa (.im (.bool (ds.any isNone))):=by
 have e:inB .none (.list ds)=aa (inD .none ds):=bB (by rw[h];rfl);have e2:inD .none ds=ds.any isNone:=by
  unfold inD;clear e;induction ds with
  |nil=>rfl
  |cons d ds ih=>
   rw[oh,fU] at h;rw[ou,ou,ih h.2];cases d<;>first|rfl|cases h.1
 unfold vI;rw[e,e2];rfl
def nO(ks zs:List Str):az:=if decide ((qm gC ks zs).length<ks.length)||(qm gC ks zs).any isNone then .none else .tuple (qm gC ks zs)
theorem SN:∀(ks zs:List Str),ig (ks.map .str) (zs.map .str)=(ks.zip zs).map λp=>.tuple [.str p.1,.str p.2]
 |[],_=>by simp[ig]
 |_::_,[]=>by simp[ig]
 |k::ks,z::zs=>by simp[ig,SN ks zs]
theorem Ro(ks:List Str):(ks.map iM).all eY=au:=by
 induction ks with
 |nil=>rfl
 |cons k ks ih=>rw[fD,oh,ih];rfl
theorem acz{C:Ce}{ks zs:List Str}(hk:∀k∈ks,GZ k)(hl:ks.length<=100)(hz:∀z∈zs,z.length<=1000000):Cm [.ks (ks.map .str),.im (.list (zs.map .str))] C=aa (.im (nO ks zs),C):=by
 have t:=uF (T:=.many 2) (ft:=jo) (fe:=Qc) (fs:=[]) (C:=C) (λp:Str×Str=>.tuple [.str p.1,.str p.2]) (λ_=>au) (λp=>gC p.1 p.2) (l:=ks.zip zs) λp m=>by
  have w:=adX (C:=C) (hk p.1 (BW m).1) (hz p.2 (BW m).2)
  exact⟨[.str p.1,.str p.2],rfl,rfl,λ_=>⟨.im (gC p.1 p.2),[aa (.im (.str p.1)),aa (.im (.str p.2))],by simp_arith[fP,qi,rN,w,zG (JZ p.1 p.2)],rfl⟩⟩
 rw[yI.mpr λ_ _=>rfl,<-SN] at t;have ez:(ks.zip zs).map (λp=>gC p.1 p.2)=qm gC ks zs:=by rw[List.zip,Zo]
 rw[ez] at t;have fl:(qm gC ks zs).all eY=au:=by
  rw[<-ez,iW];intro d m
  obtain⟨p,_,rfl⟩:=rR.mp m
  exact JZ _ _
 have ll:(qm gC ks zs).length<=ks.length:=by rw[O7];lia
 have inn:=adY fl;have nn:=Jl fl;unfold nO;generalize qm gC ks zs=th at *;have g:(th.length<=1000000)=True:=eqT;have z:Gi 0 (aW 1) [aa (.ks (ks.map .str)),aa (.im (.list (zs.map .str))),ak] C=aa (ig (ks.map .str) (zs.map .str),[aa (.ks (ks.map .str)),aa (.im (.list (zs.map .str))),ak],C):=by
  simp only[Gi,M3,X3,List.getElem?_cons_succ,qg,kE,dat,Bg,GX,Ro,if_true]
 have lt:decide ((th.length:Int)<(ks.length:Int))=decide (th.length<ks.length):=bz;refine fK [aa (.ks (ks.map .str)),aa (.im (.list (zs.map .str))),ak] rfl rfl ?_ (by split<;>rfl) rfl;cases h1:decide (th.length<ks.length) with
 |true=>rw[h1] at lt;simp_arith[yX,↓z,t,g,nn,mJ,lt]
 |false=>
  rw[h1] at lt;cases h2:th.any isNone with
  |true=>rw[h2] at inn;simp_arith[yX,↓z,t,g,nn,mJ,lt,inn]
  |false=>rw[h2] at inn;simp_arith[yX,↓z,t,g,nn,mJ,lt,inn,sG]
def jE(z:Str):Str×Str×Str:=Txt.partition z (aB "/")
def je(z:Str):az:=if isNone (jf 1 9 (jE z).1)||(!((jE z).2.1==aB "")&&!nameB (jE z).2.2) then .none else .tuple [jf 1 9 (jE z).1,.str (jE z).2.2]
theorem adZ{C:Ce}{z:Str}(hz:z.length<=1000000):Cu [.im (.str z)] C=aa (.im (je z),C):=by
 obtain⟨p1,p2,p3⟩:=ain z (aB "/")
 have n:=Rx (C:=C) (k:=aB "rank") (z:=(jE z).1) (lo:=1) (hi:=9) (by with_unfolding_all rfl) (by unfold jE;lia);have i:=Q5 (C:=C) (z:=(jE z).2.2) (by unfold jE;lia);have o:xO (.str z) (.str (aB "/"))=aa (.im (.tuple [.str (jE z).1,.str (jE z).2.1,.str (jE z).2.2])):=bB ⟨aM,hz⟩;have f:=JX 1 9 (jE z).1;unfold je;generalize jE z=q at *
 obtain⟨a,b,c⟩:=q
 dsimp only at *;generalize jf 1 9 a=r at *;have nl:=zG f;have e1:kZ r .none=aa (.im (.bool (isNone r))):=rfl;have e2:jL (.str b) (.str (aB ""))=aa (.im (.bool (!(b==aB "")))):=rfl;have ok:vp C.length (if(isNone r||!(b==aB "")&&!nameB c)=au then(.im .none:Vl) else .im (.tuple [r,.str c]))=au:=by split<;>rfl
 refine fK [aa (.im (.str z)),ak,ak,ak,ak] rfl rfl ?_ (by split<;>rfl) rfl;cases h1:isNone r with
 |true=>rw[h1] at e1;simp_arith[wK,o,dZ,cW,n,e1,nl]
 |false=>
  rw[h1] at e1;cases h2:(b==aB "") with
  |true=>rw[h2] at e2;simp_arith[wK,o,dZ,cW,n,e1,e2,nl]
  |false=>
   rw[h2] at e2;cases h3:nameB c with
   |true=>rw[h3] at i;simp_arith[wK,o,dZ,cW,n,e1,e2,nl,i]
   |false=>rw[h3] at i;simp_arith[wK,o,dZ,cW,n,e1,e2,nl,i]
theorem Q6(z:Str):je z=.none\/∃d x,je z=.tuple [d,.str x]/\eY d=au:=by
 unfold je;split
 .exact .inl rfl
 .exact .inr ⟨_,_,rfl,JX _ _ _⟩
def tK(cU:List az)(zs:List Str):az:=if decide (6<zs.length)||(zs.map je).any isNone then .none else .tuple (.str (aB "rule")::cU++[.tuple (zs.map je)])
theorem aax(zs:List Str):(zs.map je).all Mq=au/\cW (zs.map je)=au:=by
 induction zs with
 |nil=>exact⟨rfl,rfl⟩
 |cons z zs ih=>
  rw[fD,oh,cW,ih.1,ih.2];rcases Q6 z with e|⟨d,x,e,f⟩
  .rw[e];exact⟨rfl,rfl⟩
  .rw[e,dZ,cW,zG f];exact⟨rfl,rfl⟩
theorem ad0{C:Ce}{cU:List az}{zs:List Str}(hz:∀z∈zs,z.length<=1000000)(hl:zs.length<=1000000)(ht:cU.length<=100):Cv [.im (.tuple cU),.im (.list (zs.map .str))] C=aa (.im (tK cU zs),C):=by
 have t:=uF (T:=.one) (ft:=jo) (fe:=Qg) (fs:=[]) (C:=C) (λz:Str=>.str z) (λ_=>au) je (l:=zs) λz m=>by
  have w:=adZ (C:=C) (hz z m);have nl:dZ (je z)=au:=by
   rcases Q6 z with e|⟨d,x,e,f⟩
   .rw[e];rfl
   .rw[e,dZ,cW,zG f];rfl
  exact⟨[.str z],rfl,rfl,λ_=>⟨.im (je z),[aa (.im (.str z))],by simp_arith[fP,qi,rN,w,nl],rfl⟩⟩
 rw[yI.mpr λ_ _=>rfl] at t
 obtain⟨f1,f2⟩:=aax zs
 have inn:Fq .none (.list (zs.map je))=aa (.im (.bool ((zs.map je).any isNone))):=bB f1;have ll:(zs.map je).length=zs.length:=cV ..;unfold tK;rw[<-ll] at hl⊢;generalize zs.map je=th at *;have g:(th.length<=1000000)=True:=eq_true hl;have gt:decide ((th.length:Int)>6)=decide (6<th.length):=by simp;lia
 have a1:cH (.tuple [.str (aB "rule")]) (.tuple cU)=aa (.im (.tuple (.str (aB "rule")::cU))):=bB (by show 1+cU.length<=1000000;lia);have a2:cH (.tuple (.str (aB "rule")::cU)) (.tuple [.tuple th])=aa (.im (.tuple (.str (aB "rule")::cU++[.tuple th]))):=bB (by show cU.length+1+1<=1000000;lia);refine fK [aa (.im (.tuple cU)),aa (.im (.list (zs.map .str))),ak] rfl rfl ?_ (by split<;>rfl) rfl;cases h1:decide (6<th.length) with
 |true=>rw[h1] at gt;simp_arith[za,t,g,f2,gt]
 |false=>
  rw[h1] at gt;cases h2:th.any isNone with
  |true=>rw[h2] at inn;simp_arith[za,t,g,f2,gt,inn]
  |false=>rw[h2] at inn;simp_arith[za,t,g,f2,gt,inn,sG,a1,a2]
abbrev oN:Str:=aB "leave"
abbrev nH:Str:=aB "rank"
abbrev tM:Str:=aB "rule"
def Ms:List az->Bool
 |[.str a,.str b,_,.int d,.int e,_]=>!(a==b)&&decide (d<=e)
 |_=>au
def Mt:List az->Bool
 |[_,_,_,.int d,.int e]=>decide (d<=e)
 |_=>au
def oU(k:Str)(cU:List az):Bool:=if k=oN then Ms cU else if k=nH then Mt cU else au
inductive Bx:Str->List az->Prop
 |other {k:Str} {cU:List az}:k≠oN->k≠nH->Bx k cU
 |leave {a b:Str} {x y:az} {d e:Int}:Bx oN [.str a,.str b,x,.int d,.int e,y]
 |rank {x y z:az} {d e:Int}:Bx nH [x,y,z,.int d,.int e]
theorem ad3{C:Ce}{k:Str}{cU:List az}(h:Bx k cU):BX [.im (.tuple (.str k::cU))] C=aa (.im (.bool (oU k cU)),C):=by
 have nt:∀k:Str,uO (.str k) (.tuple [.str (aB "rank"),.str (aB "leave")])=aa (.im (.bool (!(aB "rank"==k||(aB "leave"==k||false))))):=λk=>rfl
 cases h with
 |other h1 h2=>
  have e1:(k==aB "leave")=aF:=beq_eq_false_iff_ne.mpr h1;have e2:(aB "rank"==k)=aF:=beq_eq_false_iff_ne.mpr λh=>h2 h.symm
  have e3:(aB "leave"==k)=aF:=beq_eq_false_iff_ne.mpr λh=>h1 h.symm
  have n:=nt k;rw[e2,e3] at n;rw[oU,bK h1,bK h2];refine fK [aa (.im (.tuple (.str k::cU)))] rfl rfl ?_ rfl rfl;simp_arith[wA,dX,jh,e1,n,qZ,dZ,cW]
 |@leave a b x y d e=>
  have n:=nt oN;rw[show(aB "rank"==oN||(aB "leave"==oN||false))=au by decide +kernel] at n;rw[oU,bB rfl,Ms];refine fK [aa (.im (.tuple [.str oN,.str a,.str b,x,.int d,.int e,y]))] rfl rfl ?_ rfl rfl;cases h:(a==b) with
  |true=>simp_arith[wA,dX,jh,h]
  |false=>simp_arith[wA,dX,jh,h,n,qZ,dZ,cW]
 |@rank x y z d e=>
  have n:=nt nH;rw[show(aB "rank"==nH||(aB "leave"==nH||false))=au by decide +kernel] at n;have e1:(nH==aB "leave")=aF:=aM;rw[oU,bK aM,bB rfl,Mt];refine fK [aa (.im (.tuple [.str nH,x,y,z,.int d,.int e]))] rfl rfl ?_ rfl rfl;simp_arith[wA,dX,jh,e1,n,qZ,dZ,cW]
def kd:List (Str×List Str):=lK.map λp=>(p.1,p.2.filterMap yf)
theorem ahm:lK=kd.map λp=>(p.1,p.2.map .str):=rfl
theorem SQ{α β:Type}(f:α->β)(k:Str):∀l:List (Str×α),(l.map λp=>(p.1,f p.2)).lookup k=(l.lookup k).map f
 |[]=>rfl
 |(x,a)::l=>by
  rw[fD,nZ,nZ,SQ f k l];cases k==x<;>rfl
theorem ad4(k:Str):lK.lookup k=(kd.lookup k).map (·.map .str):=by rw[ahm];exact SQ (λx:List Str=>x.map iM) k kd
theorem SX{α:Type}{k:Str}{a:α}:∀{l:List (Str×α)},l.lookup k=aa a->(k,a)∈l
 |[],h=>by cases h
 |(x,b)::l,h=>by
  rw[nZ] at h;by_cases c:k=x
  .subst c;rw[beq_self_eq_true] at h;cases h;exact gh
  .rw[beq_eq_false_iff_ne.mpr c] at h;exact fQ _ (SX h)
theorem afq{k:Str}(h:k∈[aB "name",aB "within",aB "day",aB "sum",aB "rank",aB "number",aB "days"]):GZ k:=by
 simp only[cD,gF,or_false] at h;rcases h with rfl|rfl|rfl|rfl|rfl|rfl|rfl
 .exact .inl rfl
 .exact .inr (.inl rfl)
 all_goals exact .inr (.inr ⟨aM,aM,_,_,by with_unfolding_all rfl⟩)
theorem kd_all:(kd.all λp=>decide (p.2.length<=6)&&p.2.all λx=>[aB "name",aB "within",aB "day",aB "sum",aB "rank",aB "number",aB "days"].contains x)=au:=aM
theorem V8{k:Str}{ks:List Str}(h:kd.lookup k=aa ks):(∀x∈ks,GZ x)/\ks.length<=6:=by
 have:=iW.mp kd_all _ (SX h);rw[fU,decide_eq_true_eq] at this
 exact⟨λx m=>afq (List.contains_iff_mem.mp (iW.mp this.2 x m)),this.1⟩
theorem afr(x:az)(l:List az)(n:Nat):ue (aa 1) (aa ((n:Int)+1)) (.list (x::l))=aa (.ow (.list (l.take n))):=by
 show aa (Vl.ow (.list (p8 (x::l) (aa 1) (aa ((n:Int)+1)))))=_;unfold p8;rw[show HT.bT (x::l).length 0 (aa 1)=min 1 (x::l).length from HT.DN _ _ 1,show HT.bT (x::l).length (x::l).length (aa ((n:Int)+1))=min (n+1) (x::l).length from HT.DN _ _ (n+1),eE,ZC (by lia:1<=l.length+1)];show aa (Vl.ow (.list (l.take _)))=_;rw[show min (n+1) (l.length+1)-1=min n l.length by lia,<-Yk]
theorem Vv(x:az)(l:List az)(n:Nat):ue (aa ((n:Int)+1)) ak (.list (x::l))=aa (.ow (.list (l.drop n))):=by
 show aa (Vl.ow (.list (p8 (x::l) (aa ((n:Int)+1)) ak)))=_;unfold p8;rw[show HT.bT (x::l).length 0 (aa ((n:Int)+1))=min (n+1) (x::l).length from HT.DN _ _ (n+1),show HT.bT (x::l).length (x::l).length ak=(x::l).length from rfl,yH (by rw[yK];exact cO _),eE];by_cases h:n<=l.length
 .rw[ZC aP,Yy]
 .rw[Nat.min_eq_right aP,Yy,Py,List.drop_eq_nil_of_le aP]
def RR(ws:List Str):az:=match ws with
 |[]=>.tuple []
 |k::r=>match kd.lookup k with
  |none=>.none
  |some ks=>match nO ks (r.take ks.length) with
   |.tuple cU=>if k=tM then tK cU (r.drop ks.length) else if(r.drop ks.length).isEmpty&&oU k cU then .tuple (.str k::cU) else .none
   |_=>.none
theorem Ur{w:Str}(h:isNone (kh w)=aF):∃x,kh w=.str x:=by
 unfold kh at h⊢;split at h
 .rw[bB (by assumption)];exact⟨_,rfl⟩
 .cases h
theorem DG{lo hi:Int}{w:Str}(h:isNone (jf lo hi w)=aF):∃n,jf lo hi w=.int n:=by
 unfold jf at h⊢;split at h
 .rw[bB (by assumption)];exact⟨_,rfl⟩
 .cases h
def jx(z:Str):List Str:=(Txt.split z (aB " ")).filter λw=>!(w==aB "")
theorem J0(z:Str):gC (aB "name") z=kh z:=bB rfl
theorem Us(z:Str):gC (aB "day") z=jf 0 99999 z:=by
 unfold gC;rw[bK aM,bK aM];rfl
theorem Ut{ks zs:List Str}{cU:List az}(h:nO ks zs=.tuple cU):cU=qm gC ks zs/\ks.length<=zs.length/\∀d∈cU,isNone d=aF:=by
 unfold nO at h;split at h
 .cases h
 .rename_i c;cases h;rw[PX,not_or,decide_eq_true_eq,O7] at c
  refine⟨rfl,aP,λd m=>?_⟩
  cases hd:isNone d with
  |false=>rfl
  |true=>exact absurd (Zh.mpr ⟨d,m,hd⟩) c.2
theorem acA{ks zs:List Str}{cU:List az}(h:nO ks zs=.tuple cU):cU.length=ks.length:=by
 obtain⟨e,l,_⟩:=Ut h
 rw[e,O7];lia
theorem afs{k:Str}{ks zs:List Str}{cU:List az}(h:kd.lookup k=aa ks)(hr:nO ks zs=.tuple cU):Bx k cU:=by
 obtain⟨e,l,n⟩:=Ut hr
 by_cases h1:k=oN
 .subst h1;have:kd.lookup oN=aa [aB "name",aB "name",aB "name",aB "day",aB "day",aB "sum"]:=aM;rw[this] at h;cases h
  match zs,l with
  |z1::z2::z3::z4::z5::z6::r,_=>
   simp only[O1,Yl,J0,Us] at e;subst e
   obtain⟨x1,e1⟩:=Ur (n (kh z1) bz)
   obtain⟨x2,e2⟩:=Ur (n (kh z2) bz)
   obtain⟨x4,e4⟩:=DG (n (jf 0 99999 z4) bz)
   obtain⟨x5,e5⟩:=DG (n (jf 0 99999 z5) bz)
   rw[e1,e2,e4,e5];exact .leave
 .by_cases h2:k=nH
  .subst h2;have:kd.lookup nH=aa [aB "name",aB "rank",aB "name",aB "day",aB "day"]:=aM;rw[this] at h;cases h
   match zs,l with
   |z1::z2::z3::z4::z5::r,_=>
    simp only[O1,Yl,J0,Us] at e;subst e
    obtain⟨x4,e4⟩:=DG (n (jf 0 99999 z4) bz)
    obtain⟨x5,e5⟩:=DG (n (jf 0 99999 z5) bz)
    rw[e4,e5];exact .rank
  .exact .other h1 h2
theorem Q7(ks zs:List Str):nO ks zs=.none\/∃cU,nO ks zs=.tuple cU/\cW cU=au:=by
 unfold nO;split
 .exact .inl rfl
 .refine .inr ⟨_,rfl,Jl ?_⟩;have ez:(ks.zip zs).map (λp=>gC p.1 p.2)=qm gC ks zs:=by rw[List.zip,Zo]
  rw[<-ez,iW];intro d m
  obtain⟨p,_,rfl⟩:=rR.mp m
  exact JZ _ _
theorem aft{C:Ce}{z:Str}(hz:z.length<=500000):fj 1 (j8 (iB (aG (aY uQ (aW 0) (aG (aQ (.str (aB " "))))))) .one Cd Cg []) [aa (.im (.str z)),ak,ak,ak,ak,ak] C=aa (.nx,[aa (.im (.str z)),aa (.ow (.list ((jx z).map .str))),ak,ak,ak,ak],C):=by
 have sp:uQ (.str z) (.str (aB " "))=aa (.ow (.list ((Txt.split z (aB " ")).map .str))):=bB ⟨aM,by show z.length+2<=1000000;lia⟩;have t:=uF (T:=.one) (ft:=Cd) (fe:=Cg) (fs:=[]) (C:=C) (λw:Str=>.str w) (λw=>!(w==aB "")) (λw:Str=>.str w) (l:=Txt.split z (aB " ")) λw m=>by
  refine⟨[.str w],rfl,?_,λ_=>⟨.im (.str w),_,rfl,rfl⟩⟩
  simp_arith[fP,qi,rN];rfl
 have l1:=Ym z (aB " ");have l2:(jx z).length<=(Txt.split z (aB " ")).length:=O4 _ _;have g:((jx z).length<=1000000)=True:=eqT;have t':jW .one Cd Cg [] ((Txt.split z (aB " ")).map .str) C=aa ((jx z).map .str,C):=t;simp_arith[sp,t',g]
theorem abB{z w:Str}(h:w∈jx z):w.length<=z.length:=aiQ (wu.mp h).1
theorem ad5(z:Str):(jx z).length<=z.length+2:=kI (O4 _ _) (Ym z (aB " "))
theorem Uu{tab:List (Str×List az)}{f:FB}{aj e1:En}{C C1:Ce}{k:Str}(h:f aj C=aa (.str k,e1,C1)):yo tab f aj C=aa (.im (.bool (tab.lookup k).isNone),aj,C1):=by
 unfold yo;rw[h];rfl
theorem ad6{tab:List (Str×List az)}{f:FB}{aj e1:En}{C C1:Ce}{k:Str}{ds:List az}(h:f aj C=aa (.str k,e1,C1))(hk:tab.lookup k=aa ds):tW tab f aj C=aa (.ks ds,aj,C1):=by
 unfold tW;rw[h]
 show(tab.lookup k).bind _=_
 rw[hk];rfl
theorem nC{f g:FS}{aj e1:En}{C C1:Ce}(h:f aj C=aa (.nx,e1,C1)):bU f g aj C=g e1 C1:=by
 unfold bU;rw[h]
theorem Vw{C:Ce}{z:Str}(hz:z.length<=500000):qx [.im (.str z)] C=aa (.im (RR (jx z)),C):=by
 have s1:=aft (C:=C) hz;have sh:∀w∈jx z,w.length<=1000000:=λw m=>kI (abB m) aP
 have ln:=ad5 z;generalize jx z=ws at *;refine hide λGG gg=>?_
 cases ws with
 |nil=>
  refine gg (fK [aa (.im (.str z)),ak,ak,ak,ak,ak] rfl rfl ?_ rfl rfl);show wQ _ (rT _ _)=_;unfold rT;rw[nC s1];simp_arith[PJ,Hv,cW];rfl
 |cons k r=>
  have ix:∀(v0 v2 v3 v4 v5:Option Vl),aG (aY cg (aW 1) (aG (aQ (.int 0)))) [v0,aa (.ow (.list ((k::r).map .str))),v2,v3,v4,v5] C=aa (.str k,[v0,aa (.ow (.list ((k::r).map .str))),v2,v3,v4,v5],C):=λv0 v2 v3 v4 v5=>by
   have:cg (.list (.str k::r.map .str)) (.int 0)=aa (.im (.str k)):=by
    show(dG _ _).map _=_
    rw[zT];rfl
   rw[fD];simp_arith[this]
  have lk:=ad4 k;cases hk:kd.lookup k with
  |none=>
   rw[hk] at lk;have g:=Uu (tab:=lK) (ix (aa (.im (.str z))) ak ak ak ak);rw[show lK.lookup k=ak from lk] at g;refine gg (fK [aa (.im (.str z)),ak,ak,ak,ak,ak] rfl rfl ?_ (by simp only[RR,hk];rfl) rfl);show wQ _ (rT _ _)=_;unfold rT;rw[nC s1,RR,hk];rw[fD] at g⊢;simp_arith[Hv,↓g,Option.isNone_none]
  |some ks=>
   rw[hk] at lk;have lk:lK.lookup k=aa (ks.map .str):=lk
   obtain⟨kok,kl⟩:=V8 hk
   have g:=Uu (tab:=lK) (ix (aa (.im (.str z))) ak ak ak ak);rw[lk] at g;have ga:=ad6 (tab:=lK) (ix (aa (.im (.str z))) ak ak ak ak) lk;have shr:∀w∈r,w.length<=1000000:=λw m=>sh w (fQ _ m)
   have w:=acz (C:=C) (zs:=r.take ks.length) kok aP λx m=>shr x (Yq m)
   have sm:=afr (.str k) (r.map .str) ks.length;have se:=Vv (.str k) (r.map .str) ks.length;rw[<-Z2] at sm;rw[<-List.map_drop] at se;rw[eE] at ln;have ld:(r.drop ks.length).length<=r.length:=by rw[yK];lia
   have two:gU (lg (jM (aW 1))) (c7 (eZ bF)) iG [aa (.im (.str z)),aa (.ow (.list ((k::r).map .str))),ak,ak,ak,ak] C=aa (.nx,[aa (.im (.str z)),aa (.ow (.list ((k::r).map .str))),ak,ak,ak,ak],C):=by
    rw[fD];simp_arith[Hv]
   have three:gU (eG (yo lK (aG (aY cg (aW 1) (aG (aQ (.int 0))))))) (c7 (aQ .none)) iG [aa (.im (.str z)),aa (.ow (.list ((k::r).map .str))),ak,ak,ak,ak] C=aa (.nx,[aa (.im (.str z)),aa (.ow (.list ((k::r).map .str))),ak,ak,ak,ak],C):=by
    rw[fD] at g⊢;simp_arith[↓g,Option.isNone_some]
   have four:fj 2 (tW lK (aG (aY cg (aW 1) (aG (aQ (.int 0)))))) [aa (.im (.str z)),aa (.ow (.list ((k::r).map .str))),ak,ak,ak,ak] C=aa (.nx,[aa (.im (.str z)),aa (.ow (.list ((k::r).map .str))),aa (.ks (ks.map .str)),ak,ak,ak],C):=by
    rw[fD] at ga⊢;simp_arith[↓ga]
   refine gg (fK [aa (.im (.str z)),ak,ak,ak,ak,ak] rfl rfl ?_ ?_ rfl)
   .show wQ _ (rT _ _)=_;unfold rT;rw[nC s1,nC two,nC three,nC four,RR,hk];clear s1 two three four g ga gg sh;dsimp only;rcases Q7 ks (r.take ks.length) with e|⟨cU,e,nl⟩
    .rw[e] at w⊢;rw[fD];simp_arith[jD,jw,j9,mJ,kZ,isNone,sm,se,w]
    .rw[e] at w⊢;have tl:=acA e;dsimp only;have ad:cH (.tuple [.str k]) (.tuple cU)=aa (.im (.tuple (.str k::cU))):=bB (by show 1+cU.length<=1000000;lia);by_cases h1:k=tM
     .have e1:(k==aB "rule")=au:=beq_iff_eq.mpr h1;have ru:=ad0 (C:=C) (cU:=cU) (zs:=r.drop ks.length) (λx m=>shr x (Yr m)) aP aP;rw[bB h1,fD];have at0:=zT (iM k) (r.map .str);simp_arith[jD,jw,j9,mJ,kZ,isNone,sm,se,w,nl,cg,nQ,at0,dX,jh,e1,ru,dZ]
     .have e1:(k==aB "rule")=aF:=beq_eq_false_iff_ne.mpr h1;have fo:=ad3 (C:=C) (afs hk e);rw[bK h1,fD];have at0:=zT (iM k) (r.map .str);cases hd:r.drop ks.length with
      |nil=>
       rw[hd] at se;cases hf:oU k cU with
       |true=>rw[hf] at fo;simp_arith[jD,jw,j9,mJ,kZ,isNone,sm,se,w,nl,cg,nQ,at0,dX,jh,e1,ad,dZ,cW,fo,PJ,H9]
       |false=>rw[hf] at fo;simp_arith[jD,jw,j9,mJ,kZ,isNone,sm,se,w,nl,cg,nQ,at0,dX,jh,e1,ad,dZ,cW,fo,PJ,H9]
      |cons y ys=>
       rw[hd,fD] at se;simp_arith[jD,jw,j9,mJ,kZ,isNone,sm,se,w,nl,cg,nQ,at0,dX,jh,e1,ad,dZ,cW,Hv]
   .rw[RR,hk];dsimp only;rcases Q7 ks (r.take ks.length) with e|⟨cU,e,nl⟩
    .rw[e];rfl
    .rw[e];dsimp only;unfold tK;split
     .split<;>rfl
     .split<;>rfl
def cP(n:Int):Str:=rm (.int n)
theorem Uv(m:Nat):(cP (m:Int)).cps.toList=(yZ 10 m).map CN:=by
 show(CK (m:Int)).shown.cps.toList=_
 rw[Hw];exact PySem.W.KIN.signs_num m
theorem acB(m:Nat)(h:0<m):(((yZ 10 m).map CN).headD 0)≠48:=by
 induction m using Nat.strongRecOn with
 |_ m ih=>
  by_cases c:m<10
  .rw[Nat.toDigits_of_lt_base c];have:∀d:Nat,d<10->0<d->([Nat.digitChar d].map CN).headD 0≠48:=aO;exact this m c h
  .have e:yZ 10 (m / 10)++yZ 10 (m%10)=yZ 10 (10*(m / 10)+m%10):=Nat.toDigits_append_toDigits aO aP aP;rw[show 10*(m / 10)+m%10=m by lia] at e;have:=ih (m / 10) aP aP;rw[<-e,yO];cases hd:(yZ 10 (m / 10)).map CN with
   |nil=>
    have l:=Yn 10 (m / 10);rw[List.map_eq_nil_iff.mp hd] at l;cases l
   |cons x y=>rw[hd] at this;exact this
structure Dec(n:Int):Prop where
 pl:sW (cP n)=au
 vl:nM (cP n)=n
 fr:∀c∈(cP n).cps.toList,48<=c/\c<=57
 ln:1<=(cP n).length/\(cP n).length<=10
 st:uW [.int n]=aa (.im (.str (cP n)))
theorem xP{n:Int}(h0:0<=n)(h1:n<10000000000):Dec n:=by
 obtain⟨m,rfl⟩:=Int.eq_ofNat_of_zero_le h0
 have cp:=Uv m;have ln:(cP (m:Int)).length<=10:=by
  have:=PySem.W.KT.len_num h0 (show(m:Int)<10^10 by lia);rw[show cP (m:Int)=aB (toString (m:Int)) from Hw _];exact this
 have l1:1<=(cP (m:Int)).length:=by
  have l:=Yn 10 m;have:(cP (m:Int)).length=(cP (m:Int)).cps.toList.length:=(lC ..).symm;rw[this,cp,cV];lia
 have fr:∀c∈(cP (m:Int)).cps.toList,48<=c/\c<=57:=λc hc=>by
  rw[cp] at hc
  obtain⟨ch,hch,rfl⟩:=rR.mp hc
  exact aiN (Nat.isDigit_of_mem_toDigits aO aO hch)
 have vl:nM (cP (m:Int))=m:=by
  unfold nM;rw[cp,PySem.W.KIN.val_back]
 refine⟨?_,vl,fr,⟨l1,ln⟩,bB ((afd (M:=10000000000) ⟨aP,aP⟩ aO).st aO aO)⟩
 unfold sW;rw[gH l1,gH ln];have b:uf 48 57 (cP (m:Int))=au:=iW.mpr λc hc=>by
  obtain⟨h1,h2⟩:=fr c hc
  rw[gH h1,gH h2];rfl
 rw[b];by_cases c:m=0
 .subst c;have:cP ((0:Nat):Int)=aB "0":=by
   refine mF ?_;rw[Uv];decide +kernel
  rw[this,beq_self_eq_true];rfl
 .have:(((⟨#[(cP (m:Int)).cps.toList.headD 0]⟩:Str)==aB "0"))=aF:=by
   refine beq_eq_false_iff_ne.mpr λe=>?_
   have e2:=congrArg (λz:Str=>z.cps.toList) e;rw[show(aB "0").cps.toList=[48] by decide +kernel] at e2;have e3:(cP (m:Int)).cps.toList.headD 0=48:=by
    have e2:[(cP (m:Int)).cps.toList.headD 0]=[48]:=e2
    exact(Qi e2).1
   rw[cp] at e3;exact acB m aP e3
  rw[this];simp
structure Wd(z:Str):Prop where
 fr:mY z
 ne:z≠nl
 ln:z.length<=30
theorem Jm{z:Str}(h:1<=z.length):z≠nl:=λe=>by
 rw[e] at h;exact absurd h aM
theorem Dec.wd{n:Int}(h:Dec n):Wd (cP n):=⟨λm=>by have:=h.fr 32 m;lia,Jm h.ln.1,by have:=h.ln.2;lia⟩
theorem CW{z:Str}(h:nameB z=au):(1<=z.length/\z.length<=8)/\∀c∈z.cps.toList,97<=c/\c<=122:=by
 have e:(decide (1<=z.length)&&decide (z.length<=8)&&uf 97 122 z)=au:=h;rw[fU,fU,decide_eq_true_eq,decide_eq_true_eq] at e
 refine⟨e.1,λc m=>?_⟩
 have:=iW.mp e.2 c m;rw[fU,decide_eq_true_eq,decide_eq_true_eq] at this;exact this
theorem KR{z:Str}(h:nameB z=au):Wd z:=by
 obtain⟨h1,h2⟩:=CW h
 exact⟨λm=>by have:=h2 32 m;lia,Jm h1.1,aP⟩
theorem ad7{z:Str}(h:nameB z=au):uW [.str z]=aa (.im (.str z)):=by
 obtain⟨h1,h2⟩:=CW h
 exact bB ((adI (M:=10) (B:=8) h1.2 λc m=>by have:=(h2 c m).2;lia).st aO aO)
theorem Uw{lo hi n:Int}(h0:0<=n)(h1:n<10000000000)(hl:lo<=n)(hh:n<=hi):jf lo hi (cP n)=.int n:=by
 have d:=xP h0 h1;unfold jf;rw[d.pl,d.vl,gH hl,gH hh];rfl
def slash:Str:=aB "/"
theorem zH:slash=⟨#[47]⟩:=aM
def jX(p:Int×Str):Str:=cP p.1++(if p.2=nl then nl else slash++p.2)
theorem abC{x:Str}(h:47∉x.cps.toList):jE x=(x,nl,nl):=by
 unfold jE;rw[show aB "/"=⟨#[47]⟩ from zH];rcases XC x ⟨#[47]⟩ with⟨e,_⟩|⟨i,_,hi,_⟩
 .rw[e,show IW=nl by decide +kernel]
 .exact absurd ((X4 x 47).mpr ⟨i,hi⟩) h
theorem abD{a b:Str}(h:47∉a.cps.toList):jE (a++(slash++b))=(a,slash,b):=by
 have cp:(a++(slash++b)).cps.toList=a.cps.toList++47::b.cps.toList:=by rw[ji,ji,zH];rfl
 have al:a.length=a.cps.toList.length:=(lC ..).symm;have bl:b.length=b.cps.toList.length:=(lC ..).symm;have xl:(a++(slash++b)).length=a.length+(1+b.length):=by
  rw[show(a++(slash++b)).length=(a++(slash++b)).cps.toList.length from(lC ..).symm,cp,al,bl,gD,eE];lia
 unfold jE;rw[show aB "/"=slash from rfl];generalize hx:a++(slash++b)=x at *;rw[zH];rcases XC x ⟨#[47]⟩ with⟨_,hn⟩|⟨i,e,hi,hk⟩
 .have:(47:Nat)∈x.cps.toList:=by rw[cp];simp
  obtain⟨i,hi⟩:=(X4 x 47).mp this
  exact absurd hi (hn i)
 .have g:=(Y5 x 47 i).mp hi;have at0:StrLaws.At x ⟨#[47]⟩ x.length a.cps.toList.length:=(Y5 x 47 _).mpr (by rw[cp,lB (cO _),Ia];rfl);have ia:i=a.cps.toList.length:=by
   rcases Pq i a.cps.toList.length with c|c|c
   .rw[cp,kj c] at g;exact absurd (nW g) h
   .exact c
   .exact absurd at0 (hk _ c)
  subst ia;rw[e];have e1:XS x 0 a.cps.toList.length=a:=by
   rw[Yd];refine mF ?_
   show(x.cps.toList.drop 0).take (a.cps.toList.length-0)=_
   rw[cp,HN,aaj,List.take_left]
  have e2:XS x (a.cps.toList.length+Str.length ⟨#[47]⟩) x.length=b:=by
   rw[Yd];refine mF ?_
   show(x.cps.toList.drop (a.cps.toList.length+1)).take (x.length-(a.cps.toList.length+1))=_
   rw[cp,show a.cps.toList++47::b.cps.toList=(a.cps.toList++[47])++b.cps.toList by simp,List.drop_left' bz,xl,al,bl];exact yH aP
  rw[e1,e2]
def tO(p:Int×Str):Prop:=1<=p.1/\p.1<=9/\(p.2=nl\/nameB p.2=au)
def mK(p:Int×Str):az:=.tuple [.int p.1,.str p.2]
theorem acC{p:Int×Str}(h:tO p):je (jX p)=mK p:=by
 obtain⟨r,x⟩:=p
 obtain⟨h1,h9,hx⟩:=h
 have d:=xP (n:=r) aP aP;have Xn:47∉(cP r).cps.toList:=λm=>by have:=d.fr 47 m;lia
 have nd:jf 1 9 (cP r)=.int r:=Uw aP aP h1 h9;unfold je jX mK;dsimp only;by_cases c:x=nl
 .subst c;rw[bB rfl,Lr,abC Xn];dsimp only;rw[nd];rfl
 .rw[bK c,abD Xn];dsimp only;rw[nd];rcases hx with hx|hx
  .exact absurd hx c
  .dsimp only at hx;rw[hx];simp[isNone]
theorem ad8{p:Int×Str}(h:tO p):Wd (jX p):=by
 obtain⟨r,x⟩:=p
 obtain⟨h1,h9,hx⟩:=h
 have d:=xP (n:=r) aP aP;have dw:=d.wd;unfold jX;dsimp only;by_cases c:x=nl
 .rw[bB c,Lr];exact dw
 .rw[bK c];rcases hx with hx|hx
  .exact absurd hx c
  .obtain⟨n1,n2⟩:=CW hx
   have cp:(cP r++(slash++x)).cps.toList=(cP r).cps.toList++47::x.cps.toList:=by rw[ji,ji,zH];rfl
   have ln:(cP r++(slash++x)).length=(cP r).length+(1+x.length):=by
    rw[show(cP r++(slash++x)).length=(cP r++(slash++x)).cps.toList.length from(lC ..).symm,cp,gD,eE,lC,lC]
    show(cP r).length+(x.length+1)=_
    lia
   have l2:=d.ln
   refine⟨λm=>?_,Jm aP,by dsimp only at n1;lia⟩
   rw[cp] at m;rcases cL.mp m with m|m
   .exact dw.fr m
   .rcases cD.mp m with m|m
    .cases m
    .have:=n2 32 m;lia
theorem acD{fe:FE}(he:fe=aY cg (aW 1) (aG (cu dR (aL (bA 2) (aL (aQ (.int 26)) bF))))){C:Ce}{b L j:Nat}{size:Int}(h:Bl L C b (j+7))(h0:0<=size)(h1:size<=7):
  ∃(cs:List Nat)(C':Ce),jW .one jo fe [aa (.im (.str abc)),aa (.ce b)] (lq 0 size.toNat) C=aa ((cs.map λc=>.str ⟨#[c]⟩),C')/\cs.length=size.toNat/\(∀c∈cs,97<=c/\c<=122)/\Bl L C' b j:=by
 subst he;refine hide λGG gg=>?_
 obtain⟨ys,C',e,hB,hl,hr⟩:=Jb (T:=.one) (fe:=aY cg (aW 1) (aG (cu dR (aL (bA 2) (aL (aQ (.int 26)) bF))))) (fs:=[aa (.im (.str abc)),aa (.ce b)]) (λi C1=>Bl L C1 b (j+(7-i))) (λ_ y=>∃c:Nat,y=.str ⟨#[c]⟩/\97<=c/\c<=122) (aD:=lq 0 size.toNat) (C:=C) (k:=0) h (λi d C1 hd hB=>by
  obtain⟨rfl,hi⟩:=zP hd
  rw[wG] at hB⊢;rw[Lk j (by lia:i<7)] at hB
  obtain⟨k1,C2,e1,a1,b1,jN⟩:=iu (m:=26) hB aO aO
  refine⟨_,.im (.str ⟨#[97+k1.toNat]⟩),[aa (.im (.int (0+i))),aa (.im (.str abc)),aa (.ce b)],C2,.str ⟨#[97+k1.toNat]⟩,rfl,?_,rfl,⟨_,rfl,aP,aP⟩,jN⟩
  simp_arith[fP,qi,rN,e1,cg,letters k1 a1 b1])
 rw[Dr] at hB hl
 obtain⟨cs,rfl,hcs⟩:∃cs:List Nat,ys=cs.map (λc=>.str ⟨#[c]⟩)/\∀c∈cs,97<=c/\c<=122:=by
  clear e hl hB gg;induction ys with
  |nil=>exact⟨[],rfl,λ_ m=>(nomatch m)⟩
  |cons y ys ih=>
   obtain⟨c,rfl,c1,c2⟩:=hr 0 y rfl
   obtain⟨cs,rfl,h2⟩:=ih λi z hz=>hr (i+1) z (by simpa using hz)
   exact⟨c::cs,rfl,λx hx=>by
    rcases cD.mp hx with rfl|hx
    .exact⟨c1,c2⟩
    .exact h2 x hx⟩
 exact gg ⟨cs,C',e,by simpa using hl,hcs,hB.mono (Nat.le_add_right _ _)⟩
theorem acE{cs:List Nat}(h:cs.length<=100):∃z:Str,xN (.str (aB "")) (.list (cs.map λc=>.str ⟨#[c]⟩))=aa (.im (.str z))/\z.cps.toList=cs/\z.length=cs.length:=by
 refine⟨Txt.join (aB "") (cs.map λc=>⟨#[c]⟩),?_,Q0 cs,?_⟩
 .simp only[xN,Qv];refine bB ?_;rw[wF,Ua,abk,Nat.mul_zero];unfold dH;lia
 .have:=congrArg QB (Q0 cs);rw[<-this];show _=(Txt.join (aB "") (cs.map λc=>⟨#[c]⟩)).cps.toList.length;simp;rfl
theorem oF(z:Str):z.length=z.cps.toList.length:=(lC ..).symm
theorem afu{z:Str}{a:Int}{c:Nat}(hz:∀c∈z.cps.toList,97<=c/\c<=122)(h1:1<=z.length)(h7:z.length<=7)(a0:0<=a)(a1:a<=z.length)(c0:97<=c)(c1:c<=122):
  nameB (Txt.slice z ak (aa a)++⟨#[c]⟩++Txt.slice z (aa a) ak)=au/\(Txt.slice z ak (aa a)++⟨#[c]⟩++Txt.slice z (aa a) ak).length=z.length+1:=by
 have e1:=eq_of_beq (aik (x:=z) a0 a1);have e2:=eq_of_beq (aii (x:=z) (b:=z.length) a0 a1 rfl);have cp:(Txt.slice z ak (aa a)++⟨#[c]⟩++Txt.slice z (aa a) ak).cps.toList=z.cps.toList.take a.toNat++c::z.cps.toList.drop a.toNat:=by
  rw[ji,ji,e1,e2]
  show(z.cps.toList.drop (Ry 0)).take (a-0).toNat++[c]++(z.cps.toList.drop a.toNat).take (z.length-a).toNat=_
  rw[show(a-0).toNat=a.toNat by lia,show Ry 0=0 from rfl,HN,yH (l:=z.cps.toList.drop a.toNat) (by rw[yK,<-oF];lia),nY];rfl
 have ln:(Txt.slice z ak (aa a)++⟨#[c]⟩++Txt.slice z (aa a) ak).length=z.length+1:=by
  rw[oF,cp,gD,eE,BR,yK,<-oF];lia
 refine⟨?_,ln⟩
 show(decide (1<=(Txt.slice z ak (aa a)++⟨#[c]⟩++Txt.slice z (aa a) ak).length)&&decide ((Txt.slice z ak (aa a)++⟨#[c]⟩++Txt.slice z (aa a) ak).length<=8)&&uf 97 122 _)=au
 rw[ln,gH (by lia:1<=z.length+1),gH (by lia:z.length+1<=8)];refine iW.mpr λd m=>?_
 rw[cp] at m;have:97<=d/\d<=122:=by
  rcases cL.mp m with m|m
  .exact hz d (Yq m)
  .rcases cD.mp m with rfl|m
   .exact⟨c0,c1⟩
   .exact hz d (Yr m)
 rw[gH this.1,gH this.2];rfl
theorem acF{c:Nat}(c0:97<=c)(c1:c<=122):nameB ⟨#[c]⟩=au:=by
 show(decide (1<=1)&&decide (1<=8)&&((decide (97<=c)&&decide (c<=122))&&au))=au
 rw[gH c0,gH c1];rfl
def NmL(m:Nat)(zs:List Str):Prop:=zs.length=m/\(∀z∈zs,nameB z=au)/\(∀z,zs[0]?=aa z->2<=z.length)/\∀z,zs[1]?=aa z->z.length=1
theorem acG{C:Ce}{b L j:Nat}{m:Int}(h:Bl L C b (j+10))(h0:0<=m)(h1:m<=20):
  ∃(zs:List Str)(C':Ce),Dt [.ce b,.im (.int m)] C=aa (.ow (.list (zs.map .str)),C')/\NmL m.toNat zs/\Bl L C' b j:=by
 refine hide λGG gg=>?_
 obtain⟨s,C1,e1,s0,s1,jN⟩:=iu (m:=7) (k:=j+9) h aO aO
 obtain⟨cs,C2,e2,cl,hc,hB2⟩:=acD (fe:=QJ) rfl (j:=j+2) (size:=1+s) jN aP aP
 obtain⟨z,e3,zc,zl⟩:=acE (cs:=cs) aP
 obtain⟨a,C3,e4,a0,a1,hB3⟩:=iu (m:=(z.length:Int)+1) (k:=j+1) hB2 aP aP
 obtain⟨f,C4,e5,f0,f1,mZ⟩:=iu (m:=26) (k:=j) hB3 aO aO
 have zn:∀c∈z.cps.toList,97<=c/\c<=122:=by rw[zc];exact hc
 obtain⟨aU,C',e,zs,v7,v8,he,hC,hl,hN,hf,hs⟩:=Df (g:=gB 7) (body:=Il) (aD:=lq 0 m.toNat) (aj:=[aa (.ce b),aa (.im (.int m)),aa (.im (.str abc)),aa (.im (.str z)),aa (.im (.int a)),aa (.im (.int f)),aa (.ow (.list [])),ak,ak]) (C:=C4)
  (λi aj C5=>∃(zs:List Str)(v7 v8:Option Vl),aj=[aa (.ce b),aa (.im (.int m)),aa (.im (.str abc)),aa (.im (.str z)),aa (.im (.int a)),aa (.im (.int f)),aa (.ow (.list (zs.map .str))),v7,v8]/\C5=C4/\zs.length=i/\(∀z∈zs,nameB z=au)/\(∀z,zs[0]?=aa z->2<=z.length)/\∀z,zs[1]?=aa z->z.length=1)
  ⟨[],ak,ak,rfl,rfl,rfl,λ_ m=>(nomatch m),λz h=>by simp at h,λz h=>by simp at h⟩ (λi d aj C5 hd hI=>by
   obtain⟨zs,v7,v8,rfl,rfl,hl,hN,hf,hs⟩:=hI
   obtain⟨rfl,hi⟩:=zP hd
   obtain⟨i',hi'⟩:∃i':Int,(0:Int)+(i:Int)=i':=⟨_,rfl⟩
   rw[hi'];refine hide λGG gg=>?_
   have i0:0<=i':=aP;have ib:i'<20:=aP;have iN:i'.toNat=i:=aP;have m0:0<=(f+7*i')%26:=rO _ aO;have m1:(f+7*i')%26<26:=uh _ aO
   obtain⟨g,hg⟩:∃g,(f+7*i')%26=g:=⟨_,rfl⟩
   rw[hg] at m0 m1;have md:jc (.int (f+7*i')) (.int 26)=aa (.im (.int g)):=by rw[mod_eq aO,hg]
   have md2:jc (.int i') (.int 2)=aa (.im (.int (i'%2))):=mod_eq aO;have mu:=mul_eq (i:=7) (j:=i') (.inl aO)
   obtain⟨nI,lI⟩:=afu (z:=z) (a:=a) (c:=97+g.toNat) zn aP aP a0 aP aP aP
   have g1:(z.length<=1000000)=True:=eqT;have lA:(Txt.slice z ak (aa a)++(⟨#[97+g.toNat]⟩:Str)).length<=100/\(Txt.slice z ak (aa a)).length<=100/\(Txt.slice z (aa a) ak).length<=100:=by
    have q1:=Txt.slice_le z ak (aa a);have q2:=Txt.slice_le z (aa a) ak
    refine⟨?_,aP,aP⟩
    rw[oF,ji,gD,<-oF];show _+1<=100;lia
   have ad1:cH (.str (Txt.slice z ak (aa a))) (.str ⟨#[97+g.toNat]⟩)=aa (.im (.str (Txt.slice z ak (aa a)++⟨#[97+g.toNat]⟩))):=bB (by show _+1<=1000000;lia);have ad2:cH (.str (Txt.slice z ak (aa a)++⟨#[97+g.toNat]⟩)) (.str (Txt.slice z (aa a) ak))=aa (.im (.str (Txt.slice z ak (aa a)++⟨#[97+g.toNat]⟩++Txt.slice z (aa a) ak))):=bB (by show _+_<=1000000;lia)
   obtain⟨w,hw,nw,w0,w1⟩:∃w:Str,dG [iM (Txt.slice z ak (aa a)++⟨#[97+g.toNat]⟩++Txt.slice z (aa a) ak),.str ⟨#[97+g.toNat]⟩] (i'%2)=aa (.str w)/\nameB w=au/\(i'=0->2<=w.length)/\(i'=1->w.length=1):=by
    rcases(by lia:i'%2=0\/i'%2=1) with c|c
    .exact⟨_,by rw[c];rfl,nI,λ_=>by rw[lI];lia,λh=>aP⟩
    .exact⟨_,by rw[c];rfl,acF aP aP,λh=>aP,λ_=>rfl⟩
   have g3:(zs.length<1000000)=True:=eqT;refine gg ⟨_,.nx,_,C5,rfl,?_,.inl rfl,zs++[w],aa (.im (.int i')),aa (.im (.str ⟨#[97+g.toNat]⟩)),rfl,rfl,by simp[hl],λy hy=>?_,λy hy=>?_,λy hy=>?_⟩
   .have ixl:cg (.str abc) (.int g)=aa (.im (.str ⟨#[97+g.toNat]⟩)):=by unfold cg;rw[letters g m0 m1];rfl
    have ixw:cg (.list [.str (Txt.slice z ak (aa a)++⟨#[97+g.toNat]⟩++Txt.slice z (aa a) ak),.str ⟨#[97+g.toNat]⟩]) (.int (i'%2))=aa (.im (.str w)):=by show(dG _ _).map _=_;rw[hw];rfl
    simp_arith[Il,mu,md,md2,ixl,jD,j9,jw,ue,g1,ad1,ad2,ixw,p6,qP,g3,yO]
   .rcases cL.mp hy with hy|hy
    .exact hN y hy
    .rw[gZ.mp hy];exact nw
   .by_cases c:zs.length=0
    .rw[X5.mp c] at hy;cases hy;exact w0 aP
    .rw[kj aP] at hy;exact hf y hy
   .rcases(by lia:1<zs.length\/zs.length=1\/zs.length=0) with c|c|c
    .rw[kj c] at hy;exact hs y hy
    .rw[lB aP,c] at hy;cases hy;exact w1 aP
    .rw[X5.mp c] at hy;cases hy)
 subst he hC;rw[Dr] at hl;have g5:((1+s).toNat<=1000000)=True:=eqT;refine gg ⟨zs,C',fK [aa (.ce b),aa (.im (.int m)),ak,ak,ak,ak,ak,ak,ak] rfl rfl ?_ rfl (by rw[mZ.1,h.1]),⟨hl,hN,hf,hs⟩,mZ⟩;have ahn:=len_str (z:=z) aP;simp_arith[JG,e1,pC,Be (m:=1+s) aP aP,e2,cl,g5,Q3,vz,e3,ahn,e4,e5,Be (m:=m) aP aP,lu,e]
def vM:Nat->az->Bool
 |0,_=>aF
 |_+1,.none=>au
 |_+1,.int _=>au
 |_+1,.str _=>au
 |n+1,.tuple ds=>decide (ds.length<=1000)&&ds.all (vM n)
 |_+1,_=>aF
theorem Rz{C:Ce}{f:FN}:∀(ds:List az),(∀d∈ds,f [.im d,.im d] C=aa (.im (.bool au),C))->jW (.many 2) jo (Q4 f) [] (ig ds ds) C=aa (cM ds.length (.bool au),C)
 |[],_=>rfl
 |x::xs,h=>by
  have ih:=Rz xs λd m=>h d (fQ _ m)
  have h1:=h x gh;rw[ig];unfold jW;rw[eE,Hh];simp_arith[yx,jo,fP,jP,h1,ih]
theorem S6{C:Ce}:∀(n:Nat)(d:az),vM n d=au->qH n [.im d,.im d] C=aa (.im (.bool au),C)
 |0,_,h=>by cases h
 |n+1,d,h=>by
  cases d<;>first|cases h|skip
  .have en:dX .none .none=aa (.im (.bool au)):=rfl;refine Fo (k:=2) (n:=2) (en:=[aa (.im .none),aa (.im .none)]) (e1:=[aa (.im .none),aa (.im .none)]) rfl rfl ?_ rfl rfl;simp_arith[xG,gW,vq,j4,kZ,isNone,pX,en]
  .rename_i i;have e:decide (i=i)=au:=gH rfl;refine Fo (k:=2) (n:=2) (en:=[aa (.im (.int i)),aa (.im (.int i))]) (e1:=[aa (.im (.int i)),aa (.im (.int i))]) rfl rfl ?_ rfl rfl;simp_arith[xG,gW,vq,j4,kZ,isNone,pX,Ag,e]
  .rename_i z;have e:decide (z=z)=au:=gH rfl;refine Fo (k:=2) (n:=2) (en:=[aa (.im (.str z)),aa (.im (.str z))]) (e1:=[aa (.im (.str z)),aa (.im (.str z))]) rfl rfl ?_ rfl rfl;simp_arith[xG,gW,vq,j4,kZ,isNone,pX,Ag,e]
  .rename_i ds;unfold vM at h;rw[fU] at h;have h1:(ds.length<=1000000)=True:=eq_true (by have:=of_decide_eq_true h.1;lia);have t:=Rz (C:=C) ds λd m=>S6 n d (iW.mp h.2 d m)
   have b:=aaL ds.length;have e:decide ((ds.length:Int)=ds.length)=au:=gH rfl;refine Fo (k:=2) (n:=2) (en:=[aa (.im (.tuple ds)),aa (.im (.tuple ds))]) (e1:=[aa (.im (.tuple ds)),aa (.im (.tuple ds))]) rfl rfl ?_ rfl rfl;simp_arith[xG,gW,vq,j4,kZ,isNone,pX,M6,adB (rfl:ds.length=ds.length),t,b.1,b.2,O2,h1,e]
inductive Tg:az->List Str->Prop
 |name {z:Str}:nameB z=au->Tg (.str z) [z]
 |dash:Tg (.str nl) [aB "-"]
 |num {n:Int}:0<=n->n<=1000000000->Tg (.int n) [cP n]
 |seats {ps:List (Int×Str)}:(∀p∈ps,tO p)->ps.length<=6->Tg (.tuple (ps.map mK)) (ps.map jX)
inductive nU:List az->List Str->Prop
 |nil:nU [] []
 |cons {d:az} {ws:List Str} {ds:List az} {vs:List Str}:Tg d ws->nU ds vs->nU (d::ds) (ws++vs)
theorem Tg.fit{d:az}{ws:List Str}(h:Tg d ws):vM 3 d=au:=by
 cases h with
 |name _=>rfl
 |dash=>rfl
 |num _ _=>rfl
 |@seats ps h l=>
  unfold vM;rw[fU,decide_eq_true_eq,cV]
  refine⟨aP,iW.mpr λd m=>?_⟩
  obtain⟨p,_,rfl⟩:=rR.mp m
  rfl
theorem ad9:Wd (aB "-"):=⟨by unfold mY;decide +kernel,aM,aM⟩
theorem Tg.jx{d:az}{ws:List Str}(h:Tg d ws):(∀w∈ws,Wd w)/\ws.length<=6:=by
 cases h with
 |name h=>exact⟨λw m=>by rw[gZ.mp m];exact KR h,bz⟩
 |dash=>exact⟨λw m=>by rw[gZ.mp m];exact ad9,bz⟩
 |num h0 h1=>exact⟨λw m=>by rw[gZ.mp m];exact(xP h0 aP).wd,bz⟩
 |seats h l=>exact⟨λw m=>by obtain⟨p,mp,rfl⟩:=rR.mp m;exact ad8 (h p mp),by rw[cV];exact l⟩
theorem nU.fit{ds:List az}{ws:List Str}(h:nU ds ws):ds.all (vM 3)=au:=by
 induction h with
 |nil=>rfl
 |cons a _ ih=>rw[oh,a.fit,ih];rfl
theorem nU.jx{ds:List az}{ws:List Str}(h:nU ds ws):(∀w∈ws,Wd w)/\ws.length<=6*ds.length:=by
 induction h with
 |nil=>exact⟨λ_ m=>(nomatch m),cO _⟩
 |@cons d ws ds vs a _ ih=>
  obtain⟨a1,a2⟩:=a.jx
  refine⟨λw m=>(cL.mp m).elim (a1 w) (ih.1 w),?_⟩
  rw[gD,eE];have:=ih.2;lia
structure nJ(d:az)(ws:List Str):Prop where
 ex:∃k ds vs,d=.tuple (.str k::ds)/\ws=k::vs/\nameB k=au/\nU ds vs/\ds.length<=6
 rr:RR ws=d
structure rE(k:Str)(d:az)(w:Str):Prop where
 rd:gC k w=d
 nn:isNone d=aF
 tg:Tg d [w]
theorem iR{z:Str}(h:nameB z=au):rE (aB "name") (.str z) z:=⟨by rw[J0,kh,bB h],rfl,.name h⟩
theorem aea{z:Str}(h:z=nl\/nameB z=au):∃w,rE (aB "within") (.str z) w:=by
 by_cases c:z=nl
 .subst c
  refine⟨aB "-",?_,rfl,.dash⟩
  unfold gC;rw[bK aM,bB rfl,bB rfl];rfl
 .rcases h with h|h
  .exact absurd h c
  .refine⟨z,?_,rfl,.name h⟩
   unfold gC;rw[bK aM,bB rfl,bK (λe=>by rw[e] at h;exact absurd h aM),kh,bB h]
theorem Ac{k:Str}{lo hi n:Int}(hk:rU.lookup k=aa [.int lo,.int hi])(h1:k≠aB "name")(h2:k≠aB "within")(h0:0<=lo)(h9:hi<=1000000000)(hl:lo<=n)(hh:n<=hi):rE k (.int n) (cP n):=by
 refine⟨?_,rfl,.num aP aP⟩
 unfold gC;rw[bK h1,bK h2,hk];exact Uw aP aP hl hh
theorem lO{n:Int}(h0:0<=n)(h1:n<=99999):rE (aB "day") (.int n) (cP n):=Ac (lo:=0) (hi:=99999) (by with_unfolding_all rfl) aM aM aO aO h0 h1
theorem uZ{n:Int}(h0:0<=n)(h1:n<=1000000000):rE (aB "sum") (.int n) (cP n):=Ac (lo:=0) (hi:=1000000000) (by with_unfolding_all rfl) aM aM aO aO h0 h1
theorem aeb{n:Int}(h0:1<=n)(h1:n<=9):rE (aB "rank") (.int n) (cP n):=Ac (lo:=1) (hi:=9) (by with_unfolding_all rfl) aM aM aO aO h0 h1
theorem uJ{n:Int}(h0:0<=n)(h1:n<=999):rE (aB "number") (.int n) (cP n):=Ac (lo:=0) (hi:=999) (by with_unfolding_all rfl) aM aM aO aO h0 h1
theorem aec{n:Int}(h0:1<=n)(h1:n<=999):rE (aB "days") (.int n) (cP n):=Ac (lo:=1) (hi:=999) (by with_unfolding_all rfl) aM aM aO aO h0 h1
inductive ug:List Str->List az->List Str->Prop
 |nil:ug [] [] []
 |cons {k:Str} {d:az} {w:Str} {ks:List Str} {ds:List az} {ws:List Str}:rE k d w->ug ks ds ws->ug (k::ks) (d::ds) (w::ws)
structure Nf(ks:List Str)(ds:List az)(ws:List Str):Prop where
 zip:qm gC ks ws=ds
 l1:ws.length=ks.length
 l2:ds.length=ks.length
 nn:ds.any isNone=aF
 tg:nU ds ws
theorem ug.all{ks:List Str}{ds:List az}{ws:List Str}(h:ug ks ds ws):Nf ks ds ws:=by
 induction h with
 |nil=>exact⟨rfl,rfl,rfl,rfl,.nil⟩
 |cons a _ ih=>exact⟨by rw[O1,a.rd,ih.zip],by rw[eE,eE,ih.l1],by rw[eE,eE,ih.l2],by rw[ou,a.nn,ih.nn];rfl,.cons a.tg ih.tg⟩
theorem Nf.rd{ks:List Str}{ds:List az}{ws:List Str}(h:Nf ks ds ws):nO ks ws=.tuple ds:=by
 unfold nO;rw[h.zip,h.nn,h.l2,lQ (ux _)];rfl
theorem Jo{k:Str}{ks:List Str}{ds:List az}{ws:List Str}(hk:kd.lookup k=aa ks)(hn:nameB k=au)(h1:k≠tM)(T:ug ks ds ws)(hf:oU k ds=au):nJ (.tuple (.str k::ds)) (k::ws):=by
 have P:=T.all
 refine⟨⟨k,ds,ws,rfl,rfl,hn,P.tg,by rw[P.l2];exact(V8 hk).2⟩,?_⟩
 rw[RR,hk];dsimp only;rw[yH (by rw[P.l1];exact cO _),List.drop_of_length_le (by rw[P.l1];exact cO _),P.rd];dsimp only;rw[bK h1,hf];rfl
theorem aaT{k:Str}{ds:List az}(h1:k≠oN)(h2:k≠nH):oU k ds=au:=by rw[oU,bK h1,bK h2]
theorem acH{a:Str}{s:Int}{ps:List (Int×Str)}(ha:nameB a=au)(s0:0<=s)(s1:s<=1000000000)(hp:∀p∈ps,tO p)(hl:ps.length<=6):nJ (.tuple [.str tM,.str a,.int s,.tuple (ps.map mK)]) (tM::a::cP s::ps.map jX):=by
 have P:=(ug.cons (iR ha) (.cons (uZ s0 s1) .nil)).all
 refine⟨⟨tM,[.str a,.int s,.tuple (ps.map mK)],a::cP s::ps.map jX,rfl,rfl,aM,?_,bz⟩,?_⟩
 .have:=nU.cons (iR ha).tg (.cons (uZ s0 s1).tg (.cons (.seats hp hl) .nil));simpa using this
 .have hk:kd.lookup tM=aa [aB "name",aB "sum"]:=aM;rw[RR,hk];dsimp only;rw[show(a::cP s::ps.map jX).take [aB "name",aB "sum"].length=[a,cP s] from rfl,show(a::cP s::ps.map jX).drop [aB "name",aB "sum"].length=ps.map jX from rfl,P.rd];dsimp only;rw[bB rfl];unfold tK;have e:(ps.map jX).map je=ps.map mK:=by
   rw[wF];exact List.map_congr_left λp m=>acC (hp p m)
  have n:(ps.map mK).any isNone=aF:=by
   rw[YS];intro d m
   obtain⟨p,_,rfl⟩:=rR.mp m
   exact gq
  rw[e,n,cV,lQ aP];rfl
theorem nJ.same{C:Ce}{d:az}{ws:List Str}(h:nJ d ws):qH 4 [.im d,.im d] C=aa (.im (.bool au),C):=by
 obtain⟨k,ds,vs,rfl,_,_,t,l⟩:=h.ex
 refine S6 4 _ ?_;unfold vM;rw[fU,decide_eq_true_eq,eE,oh,t.fit]
 exact⟨aP,rfl⟩
theorem nJ.words{d:az}{ws:List Str}(h:nJ d ws):(∀w∈ws,Wd w)/\ws.length<=37/\ws≠[]:=by
 obtain⟨k,ds,vs,_,rfl,n,t,l⟩:=h.ex
 obtain⟨a,b⟩:=t.jx
 refine⟨λw m=>?_,by rw[eE];lia,Hz _ _⟩
 rcases cD.mp m with rfl|m
 .exact KR n
 .exact a w m
theorem abE(n:Int){z:Str}(h:PyData.strOk z=au):dX (.int n) (.str z)=aa (.im (.bool aF)):=by simp[dX,jh,nP,lX,zj,ZP,Ie,h]
theorem acI{C:Ce}{p:Int×Str}(h:tO p):Iv (fP [.int p.1,.str p.2]++[]) C=aa (.im (.str (jX p)),[aa (.im (.int p.1)),aa (.im (.str p.2))],C):=by
 obtain⟨r,x⟩:=p
 obtain⟨h1,h9,hx⟩:=h
 dsimp only at *;have d:=xP (n:=r) aP aP;have dl:=d.ln;have e:jL (.str x) (.str (aB ""))=aa (.im (.bool (!(x==nl)))):=rfl;unfold jX;dsimp only;by_cases c:x=nl
 .subst c;rw[bB rfl];rw[beq_self_eq_true] at e;have a1:cH (.str (cP r)) (.str (aB ""))=aa (.im (.str (cP r++nl))):=bB (by show(cP r).length+(aB "").length<=1000000;rw[show(aB "").length=0 by decide +kernel];lia);simp_arith[fP,qi,rN,d.st,e,a1]
 .rw[bK c];rw[beq_eq_false_iff_ne.mpr c] at e;rcases hx with hx|hx
  .exact absurd hx c
  .obtain⟨n1,_⟩:=CW hx
   have a0:cH (.str (aB "/")) (.str x)=aa (.im (.str (slash++x))):=bB (by show(aB "/").length+x.length<=1000000;rw[show(aB "/").length=1 by decide +kernel];lia);have l2:(slash++x).length=1+x.length:=by rw[oF,ji,gD,<-oF,zH,<-oF];rfl
   have a1:cH (.str (cP r)) (.str (slash++x))=aa (.im (.str (cP r++(slash++x)))):=bB (by show(cP r).length+(slash++x).length<=1000000;lia);simp_arith[fP,qi,rN,d.st,e,a0,a1]
theorem abF{C:Ce}{d:az}{ws:List Str}(h:Tg d ws):Ef [.im d] C=aa (.ow (.list (ws.map .str)),C):=by
 cases h with
 |@name z h=>
  have e:dX (.str z) (.str (aB ""))=aa (.im (.bool (z==nl))):=rfl;rw[beq_eq_false_iff_ne.mpr (KR h).ne] at e;refine fK [aa (.im (.str z))] rfl rfl ?_ rfl rfl;simp_arith[xF,gW,j4,e,ad7 h]
 |dash=>
  have e:dX (.str nl) (.str (aB ""))=aa (.im (.bool (nl==nl))):=rfl;rw[beq_self_eq_true] at e;refine fK [aa (.im (.str nl))] rfl rfl ?_ rfl rfl;simp_arith[xF,gW,j4,e]
 |@num n h0 h1=>
  have e:=abE n (z:=aB "") aM;have d:=xP (n:=n) h0 aP;refine fK [aa (.im (.int n))] rfl rfl ?_ rfl rfl;simp_arith[xF,gW,j4,e,d.st]
 |@seats ps h l=>
  have t:=uF (T:=.many 2) (ft:=jo) (fe:=Iv) (fs:=[]) (C:=C) mK (λ_=>au) (λp=>.str (jX p)) (l:=ps) λp m=>⟨[.int p.1,.str p.2],rfl,rfl,λ_=>⟨_,_,acI (h p m),rfl⟩⟩
  rw[yI.mpr λ_ _=>rfl] at t;have g:(ps.length<=1000000)=True:=eqT;have n:cW (ps.map λp=>.str (jX p))=au:=by
   have:=Dg (ps.map jX);rw[wF] at this;exact this
  refine fK [aa (.im (.tuple (ps.map mK)))] rfl rfl ?_ rfl rfl;rw[wF];simp_arith[xF,gW,j4,t,g,n];rfl
theorem aaU{C:Ce}{v0:Option Vl}{ds:List az}{ws:List Str}(h:nU ds ws):∀(cG:List Str)(v2:Option Vl),cG.length+ws.length<=1000->∃w2,jJ (gB 2) zb ds [v0,aa (.ow (.list (cG.map .str))),v2] C=aa (.nx,[v0,aa (.ow (.list ((cG++ws).map .str))),w2],C):=by
 induction h with
 |nil=>intro cG v2 _;exact⟨v2,by rw[jP];rfl⟩
 |@cons d ws ds vs a _ ih=>
  intro cG v2 hl;rw[gD] at hl;have w:=abF (C:=C) a
  obtain⟨w2,e⟩:=ih (cG++ws) (aa (.im d)) (by rw[gD];lia)
  refine⟨w2,?_⟩
  have g:(cG.length+ws.length<=1000000)=True:=eqT;unfold jJ;rw[<-nY];have e:jJ (gB 2) zb ds [v0,aa (.ow (.list (cG.map .str++ws.map .str))),aa (.im d)] C=aa (.nx,[v0,aa (.ow (.list ((cG++ws++vs).map .str))),w2],C):=by rw[<-yO];exact e
  simp_arith[zb,Gh,qP,w,g,e]
theorem nJ.wordsOf{C:Ce}{d:az}{ws:List Str}(h:nJ d ws):Dw [.im d] C=aa (.ow (.list (ws.map .str)),C):=by
 obtain⟨k,ds,vs,rfl,rfl,n,t,l⟩:=h.ex
 have t':=nU.cons (.name n) t
 obtain⟨w2,e⟩:=aaU (C:=C) (v0:=aa (.im (.tuple (.str k::ds)))) t' [] ak (by
  have:=t.jx.2;simp;lia)
 refine fK [aa (.im (.tuple (.str k::ds))),ak,ak] rfl rfl ?_ rfl rfl;have e:jJ (gB 2) zb (.str k::ds) [aa (.im (.tuple (.str k::ds))),aa (.ow (.list [])),ak] C=aa (.nx,[aa (.im (.tuple (.str k::ds))),aa (.ow (.list (.str k::vs.map .str))),w2],C):=e;simp_arith[JL,lu,e]
theorem CJ(ws:List Str):strsOf (ws.map .str)=aa ws:=by
 induction ws with
 |nil=>rfl
 |cons w ws ih=>rw[fD,strsOf,ih]
theorem Vx{ws:List Str}(h:∀w∈ws,Wd w):(ws.map (·.length)).sum<=30*ws.length:=by
 induction ws with
 |nil=>simp
 |cons w ws ih=>
  have:=ih λx m=>h x (fQ _ m)
  have:=(h w gh).ln;rw[fD,ZX,eE];lia
theorem aed{ws:List Str}(h:∀w∈ws,Wd w)(hl:ws.length<=37):xN (.str (aB " ")) (.list (ws.map .str))=aa (.im (.str (Txt.join sp ws))):=by
 have:=Vx h;have l:(aB " ").length=1:=aM;simp only[xN,CJ];exact bB (by rw[l];unfold dH;lia)
theorem FJ{x y:Str}(h:x.length+y.length<=1000000):cH (.str x) (.str y)=aa (.im (.str (x++y))):=bB h
theorem len_app(x y:Str):(x++y).length=x.length+y.length:=by rw[oF,ji,gD,<-oF,<-oF]
theorem afv(x:az)(l:List az):ue (aa 1) ak (.list (x::l))=aa (.ow (.list l)):=Vv x l 0
theorem acJ{C:Ce}{b L j:Nat}{ws:List Str}(h:Bl L C b (j+40))(hw:∀w∈ws,Wd w)(hl:ws.length<=37)(h0:ws≠[]):
  ∃(z:Str)(C':Ce),Dy [.ce b,.im (.list (ws.map .str))] C=aa (.im (.str z),C')/\Rw z ws/\z.length<=5000/\Bl L C' b j:=by
 cases ws with
 |nil=>exact absurd rfl h0
 |cons w0 r=>
  rw[eE] at hl;have W0:=hw w0 gh;have hr:∀w∈r,Wd w:=λw m=>hw w (fQ _ m)
  refine hide λGG gg=>?_
  obtain⟨p,C1,e1,p0,p1,jN⟩:=iu (m:=4) (k:=j+39) h aO aO
  have m1:=Ea (n:=p) p0 aP;have a1:=FJ (x:=fJ p.toNat) (y:=w0) (by rw[qG];have:=W0.ln;lia);have R1:=Rw.first p.toNat W0.fr W0.ne;have L1:(fJ p.toNat++w0).length<=40:=by rw[len_app,qG];have:=W0.ln;lia
  generalize fJ p.toNat++w0=z1 at a1 R1 L1
  obtain⟨aU,C2,e,z2,v3,he,R2,L2,hB2⟩:=Df (g:=gB 3) (body:=Io) (aD:=r.map .str) (aj:=[aa (.ce b),aa (.im (.list ((w0::r).map .str))),aa (.im (.str z1)),ak]) (C:=C1)
   (λi aj C3=>∃(z:Str)(v3:Option Vl),aj=[aa (.ce b),aa (.im (.list ((w0::r).map .str))),aa (.im (.str z)),v3]/\Rw z (w0::r.take i)/\z.length<=40*(i+1)/\Bl L C3 b (j+3+(36-i)))
   ⟨z1,ak,rfl,R1,aP,jN⟩ (λi d aj C3 hd hI=>by
    obtain⟨z,v3,rfl,R,Lz,hB⟩:=hI
    have hi:i<r.length:=by
     have:=(iU.mp hd).1;rw[cV] at this;exact this
    rw[jy,rG hi] at hd;cases hd;refine hide λGG gg=>?_
    rw[Lk (j+3) (by lia:i<36)] at hB
    obtain⟨q,C4,e4,q0,q1,mZ⟩:=iu (m:=4) hB aO aO
    have W:=hr r[i] (Zg hi);have wl:=W.ln;have m4:=Ea (n:=1+q) aP aP;have a4:=FJ (x:=z) (y:=fJ (1+q).toNat) (by rw[qG];lia);have a5:=FJ (x:=z++fJ (1+q).toNat) (y:=r[i]) (by rw[len_app,qG];lia);have R5:=R.app q.toNat W.fr W.ne;rw[show 1+q.toNat=(1+q).toNat by lia] at R5;refine gg ⟨_,.nx,[aa (.ce b),aa (.im (.list ((w0::r).map .str))),aa (.im (.str (z++fJ (1+q).toNat++r[i]))),aa (.im (.str r[i]))],C4,rfl,?_,.inl rfl,_,_,rfl,?_,?_,mZ⟩
    .have m4':pR (.str (aB " ")) (.int (1+q))=aa (.im (.str (fJ (1+q).toNat))):=m4;simp_arith[Io,e4,m4',a4,a5]
    .rw[show w0::r.take (i+1)=(w0::r.take i)++[r[i]] by rw[List.take_succ_eq_append_getElem hi];rfl];exact R5
    .rw[len_app,len_app,qG];lia)
  subst he;rw[cV] at R2 L2 hB2;rw[List.take_length] at R2
  obtain⟨q,C4,e4,q0,q1,mZ⟩:=iu (m:=4) (k:=j+2) (hB2.mono aP) aO aO
  have m4:=Ea (n:=q) q0 aP;have a4:=FJ (x:=z2) (y:=fJ q.toNat) (by rw[qG];lia);refine gg ⟨z2++fJ q.toNat,C4,fK [aa (.ce b),aa (.im (.list ((w0::r).map .str))),ak,ak] rfl rfl ?_ rfl (by rw[mZ.1,h.1]),R2.ends q.toNat,by rw[len_app,qG];lia,mZ.mono aP⟩;have m1':pR (.str (aB " ")) (.int p)=aa (.im (.str (fJ p.toNat))):=m1;have m4':pR (.str (aB " ")) (.int q)=aa (.im (.str (fJ q.toNat))):=m4;have ix:cg (.list ((w0::r).map .str)) (.int 0)=aa (.im (.str w0)):=by
   show(dG _ _).map _=_
   rw[fD,zT];rfl
  have s1:=afv (.str w0) (r.map .str);rw[fD] at ix e⊢;simp_arith[JM,e1,m1',ix,a1,jD,jw,j9,s1,lu,e,e4,m4',a4]
theorem acK{C:Ce}{z:Str}{d:az}{ws:List Str}(h:nJ d ws)(R:Rw z ws)(hl:z.length<=500000):qx [.im (.str z)] C=aa (.im d,C):=by
 have:=Vw (C:=C) hl;rw[show jx z=ws from R.jx,h.rr] at this;exact this
theorem acL{ws:List Str}(h:∀w∈ws,Wd w)(hl:ws.length<=37):(Txt.join sp ws).length<=5000:=by
 have:=StrLaws.join_length_le sp ws;rw[show Txt.join sp ws=jR sp ws from Yi _ _];have:=Vx h;rw[show sp.length=1 by decide +kernel] at *;lia
theorem RB{C:Ce}{n:Nat}(h:n<=1000):qx [.im (.str (fJ n))] C=aa (.im (.tuple []),C):=by
 have:=Vw (C:=C) (z:=fJ n) (by rw[qG];lia);rw[show jx (fJ n)=[] from(Rw.spaces n).jx] at this;exact this
theorem Oh{a b c d t:Int}(h0:0<=t)(h1:t<4):∃x,dG [CK a,.int b,.int c,.int d] t=aa (.int x)/\(x=a\/x=b\/x=c\/x=d):=by
 have:t=0\/t=1\/t=2\/t=3:=aP;rcases this with rfl|rfl|rfl|rfl
 .exact⟨a,rfl,.inl rfl⟩
 .exact⟨b,rfl,.inr (.inl rfl)⟩
 .exact⟨c,rfl,.inr (.inr (.inl rfl))⟩
 .exact⟨d,rfl,.inr (.inr (.inr rfl))⟩
theorem Vy{C:Ce}{b L j:Nat}(h:Bl L C b (j+3)):∃n C',Ab [.ce b] C=aa (.im (.int n),C')/\0<=n/\n<=99999/\Bl L C' b j:=by
 obtain⟨p,C1,e1,p0,p1,jN⟩:=iu (m:=100000) (k:=j+2) h aO aO
 obtain⟨q,C2,e2,q0,q1,hB2⟩:=iu (m:=10) (k:=j+1) jN aO aO
 obtain⟨t,C3,e3,t0,t1,hB3⟩:=iu (m:=4) (k:=j) hB2 aO aO
 obtain⟨x,hx,hc⟩:=Oh (a:=0) (b:=99999) (c:=p) (d:=q) t0 t1
 refine⟨x,C3,fK [aa (.ce b)] rfl rfl ?_ rfl (by rw[hB3.1,h.1]),aP,aP,hB3⟩
 simp_arith[LC,e1,e2,e3,hx]
theorem acM{C:Ce}{b L j:Nat}(h:Bl L C b (j+3)):∃n C',Du [.ce b] C=aa (.im (.int n),C')/\0<=n/\n<=1000000000/\Bl L C' b j:=by
 obtain⟨p,C1,e1,p0,p1,jN⟩:=iu (m:=1000000001) (k:=j+2) h aO aO
 obtain⟨q,C2,e2,q0,q1,hB2⟩:=iu (m:=100) (k:=j+1) jN aO aO
 obtain⟨t,C3,e3,t0,t1,hB3⟩:=iu (m:=4) (k:=j) hB2 aO aO
 obtain⟨x,hx,hc⟩:=Oh (a:=0) (b:=1000000000) (c:=p) (d:=q) t0 t1
 have pw:vg (.int 10) (.int 9)=aa (.im (.int 1000000000)):=rfl;have e1':dR [.ce b,.im (.int (1000000000+1))] C=aa (.im (.int p),C1):=e1
 refine⟨x,C3,fK [aa (.ce b)] rfl rfl ?_ rfl (by rw[hB3.1,h.1]),aP,aP,hB3⟩
 simp_arith[JH,pw,e1',e2,e3,hx]
theorem aee{C:Ce}{b L j:Nat}(h:Bl L C b (j+3)):∃n C',Dk [.ce b] C=aa (.im (.int n),C')/\0<=n/\n<=999/\Bl L C' b j:=by
 obtain⟨p,C1,e1,p0,p1,jN⟩:=iu (m:=1000) (k:=j+2) h aO aO
 obtain⟨q,C2,e2,q0,q1,hB2⟩:=iu (m:=10) (k:=j+1) jN aO aO
 obtain⟨t,C3,e3,t0,t1,hB3⟩:=iu (m:=4) (k:=j) hB2 aO aO
 obtain⟨x,hx,hc⟩:=Oh (a:=0) (b:=999) (c:=p) (d:=q) t0 t1
 refine⟨x,C3,fK [aa (.ce b)] rfl rfl ?_ rfl (by rw[hB3.1,h.1]),aP,aP,hB3⟩
 simp_arith[Ji,e1,e2,e3,hx]
theorem acN{C:Ce}{b L j:Nat}{zs:List Str}(h:Bl L C b (j+13))(hz:∀z∈zs,nameB z=au)(hl:zs.length<=20):
  ∃(ps:List (Int×Str))(C':Ce),Dv [.ce b,.im (.list (zs.map .str))] C=aa (.im (.tuple (ps.map mK)),C')/\(∀p∈ps,tO p)/\ps.length<=6/\Bl L C' b j:=by
 refine hide λGG gg=>?_
 obtain⟨m,C1,e1,m0,m1,jN⟩:=iu (m:=7) (k:=j+12) h aO aO
 have ad:cH (.list (zs.map .str)) (.list [.str (aB ""),.str (aB ""),.str (aB "")])=aa (.ow (.list ((zs++[nl,nl,nl]).map .str))):=by
  rw[yO];exact add_l (xs:=zs.map .str) (by rw[cV];simp;lia)
 have ln:((zs++[nl,nl,nl]).length:Int)=(zs.length:Int)+3:=by rw[gD];rfl
 obtain⟨aU,C2,e,ps,v3,he,hp,hl2,hB2⟩:=Df (g:=gB 3) (body:=Im) (aD:=lq 0 m.toNat) (aj:=[aa (.ce b),aa (.im (.list (zs.map .str))),aa (.ow (.list [])),ak]) (C:=C1)
  (λi aj C3=>∃(ps:List (Int×Str))(v3:Option Vl),aj=[aa (.ce b),aa (.im (.list (zs.map .str))),aa (.ow (.list (ps.map mK))),v3]/\(∀p∈ps,tO p)/\ps.length=i/\Bl L C3 b (j+2*(6-i)))
  ⟨[],ak,rfl,λ_ m=>(nomatch m),rfl,jN⟩ (λi d aj C3 hd hI=>by
   obtain⟨ps,v3,rfl,hp,hl2,hB⟩:=hI
   obtain⟨rfl,hi⟩:=zP hd
   refine hide λGG gg=>?_
   rw[agt j 2 (by lia:i<6)] at hB
   obtain⟨r,C4,e4,r0,r1,mZ⟩:=iu (m:=9) hB aO aO
   obtain⟨t,C5,e5,t0,t1,By⟩:=iu (m:=(zs.length:Int)+3) mZ aP aP
   obtain⟨x,mx,_,ix⟩:=Kr (zs:=zs++[nl,nl,nl]) t0 (by rw[ln];exact t1)
   have sx:x=nl\/nameB x=au:=by
    rcases cL.mp mx with m|m
    .exact .inr (hz x m)
    .simp only[cD,gF,or_false,or_self] at m;exact .inl m
   have g3:(ps.length<1000000)=True:=eqT;refine gg ⟨_,.nx,[aa (.ce b),aa (.im (.list (zs.map .str))),aa (.ow (.list ((ps++[(1+r,x)]).map mK))),aa (.im (.int (0+i)))],C5,rfl,?_,.inl rfl,ps++[(1+r,x)],_,rfl,λp m=>?_,by simp[hl2],By⟩
   .have ln2:jd [.list (zs.map .str)]=aa (.im (.int zs.length)):=by rw[Fj,cV]
    have ad:=ad
    generalize(zs++[nl,nl,nl]).map iM=q at ad ix
    simp_arith[Im,e4,ad,ln2,e5,ix,p6,qP,g3,yO,dZ,cW];rfl
   .rcases cL.mp m with m|m
    .exact hp p m
    .rw[gZ.mp m]
     exact⟨by show 1<=1+r;lia,by show 1+r<=9;lia,sx⟩)
 subst he;rw[Dr] at hl2 hB2;refine gg ⟨ps,C2,fK [aa (.ce b),aa (.im (.list (zs.map .str))),ak,ak] rfl rfl ?_ rfl (by rw[hB2.1,h.1]),hp,aP,hB2.mono aP⟩;simp_arith[JK,pC,e1,Be (m:=m) aP aP,lu,e,sG]
structure RP where
 (a b c d e pb lb:Str)
 (one tot n lo hi rk mx:Int)
 ps:List (Int×Str)
structure RP.Ok(p:RP):Prop where
 a:nameB p.a=au
 b:nameB p.b=au
 c:nameB p.c=au
 d:nameB p.d=au
 e:nameB p.e=au
 pb:p.pb=nl\/nameB p.pb=au
 lb:nameB p.lb=au
 ne:p.a≠p.lb
 one:0<=p.one/\p.one<=99999
 tot:0<=p.tot/\p.tot<=1000000000
 n:0<=p.n/\p.n<=999
 lo:0<=p.lo/\p.lo<=99999
 hi:0<=p.hi/\p.hi<=99999
 lh:p.lo<=p.hi
 rk:1<=p.rk/\p.rk<=9
 mx:1<=p.mx/\p.mx<=999
 ps:∀q∈p.ps,tO q
 pl:p.ps.length<=6
def r1(p:RP):List az:=[.tuple [.str (aB "part"),.str p.a,.str p.pb],.tuple [.str (aB "rank"),.str p.a,.int p.rk,.str p.b,.int p.lo,.int p.hi],.tuple [.str (aB "endrank"),.int p.n,.int p.one],.tuple [.str (aB "undo")]]
def r2(p:RP):az:=.tuple [.str (aB "leave"),.str p.a,.str p.lb,.str p.c,.int p.lo,.int p.hi,.int p.tot]
def r3(p:RP):List az:=[.tuple [.str (aB "endleave"),.int p.n,.int p.one],.tuple [.str (aB "back"),.int p.n],.tuple [.str (aB "again"),.int p.n],.tuple [.str (aB "rule"),.str p.a,.int p.tot,.tuple (p.ps.map mK)]]
def r4(p:RP):List az:=[.tuple [.str (aB "norule"),.str p.a,.int p.tot],.tuple [.str (aB "paper"),.str p.a,.str p.b,.int p.tot,.int p.one,.str p.d,.str p.e],.tuple [.str (aB "sign"),.str p.a,.str p.b,.str p.c,.int p.one]]
def r5(p:RP):List az:=[.tuple [.str (aB "draw"),.str p.a,.int p.n,.int p.one],.tuple [.str (aB "stands"),.str p.a,.int p.one],.tuple [.str (aB "standing"),.int p.one],.tuple [.str (aB "hands"),.str p.a,.int p.one]]
def r6(p:RP):List az:=[.tuple [.str (aB "more"),.str p.a,.int p.one],.tuple [.str (aB "row"),.str p.a,.int p.n],.tuple [.str (aB "leans"),.int p.n,.int p.one],.tuple [.str (aB "splits"),.int p.tot,.int p.mx]]
def r7(p:RP):az:=.tuple [.str (aB "seats"),.str p.a,.int p.tot]
def Due(d:az):Prop:=∃ws,nJ d ws
theorem jB{k:Str}{ks:List Str}{ds:List az}{ws:List Str}(hk:kd.lookup k=aa ks)(T:ug ks ds ws)(hn:(nameB k&&!(k==tM)&&!(k==oN)&&!(k==nH))=au):Due (.tuple (.str k::ds)):=by
 simp only[fU,Bool.not_eq_true',beq_eq_false_iff_ne] at hn
 exact⟨_,Jo hk hn.1.1.1 hn.1.1.2 T (aaT hn.1.2 hn.2)⟩
section
variable{p:RP}(h:p.Ok)
include h
theorem afw:∀x∈r1 p,Due x:=by
 obtain⟨w,hw⟩:=aea h.pb
 intro x m;simp only[r1,cD,gF,or_false] at m;rcases m with rfl|rfl|rfl|rfl
 .exact jB (ks:=[aB "name",aB "within"]) aM (.cons (iR h.a) (.cons hw .nil)) aM
 .exact⟨_,Jo (ks:=[aB "name",aB "rank",aB "name",aB "day",aB "day"]) aM aM aM (.cons (iR h.a) (.cons (aeb h.rk.1 h.rk.2) (.cons (iR h.b) (.cons (lO h.lo.1 h.lo.2) (.cons (lO h.hi.1 h.hi.2) .nil))))) (by rw[oU,bK aM,bB rfl,Mt,gH h.lh])⟩
 .exact jB (ks:=[aB "number",aB "day"]) aM (.cons (uJ h.n.1 h.n.2) (.cons (lO h.one.1 h.one.2) .nil)) aM
 .exact jB (ks:=[]) aM .nil aM
theorem afx:Due (r2 p):=⟨_,Jo (ks:=[aB "name",aB "name",aB "name",aB "day",aB "day",aB "sum"]) aM aM aM (.cons (iR h.a) (.cons (iR h.lb) (.cons (iR h.c) (.cons (lO h.lo.1 h.lo.2) (.cons (lO h.hi.1 h.hi.2) (.cons (uZ h.tot.1 h.tot.2) .nil)))))) (by rw[oU,bB rfl,Ms,gH h.lh,beq_eq_false_iff_ne.mpr h.ne];rfl)⟩
theorem afy:∀x∈r3 p,Due x:=by
 intro x m;simp only[r3,cD,gF,or_false] at m;rcases m with rfl|rfl|rfl|rfl
 .exact jB (ks:=[aB "number",aB "day"]) aM (.cons (uJ h.n.1 h.n.2) (.cons (lO h.one.1 h.one.2) .nil)) aM
 .exact jB (ks:=[aB "number"]) aM (.cons (uJ h.n.1 h.n.2) .nil) aM
 .exact jB (ks:=[aB "number"]) aM (.cons (uJ h.n.1 h.n.2) .nil) aM
 .exact⟨_,acH h.a h.tot.1 h.tot.2 h.ps h.pl⟩
theorem afz:∀x∈r4 p,Due x:=by
 intro x m;simp only[r4,cD,gF,or_false] at m;rcases m with rfl|rfl|rfl
 .exact jB (ks:=[aB "name",aB "sum"]) aM (.cons (iR h.a) (.cons (uZ h.tot.1 h.tot.2) .nil)) aM
 .exact jB (ks:=[aB "name",aB "name",aB "sum",aB "day",aB "name",aB "name"]) aM (.cons (iR h.a) (.cons (iR h.b) (.cons (uZ h.tot.1 h.tot.2) (.cons (lO h.one.1 h.one.2) (.cons (iR h.d) (.cons (iR h.e) .nil)))))) aM
 .exact jB (ks:=[aB "name",aB "name",aB "name",aB "day"]) aM (.cons (iR h.a) (.cons (iR h.b) (.cons (iR h.c) (.cons (lO h.one.1 h.one.2) .nil)))) aM
theorem afA:∀x∈r5 p,Due x:=by
 intro x m;simp only[r5,cD,gF,or_false] at m;rcases m with rfl|rfl|rfl|rfl
 .exact jB (ks:=[aB "name",aB "number",aB "day"]) aM (.cons (iR h.a) (.cons (uJ h.n.1 h.n.2) (.cons (lO h.one.1 h.one.2) .nil))) aM
 .exact jB (ks:=[aB "name",aB "day"]) aM (.cons (iR h.a) (.cons (lO h.one.1 h.one.2) .nil)) aM
 .exact jB (ks:=[aB "day"]) aM (.cons (lO h.one.1 h.one.2) .nil) aM
 .exact jB (ks:=[aB "name",aB "day"]) aM (.cons (iR h.a) (.cons (lO h.one.1 h.one.2) .nil)) aM
theorem afB:∀x∈r6 p,Due x:=by
 intro x m;simp only[r6,cD,gF,or_false] at m;rcases m with rfl|rfl|rfl|rfl
 .exact jB (ks:=[aB "name",aB "day"]) aM (.cons (iR h.a) (.cons (lO h.one.1 h.one.2) .nil)) aM
 .exact jB (ks:=[aB "name",aB "number"]) aM (.cons (iR h.a) (.cons (uJ h.n.1 h.n.2) .nil)) aM
 .exact jB (ks:=[aB "number",aB "day"]) aM (.cons (uJ h.n.1 h.n.2) (.cons (lO h.one.1 h.one.2) .nil)) aM
 .exact jB (ks:=[aB "sum",aB "days"]) aM (.cons (uZ h.tot.1 h.tot.2) (.cons (aec h.mx.1 h.mx.2) .nil)) aM
theorem afC:Due (r7 p):=jB (ks:=[aB "name",aB "sum"]) aM (.cons (iR h.a) (.cons (uZ h.tot.1 h.tot.2) .nil)) aM
theorem aef:∀x∈((((r1 p++[r2 p])++r3 p)++r4 p)++r5 p)++r6 p++[r7 p],Due x:=by
 intro x m;simp only[cL,gZ] at m;rcases m with(((((m|rfl)|m)|m)|m)|m)|rfl
 .exact afw h x m
 .exact afx h
 .exact afy h x m
 .exact afz h x m
 .exact afA h x m
 .exact afB h x m
 .exact afC h
end
theorem nj{β:Type}{f k:FS}{g:Fl×En×Ce->β}{aj e1:En}{C C1:Ce}{R:Option β}(h:f aj C=aa (.nx,e1,C1))(h2:wQ g (k e1 C1)=R):wQ g (bU f k aj C)=R:=by rw[nC h];exact h2
structure BJ(zs:List Str):Prop where
 nd:zs.Nodup
 nm:∀z∈zs,nameB z=au
 l2:2<=zs.length
 G3:zs.length<=20
theorem aeg{C:Ce}{b L j:Nat}{zs:List Str}(h:Bl L C b (j+5))(hN:BJ zs):
  ∃(a1 a2 a3 a4 a5:Str)(C':Ce),jW .one jo Jj [aa (.im (.list (zs.map .str))),aa (.ce b)] (lq 0 5) C=aa ([.str a1,.str a2,.str a3,.str a4,.str a5],C')/\(a1∈zs/\a2∈zs/\a3∈zs/\a4∈zs/\a5∈zs)/\Bl L C' b j:=by
 have h2:=hN.l2;have h20:=hN.G3;refine hide λGG gg=>?_
 obtain⟨ys,C',e,hB,hl,hr⟩:=Jb (T:=.one) (fe:=Jj) (fs:=[aa (.im (.list (zs.map .str))),aa (.ce b)]) (λi C1=>Bl L C1 b (j+(5-i))) (λ_ y=>∃z:Str,y=.str z/\z∈zs) (aD:=lq 0 5) (C:=C) (k:=0) h (λi d C1 hd hB=>by
  obtain⟨rfl,hi⟩:=zP hd
  rw[wG] at hB⊢;rw[Lk j (by lia:i<5)] at hB
  obtain⟨k1,C2,e1,a1,b1,jN⟩:=iu (m:=zs.length) hB aP aP
  obtain⟨z,mz,_,ix⟩:=Kr (zs:=zs) a1 b1
  have ln:jd [.list (zs.map .str)]=aa (.im (.int zs.length)):=by rw[Fj,cV]
  refine⟨_,.im (.str z),[aa (.im (.int (0+i))),aa (.im (.list (zs.map .str))),aa (.ce b)],C2,.str z,rfl,?_,rfl,⟨z,rfl,mz⟩,jN⟩
  simp_arith[fP,qi,rN,ln,e1,ix])
 rw[Dr] at hB hl
 match ys,hl with
 |[y1,y2,y3,y4,y5],_=>
  obtain⟨a1,rfl,m1⟩:=hr 0 y1 rfl
  obtain⟨a2,rfl,m2⟩:=hr 1 y2 rfl
  obtain⟨a3,rfl,m3⟩:=hr 2 y3 rfl
  obtain⟨a4,rfl,m4⟩:=hr 3 y4 rfl
  obtain⟨a5,rfl,m5⟩:=hr 4 y5 rfl
  exact gg ⟨a1,a2,a3,a4,a5,C',e,⟨m1,m2,m3,m4,m5⟩,hB⟩
theorem afD{α:Type}{zs:List α}(h:zs.Nodup){i j:Nat}{x:α}(hi:zs[i]?=aa x)(hj:zs[j]?=aa x):i=j:=by
 obtain⟨x1,y1⟩:=iU.mp hi
 obtain⟨x2,y2⟩:=iU.mp hj
 have hp:=Ol.mp h;rcases Pq i j with l|l|l
 .exact absurd (y1.trans y2.symm) (hp i j x1 x2 l)
 .exact l
 .exact absurd (y2.trans y1.symm) (hp j i x2 x1 l)
theorem acO{zs:List Str}{a:Str}(h:a∈zs):∃i:Nat,i<zs.length/\zs[i]?=aa a/\uR (.list (zs.map .str)) (.str a)=aa (.im (.int (i:Nat))):=by
 have:∃i,zs.findIdx? (·==a)=aa i:=by
  cases e:zs.findIdx? (·==a) with
  |some i=>exact⟨i,rfl⟩
  |none=>
   rw[List.findIdx?_eq_none_iff] at e;have:=e a h;rw[beq_self_eq_true] at this;cases this
 obtain⟨i,hi⟩:=this
 obtain⟨hl,h1,_⟩:=Xy.mp hi
 refine⟨i,hl,by rw[rG hl,eq_of_beq h1],?_⟩
 simp only[uR,CJ,qg,hi,kE]
theorem acP{zs:List Str}{a:Str}{i:Nat}{n:Int}(hN:BJ zs)(hi:i<zs.length)(ha:zs[i]?=aa a)(n0:0<=n):
  ∃lb,lb∈zs/\a≠lb/\cg (.list (zs.map .str)) (.int (((i:Int)+1+n%((zs.length:Int)-1))%(zs.length:Int)))=aa (.im (.str lb)):=by
 have h2:=hN.l2;have m0:0<=n%((zs.length:Int)-1):=rO _ aP;have m1:n%((zs.length:Int)-1)<(zs.length:Int)-1:=uh _ aP;generalize n%((zs.length:Int)-1)=q at *;have t0:0<=((i:Int)+1+q)%(zs.length:Int):=rO _ aP;have t1:((i:Int)+1+q)%(zs.length:Int)<zs.length:=uh _ aP
 obtain⟨lb,ml,gl,ix⟩:=Kr (zs:=zs) t0 t1
 refine⟨lb,ml,λe=>?_,ix⟩
 subst e;have hk:(((i:Int)+1+q)%(zs.length:Int)).toNat<zs.length:=aP;have eq:(((i:Int)+1+q)%(zs.length:Int)).toNat=i:=afD hN.nd gl ha;by_cases c:(i:Int)+1+q<zs.length
 .rw[Y6 aP c] at eq;lia
 .rw[show(i:Int)+1+q=((i:Int)+1+q-zs.length)+zs.length by lia,Int.add_emod_right,Y6 aP aP] at eq;lia
theorem ix2{a b:Str}{t:Int}(h0:0<=t)(h1:t<2):∃x,cg (.list [iM a,.str b]) (.int t)=aa (.im (.str x))/\(x=a\/x=b):=by
 have:t=0\/t=1:=aP;rcases this with rfl|rfl
 .exact⟨a,rfl,.inl rfl⟩
 .exact⟨b,rfl,.inr rfl⟩
theorem aeh{C:Ce}{b L j:Nat}{zs:List Str}(h:Bl L C b (j+31))(hN:BJ zs):∃(d:az)(C':Ce),Eu [.ce b,.im (.list (zs.map .str))] C=aa (.im d,C')/\Due d/\Bl L C' b j:=by
 have h2:=hN.l2;have h20:=hN.G3;refine hide λGG gg=>?_
 obtain⟨a,b',c,d,e,C1,e1,⟨ma,mb,mc,md,me⟩,jN⟩:=aeg (j:=j+26) h hN
 obtain⟨one,C2,e2,o0,o1,hB2⟩:=Vy (j:=j+23) jN
 obtain⟨oth,C3,e3,p0,p1,hB3⟩:=Vy (j:=j+20) hB2
 obtain⟨tot,C4,e4,t0,t1,mZ⟩:=acM (j:=j+17) hB3
 obtain⟨n,C5,e5,n0,n1,By⟩:=aee (j:=j+14) mZ
 obtain⟨ps,C6,e6,hp,hl,Xo⟩:=acN (j:=j+1) By hN.nm hN.G3
 obtain⟨t,C7,e7,u0,u1,Xp⟩:=iu (m:=21) (k:=j) Xo aO aO
 obtain⟨lo,Xq⟩:∃lo:Int,(if oth<one then oth else one)=lo:=⟨_,rfl⟩
 obtain⟨hi,Xr⟩:∃hi:Int,(if oth>one then oth else one)=hi:=⟨_,rfl⟩
 have clo:(lo=one\/lo=oth)/\(hi=one\/hi=oth)/\lo<=hi:=by
  rw[<-Xq,<-Xr];split<;>split<;>lia
 obtain⟨mx,Xu⟩:∃mx:Int,(if n>1 then n else 1)=mx:=⟨_,rfl⟩
 have cmx:1<=mx/\mx<=999:=by
  rw[<-Xu];split<;>lia
 have q2:0<=n%2:=rO _ aO;have q3:n%2<2:=uh _ aO;have q4:0<=n%9:=rO _ aO;have q5:n%9<9:=uh _ aO;have f2:jc (.int n) (.int 2)=aa (.im (.int (n%2))):=mod_eq aO;have f9:jc (.int n) (.int 9)=aa (.im (.int (n%9))):=mod_eq aO
 obtain⟨pb,ipb,cpb⟩:=ix2 (a:=b') (b:=aB "") q2 q3
 obtain⟨i,hi',ha,eix⟩:=acO ma
 obtain⟨lb,mlb,nlb,ilb⟩:=acP hN hi' ha n0
 have fm:jc (.int n) (.int ((zs.length:Int)-1))=aa (.im (.int (n%((zs.length:Int)-1)))):=mod_eq aP;have fm2:jc (.int ((i:Int)+1+n%((zs.length:Int)-1))) (.int (zs.length:Int))=aa (.im (.int (((i:Int)+1+n%((zs.length:Int)-1))%(zs.length:Int)))):=mod_eq aP;have ln:jd [.list (zs.map .str)]=aa (.im (.int zs.length)):=by rw[Fj,cV]
 generalize((i:Int)+1+n%((zs.length:Int)-1))%(zs.length:Int)=at' at *
 obtain⟨p,hpe⟩:∃p:RP,p=⟨a,b',c,d,e,pb,lb,one,tot,n,lo,hi,1+n%9,mx,ps⟩:=⟨_,rfl⟩
 have ok:p.Ok:=by
  subst hpe
  exact⟨hN.nm a ma,hN.nm b' mb,hN.nm c mc,hN.nm d md,hN.nm e me,cpb.elim (λz=>.inr (by show nameB pb=au;rw[z];exact hN.nm b' mb)) .inl,hN.nm lb mlb,nlb,⟨o0,o1⟩,⟨t0,t1⟩,⟨n0,n1⟩,⟨by show 0<=lo;lia,by show lo<=99999;lia⟩,⟨by show 0<=hi;lia,by show hi<=99999;lia⟩,clo.2.2,⟨by show 1<=1+n%9;lia,by show 1+n%9<=9;lia⟩,cmx,hp,hl⟩
 have all:=aef ok
 obtain⟨x,ix,gx⟩:=Lj (xs:=r1 p++[r2 p]++r3 p++r4 p++r5 p++r6 p++[r7 p]) u0 (by show t<((r1 p++[r2 p]++r3 p++r4 p++r5 p++r6 p++[r7 p]).length:Int);exact u1)
 refine gg ⟨x,C7,fK [aa (.ce b),aa (.im (.list (zs.map .str))),ak,ak,ak,ak,ak,ak,ak,ak,ak,ak,ak,ak,ak] rfl rfl ?_ rfl (by rw[Xp.1,h.1]),all x (nW gx),Xp⟩;have l1:(r1 p).length=4:=rfl;have l3:(r3 p).length=4:=rfl;have l4:(r4 p).length=3:=rfl;have l5:(r5 p).length=4:=rfl;have l6:(r6 p).length=4:=rfl;have g:∀k:Nat,k<=100->(k<1000000)=True:=λk h=>eqT
 refine nj (e1:=[aa (.ce b),aa (.im (.list (zs.map .str))),aa (.im (.str a)),aa (.im (.str b')),aa (.im (.str c)),aa (.im (.str d)),aa (.im (.str e)),ak,ak,ak,ak,ak,ak,ak,ak]) (C1:=C1) ?_ ?_
 .subst hpe;simp_arith[show Ry 5=5 from rfl,e1,yh,GK,pC,Be (m:=5) aO aO,cW,dZ]<;>rfl
 refine nj (e1:=[aa (.ce b),aa (.im (.list (zs.map .str))),aa (.im (.str a)),aa (.im (.str b')),aa (.im (.str c)),aa (.im (.str d)),aa (.im (.str e)),aa (.im (.int one)),aa (.im (.int oth)),ak,ak,ak,ak,ak,ak]) (C1:=C3) ?_ ?_
 .subst hpe;simp_arith[e2,e3]<;>rfl
 refine nj (e1:=[aa (.ce b),aa (.im (.list (zs.map .str))),aa (.im (.str a)),aa (.im (.str b')),aa (.im (.str c)),aa (.im (.str d)),aa (.im (.str e)),aa (.im (.int one)),aa (.im (.int oth)),aa (.im (.int tot)),aa (.im (.int n)),ak,ak,ak,ak]) (C1:=C5) ?_ ?_
 .subst hpe;simp_arith[e4,e5]<;>rfl
 refine nj (e1:=[aa (.ce b),aa (.im (.list (zs.map .str))),aa (.im (.str a)),aa (.im (.str b')),aa (.im (.str c)),aa (.im (.str d)),aa (.im (.str e)),aa (.im (.int one)),aa (.im (.int oth)),aa (.im (.int tot)),aa (.im (.int n)),aa (.im (.int lo)),aa (.im (.int hi)),ak,ak]) (C1:=C5) ?_ ?_
 .subst hpe;simp_arith[xM,sV,Xq,Xr]<;>rfl
 refine nj (e1:=[aa (.ce b),aa (.im (.list (zs.map .str))),aa (.im (.str a)),aa (.im (.str b')),aa (.im (.str c)),aa (.im (.str d)),aa (.im (.str e)),aa (.im (.int one)),aa (.im (.int oth)),aa (.im (.int tot)),aa (.im (.int n)),aa (.im (.int lo)),aa (.im (.int hi)),aa (.ow (.list (r1 p))),ak]) (C1:=C5) ?_ ?_
 .subst hpe;simp_arith[f2,f9,ipb,cW,dZ]<;>rfl
 refine nj (e1:=[aa (.ce b),aa (.im (.list (zs.map .str))),aa (.im (.str a)),aa (.im (.str b')),aa (.im (.str c)),aa (.im (.str d)),aa (.im (.str e)),aa (.im (.int one)),aa (.im (.int oth)),aa (.im (.int tot)),aa (.im (.int n)),aa (.im (.int lo)),aa (.im (.int hi)),aa (.ow (.list (r1 p))),aa (.im (.int at'))]) (C1:=C5) ?_ ?_
 .subst hpe;simp_arith[eix,ln,fm,fm2]<;>rfl
 refine nj (e1:=[aa (.ce b),aa (.im (.list (zs.map .str))),aa (.im (.str a)),aa (.im (.str b')),aa (.im (.str c)),aa (.im (.str d)),aa (.im (.str e)),aa (.im (.int one)),aa (.im (.int oth)),aa (.im (.int tot)),aa (.im (.int n)),aa (.im (.int lo)),aa (.im (.int hi)),aa (.ow (.list (r1 p++[r2 p]))),aa (.im (.int at'))]) (C1:=C5) ?_ ?_
 .subst hpe;simp_arith[ilb,p6,qP,l1]<;>rfl
 have ad:cH (.list (r1 p++[r2 p])) (.list (r3 p))=aa (.ow (.list (r1 p++[r2 p]++r3 p))):=add_l (show _<=1000000 by simp only[gD,BK,l1,l3,l4,l5,l6];decide);refine nj (e1:=[aa (.ce b),aa (.im (.list (zs.map .str))),aa (.im (.str a)),aa (.im (.str b')),aa (.im (.str c)),aa (.im (.str d)),aa (.im (.str e)),aa (.im (.int one)),aa (.im (.int oth)),aa (.im (.int tot)),aa (.im (.int n)),aa (.im (.int lo)),aa (.im (.int hi)),aa (.ow (.list (r1 p++[r2 p]++r3 p))),aa (.im (.int at'))]) (C1:=C6) ?_ ?_
 .have ad:=ad;generalize r1 p++[r2 p]++r3 p=B at ad;generalize r1 p++[r2 p]=D at ad⊢;subst hpe;simp only[r3] at ad;simp_arith[e6,ad,cW,dZ]<;>rfl
 have ad:cH (.list (r1 p++[r2 p]++r3 p)) (.list (r4 p))=aa (.ow (.list (r1 p++[r2 p]++r3 p++r4 p))):=add_l (show _<=1000000 by simp only[gD,BK,l1,l3,l4,l5,l6];decide);refine nj (e1:=[aa (.ce b),aa (.im (.list (zs.map .str))),aa (.im (.str a)),aa (.im (.str b')),aa (.im (.str c)),aa (.im (.str d)),aa (.im (.str e)),aa (.im (.int one)),aa (.im (.int oth)),aa (.im (.int tot)),aa (.im (.int n)),aa (.im (.int lo)),aa (.im (.int hi)),aa (.ow (.list (r1 p++[r2 p]++r3 p++r4 p))),aa (.im (.int at'))]) (C1:=C6) ?_ ?_
 .have ad:=ad;generalize r1 p++[r2 p]++r3 p++r4 p=B at ad;generalize r1 p++[r2 p]++r3 p=D at ad⊢;subst hpe;simp only[r4] at ad;simp_arith[ad,cW,dZ]<;>rfl
 have ad:cH (.list (r1 p++[r2 p]++r3 p++r4 p)) (.list (r5 p))=aa (.ow (.list (r1 p++[r2 p]++r3 p++r4 p++r5 p))):=add_l (show _<=1000000 by simp only[gD,BK,l1,l3,l4,l5,l6];decide);refine nj (e1:=[aa (.ce b),aa (.im (.list (zs.map .str))),aa (.im (.str a)),aa (.im (.str b')),aa (.im (.str c)),aa (.im (.str d)),aa (.im (.str e)),aa (.im (.int one)),aa (.im (.int oth)),aa (.im (.int tot)),aa (.im (.int n)),aa (.im (.int lo)),aa (.im (.int hi)),aa (.ow (.list (r1 p++[r2 p]++r3 p++r4 p++r5 p))),aa (.im (.int at'))]) (C1:=C6) ?_ ?_
 .have ad:=ad;generalize r1 p++[r2 p]++r3 p++r4 p++r5 p=B at ad;generalize r1 p++[r2 p]++r3 p++r4 p=D at ad⊢;subst hpe;simp only[r5] at ad;simp_arith[ad,cW,dZ]<;>rfl
 have ad:cH (.list (r1 p++[r2 p]++r3 p++r4 p++r5 p)) (.list (r6 p))=aa (.ow (.list (r1 p++[r2 p]++r3 p++r4 p++r5 p++r6 p))):=add_l (show _<=1000000 by simp only[gD,BK,l1,l3,l4,l5,l6];decide);refine nj (e1:=[aa (.ce b),aa (.im (.list (zs.map .str))),aa (.im (.str a)),aa (.im (.str b')),aa (.im (.str c)),aa (.im (.str d)),aa (.im (.str e)),aa (.im (.int one)),aa (.im (.int oth)),aa (.im (.int tot)),aa (.im (.int n)),aa (.im (.int lo)),aa (.im (.int hi)),aa (.ow (.list (r1 p++[r2 p]++r3 p++r4 p++r5 p++r6 p))),aa (.im (.int at'))]) (C1:=C6) ?_ ?_
 .have ad:=ad;generalize r1 p++[r2 p]++r3 p++r4 p++r5 p++r6 p=B at ad;generalize r1 p++[r2 p]++r3 p++r4 p++r5 p=D at ad⊢;subst hpe;simp only[r6] at ad;simp_arith[sV,Xu,ad,cW,dZ]<;>rfl
 have gl:(r1 p++[r2 p]++r3 p++r4 p++r5 p++r6 p).length=20:=rfl;refine nj (e1:=[aa (.ce b),aa (.im (.list (zs.map .str))),aa (.im (.str a)),aa (.im (.str b')),aa (.im (.str c)),aa (.im (.str d)),aa (.im (.str e)),aa (.im (.int one)),aa (.im (.int oth)),aa (.im (.int tot)),aa (.im (.int n)),aa (.im (.int lo)),aa (.im (.int hi)),aa (.ow (.list (r1 p++[r2 p]++r3 p++r4 p++r5 p++r6 p++[r7 p]))),aa (.im (.int at'))]) (C1:=C6) ?_ ?_
 .generalize r1 p++[r2 p]++r3 p++r4 p++r5 p++r6 p=D at gl⊢;subst hpe;simp_arith[p6,qP,gl]<;>rfl
 generalize r1 p++[r2 p]++r3 p++r4 p++r5 p++r6 p++[r7 p]=D at ix⊢;simp_arith[e7,ix]
def G4(zs:List Str)(a:Str×Nat):Bool:=decide (a.1∉zs.take a.2)
def uq(zs:List Str):List Str:=(zs.zipIdx.filter (G4 zs)).map (·.1)
theorem abG(zs:List Str):qT (zs.map .str)=zs.zipIdx.map λa=>.tuple [.int (a.2:Nat),.str a.1]:=by
 unfold qT;rw[List.zipIdx_map,wF];rfl
theorem agA{zs:List Str}{k:Nat}:ue ak (aa (k:Int)) (.list (zs.map .str))=aa (.ow (.list ((zs.take k).map .str))):=by
 show aa (Vl.ow (.list (p8 (zs.map .str) ak (aa (k:Int)))))=_;unfold p8;rw[show HT.bT (zs.map iM).length 0 ak=0 from rfl,show HT.bT (zs.map iM).length (zs.map iM).length (aa (k:Int))=min k (zs.map iM).length from HT.DN _ _ k,HN,aaj,<-Yk,<-Z2]
theorem aei{C:Ce}{zs:List Str}:jW (.many 2) JN JP [aa (.im (.list (zs.map .str)))] (qT (zs.map .str)) C=aa ((uq zs).map .str,C):=by
 have t:=uF (T:=.many 2) (ft:=JN) (fe:=JP) (fs:=[aa (.im (.list (zs.map .str)))]) (C:=C) (λa:Str×Nat=>.tuple [.int (a.2:Nat),.str a.1]) (G4 zs) (λa=>.str a.1) (l:=zs.zipIdx) λa m=>by
  refine⟨[.int (a.2:Nat),.str a.1],rfl,?_,λ_=>⟨.im (.str a.1),_,rfl,rfl⟩⟩
  have s:=agA (zs:=zs) (k:=a.2);have n:uO (.str a.1) (.list ((zs.take a.2).map .str))=aa (.im (.bool (decide (a.1∉zs.take a.2)))):=by
   have:inB (.str a.1) (.list ((zs.take a.2).map .str))=aa (inD (.str a.1) ((zs.take a.2).map .str)):=bB (by rw[Jc];rfl);unfold uO;rw[this,Sw,kE,decide_not]
  unfold G4;simp_arith[fP,qi,rN,jD,j9,jw,s,n]
 rw[abG,t,uq,wF];rfl
theorem afE{zs:List Str}{z:Str}(h:z∈uq zs):z∈zs:=by
 obtain⟨a,m,rfl⟩:=rR.mp h
 have:=Oi.mp (wu.mp m).1;exact nW this
theorem agB(zs:List Str):(uq zs).Nodup:=by
 have p1:(zs.zipIdx.filter (G4 zs)).Pairwise (λa b=>a.2<b.2):=by
  refine aiR _ ?_;have:=List.pairwise_lt_range' (s:=0) (n:=zs.length);rw[<-List.zipIdx_map_snd,Y7] at this;exact this
 refine Y7.mpr (p1.imp_of_mem λ{a b} ma mb lt e=>?_);have ga:=Oi.mp (wu.mp ma).1;have nb:=of_decide_eq_true (wu.mp mb).2;refine nb (nW (i:=a.2) ?_);rw[YK,bB lt,ga,e]
theorem V9{zs:List Str}{i:Nat}{z:Str}(h:zs[i]?=aa z)(hn:z∉zs.take i):z∈uq zs:=
 rR.mpr ⟨(z,i),wu.mpr ⟨Oi.mpr h,gH hn⟩,rfl⟩
theorem afF{l:List Str}{x y:Str}(hx:x∈l)(hy:y∈l)(h:x≠y):2<=l.length:=by
 match l,hx,hy with
 |[a],hx,hy=>exact absurd ((gZ.mp hx).trans (gZ.mp hy).symm) h
 |a::b::r,_,_=>simp
theorem acQ{zs:List Str}{x y:Str}{r:List Str}(hz:zs=x::y::r)(hx:2<=x.length)(hy:y.length=1)(hn:∀z∈zs,nameB z=au)(hl:zs.length<=20):BJ (uq zs):=by
 have ne:x≠y:=λe=>by rw[e] at hx;lia
 refine⟨agB zs,λz m=>hn z (afE m),afF (x:=x) (y:=y) (V9 (i:=0) (by rw[hz];rfl) bz) (V9 (i:=1) (by rw[hz];rfl) (by rw[hz];simp[mD ne])) ne,?_⟩
 unfold uq;rw[cV];refine kI (O4 _ _) ?_;rw[YM];exact hl
theorem aej:jL (.tuple []) (.tuple [])=aa (.im (.bool aF)):=by simp[jL,jh,nP,vG,lX,zj,ZP,Ie,PyData.canLayAll0,PyData.depthAll,PyData.eqvAll]
theorem afG:nl=fJ 0:=mF (by rw[Es];rfl)
def Xv:List Str:=[aB "part",aB "rank",aB "undo",aB "zzzzzzzz"]
theorem Ux{C:Ce}{z:Str}{d:az}{ws:List Str}{v0 v1 v2 v3 v5:Option Vl}(h:nJ d ws)(R:Rw z ws)(hl:z.length<=5000):Dz [v0,v1,v2,v3,aa (.im d),v5,aa (.im (.str z))] C=aa (.nx,[v0,v1,v2,v3,aa (.im d),v5,aa (.im (.str z))],C):=by
 have r:=acK (C:=C) h R aP;have s:=h.same (C:=C);simp_arith[Dz,r,s]
theorem aaV{C:Ce}{z1 z2:Str}{d:az}{ws:List Str}{v0 v1 v2 v3 v5 v6:Option Vl}(h:nJ d ws)(R1:Rw z1 ws)(l1:z1.length<=5000)(R2:Rw z2 ws)(l2:z2.length<=5000):jJ (gB 6) Dz [.str z1,.str z2,.str z1] [v0,v1,v2,v3,aa (.im d),v5,v6] C=aa (.nx,[v0,v1,v2,v3,aa (.im d),v5,aa (.im (.str z1))],C):=by
 have e1:=Ux (C:=C) (v0:=v0) (v1:=v1) (v2:=v2) (v3:=v3) (v5:=v5) h R1 l1;have e2:=Ux (C:=C) (v0:=v0) (v1:=v1) (v2:=v2) (v3:=v3) (v5:=v5) h R2 l2;unfold jJ;simp only[gB,Pa,Pb,e1];unfold jJ;simp only[gB,Pa,Pb,e2];unfold jJ;simp only[gB,Pa,Pb,e1];rfl
theorem aek{C:Ce}{ns:List Int}{i:Nat}{v2 v3 v4 v5 v6:Option Vl}(hi:i<=100):∃w2 w3 w4 w5 w6 C',JQ [aa (.sc ns),aa (.im (.int (0+(i:Int)))),v2,v3,v4,v5,v6] C=aa (.nx,[aa (.sc ns),aa (.im (.int (0+(i:Int)))),w2,w3,w4,w5,w6],C'):=by
 refine hide λGG gg=>?_
 obtain⟨x,y,hb,x0⟩:=adW (C:=C) (ns:=ns) (k:=0+(i:Int)) aP aP
 have hB:=afb (y:=y) C x0
 obtain⟨zs,C2,e2,⟨zl,zn,z0,z1⟩,hB2⟩:=acG (j:=799990) (m:=6) hB aO aO
 obtain⟨p,C3,e3,p0,p1,hB3⟩:=iu (m:=2) (k:=799989) hB2 aO aO
 obtain⟨ex,ee,hex,hl⟩:∃ex:List Str,ue ak (aa (4*p)) (.list [.str (aB "part"),.str (aB "rank"),.str (aB "undo"),.str (aB "zzzzzzzz")])=aa (.ow (.list (ex.map .str)))/\(∀z∈ex,nameB z=au)/\ex.length<=4:=by
  have:p=0\/p=1:=aP;rcases this with rfl|rfl
  .exact⟨[],rfl,λ_ m=>(nomatch m),aO⟩
  .exact⟨Xv,rfl,iW.mp (by decide +kernel:Xv.all nameB=au),aO⟩
 have ad:cH (.list (zs.map .str)) (.list (ex.map .str))=aa (.ow (.list ((zs++ex).map .str))):=by
  rw[yO];exact add_l (by rw[cV,cV];lia)
 obtain⟨u,v,r,hz⟩:∃u v r,zs=u::v::r:=by
  match zs,zl with
  |u::v::r,_=>exact⟨u,v,r,rfl⟩
 have hN:BJ (uq (zs++ex)):=acQ (x:=u) (y:=v) (r:=r++ex) (by rw[hz];rfl) (z0 u (by rw[hz];rfl)) (z1 v (by rw[hz];rfl)) (λz m=>(cL.mp m).elim (zn z) (hex z)) (by rw[gD];lia);have uc:=aei (C:=C3) (zs:=zs++ex);generalize zs++ex=yE at *;have aiX:=hN.G3
 obtain⟨d,C4,e4,⟨ws,hd⟩,mZ⟩:=aeh (j:=799900) (hB3.mono aP) hN
 generalize uq yE=us at *;have wf:=hd.wordsOf (C:=C4)
 obtain⟨hw,hwl,hw0⟩:=hd.words
 obtain⟨z2,C5,e5,R2,l2,By⟩:=acJ (j:=799800) (mZ.mono aP) hw hwl hw0
 have jn:=aed hw hwl;have R1:=Rw.join hw0 λw m=>⟨(hw w m).fr,(hw w m).ne⟩
 have l1:=acL hw hwl;generalize Txt.join sp ws=Xw at jn R1 l1
 obtain⟨q,C6,e6,q0,q1,Xo⟩:=iu (m:=161) (k:=799799) By aO aO
 have mq:pR (.str (aB " ")) (.int q)=aa (.im (.str (fJ q.toNat))):=Ea q0 aP;have b1:=RB (C:=C6) (n:=q.toNat) aP;have b0:qx [.im (.str (aB ""))] C6=aa (.im (.tuple []),C6):=by
  rw[show aB ""=fJ 0 from afG];exact RB aO
 have g1:(us.length<=1000000)=True:=eqT;have c4:=mul_eq (i:=4) (j:=p) (.inl aO);refine gg ⟨aa (.ce C.length),aa (.ow (.list (yE.map .str))),aa (.im d),aa (.ow (.list (ws.map .str))),aa (.im (.str Xw)),C6,?_⟩
 refine(nC (e1:=[aa (.sc ns),aa (.im (.int (0+(i:Int)))),aa (.ce C.length),v3,v4,v5,v6]) (C1:=C++[[x,y,0]]) ?_).trans ?_
 .simp_arith[Az,hb,intsOf]
 refine(nC (e1:=[aa (.sc ns),aa (.im (.int (0+(i:Int)))),aa (.ce C.length),aa (.ow (.list (yE.map .str))),v4,v5,v6]) (C1:=C3) ?_).trans ?_
 .simp_arith[e2,jD,j9,jw,c4,e3,ee,ad]
 refine(nC (e1:=[aa (.sc ns),aa (.im (.int (0+(i:Int)))),aa (.ce C.length),aa (.ow (.list (yE.map .str))),aa (.im d),v5,v6]) (C1:=C4) ?_).trans ?_
 .simp_arith[Nb,Bg,uc,g1,Dg,e4]
 refine(nC (e1:=[aa (.sc ns),aa (.im (.int (0+(i:Int)))),aa (.ce C.length),aa (.ow (.list (yE.map .str))),aa (.im d),aa (.ow (.list (ws.map .str))),v6]) (C1:=C4) ?_).trans ?_
 .simp_arith[wf]
 refine(nC (e1:=[aa (.sc ns),aa (.im (.int (0+(i:Int)))),aa (.ce C.length),aa (.ow (.list (yE.map .str))),aa (.im d),aa (.ow (.list (ws.map .str))),aa (.im (.str Xw))]) (C1:=C5) ?_).trans ?_
 .simp_arith[lu,vz,jn,e5,cW,dZ,aaV hd R1 l1 R2 l2]
 simp_arith[e6,mq,b1,b0,aej,gW,j4,cW]
theorem acR(ns:List Int)(h:ns.length<=63):∃C',yc [.sc ns] []=aa (.im (.bool au),C'):=by
 obtain⟨k,hk,k1,k2⟩:∃k:Int,(if(ns.length:Int)<60 then(ns.length:Int) else 60)=k/\0<=k/\k<=60:=⟨_,rfl,by split<;>lia,by split<;>lia⟩
 obtain⟨m,hm,m1,m2⟩:∃m:Int,(if k>6 then k else 6)=m/\0<=m/\m<=60:=⟨_,rfl,by split<;>lia,by split<;>lia⟩
 obtain⟨aU,C',e,he⟩:=Df (g:=gB 1) (body:=JQ) (aD:=lq 0 m.toNat) (aj:=[aa (.sc ns),ak,ak,ak,ak,ak,ak]) (C:=[])
  (λi aj C1=>∃v1 v2 v3 v4 v5 v6,aj=[aa (.sc ns),v1,v2,v3,v4,v5,v6]) ⟨_,_,_,_,_,_,rfl⟩ (λi d aj C1 hd hI=>by
   obtain⟨v1,v2,v3,v4,v5,v6,rfl⟩:=hI
   obtain⟨rfl,hi⟩:=zP hd
   obtain⟨w2,w3,w4,w5,w6,C2,e2⟩:=aek (C:=C1) (ns:=ns) (i:=i) (v2:=v2) (v3:=v3) (v4:=v4) (v5:=v5) (v6:=v6) aP
   exact⟨_,.nx,_,C2,rfl,e2,.inl rfl,_,_,_,_,_,_,rfl⟩)
 obtain⟨v1,v2,v3,v4,v5,v6,rfl⟩:=he
 refine⟨C'.take 0,?_⟩
 unfold yc fN;rw[bB (show[Vl.sc ns].length=1 from rfl),show([Vl.sc ns].map aa++cM (7-[Vl.sc ns].length) ak)=[aa (.sc ns),ak,ak,ak,ak,ak,ak] from rfl];simp_arith[Mr,lu,pC,tB,xM,sV,hk,hm,Be (m:=m) aP aP,e,vp]
theorem all_mk{l:PN}{w:bC}{K:aJ}{h:bw}{mg:Str->Option aA}{fa:aq}{cB cC cF:Tok}(X:K.In h)(G:h.Ns fG mg)(hfa:mg "law"=aa (.ref fa))
  (d0:fX K "is_name" Dh)
  (d1:fX K "read_row" CQ)
  (d2:fX K "read_rule" Cq)
  (d3:fX K "fits_together" HD)
  (d4:fX K "read_words" Ck)
  (d5:fX K "read_word" Cr)
  (d6:fX K "read_number" HX)
  (d7:fX K "is_plain" CT)
  (d8:fX K "read_seat" Ij)
  (d9:fX K "_law_mix" Ls)
  (d10:fX K "_law_left" KC)
  (d11:fX K "_law_pick" KD)
  (d12:fX K "_law_names" Ds)
  (d13:fX K "_law_day" Lw)
  (d14:fX K "_law_total" JB)
  (d15:fX K "_law_number" Jf)
  (d16:fX K "_law_seats" JC)
  (d17:fX K "_law_row" Et)
  (d18:fX K "_law_word" Eb)
  (d19:fX K "_law_words" JD)
  (d20:fX K "_law_same" zQ)
  (d21:fX K "_law_loose" JF)
  (d22:fX K "law" Fv)
  (Fw:jF K fG "abs"=aa ak)
  (Ak:jF K fG "all"=aa ak)
  (Lx:jF K fG "bool"=aa ak)
  (Ik:jF K fG "enumerate"=aa ak)
  (xZ:jF K fG "int"=aa ak)
  (kJ:jF K fG "isinstance"=aa ak)
  (jC:jF K fG "len"=aa ak)
  (z9:jF K fG "list"=aa ak)
  (Al:jF K fG "max"=aa ak)
  (Fx:jF K fG "min"=aa ak)
  (uT:jF K fG "range"=aa ak)
  (tL:jF K fG "str"=aa ak)
  (pN:jF K fG "tuple"=aa ak)
  (Fy:jF K fG "zip"=aa ak)
  (acS:vB w K "KINDS" lK)
  (aaW:vB w K "NUMBERS" rU)
  (ZQ:jF K fG "MOST_FIGURES"=aa (aa (.int 10 cB)))
  (ZR:jF K fG "MOST_LETTERS"=aa (aa (.int 8 cC)))
  (aak:jF K fG "MOST_SEATS"=aa (aa (.int 6 cF)))
  :∃fd:di,(∀(s:aH)(v:aA),xj s fd ⟨[v],[]⟩ [("_law_script",v)])/\∀base:bw,K.In base->base.Ns fG mg->dI l.prog w K mg base dN 8 fa fd ["_law_script"] (spT K yc):=by
 have T:Txt w K mg cB cC cF:=⟨lY X G Fw,lY X G Ak,lY X G Lx,lY X G Ik,lY X G xZ,lY X G kJ,lY X G jC,lY X G z9,lY X G Al,lY X G Fx,lY X G uT,lY X G tL,lY X G pN,lY X G Fy,yS X G ZQ,yS X G ZR,yS X G aak,acS.to X G,aaW.to X G⟩
 refine d22.law X G hfa (λbase f fd F=>?_) (λ_ _ _ _ _ _=>(eO λ_=>(iK rfl)));have qy:=d0.has X G (λf fd F=>aaQ (P:=l.prog) (w:=w) (base:=base) F T) (λ_ _ _ _ _ _=>(eO λ_=>(iK rfl)));have Iw:=d7.has X G (λf fd F=>aav (P:=l.prog) (w:=w) (base:=base) F T) (λ_ _ _ _ _ _=>(eO λ_=>(iK rfl)));have ql:=d6.has X G (λf fd F=>ZM (P:=l.prog) (w:=w) (base:=base) F T Iw) (λ_ _ _ _ _ _=>(eO λ_=>(eO λ_=>(iK rfl))));have zf:=d5.WD X G (λf fd hm hk hb F=>Ql (P:=l.prog) (w:=w) (base:=base) hm hk hb F T qy ql 2) (λ_ _ _ _ _ _=>(eO λ_=>(eO λ_=>(iK rfl))));have Ig:=d4.has X G (λf fd F=>Z1 (P:=l.prog) (w:=w) (base:=base) F T zf) (λ_ _ _ _ _ _=>(eO λ_=>(eO λ_=>(iK rfl))));have Ip:=d8.has X G (λf fd F=>aag (P:=l.prog) (w:=w) (base:=base) F T qy ql) (λ_ _ _ _ _ _=>(eO λ_=>(iK rfl)));have Ir:=d2.has X G (λf fd F=>aah (P:=l.prog) (w:=w) (base:=base) F T Ip) (λ_ _ _ _ _ _=>(eO λ_=>(eO λ_=>(iK rfl))));have HF:=d3.has X G (λf fd F=>Zn (P:=l.prog) (w:=w) (base:=base) F T) (λ_ _ _ _ _ _=>(eO λ_=>(iK rfl)));have zm:=d1.has X G (λf fd F=>aaw (P:=l.prog) (w:=w) (base:=base) F T Ig Ir HF) (λ_ _ _ _ _ _=>(eO λ_=>(iK rfl)));have Ew:=d9.has X G (λf fd F=>adT (P:=l.prog) (w:=w) (base:=base) F T) (λ_ _ _ _ _ _=>(eO λ_=>(eO λ_=>(iK rfl))));have KQ:=d10.has X G (λf fd F=>acu (P:=l.prog) (w:=w) (base:=base) F T) (λ_ _ _ _ _ _=>(eO λ_=>(eO λ_=>(iK rfl))));have dD:=d11.has X G (λf fd F=>acv (P:=l.prog) (w:=w) (base:=base) F T Ew) (λ_ _ _ _ _ _=>(eO λ_=>(eO λ_=>(iK rfl))));have JT:=d12.has X G (λf fd F=>abu (P:=l.prog) (w:=w) (base:=base) F T dD) (λ_ _ _ _ _ _=>(eO λ_=>(eO λ_=>(iK rfl))));have Ex:=d13.has X G (λf fd F=>adU (P:=l.prog) (w:=w) (base:=base) F T dD) (λ_ _ _ _ _ _=>(eO λ_=>(iK rfl)));have JR:=d14.has X G (λf fd F=>abv (P:=l.prog) (w:=w) (base:=base) F T dD) (λ_ _ _ _ _ _=>(eO λ_=>(iK rfl)));have Jk:=d15.has X G (λf fd F=>aaR (P:=l.prog) (w:=w) (base:=base) F T dD) (λ_ _ _ _ _ _=>(eO λ_=>(iK rfl)));have JS:=d16.has X G (λf fd F=>abw (P:=l.prog) (w:=w) (base:=base) F T dD) (λ_ _ _ _ _ _=>(eO λ_=>(eO λ_=>(iK rfl))));have LK:=d17.has X G (λf fd F=>adV (P:=l.prog) (w:=w) (base:=base) F T dD Ex JR Jk JS) (λ_ _ _ _ _ _=>(eO λ_=>(eO λ_=>(iK rfl))));have KN:=d18.has X G (λf fd F=>acw (P:=l.prog) (w:=w) (base:=base) F T) (λ_ _ _ _ _ _=>(eO λ_=>(iK rfl)));have JV:=d19.has X G (λf fd F=>abx (P:=l.prog) (w:=w) (base:=base) F T KN) (λ_ _ _ _ _ _=>(eO λ_=>(iK rfl)));have zR:=d20.WD X G (λf fd hm hk hb F=>Rv (P:=l.prog) (w:=w) (base:=base) hm hk hb F T 4) (λ_ _ _ _ _ _=>(eO λ_=>(eO λ_=>(iK rfl))));have JW:=d21.has X G (λf fd F=>aby (P:=l.prog) (w:=w) (base:=base) F T dD) (λ_ _ _ _ _ _=>(eO λ_=>(eO λ_=>(iK rfl))));exact afp F T zm KQ dD JT LK JV zR JW
theorem walk{l:PN}{q:bI}{loose:List Str}{XP:(Str->Option aA)->bw->Prop}{YP:bC->bw->Prop}{d:DefRec}{K:Params->aJ}(hn:l.most=aa 63)(hdf:d.params.defaults=[])
  (hY:∀(w:bC)(h:bw),YP w h->(K w.params).In h)
  (F:∀(w:bC)(mg:Str->Option aA)(fa:aq)(h:bw),(K w.params).In h->h.Ns fG mg->mg d.name=aa (.ref fa)->
   ∃fd:di,(∀(s:aH)(u:aA),xj s fd ⟨[u],[]⟩ [("_law_script",u)])/\∀base:bw,(K w.params).In base->base.Ns fG mg->dI l.prog w (K w.params) mg base dN 8 fa fd ["_law_script"] (spT (K w.params) yc)):
  ZV q loose XP YP l.row.toRowW d [] (λf vs=>QS f vs):=
 L2.ac7 (n:=63) (k:=8) (x:="_law_script") (CX:=λ_=>dN) (sp:=λw=>spT (K w.params) yc) hn aO hdf ⟨rfl,aO,aO,rfl⟩ hY F (λ_ _ a ns hl _ hS=>let ⟨_,h⟩:=acR ns hl;ae0 hS h) λ_ _ _ _ _ z=>z
end Og
namespace PySem.W.Fast
def tw10427258435292726039:=0
def tw1072118717806676196:=0
def tw11275237801742104206:=0
def tw11739677818992015665:=0
def tw11812885391015638225:=0
def tw11947105793636219615:=0
def tw12383541820971568877:=0
def tw12470285421223118861:=0
def tw13329634475423453595:=0
def tw1340096681521880573:=0
def tw14329588993964281029:=0
def tw15009263269475245632:=0
def tw1512312091629466430:=0
def tw15716384492301096994:=0
def tw16772310087542101456:=0
def tw16855899701065608763:=0
def tw1735545714735268680:=0
def tw17412381506134243605:=0
def tw17573158632317815291:=0
def tw18296469029016658458:=0
def tw195366514132429216:=0
def tw2461057928063629659:=0
def tw2599697170976307966:=0
def tw2787248296267491189:=0
def tw2814058030812126140:=0
def tw3917761461366469464:=0
def tw3958035126684006897:=0
def tw4000175889417308038:=0
def tw4293854713163338157:=0
def tw4761489709487572251:=0
def tw4777733895855708828:=0
def tw486102370031047424:=0
def tw500996910062145760:=0
def tw5330223640758143567:=0
def tw5650542797862337626:=0
def tw6295832575855216442:=0
def tw6765916961424770546:=0
def tw6984418371298486213:=0
def tw7007494862276139518:=0
def tw8097719415699759598:=0
def tw830732509268022854:=0
def tw8656919806371174736:=0
def tw8681510546008304673:=0
def tw8836680542737034110:=0
def tw8869060282693118556:=0
def tw9047693437031923202:=0
def tw9420905563642677785:=0
def tw9641782507967544085:=0
def tw9837971032508778459:=0
def tw9942550393142206532:=0
end PySem.W.Fast
open PySem PySem.W PyProof.Rows
set_option maxRecDepth 100000 in
set_option maxHeartbeats 0 in
theorem PySem.Challenge.cw_rankseals_k69_rows_read_holds : PySem.Challenge.rw_rankseals_k69_rows_read.Holds := by
 w_on;o_law;k_head;(case hw=>w_witness2)
 k_fill
 refine Og.walk (l:=PySem.Challenge.rw_rankseals_k69_rows_read) rfl rfl (λw h Y=>PySem.W.kIn_of Y) ?F
 case F=>
  intro w mg fa h KX G hmg
  refine' Og.all_mk KX G hmg ?_ ?_ ?_ ?_ ?_ ?_ ?_ ?_ ?_ ?_ ?_ ?_ ?_ ?_ ?_ ?_ ?_ ?_ ?_ ?_ ?_ ?_ ?_ ?_ ?_ ?_ ?_ ?_ ?_ ?_ ?_ ?_ ?_ ?_ ?_ ?_ ?_ ?_ ?_ ?_ ?_ ?_
  all_goals try first|exact .mk (by k_is) (by k_is) (by k_is) (by k_is)|k_is
  .refine' L2.vB.mk ?a ?l ?k ?s ?g
   case a=>k_is
   case l=>k_is
   case s=>rfl
   case k=>exact(L2.gP (L2.gP (L2.gP (L2.gP (L2.gP (L2.gP (L2.gP (L2.gP (L2.gP (L2.gP (L2.gP (L2.gP (L2.gP (L2.gP (L2.gP (L2.gP (L2.gP (L2.gP (L2.gP (L2.gP (L2.gP trivial)))))))))))))))))))))
   case g=>exact(L2.gO (L2.gM (by k_is) aO (.cons ⟨_,rfl⟩ (.cons ⟨_,rfl⟩ .nil))) (L2.gO (L2.gM (by k_is) aO (.cons ⟨_,rfl⟩ (.cons ⟨_,rfl⟩ (.cons ⟨_,rfl⟩ (.cons ⟨_,rfl⟩ (.cons ⟨_,rfl⟩ .nil)))))) (L2.gO (L2.gM (by k_is) aO (.cons ⟨_,rfl⟩ (.cons ⟨_,rfl⟩ .nil))) (L2.gO (L2.gM (by k_is) aO (.cons ⟨_,rfl⟩ (.cons ⟨_,rfl⟩ (.cons ⟨_,rfl⟩ (.cons ⟨_,rfl⟩ (.cons ⟨_,rfl⟩ (.cons ⟨_,rfl⟩ .nil))))))) (L2.gO (L2.gM (by k_is) aO (.cons ⟨_,rfl⟩ (.cons ⟨_,rfl⟩ .nil))) (L2.gO (L2.gM (by k_is) aO (.cons ⟨_,rfl⟩ .nil)) (L2.gO (L2.gM (by k_is) aO (.cons ⟨_,rfl⟩ .nil)) (L2.gO (L2.gM (by k_is) aO (.cons ⟨_,rfl⟩ (.cons ⟨_,rfl⟩ .nil))) (L2.gO (L2.gM (by k_is) aO (.cons ⟨_,rfl⟩ (.cons ⟨_,rfl⟩ .nil))) (L2.gO (L2.gM (by k_is) aO (.cons ⟨_,rfl⟩ (.cons ⟨_,rfl⟩ (.cons ⟨_,rfl⟩ (.cons ⟨_,rfl⟩ (.cons ⟨_,rfl⟩ (.cons ⟨_,rfl⟩ .nil))))))) (L2.gO (L2.gM (by k_is) aO (.cons ⟨_,rfl⟩ (.cons ⟨_,rfl⟩ (.cons ⟨_,rfl⟩ (.cons ⟨_,rfl⟩ .nil))))) (L2.gO (L2.gM (by k_is) aO (.cons ⟨_,rfl⟩ (.cons ⟨_,rfl⟩ (.cons ⟨_,rfl⟩ .nil)))) (L2.gO (L2.gM (by k_is) aO .nil) (L2.gO (L2.gM (by k_is) aO (.cons ⟨_,rfl⟩ (.cons ⟨_,rfl⟩ .nil))) (L2.gO (L2.gM (by k_is) aO (.cons ⟨_,rfl⟩ .nil)) (L2.gO (L2.gM (by k_is) aO (.cons ⟨_,rfl⟩ (.cons ⟨_,rfl⟩ .nil))) (L2.gO (L2.gM (by k_is) aO (.cons ⟨_,rfl⟩ (.cons ⟨_,rfl⟩ .nil))) (L2.gO (L2.gM (by k_is) aO (.cons ⟨_,rfl⟩ (.cons ⟨_,rfl⟩ .nil))) (L2.gO (L2.gM (by k_is) aO (.cons ⟨_,rfl⟩ (.cons ⟨_,rfl⟩ .nil))) (L2.gO (L2.gM (by k_is) aO (.cons ⟨_,rfl⟩ (.cons ⟨_,rfl⟩ .nil))) (L2.gO (L2.gM (by k_is) aO (.cons ⟨_,rfl⟩ (.cons ⟨_,rfl⟩ .nil))) trivial)))))))))))))))))))))
  .refine' L2.vB.mk ?a ?l ?k ?s ?g
   case a=>k_is
   case l=>k_is
   case s=>rfl
   case k=>exact(L2.gP (L2.gP (L2.gP (L2.gP (L2.gP trivial)))))
   case g=>exact(L2.gO (L2.gM (by k_is) aO (.cons ⟨_,rfl⟩ (.cons ⟨_,rfl⟩ .nil))) (L2.gO (L2.gM (by k_is) aO (.cons ⟨_,rfl⟩ (.cons ⟨_,rfl⟩ .nil))) (L2.gO (L2.gM (by k_is) aO (.cons ⟨_,rfl⟩ (.cons ⟨_,rfl⟩ .nil))) (L2.gO (L2.gM (by k_is) aO (.cons ⟨_,rfl⟩ (.cons ⟨_,rfl⟩ .nil))) (L2.gO (L2.gM (by k_is) aO (.cons ⟨_,rfl⟩ (.cons ⟨_,rfl⟩ .nil))) trivial)))))
