import PyProof.Rows.All
import Wide.All
import OpenK.AllK
import Wide.FinOn
import Lean
import PyProof.EqAt
import PyProof.EqKinds
import PyProof.TupleCall
import PySem.Challenge.RW_rankseals_k15_shortest_and_first_rows
set_option Elab.async false
set_option linter.all false
set_option maxRecDepth 100000
set_option maxHeartbeats 4000000
set_option autoImplicit true
open PySem.Value renaming isInt→aeV,isStrOf→VF,int→G9,str→Hf,isStrOf_shape→ac9,none→o8,bool→o9,float→Wg,ref→dB,type→Br,notImplemented→Ui
open PySem renaming World→aY,Program→bf,KeyKind→wR,Addr→aa,Heap→aU,sizeLine→bJ,sysModules→rG,tupleKind→Bs,Within→aev,mainGlobals→fZ,bootBuiltins→rF,Around→bU,Shared→au,Scope→iK,Drawn→xK,wpAny→aL,backTo→fK,starEach→aZ,Stmt→cV,wpAny_mono→nW,wpAny_Name→Wq,wpAny_loadName_local→ac3,wpAny_loadName_cell→ada,wpAny_truthy_bool→uR,wpAny_execs_nil→Kw,wpAny_execs_cons→adJ,swapsWith→u9,assignInOrder→Bb,assignEach→rH,wpAny_assign_Name→Kd,holding→pF,standAt→rM,wpAny_bind→aD,wpAny_holding→mj,wpAny_standAt→uX,swapsWithSole→wU,swappedStores→wV,wpAny_pure→aV,wpAny_newObj_type→lX,bindName→tO,wpAny_rule→wZ,wpAny_bindName→Gd,PassesOwn→M4,wpAny_passesOwn→yN,pyNext→n6,letOwnedTupleGo→wN,pyIter→Cr,wpAny_load→GX,rawInt→jg,wpAny_pyIter_list→Ux,foldedSetIterable→wJ,binaryOp→mF,compareOp→dH,behindInMarks→Bc,lastMarks→M5,sizeLine_eq→iI,cLine→dR,Result→qx,FuncData→dg,BindsTo→xm,codeAny→jR,codeAny_mono→Gq,wpAny_Call_Name_kw→Ft,Keyword→lM,NameKind→zq,bindL→xN,bindC→xO,mem_of_lookup→uP,concat_meets→V3,noFill_tuple_add→U3,seq_tuple_add→VG,IsPart→rO,wpAny_field→Wi,getItem→vq,wpAny_sequenceKey→ady,wpAny_callSpecial?_slot→Aj,wpAny_call_entry→p6,wpAny_typeOf→Gr,seqIndex?→M7,seqIndex_of→Wk,seqIndex_neg→V4,subscripted→Wl,typeIs_str→Wt,sliceBounds→za,typeIs_int→Wu,attributeBase→tK,backToKw→xj,keywordEach→wX,call_meets→G4,valueAt→zx,atKey→vI,tupleKind_room_in1→Fv,callerA→zy,call→Wx,compEnvC→NB,compTurn→Bw,newFunctionEnv→Vq,wpAny_newFunctionEnv→Ug,lookup_relabel_local→Uh,wpAny_comprehension_free→T6,PyData→aj,wpAny_pyIter_zip→adP,Builtin→j5,wpAny_newList→Lb,codeAny_builtin→uU,plainId_quiet→tL,richCompare→Bo,wpAny_loadPart'→nQ,wpAny_forIn_list→adQ,richCompare_meets_room→Ub,SetTable→tQ,relayAll→Ge,scanBound→pC,wpAny_setState_of→Ao,wpAny_storeSet_of→adB,fits_of_scanBound→UJ,builtinLookup_eq_fast→ac0,isSubtype_type→Vt,entryFor→N6,argsOk→Cz,wpAny_pyIter_slot→adC,setNext→BW,wpAny_attempt→Ld,wpAny_fieldsOf→KQ,wpAny_setEntries_of→Fo,wpAny_setField→Az,wpAny_isInstance→adR,setsByText→WL,wpAny_askSetting→Kq,wpAny_ite_split→Ky,pickOrder→w6,wpAny_seqItems→Gf,wpAny_setEpoch_of→adD,updateSeq→Ng,wpAny_updateSeq→Gb,checkCount→WM,strKind→Gj,wpAny_Call_method→adF,argBest→kY,wpAny_tryCatch→KY,wpAny_letGo→LR,wpAny_pyIter_enum→adH
open Sum renaming inl→jQ,inr→je
open Sum.inl renaming inj→Wf
open Sum.inr renaming inj→aeW
open PySem.SeqAt.EqAt renaming int_str→adf,str_int→adg,same→adY,int_int→adl
open Option.some renaming inj→fP,injEq→Kl
open PySem.W renaming instObj→Vc,methodObj→Uw,Frag→aC,lookIn→Vp,plainGet→adK,findIn→yP,takerIn→adX,specialIn→adt,isFn→aex,keepIn→uV,kitOne→yQ,kia_one→rD,kitx_none→adu,kitx_bool→adw,kitx_int→adL,kitx_str→adM,kitx_float→adi,kitx_list→Ke,kitx_tuple→adk,kitx_dict→Kf,kitx_own→adN,cellsFrom_some→acR,fnOf→wW,codeIn→KJ,OpenLaw→Ve,WalkO→aek,kitAny→KN,kia_tup→rE,nsIn→mq,mg_of→VM,mg_none_of→m6
open PySem.Heap renaming lt_size→bT,SameBut→yX,get?_push_of_some→cB,get?_push_size→gF,get?_update_self→yF,get?_update_other→rB,size_push→wQ
open Nat renaming lt_of_lt_of_le→lW,lt_irrefl→uW,ne_of_lt→dF,le_trans→jd,le_of_lt→uZ,ne_of_gt→yZ,le_refl→bD,le_succ→Bm,succ_le_succ→U5,succ_mul→aeC,lt_trans→Gs,zero_le→lJ,sub_self→V7,lt_succ_of_lt→wK,not_lt→Mx,add_zero→V8,lt_succ_self→U8,lt_trichotomy→adE,zero_add→Gu,mul_le_mul_right→ac7,mul_add→Wn,not_lt_zero→wO,le_of_ble_eq_true→Fg,succ_pos→Gv,not_succ_le_zero→ac8,le_add_right→Kv,min_eq_left→Vn,lt_or_eq_of_le→adp,le_of_lt_succ→adI,le_succ_of_le→U0
open Array renaming append_assoc→adh,length_toList→ju,toList→aew,getElem?_toList→J9,getD→afp,getD_eq_getD_getElem?→rA,getElem?_eq_getElem→lU,toList_push→adA,getElem?_eq_none→acV,mem_of_getElem?→ac2,size_append→UT
open List renaming range→dz,mem_filter→tG,mem_range→oY,filterMap_cons→Uk,mem_cons_self→fj,mem_cons_of_mem→eZ,mem_cons→bL,mem_append→cI,mem_append_left→gh,getElem?_eq_some_iff→iG,getElem?_set_self→acQ,getElem?_set_ne→uM,set_comm→K8,mem_filterMap→Kc,mem_append_right→dN,size_toArray→fB,any_eq_false→adq,append_nil→jP,nodup_cons→jC,of_mem_zip→Vd,replicate→cH,length→o7,length_take→m7,getElem?_append_right→nJ,getElem?_replicate→T8,getElem?_append_left→nM,getElem?_map→fY,getElem?_take_of_lt→T4,take_sublist→FJ,mem_of_getElem?→lV,length_append→fO,length_map→aX,length_replicate→Ud,length_drop→Aq,length_set→uT,all_cons→K9,any_cons→Gi,reverse_cons→Kh,replicate_succ→sX,flatten_cons→Am,foldl→Wv,append_assoc→j0,foldl_cons→Av,nil_append→jc,find?_cons→nP,length_cons→cN,length_nil→Aw,map_cons→cj,filter_cons→Ko,map_nil→kI,lookup_cons→yJ,map_map→dX,all_eq_true→nO,getElem_of_mem→sY,getElem?_eq_getElem→ie,getElem_mem→wM,mem_singleton→jm,not_mem_nil→jb,getD→qg,ext_getElem→yK,length_range→kE,map_congr_left→yG,zip_cons_cons→Fw,getElem?_set→An,pairwise_iff_getElem→Fd,pairwise_lt_range→J8,pairwise_append→Uj,getElem_take→adz,pairwise_cons→tD,nodup_append→j4,length_eq_zero_iff→acN,length_eraseIdx→ac5,take_zero→aed,Sublist→Wa,nodup_nil→oZ,any_map→aeG,length_zip→Vf,getElem?_range→Ul,getElem?_eq_none→Ff,getElem?_eq_none_iff→T3,drop_length→adS,drop_eq_getElem_cons→acH,getElem?_mapIdx→ac6,sublist_nil→adT,getElem?_take→Uq,map_id→LQ,sum_cons→VL,any_eq_true→adU,mem_map→dG,ext_getElem?→adG,mem_of_mem_take→uO,map_append→gJ,find?_map→Vu,isEmpty_nil→U9,getElem_map→adW,find?_eq_none→Us,nodup_iff_pairwise_ne→TV,cons_append→jO,getElem?_drop→ado,mem_of_mem_drop→Fj,length_flatMap→ade,length_pos_of_mem→acY,filter_eq_self→Um,range_succ→Vm,map_take→V2,length_filter_le→Fi,length_pos_iff→Ka,getD_eq_getElem?_getD→J2,map_drop→aeu,map_const'→ad9,set_cons_succ→Uu,set_cons_zero→Uv
open Ne renaming symm→jE
open PySem.Calls renaming Name_function_global→acD,spliced_nil→Kg,spliced_cons→Fq,callWith_builtin→acS,evalArgs_plain→ac4,call_function_entry→TY
open False renaming elim→qe
open PySem.Flow renaming next→M3
open Bool renaming false_ne_true→gG,false_and→Vo,eq_iff_iff→p7,and_eq_true→gH,not_eq_true→U6,false_eq_true→oX,not_true→aeo,not_false→aeb,not_eq_true'→UL
open Int renaming mul_one→Wh,toNat_natCast→Al,le_refl→zb,emod_eq_emod_iff_emod_sub_eq_zero→acw,emod_eq_of_lt→Km,emod_nonneg→lY,emod_lt_of_pos→rC,ediv_nonneg→ad8,zero_add→aeU
open PySem.Builtin.Range renaming rangeSize→anT
open PyProof.Rows renaming callWith_type1→Fb,callWith_builtin1→TQ,slot_tuple_getitem→J0,boot_zip→anW,toString_length_le→ani,boot_enumerate→anl,evalArgs_none→anp
open PySem.EqNone renaming eq_none_none→anq,eq_none_bool→anr,eq_none_int→anD,eq_none_str→anE,eq_bool_none→ant,eq_int_none→anF,eq_str_none→anH,ne_none_none→anw,ne_none_bool→anx,ne_none_int→anJ,ne_none_str→anK,ne_bool_none→anz,ne_int_none→anL,ne_str_none→anN
open PySem.EqMixed renaming eq_bool_str→anu,eq_int_str→anG,eq_str_bool→anv,eq_str_int→anI,ne_bool_str→anA,ne_int_str→anM,ne_str_bool→anB,ne_str_int→anO
open True renaming intro→kJ
open Option renaming isSome_iff_exists→uL,getD_none→adO,isSome_some→Ak,isSome_map→FP,map_eq_some_iff→Fe,none→mC,map_some→jD,getD_some→FW,bind_some→ir,some_ne_none→uQ,map→WN,map_map→Ba,bind_eq_some_iff→jZ,map_eq_none_iff→acX,isSome_none→Ut,map_none→aea
open PySem.F renaming slot_tuple_add→Ua,entry_tuple_add→T9,args_tuple_add_2→T5,slot_list_append→Uo,slot_list_extend→adm,slot_list_pop→adZ,slot_int_rmul→ad0,slot_dict_get→Ue,entry_dict_get→acT,args_dict_get_3→acL,plain_proto_collect→acz,plain_list_iadd→J6,slot_tuple_lt→acZ,entry_tuple_lt→acU,args_tuple_lt_2→acM,slot_set_iter→ad6,plain_extend_loop→acG,plainAttrs_list→J7,type_list_append→acK,plainAttrs_dict→acO,entry_min_loop→Uc,plain_min_loop→yE,slot_dict_items→acP
open PySem.Builtin.Slice renaming sliceAdjust→TX,slicePlaces→J3,slicePartIndex→ank,sliceApplied→acE,sliceFields→anC
open PySem.Str renaming ofString→dU
open PySem.Builtin.Tuple renaming tupleItemsOf→acF,tupleExact→J4,tupleCompareSizes→acy,tupleIsExact→anm
open PySem.Heap.IsSliceOf renaming new→anY
open PySem.Obj renaming mapSeq→kO,putSet→Mz,data_mapFields→adn
open PySem.SeqAt renaming EqAt→G3,shaped→lH
open PySem.Builtin.List renaming listTooLong→J5,listExtendWith→J1,listLengthHint→acA,listSameRef→T7
open List.Pairwise renaming nil→yH,filterMap→anU,imp_of_mem→anS,imp→anZ
open Or renaming inl→cC,inr→qz
open PySem.NameKind renaming free→nU,cell→La
open ForInStep renaming yield→ad4
open PySem.Code renaming compLoop→Bd
open PySem.Walks renaming list→afn
open PySem.PyData renaming hasDict→Ay,hasDictAll→Uy,str→c7,eqv→G5,tuple→u5,depth→Bg,showable→Kz,showableAll→Ur,depthAll→Ax,shownAll→yO,shown→aeI,shownAll_length→acW,strOk→Lq,canLayAll0→UW,canLay0→aee,int→pB,list→Wo
open PySem.WalksT renaming zip2→ae2
open List.Perm renaming refl→yR,of_eq→ad5,swap→KR,append_left→ac1
open List.cons renaming inj→yU,injEq→Vg
open PySem.Heap.SameBut renaming update→sZ,refl→UG
open PySem.Around renaming under_plainId→uN
open PySem.AutoSeq1 renaming sub_tuple_tuple→acJ
open PySem.SetTable.below renaming go→FQ
open PySem.SetTable renaming below→iH,has→aeE,slot→aem,grown→yS
open PySem.SetTable.probe renaming go→Uz
open PySem.SetTable.Met.empty renaming injEq→anP
open Prod.mk renaming injEq→aen
open PySem.pickOrder renaming go→V9
open PySem.Builtin.Frozenset renaming slot0→anV,sizeOf→anQ,oneOther→ano,addrOf→anR
open PySem.Bind renaming checkArgs→aec
open List.Sublist renaming refl→yI,append→Fp
open PySem.Builtin.Str renaming strSliceIndices→acB
open PySem.Builtin.Builtins renaming bindParams→acC
open Classical renaming byContradiction→acI
open Nat.succ renaming inj→Gw
open PySem.StrLaws renaming seqIndex_nonneg→anj
open PySem.PassesOwn renaming never→lZ
noncomputable section
namespace L2
open PySem PySem.Spec PyProof.Rows
abbrev Key:=Sum Int Str
def zQ:Key→Value→Bool
 |.inl k,v=>aeV k v
 |.inr x,v=>VF x v
def als(w:aY):Key→Int
 |.inl k=>hashInt k
 |.inr x=>hashStr w x
theorem qb:∀{k:Key}{v:Value},zQ k v=true→(∃i t,k=jQ i∧v=G9 i t)∨(∃x t,k=je x∧v=Hf x t)
 |.inl i,v,h=>by
  obtain⟨t,e⟩:=Value.isInt_shape (k:=i) (v:=v) h
  exact .inl ⟨i,t,rfl,e⟩
 |.inr x,v,h=>by
  obtain⟨t,e⟩:=ac9 (x:=x) (v:=v) h
  exact .inr ⟨x,t,rfl,e⟩
theorem afS(i:Int)(t:Tok):zQ (.inl i) (.int i t)=true:=by simp[zQ,aeV]
theorem afT(x:Str)(t:Tok):zQ (.inr x) (.str x t)=true:=by simp[zQ,VF]
theorem ajr(a b:Int):decide ((jQ a:Key)=jQ b)=(a==b):=by
 by_cases e:a=b
 ·subst e;simp
 ·have h:¬(jQ a:Key)=jQ b:=fun q=>e (Wf q)
  rw[decide_eq_false h]
  exact(beq_eq_false_iff_ne.mpr e).symm
theorem ajs(a b:Str):decide ((je a:Key)=je b)=decide (a=b):=by
 by_cases e:a=b
 ·subst e;simp
 ·have h:¬(je a:Key)=je b:=fun q=>e (aeW q)
  rw[decide_eq_false h,decide_eq_false e]
theorem ajt(a:Int)(b:Str):decide ((jQ a:Key)=je b)=false:=decide_eq_false (fun q=>nomatch q)
theorem aju(a:Str)(b:Int):decide ((je a:Key)=jQ b)=false:=decide_eq_false (fun q=>nomatch q)
def iu(prog:bf)(w:aY):wR prog w Key where
 is:=zQ
 hash:=als w
 inj:=fun v a b ha hb=>by
  rcases qb ha with⟨i,t,rfl,rfl⟩|⟨x,t,rfl,rfl⟩
  ·rcases qb hb with⟨j,u,rfl,e⟩|⟨y,u,rfl,e⟩
   ·injection e with e1 _;rw[e1]
   ·exact nomatch e
  ·rcases qb hb with⟨j,u,rfl,e⟩|⟨y,u,rfl,e⟩
   ·exact nomatch e
   ·injection e with e1 _;rw[e1]
 byValue:=fun k v h=>by
  rcases qb h with⟨i,t,rfl,rfl⟩|⟨x,t,rfl,rfl⟩<;>rfl
 pyHash:=fun hv h=>by
  rcases qb hv with⟨i,t,rfl,rfl⟩|⟨x,t,rfl,rfl⟩
  ·exact wpAny_pyHash_int h
  ·exact wpAny_pyHash_str h
 eqBool:=fun hu hv h=>by
  rcases qb hu with⟨i,t,rfl,rfl⟩|⟨x,t,rfl,rfl⟩
  ·rcases qb hv with⟨j,u,rfl,rfl⟩|⟨y,u,rfl,rfl⟩
   ·rw[ajr] at h;exact wpAny_eqBool_int h
   ·rw[ajt] at h;exact adf i t y u _ _ _ _ h
  ·rcases qb hv with⟨j,u,rfl,rfl⟩|⟨y,u,rfl,rfl⟩
   ·rw[aju] at h;exact adg x t j u _ _ _ _ h
   ·rw[ajs] at h;exact wpAny_eqBool_str h
 «strs»:=fun k x t v h=>by
  rcases qb h with⟨i,u,rfl,e⟩|⟨y,u,rfl,e⟩
  ·exact nomatch e
  ·injection e with e1 _
   subst e1;cases v<;>rfl
theorem aeX(prog:bf)(w:aY)(i:Int)(t:Tok):(iu prog w).is (.inl i) (.int i t)=true:=afS i t
theorem aeY(prog:bf)(w:aY)(x:Str)(t:Tok):(iu prog w).is (.inr x) (.str x t)=true:=afT x t
inductive V where
 |non|bl (b:Bool)|int (i:Int)|str (x:Str)|oR (b:Array UInt8)|flt (b:UInt64)|ref (a:aa)|ty (n:String)
 deriving DecidableEq
def RelV:V→Value→Prop
 |.non,u=>u=o8
 |.bl b,u=>u=o9 b
 |.int i,u=>∃t,u=G9 i t
 |.str x,u=>∃t,u=Hf x t
 |.oR b,u=>∃t,u=Value.bytes b t
 |.flt b,u=>∃t,u=Wg b t
 |.ref a,u=>u=dB a
 |.ty n,u=>u=Br n
abbrev Vals:List V→List Value→Prop:=Paired RelV
theorem Vals.length{xs:List V}{us:List Value}(r:Vals xs us):xs.length=us.length:=Paired.length r
theorem Vals.get:∀{xs:List V}{us:List Value}{i:Nat}{x:V},Vals xs us→xs[i]?=some x→∃u,us[i]?=some u∧RelV x u
 |_,_,_,_,.nil,e=>by simp at e
 |_,_,0,_,.cons r _,e=>by simp at e;subst e;exact⟨_,rfl,r⟩
 |_,_,i+1,x,.cons _ t,e=>by
  obtain⟨u,h1,h2⟩:=Vals.get (i:=i) (x:=x) t (by simpa using e)
  exact⟨u,by simpa using h1,h2⟩
theorem Vals.set{x:V}{u:Value}(r:RelV x u):∀{xs:List V}{us:List Value}(i:Nat),Vals xs us→Vals (xs.set i x) (us.set i u)
 |_,_,_,.nil=>.nil
 |_,_,0,.cons _ t=>.cons r t
 |_,_,i+1,.cons q t=>.cons q (Vals.set r i t)
theorem Vals.append:∀{xs ys:List V}{us ws:List Value},Vals xs us→Vals ys ws→Vals (xs++ys) (us++ws)
 |_,_,_,_,.nil,s=>s
 |_,_,_,_,.cons r t,s=>.cons r (Vals.append t s)
theorem Vals.take:∀{xs:List V}{us:List Value}(n:Nat),Vals xs us→Vals (xs.take n) (us.take n)
 |_,_,0,_=>.nil
 |_,_,_+1,.nil=>.nil
 |_,_,n+1,.cons r t=>.cons r (Vals.take n t)
theorem Vals.drop:∀{xs:List V}{us:List Value}(n:Nat),Vals xs us→Vals (xs.drop n) (us.drop n)
 |_,_,0,r=>r
 |_,_,_+1,.nil=>.nil
 |_,_,n+1,.cons _ t=>Vals.drop n t
def oH:Option V→Option Value→Prop
 |some v,some u=>RelV v u
 |none,none=>True
 |_,_=>False
def KV{κ:Type}:List (κ×V)→List (κ×Value)→Prop:=Paired fun(p:κ×V)(q:κ×Value)=>p.1=q.1∧RelV p.2 q.2
def kV:Key→V
 |.inl i=>.int i
 |.inr x=>.str x
inductive HO where
 |lst (xs:List V)
 |tup (xs:List V)
 |dK (kvs:List (Key×V))|dT (kvs:List (List Key×V))
 |set (S:Int→Bool) (n:Nat)
 |ins (C dx:aa) (fs:List (Str×V))
 |own (x:aa)
 |xd (fs:List (Str×V))
 |met (f x:aa)
 |R4 (lo hi:Int)
 |kj (o:Obj) (u:HO)
 |yr (ps:Array Value)
 |ext (φ:aU→Prop)
abbrev Hp:=aa→Option HO
def upd(H:Hp)(a:aa)(o:HO):Hp:=fun b=>if b=a then some o else H b
theorem dI{H:Hp}{a:aa}{o:HO}:upd H a o a=some o:=by unfold upd;rw[if_pos rfl]
theorem cG{H:Hp}{a b:aa}{o:HO}(h:b≠a):upd H a o b=H b:=by unfold upd;rw[if_neg h]
theorem Y6{H:Hp}{a:aa}{o u:HO}:upd (upd H a o) a u=upd H a u:=by
 funext b;unfold upd;split<;>rfl
theorem Q3{H:Hp}{a b:aa}{o u:HO}(h:H a=some o)(h':H b=some u)(d:o≠u):a≠b:=by
 intro e;subst e;rw[h] at h';exact d (fP h')
theorem pA{H:Hp}{a b:aa}{o:HO}(h:H a=some o)(h':H b=none):a≠b:=by
 intro e;subst e;rw[h] at h';cases h'
section
variable(P:bf)(w:aY)
def dO(H:Hp)(h:aU)(a:aa):HO→Prop
 |.lst xs=>xs.length≤bJ∧∃(its:List Value)(n:Nat),Vals xs its∧h.get? a=some {cls:=.type "list",data:=.seq its.toArray n}
 |.tup xs=>xs.length≤bJ∧∃its:List Value,Vals xs its∧IsTup h a its.toArray
 |.dK kvs=>kvs.length≤bJ∧(a==rG)=false∧∃vs,KV kvs vs∧h.DictOf (iu P w) a vs
 |.dT kvs=>kvs.length≤bJ∧(a==rG)=false∧∃xs:List (List Key×aa×Value),
   Paired (fun(p:List Key×V)(q:List Key×aa×Value)=>p.1=q.1∧H q.2.1=some (.tup (p.1.map kV))∧RelV p.2 q.2.2) kvs xs∧
   ∃o es ep,h.get? a=some o∧o.ExactDict∧o.data=.dict es ep∧es.toList=xs.map (entryOfKey (Bs (iu P w)))∧(xs.map (·.1)).Nodup
 |.set S n=>h.SetOf (intKind P w) a S n
 |.ins C dx fs=>H dx=some (.own a)∧fs.length≤1000∧dx≠a∧h.get? a=some (Vc C dx)∧
   ∃mA,h.Ns1 dx mA∧(∀f,oH (fs.lookup f) (mA f))∧aev mA (fs.map (·.1))
 |.own _=>∃o,h.get? a=some o
 |.xd fs=>∃mA,h.Ns1 a mA∧∀f,oH (fs.lookup f) (mA f)
 |.R4 lo hi=>∃t u v,h.get? a=some {cls:=.type "range",data:=.fields #[.int lo t,.int hi u,.int 1 v]}
 |.kj o u=>h.get? a=some o∧dO H h a u
 |.yr ps=>h.get? a=some {cls:=.none,data:=.fields ps}
 |.met f x=>h.get? a=some (Uw (.ref f) (.ref x))
 |.ext φ=>φ h∧(∃o,h.get? a=some o)∧∀h1 h2:aU,φ h1→(∀o,h1.get? a=some o→h2.get? a=some o)→φ h2
def gf(H:Hp)(h:aU):Prop:=∀a o,H a=some o→dO P w H h a o
end
section
variable{P:bf}{w:aY}{H H':Hp}{h h':aU}{a:aa}{o:HO}
theorem dO.lt(x:dO P w H h a o):a<h.objs.size:=by
 cases o with
 |lst xs=>obtain⟨_,_,_,_,e⟩:=x;exact bT e
 |tup xs=>obtain⟨_,_,_,p⟩:=x;exact p.lt
 |dK kvs=>obtain⟨_,_,_,_,o,_,_,e,_⟩:=x;exact bT e
 |dT kvs=>obtain⟨_,_,_,_,o,_,_,e,_⟩:=x;exact bT e
 |set S n=>obtain⟨o,_,_,_,e,_⟩:=x;exact bT e
 |ins C dx fs=>obtain⟨_,_,_,e,_⟩:=x;exact bT e
 |own y=>obtain⟨_,e⟩:=x;exact bT e
 |xd fs=>obtain⟨_,⟨_,_,_,e,_⟩,_⟩:=x;exact bT e
 |R4 lo hi=>obtain⟨_,_,_,e⟩:=x;exact bT e
 |kj ob u=>obtain⟨e,_⟩:=x;exact bT e
 |yr ps=>exact bT (show h.get? a=some _ from x)
 |met f y=>exact bT (show h.get? a=some _ from x)
 |ext φ=>obtain⟨_,⟨_,e⟩,_⟩:=x;exact bT e
theorem Paired.Rw{α β:Type}{F G:α→β→Prop}:∀{l₁:List α}{l₂:List β},Paired F l₁ l₂→(∀a b,F a b→G a b)→Paired G l₁ l₂
 |_,_,.nil,_=>.nil
 |_,_,.cons r t,f=>.cons (f _ _ r) (Paired.Rw t f)
theorem dO.stay(x:dO P w H h a o)(k:∀b u,(b=a∨H b=some (.own a))→h.get? b=some u→h'.get? b=some u)
  (ho:∀b,H b=some (.own a)→H' b=some (.own a))(ht:∀b xs,H b=some (.tup xs)→H' b=some (.tup xs)):dO P w H' h' a o:=by
 induction o with
 |lst xs=>obtain⟨z,its,n,r,e⟩:=x;exact⟨z,its,n,r,k _ _ (.inl rfl) e⟩
 |tup xs=>obtain⟨z,its,r,ob,e,c⟩:=x;exact⟨z,its,r,ob,k _ _ (.inl rfl) e,c⟩
 |dK kvs=>obtain⟨z,y,vs,r,ob,es,ep,e,c⟩:=x;exact⟨z,y,vs,r,ob,es,ep,k _ _ (.inl rfl) e,c⟩
 |dT kvs=>
  obtain⟨z,y,xs,r,ob,es,ep,e,c⟩:=x
  exact⟨z,y,xs,Paired.Rw r fun p q z=>⟨z.1,ht _ _ z.2.1,z.2.2⟩,ob,es,ep,k _ _ (.inl rfl) e,c⟩
 |set S n=>obtain⟨ob,es,ep,t,e,c⟩:=x;exact⟨ob,es,ep,t,k _ _ (.inl rfl) e,c⟩
 |ins C dx fs=>
  obtain⟨d,z,ne,e,mA,⟨od,es,ep,e2,c⟩,r⟩:=x
  exact⟨ho _ d,z,ne,k _ _ (.inl rfl) e,mA,⟨od,es,ep,k _ _ (.inr d) e2,c⟩,r⟩
 |own y=>obtain⟨ob,e⟩:=x;exact⟨ob,k _ _ (.inl rfl) e⟩
 |xd fs=>obtain⟨mA,⟨od,es,ep,e,c⟩,r⟩:=x;exact⟨mA,⟨od,es,ep,k _ _ (.inl rfl) e,c⟩,r⟩
 |R4 lo hi=>obtain⟨t,u,v,e⟩:=x;exact⟨t,u,v,k _ _ (.inl rfl) e⟩
 |kj ob u ih=>obtain⟨e,q⟩:=x;exact⟨k _ _ (.inl rfl) e,ih q⟩
 |yr ps=>
  have e:h.get? a=some {cls:=.none,data:=.fields ps}:=x;show h'.get? a=some {cls:=.none,data:=.fields ps};exact k a _ (.inl rfl) e
 |met f y=>
  have e:h.get? a=some (Uw (.ref f) (.ref y)):=x;show h'.get? a=some (Uw (.ref f) (.ref y));exact k a _ (.inl rfl) e
 |ext φ=>obtain⟨p,⟨o,e⟩,st⟩:=x;exact⟨st _ _ p fun o q=>k _ _ (.inl rfl) q,⟨o,k _ _ (.inl rfl) e⟩,st⟩
theorem gf.lt(x:gf P w H h)(e:H a=some o):a<h.objs.size:=(x a o e).lt
theorem gf.fresh(x:gf P w H h)(e:h.objs.size≤a):H a=none:=by
 cases q:H a with
 |none=>rfl
 |some u=>exact absurd (lW (x.lt q) e) (uW _)
theorem gf.kept(x:gf P w H h)(k:∀b u,h.get? b=some u→h'.get? b=some u):gf P w H h':=fun a o e=>
 (x a o e).stay (fun b u _ q=>k b u q) (fun _ q=>q) fun _ _ q=>q
theorem gf.laid(x:gf P w H h)(k:∀b u,h.get? b=some u→h'.get? b=some u)(hp:h.objs.size≤a)(new:dO P w (upd H a o) h' a o):gf P w (upd H a o) h':=fun b u e=>by
 have hn:=x.fresh hp;by_cases hb:b=a
 ·subst hb;rw[dI] at e;cases e;exact new
 ·rw[cG hb] at e
  exact(x b u e).stay (fun c v _ q=>k c v q) (fun c q=>by rw[cG (pA q hn)];exact q) fun c xs q=>by rw[cG (pA q hn)];exact q
end
def Rd(H:Hp)(a:aa)(u:HO):Prop:=H a=some u∨∃o,H a=some (.kj o u)
theorem Rd.of{H:Hp}{a:aa}{u:HO}(h:H a=some u):Rd H a u:=.inl h
theorem Rd.ok{P:bf}{w:aY}{H:Hp}{h:aU}{a:aa}{u:HO}(r:Rd H a u)(x:gf P w H h):dO P w H h a u:=by
 rcases r with r|⟨o,r⟩
 ·exact x a u r
 ·obtain⟨_,q⟩:=x a _ r
  exact q
def DX:Option HO→Prop
 |some (.lst _)=>True
 |some (.dK _)=>True
 |some (.dT _)=>True
 |some (.set _ _)=>True
 |some (.ins _ _ _)=>True
 |some (.ext _)=>True
 |_=>False
section
variable{P:bf}{w:aY}{H:Hp}{h h':aU}{x e:aa}{o':HO}
theorem gf.write(ok:gf P w H h)(mu:DX (H x))(he:e=x∨H e=some (.own x))(k:∀b u,b≠e→h.get? b=some u→h'.get? b=some u)(heo:∃u,h'.get? e=some u)
  (new:dO P w (upd H x o') h' x o'):gf P w (upd H x o') h':=fun b u q=>by
 have abd:∀c y,H c=some (.own y)→c≠x:=fun c y r z=>by subst z;rw[r] at mu;exact mu
 have alu:∀c xs,H c=some (.tup xs)→c≠x:=fun c xs r z=>by subst z;rw[r] at mu;exact mu
 by_cases hb:b=x
 ·subst hb;rw[dI] at q;cases q;exact new
 ·rw[cG hb] at q;by_cases hbe:b=e
  ·have q':H b=some (.own x):=by
    rcases he with z|z
    ·exact absurd (hbe.trans z) hb
    ·rw[hbe];exact z
   rw[q] at q';cases q'
   obtain⟨v,hv⟩:=heo
   exact⟨v,by rw[hbe];exact hv⟩
  ·refine(ok b u q).stay (fun c v hc r=>k c v ?_ r) (fun c r=>by rw[cG (abd c b r)];exact r) fun c xs r=>by rw[cG (alu c xs r)];exact r
   rcases hc with rfl|hc
   ·exact hbe
   ·rintro rfl;rcases he with z|z
    ·exact abd c b hc z
    ·rw[hc] at z;cases z;exact hb rfl
end
structure Un(fs ex:List aa)(H H':Hp)(h h':aU):Prop where
 keep:∀b o,h.get? b=some o→H b=none→b∉fs→b∉ex→h'.get? b=some o
 slot:∀b o,h.get? b=some o→H b=none→b∈fs→b∉ex→∃sl,h'.get? b=some {o with slots:=sl}
 free:∀b o,h.get? b=some o→H b=none→b∉ex→H' b=none
 there:∀b o,h.get? b=some o→b∉ex→∃o',h'.get? b=some o'
 tups:∀b xs,H b=some (.tup xs)→H' b=some (.tup xs)
 oJ:∀b o u,H b=some (.kj o u)→H' b=some (.kj o u)
 pN:∀b ps,H b=some (.yr ps)→∃more,H' b=some (.yr (ps++more))
section
variable{fs fs' ex ex':List aa}{H H1 H2:Hp}{h h1 h2 h':aU}{a x e:aa}{o:HO}
theorem Un.any(u:Un fs ex H H1 h h1){b:aa}{ob:Obj}(q:h.get? b=some ob)(n:H b=none)(hx:b∉ex):∃sl,h1.get? b=some {ob with slots:=sl}:=by
 by_cases hb:b∈fs
 ·exact u.slot b ob q n hb hx
 ·exact⟨ob.slots,u.keep b ob q n hb hx⟩
theorem Un.trans(a:Un fs ex H H1 h h1)(b:Un fs ex H1 H2 h1 h2):Un fs ex H H2 h h2 where
 keep:=fun c ob q n hc hx=>b.keep c ob (a.keep c ob q n hc hx) (a.free c ob q n hx) hc hx
 slot:=fun c ob q n hc hx=>by
  obtain⟨sl,e1⟩:=a.slot c ob q n hc hx
  obtain⟨sl',e2⟩:=b.slot c _ e1 (a.free c ob q n hx) hc hx
  exact⟨sl',e2⟩
 free:=fun c ob q n hx=>by
  obtain⟨o',e1⟩:=a.there c ob q hx
  exact b.free c o' e1 (a.free c ob q n hx) hx
 there:=fun c ob q hx=>by
  obtain⟨o',e1⟩:=a.there c ob q hx
  exact b.there c o' e1 hx
 tups:=fun c xs q=>b.tups c xs (a.tups c xs q)
 oJ:=fun c ob xs q=>b.oJ c ob xs (a.oJ c ob xs q)
 pN:=fun c ps q=>by
  obtain⟨m1,e1⟩:=a.pN c ps q
  obtain⟨m2,e2⟩:=b.pN c _ e1
  exact⟨m1++m2,by rw[e2,adh]⟩
theorem Un.kept(k:∀b u,h.get? b=some u→h'.get? b=some u):Un fs ex H H h h':=
 ⟨fun b ob q _ _ _=>k b ob q,fun b ob q _ _ _=>⟨ob.slots,k b ob q⟩,fun _ _ _ n _=>n,fun b ob q _=>⟨ob,k b ob q⟩,fun _ _ q=>q,fun _ _ _ q=>q,fun _ ps q=>⟨#[],by rw[q];simp⟩⟩
theorem Un.refl:Un fs ex H H h h:=Un.kept fun _ _ q=>q
theorem Un.laid(k:∀b u,h.get? b=some u→h'.get? b=some u)(hp:h.objs.size≤a)(hn:H a=none):Un fs ex H (upd H a o) h h' where
 keep:=fun b u q _ _ _=>k b u q
 slot:=fun b u q _ _ _=>⟨u.slots,k b u q⟩
 free:=fun b u q n _=>by rw[cG (dF (lW (bT q) hp))];exact n
 there:=fun b u q _=>⟨u,k b u q⟩
 tups:=fun b xs q=>by rw[cG (pA q hn)];exact q
 oJ:=fun b u xs q=>by rw[cG (pA q hn)];exact q
 pN:=fun b ps q=>⟨#[],by rw[cG (pA q hn),q];simp⟩
theorem Un.write(mu:DX (H x))(he:e=x∨H e=some (.own x))(k:∀b u,b≠e→h.get? b=some u→h'.get? b=some u)(heo:∃u,h'.get? e=some u):Un fs ex H (upd H x o) h h':=by
 have hx:∀b,H b=none→b≠x:=fun b n z=>by subst z;rw[n] at mu;exact mu
 have hb:∀b,H b=none→b≠e:=fun b n z=>by
  subst z;rcases he with r|r
  ·exact hx b n r
  ·rw[n] at r;cases r
 have hm:∀b u,H b=some u→¬DX (some u)→b≠x:=fun b u q nm z=>by subst z;rw[q] at mu;exact nm mu
 refine⟨fun b u q n _ _=>k b u (hb b n) q,fun b u q n _ _=>⟨u.slots,k b u (hb b n) q⟩,fun b u q n _=>by rw[cG (hx b n)];exact n,fun b u q _=>?_,
  fun b xs q=>by rw[cG (hm b _ q fun z=>z)];exact q,fun b u xs q=>by rw[cG (hm b _ q fun z=>z)];exact q,fun b ps q=>⟨#[],by rw[cG (hm b _ q fun z=>z),q];simp⟩⟩
 by_cases hbe:b=e
 ·subst hbe;exact heo
 ·exact⟨u,k b u hbe q⟩
theorem Un.mono(u:Un fs ex H H1 h h1)(hs:∀b∈fs,b∈fs')(hx:∀b∈ex,b∈ex'):Un fs' ex' H H1 h h1:=
 ⟨fun b ob q n hb he=>u.keep b ob q n (fun z=>hb (hs b z)) fun z=>he (hx b z),fun _ _ q n _ he=>u.any q n fun z=>he (hx _ z),fun b ob q n he=>u.free b ob q n fun z=>he (hx b z),fun b ob q he=>u.there b ob q fun z=>he (hx b z),u.tups,u.oJ,u.pN⟩
end
def Jx(h:aU)(H:Hp):List aa:=(dz h.objs.size).filter fun a=>(H a).isSome
def uv(h:aU)(H:Hp):aU:=PySem.W.hideAll h (Jx h H)
theorem afU(h:aU)(H:Hp):(uv h H).objs.size=h.objs.size:=PySem.W.hideAll_size _ _
theorem agT{h:aU}{H:Hp}{b:aa}{o:Obj}(e:h.get? b=some o)(n:H b=none):(uv h H).get? b=some o:=
 PySem.W.hideAll_get _ e fun hm=>by
  have q:(H b).isSome=true:=(tG.mp hm).2;rw[n] at q;simp at q
theorem ah2{h:aU}{H:Hp}{b:aa}{o:Obj}(e:(uv h H).get? b=some o):h.get? b=some o∧H b=none:=by
 have e':h.get? b=some o:=PySem.W.of_hideAll (Jx h H) e
 refine⟨e',?_⟩
 cases q:H b with
 |none=>rfl
 |some x=>
  have hm:b∈Jx h H:=tG.mpr ⟨oY.mpr (bT e'),by simp[q]⟩;have z:(uv h H).get? b=none:=PySem.W.hideAll_none (Jx h H) hm;rw[z] at e;cases e
def ah3(g h:aU)(L:aa):List (aa×Obj):=(dz h.objs.size).filterMap fun a=>if a=L∨(g.get? a).isSome=true then none else(h.get? a).map fun o=>(a,o)
def rest(g h:aU)(L d:aa):List (aa×Obj):=(ah3 g h L).filter fun p=>decide (p.1≠d)
structure Mod(K:aC)(mg:Str→Option Value)(base:aU):Prop where
 R7:K.In base
 glob:base.Ns fZ mg
 blt:∃mb,base.Ns builtinsNs mb∧∀x:Str,x≠"__name__"→mb x=rF x
 nolimit:base.NoLimit
structure Cx where
 prog:bf
 w:aY
 K:aC
 mg:Str→Option Value
 base:aU
 A:bU
 N:List Str
 s₀:au
 H₀:Hp
 env:Env
 outer:List Env
 stack:List Env
 ex:List aa
 fn:Str→Bool
 calm:Bool
 pn:List (aa×Obj)
 xe:Value→au→Prop
def frs(l:List Env):List aa:=l.filterMap (·.frame)
abbrev Cx.fs(X:Cx):List aa:=frs X.outer
def Jy(sc:iK)(x:Str):Prop:=sc.names.lookup x=some .local∨sc.names.lookup x=some .cell∨sc.names.lookup x=some .free
def Loc(sc:iK)(x:Str):Prop:=sc.names.lookup x=some .local∨sc.names.lookup x=some .cell
def Look(env:Env)(h:aU)(m:Str→Option Value)(x:Str)(u:Value):Prop:=
 (env.kindOf x=some .local∧m x=some u)∨((env.kindOf x=some .cell∨env.kindOf x=some .free)∧∃c,env.cells.lookup x=some c∧h.IsCell c (some u))
structure Cx.Ok(X:Cx):Prop where
 mod:Mod X.K X.mg X.base
 kind:X.env.scope.kind=.function
 glob:X.env.globals=fZ
 blt:X.env.builtins=builtinsNs
 above:X.s₀.heap.objs.size≤X.env.locals
 inj:∀x y c,X.env.cells.lookup x=some c→X.env.cells.lookup y=some c→x=y
 has:∀x,(X.env.kindOf x=some .cell∨X.env.kindOf x=some .free)→∃c,X.env.cells.lookup x=some c
 cab:∀x c,X.fn x=true→X.env.cells.lookup x=some c→X.s₀.heap.objs.size≤c
 hd:X.calm=true→X.A.handled=none
 frames:X.A.frames=some X.stack
 stk:X.stack=X.outer∨(X.stack=X.env::X.outer∧X.env.frame=some X.env.locals)
 exf:∀b∈X.ex,b≠X.env.locals∧∀x c,X.env.cells.lookup x=some c→c≠b
 bs:∀b o,X.base.get? b=some o→X.s₀.heap.get? b=some o∧X.H₀ b=none
 sI:X.base.objs.size≤X.s₀.heap.objs.size
 Du:∀b o,X.base.get? b=some o→b∉X.ex
 Jo:∀b∈X.ex,b∉X.fs
 pO:X.s₀.heap.FunFrames X.base X.outer
 yt:∀b∈X.fs,X.H₀ b=none
structure Inv(X:Cx)(pins:List (aa×Obj))(σ:List (Option V))(H:Hp)(s:au):Prop where
 ok:X.Ok
 os:s.os=X.s₀.os
 bare:AllBare s.gens
 base:Un X.fs X.ex X.H₀ H X.s₀.heap s.heap
 loc:∃m,s.heap.Ns X.env.locals m∧∀(i:Nat)(x:Str)(v:V),X.N[i]?=some x→σ[i]?=some (some v)→Jy X.env.scope x→∃u,RelV v u∧Look X.env s.heap m x u
 cell:∀x c,X.env.cells.lookup x=some c→∃v,s.heap.IsCell c v
 free:H X.env.locals=none
 qH:∀x c,X.env.cells.lookup x=some c→H c=none
 pin:∀p∈X.pn++pins,s.heap.get? p.1=some p.2∧H p.1=none∧p.1≠X.env.locals∧p.1∉X.fs∧∀v,p.2.data≠.cell v
 hok:gf X.prog X.w H s.heap
 len:σ.length=X.N.length
section
variable{X:Cx}{pins:List (aa×Obj)}{σ:List (Option V)}{H H':Hp}{s:au}{h':aU}
theorem Cx.Ok.alv(ok:X.Ok){b:aa}{o:Obj}(e:X.base.get? b=some o):b∉X.fs:=fun hb=>by
 have:=(ok.pO.mem hb).1;rw[e] at this;cases this
theorem Inv.bs(I:Inv X pins σ H s):∀b o,X.base.get? b=some o→s.heap.get? b=some o∧H b=none:=fun b o e=>
 ⟨I.base.keep b o (I.ok.bs b o e).1 (I.ok.bs b o e).2 (I.ok.alv e) (I.ok.Du b o e),I.base.free b o (I.ok.bs b o e).1 (I.ok.bs b o e).2 (I.ok.Du b o e)⟩
theorem Inv.bk(I:Inv X pins σ H s):∀b o,X.base.get? b=some o→s.heap.get? b=some o:=fun b o e=>(I.bs b o e).1
theorem Inv.mod(I:Inv X pins σ H s):Mod X.K X.mg X.base:=I.ok.mod
theorem Inv.gq(I:Inv X pins σ H s):X.K.In s.heap:=I.ok.mod.R7.keeps I.bk
theorem Inv.nolimit(I:Inv X pins σ H s):s.heap.NoLimit:=I.ok.mod.nolimit.keeps I.bk
theorem Inv.fr(I:Inv X pins σ H s):∃m,Fr X.base X.env.locals s.heap m:=
 let ⟨m,hn,_⟩:=I.loc
 ⟨m,hn,I.bk,jd I.ok.sI I.ok.above⟩
theorem Inv.lt(I:Inv X pins σ H s):X.env.locals<s.heap.objs.size:=let ⟨_,hn,_⟩:=I.loc;hn.lt
theorem Inv.sz(I:Inv X pins σ H s):X.s₀.heap.objs.size≤s.heap.objs.size:=jd I.ok.above (uZ I.lt)
theorem Inv.alw(I:Inv X pins σ H s){a:aa}(h:s.heap.objs.size≤a):a∉X.fs:=fun hb=>by
 obtain⟨_,o,ho,_⟩:=I.ok.pO.mem hb
 exact absurd (lW (bT ho) (jd I.sz h)) (uW _)
theorem Inv.yu(I:Inv X pins σ H s):∀x c,X.env.cells.lookup x=some c→c≠X.env.locals:=fun x c e z=>by
 obtain⟨v,o,ho,hd⟩:=I.cell x c e
 obtain⟨m,⟨o',es,ep,ho',hd',_⟩,_⟩:=I.loc
 rw[z,ho'] at ho;cases ho;rw[hd'] at hd;cases hd
theorem Inv.pO(I:Inv X pins σ H s):s.heap.FunFrames X.base X.outer:=by
 have all:∀(l:List Env),(∀b∈frs l,b∈X.fs)→X.s₀.heap.FunFrames X.base l→s.heap.FunFrames X.base l:=by
  intro l;induction l with
  |nil=>intro _ _;trivial
  |cons env r ih=>
   intro hs hl
   obtain⟨hk,⟨L,o,hf,hn,ho,hd⟩,hr⟩:=hl
   have hL:L∈X.fs:=hs L (by unfold frs;rw[Uk,hf];exact fj)
   obtain⟨sl,e⟩:=I.base.slot L o ho (I.ok.yt L hL) hL fun z=>I.ok.Jo L z hL
   exact⟨hk,⟨L,_,hf,hn,e,hd⟩,ih (fun b hb=>hs b (by unfold frs;rw[Uk,hf];exact eZ _ hb)) hr⟩
 exact all X.outer (fun _ hb=>hb) I.ok.pO
theorem Inv.stack(I:Inv X pins σ H s):s.heap.FunFrames X.base X.stack:=by
 rcases I.ok.stk with e|⟨e,hf⟩
 ·rw[e];exact I.pO
 ·rw[e]
  obtain⟨m,hn,_⟩:=I.loc
  refine .cons (by rw[I.ok.kind];decide) hf hn ?_ I.pO;exact Heap.get?_none_of_le (jd I.ok.sI I.ok.above)
theorem Inv.zG(I:Inv X pins σ H s):∀b∈frs X.stack,b∈X.env.locals::X.fs:=fun b hb=>by
 rcases I.ok.stk with e|⟨e,hf⟩
 ·rw[e] at hb;exact eZ _ hb
 ·rw[e] at hb;unfold frs at hb;rw[Uk,hf] at hb;exact hb
theorem Inv.Y7(I:Inv X pins σ H s):∀b∈frs X.stack,H b=none:=fun b hb=>by
 rcases bL.mp (I.zG b hb) with e|hb
 ·rw[e];exact I.free
 ·obtain⟨_,o,ho,_⟩:=I.ok.pO.mem hb
  exact I.base.free b o ho (I.ok.yt b hb) fun z=>I.ok.Jo b z hb
theorem Inv.step{g':Array GenState}{t':Nat}{d':xK}{ch:List aa}(I:Inv X pins σ H s)
  (hch:∀b∈ch,(b∈X.ex∨X.s₀.heap.objs.size≤b)∧b≠X.env.locals∧(∀x c,X.env.cells.lookup x=some c→c≠b)∧∀p∈X.pn++pins,p.1≠b)
  (keep:∀b o,b≠X.env.locals→b∉X.fs→b∉ch→s.heap.get? b=some o→H b=none→h'.get? b=some o)
  (slot:∀b o,b≠X.env.locals→b∈X.fs→b∉ch→s.heap.get? b=some o→H b=none→∃sl,h'.get? b=some {o with slots:=sl})(free:∀b o,b∉ch→s.heap.get? b=some o→H b=none→H' b=none)
  (there:∀b o,b∉ch→s.heap.get? b=some o→∃o',h'.get? b=some o')
  (tups:∀b xs,H b=some (.tup xs)→H' b=some (.tup xs))(oJ:∀b o u,H b=some (.kj o u)→H' b=some (.kj o u))(pN:∀b ps,H b=some (.yr ps)→∃more,H' b=some (.yr (ps++more)))
  (ns:∀m,s.heap.Ns X.env.locals m→h'.Ns X.env.locals m)(hok:gf X.prog X.w H' h')(hg:AllBare g'):
  Inv X pins σ H' {s with heap:=h',gens:=g',drawn:=d',toks:=t'}:=by
 have neL:∀b o,X.s₀.heap.get? b=some o→b≠X.env.locals:=fun b o e=>dF (lW (bT e) I.ok.above)
 have Jz:∀b o,X.s₀.heap.get? b=some o→b∉X.ex→b∉ch:=fun b o e hx hb=>by
  rcases(hch b hb).1 with z|z
  ·exact hx z
  ·exact absurd (lW (bT e) z) (uW _)
 have cellK:∀x c,X.env.cells.lookup x=some c→∀v,s.heap.IsCell c v→h'.IsCell c v:=fun x c e v aJ=>by
  obtain⟨o,ho,hd⟩:=aJ
  have DY:c∉ch:=fun z=>(hch c z).2.2.1 x c e rfl
  by_cases hc:c∈X.fs
  ·obtain⟨sl,q⟩:=slot c o (I.yu x c e) hc DY ho (I.qH x c e)
   exact⟨_,q,hd⟩
  ·exact⟨o,keep c o (I.yu x c e) hc DY ho (I.qH x c e),hd⟩
 refine⟨I.ok,I.os,hg,⟨fun b o e n hb hx=>?_,fun b o e n hb hx=>?_,fun b o e n hx=>?_,fun b o e hx=>?_,fun b xs e=>tups b xs (I.base.tups b xs e),fun b o xs e=>oJ b o xs (I.base.oJ b o xs e),fun b ps e=>?_⟩,?_,fun x c e=>?_,?_,fun x c e=>?_,fun p hp=>?_,hok,I.len⟩
 ·exact keep b o (neL b o e) hb (Jz b o e hx) (I.base.keep b o e n hb hx) (I.base.free b o e n hx)
 ·obtain⟨sl,e1⟩:=I.base.slot b o e n hb hx
  obtain⟨sl',e2⟩:=slot b _ (neL b o e) hb (Jz b o e hx) e1 (I.base.free b o e n hx)
  exact⟨sl',e2⟩
 ·obtain⟨o',e1⟩:=I.base.there b o e hx
  exact free b o' (Jz b o e hx) e1 (I.base.free b o e n hx)
 ·obtain⟨o',e1⟩:=I.base.there b o e hx
  exact there b o' (Jz b o e hx) e1
 ·obtain⟨m1,e1⟩:=I.base.pN b ps e
  obtain⟨m2,e2⟩:=pN b _ e1
  exact⟨m1++m2,by rw[e2,adh]⟩
 ·obtain⟨m,hn,hl⟩:=I.loc
  refine⟨m,ns m hn,fun i x v e1 e2 e3=>?_⟩
  obtain⟨u,r,l⟩:=hl i x v e1 e2 e3
  refine⟨u,r,?_⟩
  rcases l with l|⟨k,c,e,z⟩
  ·exact .inl l
  ·exact .inr ⟨k,c,e,cellK x c e _ z⟩
 ·obtain⟨v,z⟩:=I.cell x c e
  exact⟨v,cellK x c e v z⟩
 ·obtain⟨m,⟨o,_,_,ho,_⟩,_⟩:=I.loc
  exact free _ o (fun z=>(hch _ z).2.1 rfl) ho I.free
 ·obtain⟨v,o,ho,hd⟩:=I.cell x c e
  exact free c o (fun z=>(hch c z).2.2.1 x c e rfl) ho (I.qH x c e)
 ·obtain⟨e,n,ne,nf,d⟩:=I.pin p hp
  have DY:p.1∉ch:=fun z=>(hch p.1 z).2.2.2 p hp rfl
  exact⟨keep p.1 p.2 ne nf DY e n,free p.1 p.2 DY e n,ne,nf,d⟩
theorem Inv.un{t':Nat}(I:Inv X pins σ H s)(u:Un X.fs [] H H' s.heap h')(hok:gf X.prog X.w H' h'):Inv X pins σ H' {s with heap:=h',toks:=t'}:=by
 obtain⟨m,⟨o,es,ep,ho,r⟩,_⟩:=id I.loc
 obtain⟨sl,hL⟩:=u.any ho I.free (by simp)
 exact I.step (g':=s.gens) (d':=s.drawn) (ch:=[]) (fun _ z=>nomatch z) (fun b o _ hb _ e n=>u.keep b o e n hb (by simp)) (fun b o _ hb _ e n=>u.slot b o e n hb (by simp)) (fun b o _ e n=>u.free b o e n (by simp)) (fun b o _ e=>u.there b o e (by simp)) u.tups u.oJ u.pN (fun m' hm=>by
  obtain⟨o',es',ep',ho',r'⟩:=hm
  rw[ho] at ho';cases ho'
  exact⟨_,es',ep',hL,r'⟩) hok I.bare
theorem Inv.call{g':Array GenState}{t':Nat}{d':xK}{ch:List aa}(I:Inv X pins σ H s)(u:Un (frs X.stack) ch H H' s.heap h')(hok:gf X.prog X.w H' h')(hg:AllBare g')
  (hch:∀b∈ch,(b∈X.ex∨X.s₀.heap.objs.size≤b)∧b≠X.env.locals∧(∀x c,X.env.cells.lookup x=some c→c≠b)∧∀p∈X.pn++pins,p.1≠b):
  Inv X pins σ H' {s with heap:=h',gens:=g',drawn:=d',toks:=t'}:=by
 obtain⟨m,⟨o,es,ep,ho,r⟩,_⟩:=id I.loc
 obtain⟨sl,hL⟩:=u.any ho I.free fun z=>(hch _ z).2.1 rfl
 exact I.step (ch:=ch) hch (fun b o hL hb hc e n=>u.keep b o e n (fun z=>(bL.mp (I.zG b z)).elim hL hb) hc) (fun b o _ _ hc e n=>u.any e n hc) (fun b o hc e n=>u.free b o e n hc) (fun b o hc e=>u.there b o e hc) u.tups u.oJ u.pN (fun m' hm=>by
  obtain⟨o',es',ep',ho',r'⟩:=hm
  rw[ho] at ho';cases ho'
  exact⟨_,es',ep',hL,r'⟩) hok hg
theorem Inv.turned{t':Nat}{it:aa}(I:Inv X pins σ H s)(k:∀b o,b≠it→s.heap.get? b=some o→h'.get? b=some o)(hn:H it=none)(hL:it≠X.env.locals)
  (h1:it∈X.ex∨X.s₀.heap.objs.size≤it)(h2:∀x c,X.env.cells.lookup x=some c→c≠it)(h3:∀p∈X.pn++pins,p.1≠it):Inv X pins σ H {s with heap:=h',toks:=t'}:=by
 have Ea:∀b u,H b=some u→b≠it:=fun b u e z=>by rw[z,hn] at e;cases e
 refine I.step (g':=s.gens) (d':=s.drawn) (ch:=[it]) (fun b hb=>?_) (fun b o _ _ hc e _=>k b o (fun z=>hc (by simp[z])) e) (fun b o _ _ hc e _=>⟨o.slots,k b o (fun z=>hc (by simp[z])) e⟩) (fun _ _ _ _ n=>n)
  (fun b o hc e=>⟨o,k b o (fun z=>hc (by simp[z])) e⟩) (fun _ _ e=>e) (fun _ _ _ e=>e) (fun b ps e=>⟨#[],by rw[e];simp⟩) (fun m hm=>?_) (fun b u e=>?_) I.bare
 ·have e:b=it:=by simpa using hb
  subst e
  exact⟨h1,hL,h2,h3⟩
 ·obtain⟨o,es,ep,ho,r⟩:=hm
  exact⟨o,es,ep,k _ o (jE hL) ho,r⟩
 ·refine(I.hok b u e).stay (fun c v hc q=>k c v ?_ q) (fun _ q=>q) fun _ _ q=>q
  rcases hc with z|z
  ·rw[z];exact Ea b u e
  ·exact Ea c _ z
theorem Inv.tok(I:Inv X pins σ H s)(t:Nat):Inv X pins σ H {s with toks:=t}:=I.un (h':=s.heap) (t':=t) Un.refl I.hok
theorem Inv.kept{t':Nat}(I:Inv X pins σ H s)(k:∀b u,s.heap.get? b=some u→h'.get? b=some u):Inv X pins σ H {s with heap:=h',toks:=t'}:=I.un (Un.kept k) (I.hok.kept k)
theorem Inv.laid{a:aa}{o:HO}{t':Nat}(I:Inv X pins σ H s)(k:∀b u,s.heap.get? b=some u→h'.get? b=some u)(hp:s.heap.objs.size≤a)(new:dO X.prog X.w (upd H a o) h' a o):
  Inv X pins σ (upd H a o) {s with heap:=h',toks:=t'}:=I.un (Un.laid k hp (I.hok.fresh hp)) (I.hok.laid k hp new)
theorem Inv.write{x e:aa}{o:HO}{t':Nat}(I:Inv X pins σ H s)(mu:DX (H x))(he:e=x∨H e=some (.own x))(k:∀b u,b≠e→s.heap.get? b=some u→h'.get? b=some u)(heo:∃u,h'.get? e=some u)
  (new:dO X.prog X.w (upd H x o) h' x o):Inv X pins σ (upd H x o) {s with heap:=h',toks:=t'}:=I.un (Un.write mu he k heo) (I.hok.write mu he k heo new)
theorem Inv.weak{σ':List (Option V)}(I:Inv X pins σ H s)(hl:σ'.length=σ.length)(w:∀(i:Nat) v,σ'[i]?=some (some v)→σ[i]?=some (some v)):Inv X pins σ' H s:=
 ⟨I.ok,I.os,I.bare,I.base,let ⟨m,hn,hl'⟩:=I.loc;⟨m,hn,fun i x v e1 e2 e3=>hl' i x v e1 (w i v e2) e3⟩,I.cell,I.free,I.qH,I.pin,I.hok,hl.trans I.len⟩
theorem Inv.Y8{Q4:List (aa×Obj)}(I:Inv X pins σ H s)(h:∀p∈Q4,s.heap.get? p.1=some p.2∧H p.1=none∧p.1≠X.env.locals∧p.1∉X.fs∧∀v,p.2.data≠.cell v):Inv X Q4 σ H s:=
 ⟨I.ok,I.os,I.bare,I.base,I.loc,I.cell,I.free,I.qH,fun p hp=>(cI.mp hp).elim (fun z=>I.pin p (gh _ z)) (h p),I.hok,I.len⟩
theorem XR{N:List Str}(hN:N.Nodup){i j:Nat}{x:Str}(a:N[i]?=some x)(b:N[j]?=some x):i=j:=by
 obtain⟨h1,e1⟩:=iG.mp a
 obtain⟨h2,e2⟩:=iG.mp b
 exact(List.getElem_inj hN).mp (e1.trans e2.symm)
theorem W8{M:Model}{A:bU}{E:Value→au→Prop}{i:Nat}{x:Str}{v:V}{u:Value}{Q:Unit→au→Prop}(I:Inv X pins σ H s)(hN:X.N.Nodup)(hi:X.N[i]?=some x)(hx:Loc X.env.scope x)(r:RelV v u)
  (h:∀s',Inv X pins (σ.set i (some v)) H s'→(∃a,yX a s.heap s'.heap∧(a=X.env.locals∨X.env.cells.lookup x=some a))→Q () s')(hf:X.fn x=true∨X.env.scope.names.lookup x=some .local:=by first|exact .inl rfl|exact .inr rfl|assumption):aL M A (storeName X.env x u) Q E s:=by
 obtain⟨m,hn,hl⟩:=id I.loc
 have hcls:(X.env.scope.kind==.class||(X.env.scope.kind==.module&&X.env.locals != X.env.globals))=false:=by rw[I.ok.kind];rfl
 have hiσ:i<σ.length:=by rw[I.len];exact(iG.mp hi).1
 have yu:=I.yu;have tracked:∀{a:aa}{h':aU},(∃o,s.heap.get? a=some o∧H a=none)→yX a s.heap h'→gf X.prog X.w H h':=fun{a h'} ha hs b ob e=>by
  obtain⟨_,_,hfree⟩:=ha
  refine(I.hok b ob e).stay (fun c w' hc q=>(hs.2 c ?_).trans q) (fun _ q=>q) fun _ _ q=>q
  rintro rfl;rcases hc with rfl|hc
  ·rw[hfree] at e;cases e
  ·rw[hfree] at hc;cases hc
 rcases hx with hk|hk
 ·refine wpAny_storeName_local hk hn (fun h' hn' hs=>?_) hcls
  obtain⟨oL,_,_,hoL,_⟩:=id hn
  refine h _ ⟨I.ok,I.os,I.bare,⟨fun b o e n hb hx=>?_,fun b o e n hb hx=>?_,I.base.free,fun b o e hx=>?_,I.base.tups,I.base.oJ,I.base.pN⟩,⟨_,hn',fun j y v' e1 e2 e3=>?_⟩,fun y c e=>?_,I.free,I.qH,fun p hp=>?_,tracked ⟨oL,hoL,I.free⟩ hs,by simpa using I.len⟩ ⟨_,hs,.inl rfl⟩
  ·exact(hs.2 b (dF (lW (bT e) I.ok.above))).trans (I.base.keep b o e n hb hx)
  ·obtain⟨sl,e1⟩:=I.base.slot b o e n hb hx
   exact⟨sl,(hs.2 b (dF (lW (bT e) I.ok.above))).trans e1⟩
  ·obtain⟨o',e1⟩:=I.base.there b o e hx
   exact⟨o',(hs.2 b (dF (lW (bT e) I.ok.above))).trans e1⟩
  ·by_cases hj:j=i
   ·subst hj;rw[hi] at e1;cases e1;rw[acQ hiσ] at e2;cases e2
    exact⟨u,r,.inl ⟨hk,by simp⟩⟩
   ·rw[uM (jE hj)] at e2
    obtain⟨u',r',q⟩:=hl j y v' e1 e2 e3
    refine⟨u',r',?_⟩
    rcases q with⟨k,e⟩|⟨k,c,e,z⟩
    ·refine .inl ⟨k,?_⟩;have:y≠x:=fun e=>hj (XR hN e1 (e▸hi))
     simp[this,e]
    ·exact .inr ⟨k,c,e,z.sameBut hs (yu y c e)⟩
  ·obtain⟨w',z⟩:=I.cell y c e
   exact⟨w',z.sameBut hs (yu y c e)⟩
  ·obtain⟨e,n,ne,nf,d⟩:=I.pin p hp
   exact⟨(hs.2 p.1 ne).trans e,n,ne,nf,d⟩
 ·have hfn:X.fn x=true:=by
   rcases hf with z|z
   ·exact z
   ·rw[z] at hk;cases hk
  obtain⟨c,hc⟩:=I.ok.has x (.inl hk)
  obtain⟨w',z⟩:=I.cell x c hc
  refine wpAny_storeName_cell I.ok.kind hk hc z (fun h' hc' hs=>?_)
  obtain⟨oc,hoc,alx⟩:=id z
  refine h {s with heap:=h'} ⟨I.ok,I.os,I.bare,⟨fun b o e n hb hx=>?_,fun b o e n hb hx=>?_,I.base.free,fun b o e hx=>?_,I.base.tups,I.base.oJ,I.base.pN⟩,⟨m,hn.sameBut hs (jE (yu x c hc)),fun j y v' e1 e2 e3=>?_⟩,fun y c' e=>?_,I.free,I.qH,fun p hp=>?_,tracked ⟨oc,hoc,I.qH x c hc⟩ hs,by simpa using I.len⟩ ⟨c,hs,.inr hc⟩
  ·exact(hs.2 b (dF (lW (bT e) (I.ok.cab x c hfn hc)))).trans (I.base.keep b o e n hb hx)
  ·obtain⟨sl,e1⟩:=I.base.slot b o e n hb hx
   exact⟨sl,(hs.2 b (dF (lW (bT e) (I.ok.cab x c hfn hc)))).trans e1⟩
  ·obtain⟨o',e1⟩:=I.base.there b o e hx
   exact⟨o',(hs.2 b (dF (lW (bT e) (I.ok.cab x c hfn hc)))).trans e1⟩
  ·by_cases hj:j=i
   ·subst hj;rw[hi] at e1;cases e1;rw[acQ hiσ] at e2;cases e2
    exact⟨u,r,.inr ⟨.inl hk,c,hc,hc'⟩⟩
   ·rw[uM (jE hj)] at e2
    obtain⟨u',r',q⟩:=hl j y v' e1 e2 e3
    refine⟨u',r',?_⟩
    rcases q with q|⟨k,c',e,z'⟩
    ·exact .inl q
    ·refine .inr ⟨k,c',e,z'.sameBut hs ?_⟩;rintro rfl;exact hj (XR hN e1 (I.ok.inj _ _ _ e hc▸hi))
  ·by_cases hcc:c'=c
   ·subst hcc;exact⟨_,hc'⟩
   ·obtain⟨w2,z2⟩:=I.cell y c' e
    exact⟨w2,z2.sameBut hs hcc⟩
  ·obtain⟨e,n,ne,nf,d⟩:=I.pin p hp
   refine⟨(hs.2 p.1 ?_).trans e,n,ne,nf,d⟩
   intro q;rw[q,hoc] at e;have q':oc=p.2:=fP e;exact d w' (by rw[←q'];exact alx)
theorem rJ{M:Model}{A:bU}{E:Value→au→Prop}{i:Nat}{x:Str}{v:V}{u:Value}{Q:Unit→au→Prop}(I:Inv X pins σ H s)(hN:X.N.Nodup)(hi:X.N[i]?=some x)(hx:Loc X.env.scope x)(r:RelV v u)
  (h:∀s',Inv X pins (σ.set i (some v)) H s'→Q () s')(hf:X.fn x=true∨X.env.scope.names.lookup x=some .local:=by first|exact .inl rfl|exact .inr rfl|assumption):aL M A (storeName X.env x u) Q E s:=
 W8 I hN hi hx r (fun s' I' _=>h s' I') hf
theorem Inv.call'{s':au}{ch:List aa}(I:Inv X pins σ H s)(ho:s'.os=s.os)(u:Un (frs X.stack) ch H H' s.heap s'.heap)(hok:gf X.prog X.w H' s'.heap)(hg:AllBare s'.gens)
  (hch:∀b∈ch,(b∈X.ex∨X.s₀.heap.objs.size≤b)∧b≠X.env.locals∧(∀x c,X.env.cells.lookup x=some c→c≠b)∧∀p∈X.pn++pins,p.1≠b):Inv X pins σ H' s':=by
 obtain⟨h',g',d',t',o'⟩:=s'
 have e:o'=s.os:=ho;subst e;exact I.call (g':=g') (t':=t') (d':=d') u hok hg hch
end
abbrev XK:=Value→Option aa→Hp→Prop
abbrev St:=List (Option V)
abbrev VK:=V→Hp→Prop
abbrev TE:=St→Hp→VK→Prop
abbrev TT:=St→Hp→(Bool→Hp→Prop)→Prop
abbrev TA:=St→Hp→(List V→Hp→Prop)→Prop
structure Ends where
 nx:St→Hp→Prop
 rt:VK
 bk:St→Hp→Prop:=fun _ _=>False
 ct:St→Hp→Prop:=fun _ _=>False
abbrev TS:=Ends→St→Hp→Prop
def EP(X:Cx)(pins:List (aa×Obj))(σ:St)(Q:VK)(u:Value)(s':au):Prop:=∃v H',Inv X pins σ H' s'∧RelV v u∧Q v H'
def TP(X:Cx)(pins:List (aa×Obj))(σ:St)(Q:Bool→Hp→Prop)(b:Bool)(s':au):Prop:=∃H',Inv X pins σ H' s'∧Q b H'
def AP(X:Cx)(pins:List (aa×Obj))(σ:St)(Q:List V→Hp→Prop)(us:List Value)(s':au):Prop:=∃vs H',Inv X pins σ H' s'∧Vals vs us∧Q vs H'
def SP(X:Cx)(pins:List (aa×Obj))(D:Ends)(f:Flow)(s':au):Prop:=
 match f with
 |.next=>∃σ' H',Inv X pins σ' H' s'∧D.nx σ' H'
 |.brk=>∃σ' H',Inv X pins σ' H' s'∧D.bk σ' H'
 |.cont=>∃σ' H',Inv X pins σ' H' s'∧D.ct σ' H'
 |.ret u=>∃v σ' H',Inv X pins σ' H' s'∧RelV v u∧D.rt v H'
def PE(X:Cx)(e:Expr)(t:TE):Prop:=
 ∀(pins:List (aa×Obj))(s:au)(σ:St)(H:Hp)(Q:VK),Inv X pins σ H s→t σ H Q→aL (model X.prog X.w) X.A (eval e X.env) (EP X pins σ Q) X.xe s
def PT(X:Cx)(e:Expr)(t:TT):Prop:=
 ∀(pins:List (aa×Obj))(s:au)(σ:St)(H:Hp)(Q:Bool→Hp→Prop),Inv X pins σ H s→t σ H Q→aL (model X.prog X.w) X.A (isTrue e X.env (eval e X.env)) (TP X pins σ Q) X.xe s
def PW(X:Cx)(e:Expr)(t:TT):Prop:=
 ∀(whole:Sem Value)(pins:List (aa×Obj))(s:au)(σ:St)(H:Hp)(Q:Bool→Hp→Prop),Inv X pins σ H s→t σ H Q→aL (model X.prog X.w) X.A (isTrue e X.env whole) (TP X pins σ Q) X.xe s
theorem PW.pt{X:Cx}{e:Expr}{t:TT}(h:PW X e t):PT X e t:=h _
def PA(X:Cx)(es:List Expr)(t:TA):Prop:=
 ∀(pos:Pos)(pins:List (aa×Obj))(s:au)(σ:St)(H:Hp)(Q:List V→Hp→Prop),Inv X pins σ H s→t σ H Q→aL (model X.prog X.w) X.A (spliced (fK pos (aZ es X.env))) (AP X pins σ Q) X.xe s
def PS(X:Cx)(st:cV)(t:TS):Prop:=
 ∀(pins:List (aa×Obj))(s:au)(σ:St)(H:Hp)(D:Ends),Inv X pins σ H s→t D σ H→aL (model X.prog X.w) X.A (exec st X.env) (SP X pins D) X.xe s
def iD(X:Cx)(st:List cV)(t:TS):Prop:=
 ∀(pins:List (aa×Obj))(s:au)(σ:St)(H:Hp)(D:Ends),Inv X pins σ H s→t D σ H→aL (model X.prog X.w) X.A (execs st X.env) (SP X pins D) X.xe s
theorem bu{α:Type}{t:Sem α}{Q Q':α→au→Prop}{M:Model}{A:bU}{E:Value→au→Prop}{s:au}(h:aL M A t Q E s)(hQ:∀a s,Q a s→Q' a s):aL M A t Q' E s:=nW h hQ fun _ _ x=>x
section
variable{X:Cx}
def oK(i:Nat):TE:=fun σ H Q=>∃v,σ[i]?=some (some v)∧Q v H
def tC(v:V):TE:=fun _ H Q=>Q v H
theorem ajv{i:Nat}{x:Str}{pos:Pos}(hN:X.N[i]?=some x)(hv:Jy X.env.scope x)(hd:(x==("__debug__":Str))=false:=by decide)(hcd:(x==("__classdict__":Str))=false:=by decide):PE X (.Name x pos) (oK i):=by
 intro pins s σ H Q I h
 obtain⟨v,e,h⟩:=h
 obtain⟨m,hn,hl⟩:=I.loc
 obtain⟨u,r,l⟩:=hl i x v hN e hv
 have fin:EP X pins σ Q u s:=⟨v,H,I,r,h⟩
 rcases l with⟨hk,hm⟩|⟨hk,c,hc,hcell⟩
 ·exact Wq (ac3 I.ok.kind hk hn hm fin) hd
 ·rcases hk with hk|hk
  ·exact Wq (ada I.ok.kind hk hc hcell fin) hd
  ·exact Wq (wpAny_loadName_free I.ok.kind hk hc hcell fin hcd) hd
theorem aN{i j pos}:PE X (.Constant (.int i) j pos) (tC (.int i)):=fun _ _ _ H _ I h=>wpAny_Constant_int ⟨.int i,H,I.tok _,⟨_,rfl⟩,h⟩
theorem De{b j pos}:PE X (.Constant (.bool b) j pos) (tC (.bl b)):=fun _ _ _ H _ I h=>Constant_bool ⟨.bl b,H,I,rfl,h⟩
theorem xx{j pos}:PE X (.Constant .none j pos) (tC .non):=fun _ _ _ H _ I h=>Constant_none ⟨.non,H,I,rfl,h⟩
theorem Cp{x j pos}:PE X (.Constant (.str x) j pos) (tC (.str x)):=fun _ _ _ H _ I h=>Calls.Constant_str ⟨.str x,H,I.tok _,⟨_,rfl⟩,h⟩
def Gl(X:Cx)(x:Str):Prop:=X.env.kindOf x=some .globalImplicit
theorem ah4{E:Value→au→Prop}{pins:List (aa×Obj)}{s:au}{σ:St}{H:Hp}{x:Str}{u:Value}{pos:Pos}{Q:Value→au→Prop}(I:Inv X pins σ H s)(hg:Gl X x)(hm:X.mg x=some u)(h:Q u s)
  (hd:(x==("__debug__":Str))=false:=by decide):aL (model X.prog X.w) X.A (eval (.Name x pos) X.env) Q E s:=
 acD I.ok.kind hg (Calls.loadGlobal_global (by rw[I.ok.glob];exact I.mod.glob.keeps I.bk) hm h) hd
theorem tY{E:Value→au→Prop}{pins:List (aa×Obj)}{s:au}{σ:St}{H:Hp}{x:Str}{u:Value}{pos:Pos}{Q:Value→au→Prop}(I:Inv X pins σ H s)(hg:Gl X x)(hm:X.mg x=none)(hv:rF x=some u)(h:Q u s)
  (hn:x≠"__name__":=by decide)(hd:(x==("__debug__":Str))=false:=by decide):aL (model X.prog X.w) X.A (eval (.Name x pos) X.env) Q E s:=by
 obtain⟨mb,h1,h2⟩:=I.mod.blt
 exact acD I.ok.kind hg (Calls.loadGlobal_builtin (by rw[I.ok.glob];exact I.mod.glob.keeps I.bk) hm (by rw[I.ok.blt];exact h1.keeps I.bk) ((h2 x hn).trans hv) h) hd
theorem nZ{x:Str}{v:V}{u:Value}{pos:Pos}(hg:Gl X x)(hm:X.mg x=none)(hv:rF x=some u)(r:RelV v u)(hn:x≠"__name__":=by decide)(hd:(x==("__debug__":Str))=false:=by decide):PE X (.Name x pos) (tC v):=
 fun _ _ _ H _ I h=>tY I hg hm hv ⟨v,H,I,r,h⟩ hn hd
variable{a b:Expr}{ta tb:TE}{pos:Pos}
def tB(t:TE):TT:=fun σ H Q=>t σ H fun x H1=>∃c,x=.bl c∧Q c H1
variable{tA JB:TT}{rest:List Expr}
def abe(t u:TT):TT:=fun σ H Q=>t σ H fun c H1=>if c=true then u σ H1 Q else Q false H1
def tOr(t u:TT):TT:=fun σ H Q=>t σ H fun c H1=>if c=true then Q true H1 else u σ H1 Q
def aly(t:TT):TT:=fun σ H Q=>t σ H fun c H1=>Q (!c) H1
theorem pw_and1(ha:PT X a tA):PW X (.BoolOp .And [a] pos) tA:=by
 intro wh pins s σ H Q I h;refine isTrue_and (bu (ha pins s σ H Q I h) fun c s1 e=>?_);cases c with
 |true=>exact isTrue_and_nil e
 |false=>exact e
theorem pw_or1(ha:PT X a tA):PW X (.BoolOp .Or [a] pos) tA:=by
 intro wh pins s σ H Q I h;refine isTrue_or (bu (ha pins s σ H Q I h) fun c s1 e=>?_);cases c with
 |false=>exact isTrue_or_nil e
 |true=>exact e
theorem pw_and(ha:PT X a tA)(hb:PW X (.BoolOp .And (b::rest) pos) JB):PW X (.BoolOp .And (a::b::rest) pos) (abe tA JB):=by
 intro wh pins s σ H Q I h;refine isTrue_and (bu (ha pins s σ H _ I h) fun c s1 aJ=>?_)
 obtain⟨H1,I1,q1⟩:=aJ
 cases c with
 |true=>exact hb wh pins s1 σ H1 Q I1 q1
 |false=>exact⟨H1,I1,q1⟩
theorem pw_or(ha:PT X a tA)(hb:PW X (.BoolOp .Or (b::rest) pos) JB):PW X (.BoolOp .Or (a::b::rest) pos) (tOr tA JB):=by
 intro wh pins s σ H Q I h;refine isTrue_or (bu (ha pins s σ H _ I h) fun c s1 aJ=>?_)
 obtain⟨H1,I1,q1⟩:=aJ
 cases c with
 |true=>exact⟨H1,I1,q1⟩
 |false=>exact hb wh pins s1 σ H1 Q I1 q1
theorem ajw(ha:PT X a tA):PT X (.UnaryOp .Not a pos) (aly tA):=by
 intro pins s σ H Q I h;exact isTrue_not (ha pins s σ H (fun c H1=>Q (!c) H1) I h)
def akP(ta tb:TE):TE:=fun σ H Q=>ta σ H fun x H1=>∃c,x=.bl c∧if c=true then tb σ H1 Q else Q (.bl false) H1
def akQ(ta:TE):TE:=fun σ H Q=>ta σ H fun x H1=>∃c,x=.bl c∧Q (.bl (!c)) H1
theorem ajx{op}{t:TE}(h:PE X a t):PE X (.BoolOp op [a] pos) t:=fun pins s σ H Q I hw=>BoolOp_one (h pins s σ H Q I hw)
theorem ajy(ha:PE X a ta)(hb:PE X (.BoolOp .And (b::rest) pos) tb):PE X (.BoolOp .And (a::b::rest) pos) (akP ta tb):=by
 intro pins s σ H Q I h;refine BoolOp_and (bu (ha pins s σ H _ I h) fun v s1 aJ=>?_)
 obtain⟨x,H1,I1,r1,q1⟩:=aJ
 obtain⟨c,rfl,q1⟩:=q1
 cases r1;refine uR ?_;cases c with
 |true=>exact hb pins s1 σ H1 Q I1 q1
 |false=>exact⟨.bl false,H1,I1,rfl,q1⟩
theorem ajz(ha:PE X a ta):PE X (.UnaryOp .Not a pos) (akQ ta):=by
 intro pins s σ H Q I h;refine UnaryOp_ (bu (ha pins s σ H _ I h) fun v s1 aJ=>?_)
 obtain⟨x,H1,I1,r1,q1⟩:=aJ
 obtain⟨c,rfl,q1⟩:=q1
 cases r1;exact not_of (uR ⟨.bl (!c),H1,I1,rfl,q1⟩)
def tIf(t:TT)(ta tb:TE):TE:=fun σ H Q=>t σ H fun c H1=>if c=true then ta σ H1 Q else tb σ H1 Q
theorem agU{c:Expr}(hc:PT X c tA)(ha:PE X a ta)(hb:PE X b tb):PE X (.IfExp c a b pos) (tIf tA ta tb):=by
 intro pins s σ H Q I h;refine wpAny_IfExp (bu (hc pins s σ H _ I h) fun d s1 aJ=>?_)
 obtain⟨H1,I1,q1⟩:=aJ
 cases d with
 |true=>exact ha pins s1 σ H1 Q I1 q1
 |false=>exact hb pins s1 σ H1 Q I1 q1
end
def bC(K:aC)(H:Hp)(a:aa)(xs:List V):Prop:=
 Rd H a (.lst xs)∨
  ∃(o:Obj)(its:Array Value)(n:Nat),K.lookup a=some o∧o.cls=.type "list"∧o.dict=none∧o.data=.seq its n∧its.size≤bJ∧Vals xs its.toList
def cF(K:aC)(H:Hp)(a:aa)(xs:List V):Prop:=
 Rd H a (.tup xs)∨
  ∃(o:Obj)(its:Array Value)(n:Nat),K.lookup a=some o∧o.cls=.type "tuple"∧o.data=.seq its n∧its.size≤bJ∧Vals xs its.toList
def alz:Value→Option V
 |.none=>some .non
 |.bool b=>some (.bl b)
 |.int i _=>some (.int i)
 |.str x _=>some (.str x)
 |.bytes b _=>some (.oR b)
 |.float b _=>some (.flt b)
 |.ref a=>some (.ref a)
 |.type n=>some (.ty n)
 |_=>none
theorem RelV.abs{x:V}{u:Value}(r:RelV x u):alz u=some x:=by
 cases x with
 |non=>cases r;rfl
 |bl _=>cases r;rfl
 |int _=>obtain⟨t,rfl⟩:=r;rfl
 |str _=>obtain⟨t,rfl⟩:=r;rfl
 |oR _=>obtain⟨t,rfl⟩:=r;rfl
 |flt _=>obtain⟨t,rfl⟩:=r;rfl
 |ref _=>cases r;rfl
 |ty _=>cases r;rfl
theorem RelV.inj{x y:V}{u:Value}(r:RelV x u)(q:RelV y u):x=y:=fP (r.abs.symm.trans q.abs)
theorem Vals.inj:∀{xs ys:List V}{us:List Value},Vals xs us→Vals ys us→xs=ys
 |_,_,_,.nil,.nil=>rfl
 |_,_,_,.cons r t,.cons r' t'=>by rw[r.inj r',Vals.inj t t']
section
variable{X:Cx}{pins:List (aa×Obj)}{σ:St}{H:Hp}{s:au}{a:aa}{xs ys:List V}
theorem bC.of{K:aC}(h:H a=some (.lst xs)):bC K H a xs:=.inl (.inl h)
theorem cF.of{K:aC}(h:H a=some (.tup xs)):cF K H a xs:=.inl (.inl h)
theorem Inv.list(I:Inv X pins σ H s)(h:bC X.K H a xs):∃its:List Value,Vals xs its∧PlainL s.heap a its.toArray∧xs.length≤bJ:=by
 rcases h with h|⟨o,its,n,hk,hc,hd,hs,hz,r⟩
 ·obtain⟨z,its,n,r,e⟩:=h.ok I.hok
  exact⟨its,r,⟨_,n,e,rfl,rfl,rfl⟩,z⟩
 ·refine⟨its.toList,r,⟨o,n,I.gq a o hk,hc,hd,by simpa using hs⟩,?_⟩
  have e:=r.length;simp only[ju] at e;omega
theorem Inv.tuple(I:Inv X pins σ H s)(h:cF X.K H a xs):∃its:List Value,Vals xs its∧IsTup s.heap a its.toArray∧xs.length≤bJ:=by
 rcases h with h|⟨o,its,n,hk,hc,hs,hz,r⟩
 ·obtain⟨z,its,r,p⟩:=h.ok I.hok
  exact⟨its,r,p,z⟩
 ·refine⟨its.toList,r,⟨o,I.gq a o hk,hc,n,by simpa using hs⟩,?_⟩
  have e:=r.length;simp only[ju] at e;omega
theorem Inv.Ho(I:Inv X pins σ H s)(h:bC X.K H a xs)(h':bC X.K H a ys):xs=ys:=by
 obtain⟨its,r,⟨o,n,e,_,_,d⟩,_⟩:=I.list h
 obtain⟨its',r',⟨o',n',e',_,_,d'⟩,_⟩:=I.list h'
 rw[e] at e';cases e';rw[d] at d';injection d' with d1 _
 have:its=its':=by simpa using congrArg aew d1
 subst this;exact r.inj r'
theorem Inv.afV(I:Inv X pins σ H s)(h:cF X.K H a xs)(h':cF X.K H a ys):xs=ys:=by
 obtain⟨its,r,⟨o,e,_,n,d⟩,_⟩:=I.tuple h
 obtain⟨its',r',⟨o',e',_,n',d'⟩,_⟩:=I.tuple h'
 rw[e] at e';cases e';rw[d] at d';injection d' with d1 _
 have:its=its':=by simpa using congrArg aew d1
 subst this;exact r.inj r'
end
abbrev Cx.wish(X:Cx)(E:Value→au→Prop):Cx:={X with xe:=E}
abbrev Cx.uE(X:Cx):Cx:=X.wish fun _ _=>False
theorem Cx.Ok.wish{X:Cx}(ok:X.Ok)(E:Value→au→Prop):(X.wish E).Ok:=
 ⟨ok.mod,ok.kind,ok.glob,ok.blt,ok.above,ok.inj,ok.has,ok.cab,ok.hd,ok.frames,ok.stk,ok.exf,ok.bs,ok.sI,ok.Du,ok.Jo,ok.pO,ok.yt⟩
theorem Cx.Ok.rN{X:Cx}{E:Value→au→Prop}(ok:(X.wish E).Ok):X.Ok:=
 ⟨ok.mod,ok.kind,ok.glob,ok.blt,ok.above,ok.inj,ok.has,ok.cab,ok.hd,ok.frames,ok.stk,ok.exf,ok.bs,ok.sI,ok.Du,ok.Jo,ok.pO,ok.yt⟩
section
variable{X:Cx}{pins:List (aa×Obj)}{σ:St}{H:Hp}{s:au}{E:Value→au→Prop}
theorem Inv.wish(I:Inv X pins σ H s)(E:Value→au→Prop):Inv (X.wish E) pins σ H s:=⟨I.ok.wish E,I.os,I.bare,I.base,I.loc,I.cell,I.free,I.qH,I.pin,I.hok,I.len⟩
theorem Inv.rN(I:Inv (X.wish E) pins σ H s):Inv X pins σ H s:=⟨I.ok.rN,I.os,I.bare,I.base,I.loc,I.cell,I.free,I.qH,I.pin,I.hok,I.len⟩
theorem SP.rN{D:Ends}{f:Flow}{s':au}(h:SP (X.wish E) pins D f s'):SP X pins D f s':=by
 cases f with
 |next=>obtain⟨σ',H',I,q⟩:=h;exact⟨σ',H',I.rN,q⟩
 |brk=>obtain⟨σ',H',I,q⟩:=h;exact⟨σ',H',I.rN,q⟩
 |cont=>obtain⟨σ',H',I,q⟩:=h;exact⟨σ',H',I.rN,q⟩
 |ret u=>obtain⟨v,σ',H',I,r,q⟩:=h;exact⟨v,σ',H',I.rN,r,q⟩
theorem PE.uE{e:Expr}{t:TE}(h:PE X.uE e t):PE X e t:=fun pins s σ H Q I hw=>
 nW (h pins s σ H Q (I.wish _) hw) (fun _ _ ⟨v,H',I',r,q⟩=>⟨v,H',I'.rN,r,q⟩) fun _ _ z=>qe z
theorem PT.uE{e:Expr}{t:TT}(h:PT X.uE e t):PT X e t:=fun pins s σ H Q I hw=>
 nW (h pins s σ H Q (I.wish _) hw) (fun _ _ ⟨H',I',q⟩=>⟨H',I'.rN,q⟩) fun _ _ z=>qe z
theorem iD.uE{st:List cV}{t:TS}(h:iD X.uE st t):iD X st t:=fun pins s σ H D I hw=>
 nW (h pins s σ H D (I.wish _) hw) (fun _ _ q=>q.rN) fun _ _ z=>qe z
end
section
variable{X:Cx}{st:cV}{rest:List cV}{t u:TS}{e:Expr}{te:TE}{pos:Pos}
def akR:TS:=fun D σ H=>D.nx σ H
def abf(t u:TS):TS:=fun D σ H=>t {D with nx:=u D} σ H
theorem ah5:iD X [] akR:=fun _ _ σ H _ I h=>Kw ⟨σ,H,I,h⟩
theorem agV(h1:PS X st t)(h2:iD X rest u):iD X (st::rest) (abf t u):=by
 intro pins s σ H D I h;refine adJ (bu (h1 pins s σ H {D with nx:=u D} I h) fun f s1 q=>?_);cases f with
 |next=>
  obtain⟨σ',H',I',q⟩:=q
  exact h2 pins s1 σ' H' D I' q
 |ret v=>exact q
 |brk=>exact q
 |cont=>exact q
theorem ah6(h1:PS X st t):iD X [st] t:=by
 intro pins s σ H D I h;refine adJ (bu (h1 pins s σ H D I h) fun f s1 q=>?_);cases f with
 |next=>exact Kw q
 |ret v=>exact q
 |brk=>exact q
 |cont=>exact q
theorem Inv.quiet{pins:List (aa×Obj)}{σ:St}{H:Hp}{s:au}(I:Inv X pins σ H s):interactive X.env=false:=by simp[interactive,I.ok.kind]
def akS(te:TE):TS:=fun D σ H=>te σ H fun _ H1=>D.nx σ H1
theorem O3(he:PE X e te)(hs:u9 e none pos.line X.env=pure false:=by rfl):PS X (.Expr e pos) (akS te):=by
 intro pins s σ H D I h;exact wpAny_Expr_any (bu (he pins s σ H _ I h) fun v s1 ⟨x,H1,I1,r1,q1⟩=>⟨σ,H1,I1,q1⟩) I.quiet hs
def alA(te:TE):TS:=fun D σ H=>te σ H D.rt
theorem Z9(he:PE X e te):PS X (.Return (some e) pos) (alA te):=by
 intro pins s σ H D I h;exact wpAny_Return_some (bu (he pins s σ H _ I h) fun v s1 ⟨x,H1,I1,r1,q1⟩=>⟨x,σ,H1,I1,r1,q1⟩)
def alB(c:TT)(t u:TS):TS:=fun D σ H=>c σ H fun b H1=>if b=true then t D σ H1 else u D σ H1
theorem akT{c:Expr}{a b:List cV}{tc:TT}(hc:PT X c tc)(ha:iD X a t)(hb:iD X b u):PS X (.If c a b pos) (alB tc t u):=by
 intro pins s σ H D I h;refine wpAny_If (bu (hc pins s σ H _ I h) fun d s1 aJ=>?_)
 obtain⟨H1,I1,q1⟩:=aJ
 cases d with
 |true=>exact ha pins s1 σ H1 D I1 q1
 |false=>exact hb pins s1 σ H1 D I1 q1
end
abbrev TG:=V→St→Hp→(St→Hp→Prop)→Prop
abbrev uF:=List V→St→Hp→(St→Hp→Prop)→Prop
def PG(X:Cx)(target:Expr)(t:TG):Prop:=
 ∀(pins:List (aa×Obj))(s:au)(σ:St)(H:Hp)(v:V)(u:Value)(Q:St→Hp→Prop),Inv X pins σ H s→RelV v u→t v σ H Q→
  aL (model X.prog X.w) X.A (assign target X.env u) (fun _ s'=>∃σ' H',Inv X pins σ' H' s'∧Q σ' H') X.xe s
def JC(X:Cx)(ts:List Expr)(t:uF):Prop:=
 ∀(pins:List (aa×Obj))(s:au)(σ:St)(H:Hp)(vs:List V)(us:List Value)(Q:St→Hp→Prop),Inv X pins σ H s→Vals vs us→t vs σ H Q→
  aL (model X.prog X.w) X.A (Bb ((rH ts X.env).map (·.2)) us) (fun _ s'=>∃σ' H',Inv X pins σ' H' s'∧Q σ' H') X.xe s
abbrev Rx:=V→V→V→Hp→(Hp→Prop)→Prop
def uw(X:Cx)(t:Rx):Prop:=
 ∀(pins:List (aa×Obj))(s:au)(σ:St)(H:Hp)(o i v:V)(ov iv u:Value)(Q:Hp→Prop),Inv X pins σ H s→RelV o ov→RelV i iv→RelV v u→t o i v H Q→
  aL (model X.prog X.w) X.A (setItem ov iv u) (fun _ s'=>∃H',Inv X pins σ H' s'∧Q H') X.xe s
abbrev JD:=V→V→Hp→VK→Prop
def PIp(X:Cx)(op:Operator)(t:JD):Prop:=
 ∀(pins:List (aa×Obj))(s:au)(σ:St)(H:Hp)(x y:V)(v u:Value)(Q:VK),Inv X pins σ H s→RelV x v→RelV y u→t x y H Q→
  aL (model X.prog X.w) X.A (inplaceOp op v u) (EP X pins σ Q) X.xe s
section
variable{X:Cx}{pos:Pos}
def xM(i:Nat):TG:=fun v σ H Q=>Q (σ.set i (some v)) H
theorem jf{i:Nat}{x:Str}(hN:X.N.Nodup)(hi:X.N[i]?=some x)(hx:Loc X.env.scope x)(hf:X.fn x=true∨X.env.scope.names.lookup x=some .local:=by first|exact .inl rfl|exact .inr rfl|assumption):PG X (.Name x pos) (xM i):=by
 intro pins s σ H v u Q I r h;exact Kd (rJ I hN hi hx r (fun s' I'=>⟨_,H,I',h⟩) hf)
def Ry:uF:=fun vs σ H Q=>vs=[]∧Q σ H
def Q5(t:TG)(u:uF):uF:=fun vs σ H Q=>∃v r,vs=v::r∧t v σ H fun σ' H'=>u r σ' H' Q
theorem BP:JC X [] Ry:=by
 intro pins s σ H vs us Q I r h
 obtain⟨e,h⟩:=h
 subst e;cases r;exact assignInOrder_nil ⟨σ,H,I,h⟩
theorem nY{e:Expr}{es:List Expr}{t:TG}{u:uF}(h1:PG X e t)(h2:JC X es u)
  (hs:(rH (e::es) X.env).map (·.2)=assign e X.env::(rH es X.env).map (·.2):=by rfl):JC X (e::es) (Q5 t u):=by
 intro pins s σ H vs us Q I r h
 obtain⟨v,vr,e1,h⟩:=h
 subst e1;cases r with
 |cons r rr=>
  rw[hs];refine assignInOrder_cons (bu (h1 pins s σ H _ _ _ I r h) fun _ s1 aJ=>?_)
  obtain⟨σ1,H1,I1,q1⟩:=aJ
  exact h2 pins s1 σ1 H1 _ _ Q I1 rr q1
def Rz(K:aC)(n:Nat)(t:uF):TG:=fun v σ H Q=>∃a xs,v=.ref a∧cF K H a xs∧xs.length=n∧t xs σ H Q
theorem Cq{es:List Expr}{k:Nat}{t:uF}{n:Nat}(hc:X.calm=true)(h:JC X es t)
  (hn:(rH es X.env).length=n:=by rfl)(hst:(rH es X.env).findIdx? (·.1)=none:=by rfl):PG X (.Tuple es k pos) (Rz X.K n t):=by
 intro pins s σ H v u Q I r hw
 obtain⟨a,xs,e1,hq,hl,hw⟩:=hw
 subst e1;cases r
 obtain⟨its,rv,ht,hz⟩:=I.tuple hq
 refine assign_Tuple_tuple (I.ok.hd hc) ht (by simp[hn,←hl,rv.length]) hst fun h' hx=>?_
 have I1:Inv X pins σ H {s with heap:=h'}:=I.kept (t':=s.toks) fun b o e=>hx b o (dF (bT e)) e
 exact h pins _ σ H xs _ Q I1 (by simpa using rv) hw
def alC(to ti:TE)(t:Rx):TG:=fun v σ H Q=>to σ H fun o H1=>ti σ H1 fun i H2=>t o i v H2 fun H3=>Q σ H3
theorem ajA{o i:Expr}{to ti:TE}{t:Rx}(ho:PE X o to)(hi:PE X i ti)(hs:uw X t)
  (ha:∀v,assign (.Subscript o i pos) X.env v=(do
   let ov ←pF [v] (eval o X.env)
   let iv ←pF [v,ov] (eval i X.env)
   rM pos
   pF [v,ov,iv] (setItem ov iv v)
   release [v,ov,iv] []):=by intro _;rfl):PG X (.Subscript o i pos) (alC to ti t):=by
 intro pins s σ H v u Q I r h;rw[ha];refine aD (mj (bu (ho pins s σ H _ I h) fun ov s1 aJ=>?_))
 obtain⟨x,H1,I1,r1,q1⟩:=aJ
 refine aD (mj (bu (hi pins s1 σ H1 _ I1 q1) fun iv s2 aJ=>?_))
 obtain⟨y,H2,I2,r2,q2⟩:=aJ
 refine aD (uX (aD (mj (bu (hs pins s2 σ H2 x y v ov iv u _ I2 r1 r2 r q2) fun _ s3 aJ=>?_))))
 obtain⟨H3,I3,q3⟩:=aJ
 exact wpAny_release ⟨σ,H3,I3,q3⟩
def Dv(te:TE)(g:TG):TS:=fun D σ H=>te σ H fun x H1=>g x σ H1 D.nx
theorem Ql{tg e:Expr}{te:TE}{g:TG}(he:PE X e te)(hg:PG X tg g)(hs:wU [tg] e pos.line X.env=pure false:=by rfl)(hw:wV [tg] e X.env=pure none:=by rfl)
  (h1:(rH [tg] X.env).map (·.2)=[assign tg X.env]:=by rfl):PS X (.Assign [tg] e pos) (Dv te g):=by
 intro pins s σ H D I h;refine wpAny_Assign_stores (bu (he pins s σ H _ I h) fun v s1 aJ=>?_) hs hw
 obtain⟨x,H1,I1,r1,q1⟩:=aJ
 rw[h1];exact bu (hg pins s1 σ H1 x v _ I1 r1 q1) fun _ s2 q=>q
theorem aaa{i:Nat}{x:Str}{e:Expr}{te:TE}{pos':Pos}(hN:X.N.Nodup)(hi:X.N[i]?=some x)(hx:Loc X.env.scope x)(he:PE X e te)(hs:u9 e (some (.Name x pos')) pos.line X.env=pure false:=by rfl)(hf:X.fn x=true∨X.env.scope.names.lookup x=some .local:=by first|exact .inl rfl|exact .inr rfl|assumption):
  PS X (.Assign [.Name x pos'] e pos) (Dv te (xM i)):=by
 intro pins s σ H D I h;refine wpAny_Assign_Name (bu (he pins s σ H _ I h) fun v s1 aJ=>?_) hs
 obtain⟨y,H1,I1,r1,q1⟩:=aJ
 exact rJ I1 hN hi hx r1 (fun s2 I2=>⟨_,H1,I2,q1⟩) hf
def alD(i j:Nat)(ta:TA):TS:=fun D σ H=>ta σ H fun vs H1=>∃v w,vs=[v,w]∧D.nx ((σ.set i (some v)).set j (some w)) H1
theorem ajB{i j:Nat}{x y:Str}{a b:Expr}{ta:TA}{px py pt:Pos}{kt k2 mW}(hc:X.calm=true)(hN:X.N.Nodup)(hi:X.N[i]?=some x)(hj:X.N[j]?=some y)(hij:i≠j)
  (hx:X.env.scope.names.lookup x=some .local)(hy:X.env.scope.names.lookup y=some .local)(ha:PA X [a,b] ta)
  (hw:wV [.Tuple [.Name x px,.Name y py] kt pt] (.Tuple [a,b] k2 mW) X.env=pure (some [x,y]))
  (hs:wU [.Tuple [.Name x px,.Name y py] kt pt] (.Tuple [a,b] k2 mW) pos.line X.env=pure false:=by rfl):
  PS X (.Assign [.Tuple [.Name x px,.Name y py] kt pt] (.Tuple [a,b] k2 mW) pos) (alD i j ta):=by
 intro pins s σ H D I h;rw[exec_Assign_arm];refine aD (uX ?_);rw[hs];refine aD (aV ?_);rw[if_neg (by decide)];refine aD (Tuple_ (bu (ha _ pins s σ H _ I h) fun us s1 aJ=>?_))
 obtain⟨vs,H1,I1,r1,q1⟩:=aJ
 obtain⟨v,w,e1,q1⟩:=q1
 subst e1
 obtain⟨u1,u2,rfl,rv,rw'⟩:∃u1 u2,us=[u1,u2]∧RelV v u1∧RelV w u2:=by
  cases r1 with
  |cons p q=>
   cases q with
   |cons p' q'=>
    cases q'
    exact⟨_,_,rfl,p,p'⟩
 refine lX ?_ (by show 2≤bJ;decide);have I2:Inv X pins σ H1 {s1 with heap:=s1.heap.push {cls:=.type "tuple",data:=.seq [u1,u2].toArray}}:=I1.kept (t':=s1.toks) fun b o e=>cB _ e
 rw[hw];refine aD (aV ?_);show aL (model X.prog X.w) X.A (do rule "assign.swapped-stores";let items ←unpackItems (.ref s1.heap.objs.size) 2 none;Bb [fun v=>tO X.env y v,fun v=>tO X.env x v] items.reverse;pure M3) _ _ _;refine aD (wZ (aD (unpackItems_tuple (items:=#[u1,u2]) (I.ok.hd hc) (IsTup.new s1.heap _) fun h' hx'=>?_)));have I3:=I2.kept (h':=h') (t':=s1.toks) fun b o e=>hx' b o (dF (bT e)) e
 show aL _ _ (Bb [fun v=>tO X.env y v,fun v=>tO X.env x v] [u2,u1] >>= fun _=>pure M3) _ _ _;refine aD (assignInOrder_cons (Gd (rJ I3 hN hj (.inl hy) rw' (fun s2 I4=>?_) (.inr hy))));refine assignInOrder_cons (Gd (rJ I4 hN hi (.inl hx) rv (fun s3 I5=>assignInOrder_nil (aV ?_)) (.inr hx)));rw[K8 _ _ (jE hij)] at I5
 exact⟨_,H1,I5,q1⟩
def alE(i:Nat)(te:TE)(ti:JD):TS:=fun D σ H=>∃x,σ[i]?=some (some x)∧te σ H fun y H1=>ti x y H1 fun z H2=>D.nx (σ.set i (some z)) H2
theorem ajC{i:Nat}{x:Str}{e:Expr}{te:TE}{op:Operator}{ti:JD}{pos':Pos}(hN:X.N.Nodup)(hi:X.N[i]?=some x)(hx:Loc X.env.scope x)(he:PE X e te)(ho:PIp X op ti)(hf:X.fn x=true∨X.env.scope.names.lookup x=some .local:=by first|exact .inl rfl|exact .inr rfl|assumption):
  PS X (.AugAssign (.Name x pos') op e pos) (alE i te ti):=by
 intro pins s σ H D I h
 obtain⟨v,e1,h⟩:=h
 obtain⟨m,hn,hl⟩:=I.loc
 have vis:Jy X.env.scope x:=by rcases hx with k|k;exact .inl k;exact .inr (.inl k)
 obtain⟨u,r,l⟩:=hl i x v hi e1 vis
 refine wpAny_AugAssign_Name ?_;have go:aL (model X.prog X.w) X.A (eval e X.env) (fun w s₂=>aL (model X.prog X.w) X.A (inplaceOp op u w) (fun r s₃=>aL (model X.prog X.w) X.A (storeName X.env x r) (fun _=>SP X pins D .next) X.xe s₃) X.xe s₂) X.xe s:=by
  refine bu (he pins s σ H _ I h) fun w s1 aJ=>?_
  obtain⟨y,H1,I1,r1,q1⟩:=aJ
  refine bu (ho pins s1 σ H1 v y u w _ I1 r r1 q1) fun z s2 aJ=>?_
  obtain⟨zv,H2,I2,r2,q2⟩:=aJ
  exact rJ I2 hN hi hx r2 (fun s3 I3=>⟨_,H2,I3,q2⟩) hf
 rcases l with⟨hk,hm⟩|⟨hk,c,hc,hcell⟩
 ·exact ac3 I.ok.kind hk hn hm go
 ·rcases hk with hk|hk
  ·exact ada I.ok.kind hk hc hcell go
  ·rcases hx with k|k
   ·have:X.env.scope.names.lookup x=some .free:=hk;rw[k] at this;cases this
   ·have:X.env.scope.names.lookup x=some .free:=hk;rw[k] at this;cases this
def ipI(f:Int→Int→Int):JD:=fun x y H Q=>∃i j,x=.int i∧y=.int j∧Q (.int (f i j)) H
theorem ajD:PIp X .Add (ipI fun i j=>i+j):=by
 intro pins s σ H x y v u Q I r1 r2 h
 obtain⟨i,j,e1,e2,q⟩:=h
 subst e1;subst e2
 obtain⟨t,rfl⟩:=r1
 obtain⟨t',rfl⟩:=r2
 exact iadd_int ⟨.int _,H,I.tok _,⟨_,rfl⟩,q⟩
end
section
variable{X:Cx}{pos:Pos}
def aab(c:TT)(tb:TS):TS:=fun D σ H=>∃W:Nat→St→Hp→Prop,(∃m,W m σ H)∧∀m σ H,W m σ H→
 c σ H fun b H1=>if b=true then ∃N:St→Hp→Prop,(∀σ' H',N σ' H'→∃m',m'<m∧W m' σ' H')∧tb {D with nx:=N,ct:=N,bk:=D.nx} σ H1 else D.nx σ H1
theorem agW{c:Expr}{body:List cV}{tc:TT}{tb:TS}(hp:M4 (model X.prog X.w) X.A X.env X.xe)(hc:PT X c tc)(hb:iD X body tb):PS X (.While c body [] pos) (aab tc tb):=by
 intro pins s σ H D I h
 obtain⟨W,⟨m0,w0⟩,turn⟩:=h
 refine wpAny_While (codeAny_whileLoop (fun n s'=>∃σ' H',Inv X pins σ' H' s'∧W n σ' H') ?_ m0 ⟨σ,H,I,w0⟩);rintro n s1 ⟨σ1,H1,I1,w1⟩;refine yN hp (bu (hc pins s1 σ1 H1 _ I1 (turn n σ1 H1 w1)) fun b s2 aJ=>?_)
 obtain⟨H2,I2,q2⟩:=aJ
 cases b with
 |true=>
  obtain⟨N,hN,q2⟩:=q2
  rw[if_pos rfl];refine yN hp (bu (hb pins s2 σ1 H2 _ I2 q2) fun f s3 q3=>?_);cases f with
  |next=>
   obtain⟨σ3,H3,I3,n3⟩:=q3
   obtain⟨m',hm,w3⟩:=hN σ3 H3 n3
   exact⟨m',hm,σ3,H3,I3,w3⟩
  |cont=>
   obtain⟨σ3,H3,I3,n3⟩:=q3
   obtain⟨m',hm,w3⟩:=hN σ3 H3 n3
   exact⟨m',hm,σ3,H3,I3,w3⟩
  |brk=>exact q3
  |ret v=>exact q3
 |false=>
  rw[if_neg gG];exact Kw ⟨σ1,H2,I2,q2⟩
end
structure It where
 go:Nat→Hp→Prop
 wg:Nat→Hp→V→Hp→Prop
 stop:Nat→Hp→Prop
def jo(X:Cx)(pins:List (aa×Obj))(H:Hp)(b:aa):Prop:=
 H b=none∧b≠X.env.locals∧b∉X.fs∧(b∈X.ex∨X.s₀.heap.objs.size≤b)∧(∀x c,X.env.cells.lookup x=some c→c≠b)∧∀p∈X.pn++pins,p.1≠b
theorem Inv.ux{X:Cx}{pins:List (aa×Obj)}{σ:St}{H H':Hp}{s:au}{b:aa}(I:Inv X pins σ H s)(hb:s.heap.objs.size≤b)(hn:H' b=none):jo X pins H' b:=by
 refine⟨hn,yZ (lW I.lt hb),I.alw hb,.inr (jd I.sz hb),fun x c e z=>?_,fun p hp z=>?_⟩
 ·obtain⟨v,q⟩:=I.cell x c e
  exact absurd (lW q.lt (by rw[z];exact hb)) (uW _)
 ·exact absurd (lW (bT (I.pin p hp).1) (by rw[z];exact hb)) (uW _)
structure Turn(P:bf)(w:aY)(K:aC)(tg:Expr)(J:It)(fp:List aa)(it:aa)(tn:Nat→aU→Prop):Prop where
 mem:it∈fp
 obj:∀i h,tn i h→∀b∈fp,∃o,h.get? b=some o∧∀v,o.data≠.cell v
 keep:∀i h h',tn i h→(∀b∈fp,∀o,h.get? b=some o→h'.get? b=some o)→tn i h'
 item:∀(X:Cx),X.prog=P→X.w=w→X.K=K→X.calm=true→∀(i:Nat)(pins:List (aa×Obj))(s:au)(σ:St)(H:Hp)(E:Value→au→Prop),Inv X pins σ H s→(∀b∈fp,jo X pins H b)→tn i s.heap→J.go i H→
  aL (model P w) X.A (n6 (.ref it)) (fun r s1=>∃u,r=some u∧
   aL (model P w) X.A (wN tg (.ref it) u) (fun _ s2=>∃x H',Inv X pins σ H' s2∧RelV x u∧J.wg i H x H'∧tn (i+1) s2.heap∧∀b∈fp,H' b=none) E s1) E s
 done:∀(X:Cx),X.prog=P→X.w=w→X.K=K→X.calm=true→∀(i:Nat)(pins:List (aa×Obj))(s:au)(σ:St)(H:Hp)(E:Value→au→Prop),Inv X pins σ H s→(∀b∈fp,jo X pins H b)→tn i s.heap→J.stop i H→
  aL (model P w) X.A (n6 (.ref it)) (fun r s1=>r=none∧Inv X pins σ H s1) E s
 self:∀(A:bU)(i:Nat)(s:au)(Q:Value→au→Prop)(E:Value→au→Prop),tn i s.heap→Q (.ref it) s→aL (model P w) A (Cr (.ref it)) Q E s
abbrev TI:=St→Hp→(It→Hp→Prop)→Prop
def PIE(X:Cx)(pins:List (aa×Obj))(σ:St)(tg:Expr)(R:It→Hp→Prop)(itv:Value)(s2:au):Prop:=
 ∃(it:aa)(fp:List aa)(tn:Nat→aU→Prop)(J:It)(H':Hp),itv=.ref it∧Inv X pins σ H' s2∧Turn X.prog X.w X.K tg J fp it tn∧tn 0 s2.heap∧(∀b∈fp,jo X pins H' b)∧R J H'
def PI(X:Cx)(tg iter:Expr)(wi:TI):Prop:=
 ∀(pins:List (aa×Obj))(s:au)(σ:St)(H:Hp)(R:It→Hp→Prop),Inv X pins σ H s→wi σ H R→
  aL (model X.prog X.w) X.A (eval iter X.env) (fun v s1=>aL (model X.prog X.w) X.A (Cr v) (PIE X pins σ tg R) X.xe s1) X.xe s
theorem Q6{M:Model}{A:bU}{E:Value→au→Prop}{s:au}{tg:Expr}{it:aa}{u:Value}{o:Obj}{n:String}{vs:Array Value}{Q:Unit→au→Prop}(ho:s.heap.get? it=some o)(hc:o.cls=.type n)(hd:o.data=.fields vs)
  (hn:["enumerate","zip","dict_itemiterator","dict_reverseitemiterator","odict_iterator","itertools.zip_longest","itertools.pairwise"].contains n=false)(hQ:Q () s):aL M A (wN tg (.ref it) u) Q E s:=by
 unfold wN;cases tg<;>first
  |exact aV hQ
  |(cases u<;>first
    |exact aV hQ
    |(refine aD (GX ho ?_)
      rw[hc,hd];show aL M A (if(["enumerate","zip","dict_itemiterator","dict_reverseitemiterator","odict_iterator","itertools.zip_longest","itertools.pairwise"].contains n&&vs[0]?==some (jg _))=true then _ else _) Q E s;rw[if_neg (by intro h;rw[hn,Vo] at h;cases h)];exact aV hQ))
def R8(K:aC)(a:aa):It:=
 ⟨fun i H=>∃xs x,bC K H a xs∧xs[i]?=some x,fun i H x H'=>H'=H∧∀xs,bC K H a xs→xs[i]?=some x,fun i H=>∃xs,bC K H a xs∧xs.length≤i⟩
def R9(K:aC)(a:aa):It:=
 ⟨fun i H=>∃xs x,cF K H a xs∧xs[i]?=some x,fun i H x H'=>H'=H∧∀xs,cF K H a xs→xs[i]?=some x,fun i H=>∃xs,cF K H a xs∧xs.length≤i⟩
def Eb(lo:Int)(n:Nat):It:=⟨fun i _=>i<n,fun i H x H'=>H'=H∧x=.int (lo+i),fun i _=>n≤i⟩
theorem afW{P:bf}{w:aY}{K:aC}{tg:Expr}(a it:aa):Turn P w K tg (R8 K a) [it] it (fun i h=>h.IsListIter it a i) where
 mem:=by simp
 obj:=fun i h st b hb=>by
  have e:b=it:=by simpa using hb
  subst e
  obtain⟨o,e,c,d⟩:=st
  exact⟨o,e,fun v z=>by rw[d] at z;cases z⟩
 keep:=fun i h h' st k=>st.at fun o e=>k it (by simp) o e
 item:=by
  intro X hP hw hK hc i pins s σ H E I hf st hg;subst hP hw hK
  obtain⟨xs,x,hq,hx⟩:=hg
  obtain⟨its,rv,p,hz⟩:=I.list hq
  obtain⟨u,hu,ru⟩:=rv.get hx
  obtain⟨f0,f1,f2,f3,f4,f5⟩:=hf it (by simp)
  refine wpAny_pyNext_list_item st p.isList (x:=u) (by simpa using hu) fun h' st' sb=>?_
  have I1:Inv X pins σ H {s with heap:=h'}:=I.turned (t':=s.toks) (fun b o hb e=>(sb.2 b hb).trans e) f0 f1 f3 f4 f5
  obtain⟨o,e,c,d⟩:=id st'
  exact⟨u,rfl,Q6 (s:={s with heap:=h'}) e c d (by decide) ⟨x,H,I1,ru,⟨rfl,fun ys hy=>by rw[I.Ho hy hq];exact hx⟩,st',fun b hb=>(hf b hb).1⟩⟩
 done:=by
  intro X hP hw hK hc i pins s σ H E I hf st hg;subst hP hw hK
  obtain⟨xs,hq,hx⟩:=hg
  obtain⟨its,rv,p,hz⟩:=I.list hq
  obtain⟨f0,f1,f2,f3,f4,f5⟩:=hf it (by simp)
  have hl:=rv.length;exact wpAny_pyNext_list_end (I.ok.hd hc) st p.isList (by simp;omega) fun h' eb=>⟨rfl,I.turned (t':=s.toks) (fun b o hb e=>eb b o hb e) f0 f1 f3 f4 f5⟩
 self:=fun _ _ _ _ _ st h=>wpAny_pyIter_listiter st h
theorem afd{P:bf}{w:aY}{K:aC}{tg:Expr}(a it:aa):Turn P w K tg (R9 K a) [it] it (fun i h=>h.IsTupleIter it a i) where
 mem:=by simp
 obj:=fun i h st b hb=>by
  have e:b=it:=by simpa using hb
  subst e
  obtain⟨o,e,c,d⟩:=st
  exact⟨o,e,fun v z=>by rw[d] at z;cases z⟩
 keep:=fun i h h' st k=>st.at fun o e=>k it (by simp) o e
 item:=by
  intro X hP hw hK hc i pins s σ H E I hf st hg;subst hP hw hK
  obtain⟨xs,x,hq,hx⟩:=hg
  obtain⟨its,rv,p,hz⟩:=I.tuple hq
  obtain⟨u,hu,ru⟩:=rv.get hx
  obtain⟨f0,f1,f2,f3,f4,f5⟩:=hf it (by simp)
  refine wpAny_pyNext_tuple_item st (show s.heap.IsTuple a its.toArray from p) (x:=u) (by simpa using hu) fun h' st' sb=>?_
  have I1:Inv X pins σ H {s with heap:=h'}:=I.turned (t':=s.toks) (fun b o hb e=>(sb.2 b hb).trans e) f0 f1 f3 f4 f5
  obtain⟨o,e,c,d⟩:=id st'
  exact⟨u,rfl,Q6 (s:={s with heap:=h'}) e c d (by decide) ⟨x,H,I1,ru,⟨rfl,fun ys hy=>by rw[I.afV hy hq];exact hx⟩,st',fun b hb=>(hf b hb).1⟩⟩
 done:=by
  intro X hP hw hK hc i pins s σ H E I hf st hg;subst hP hw hK
  obtain⟨xs,hq,hx⟩:=hg
  obtain⟨its,rv,p,hz⟩:=I.tuple hq
  obtain⟨f0,f1,f2,f3,f4,f5⟩:=hf it (by simp)
  have hl:=rv.length;exact wpAny_pyNext_tuple_end (I.ok.hd hc) st (show s.heap.IsTuple a its.toArray from p) (by simp;omega) fun h' eb=>⟨rfl,I.turned (t':=s.toks) (fun b o hb e=>eb b o hb e) f0 f1 f3 f4 f5⟩
 self:=fun _ _ _ _ _ st h=>wpAny_pyIter_tupleiter st h
theorem afe{P:bf}{w:aY}{K:aC}{tg:Expr}(it:aa)(lo:Int)(n:Nat):Turn P w K tg (Eb lo n) [it] it (fun i h=>IsRangeIter h it (lo+(i:Nat)*1) ((n:Int)-(i:Nat)) 1) where
 mem:=by simp
 obj:=fun i h st b hb=>by
  have e:b=it:=by simpa using hb
  subst e
  exact⟨_,st,fun v z=>by
   have z':Data.fields _=Data.cell v:=z;cases z'⟩
 keep:=fun i h h' st k=>k it (by simp) _ st
 item:=by
  intro X hP hw hK hc i pins s σ H E I hf st hg;subst hP hw hK
  obtain⟨f0,f1,f2,f3,f4,f5⟩:=hf it (by simp)
  have W:=Walks.range (prog:=X.prog) (w:=X.w) (I.ok.hd hc) it lo 1 n;refine W.item i s _ _ hg st fun v h' tk hv st' kk=>?_
  obtain⟨t,rfl⟩:=hv
  have I1:Inv X pins σ H {s with heap:=h',toks:=tk}:=I.turned (fun b o hb e=>kk b o (by simpa using hb) e) f0 f1 f3 f4 f5
  refine⟨_,rfl,Q6 (s:={s with heap:=h',toks:=tk}) (n:="range_iterator") st' rfl rfl (by decide) ⟨.int (lo+i),H,I1,⟨t,?_⟩,⟨rfl,rfl⟩,st',fun b hb=>(hf b hb).1⟩⟩
  rw[Wh]
 done:=by
  intro X hP hw hK hc i pins s σ H E I hf st hg;subst hP hw hK
  obtain⟨f0,f1,f2,f3,f4,f5⟩:=hf it (by simp)
  exact wpAny_pyNext_range_end (I.ok.hd hc) st (by have:n≤i:=hg;omega) fun h' eb=>⟨rfl,I.turned (t':=s.toks) (fun b o hb e=>eb b o hb e) f0 f1 f3 f4 f5⟩
 self:=fun _ _ _ _ _ st h=>wpAny_pyIter_rangeiter st h
section
variable{X:Cx}{tg:Expr}
def akU(K:aC)(tl:TE):TI:=fun σ H R=>tl σ H fun x H1=>∃a,x=.ref a∧(∃xs,bC K H1 a xs)∧R (R8 K a) H1
def alF(K:aC)(tl:TE):TI:=fun σ H R=>tl σ H fun x H1=>∃a,x=.ref a∧(∃xs,cF K H1 a xs)∧R (R9 K a) H1
theorem O4{l:Expr}{tl:TE}(hl:PE X l tl):PI X tg l (akU X.K tl):=by
 intro pins s σ H R I h;refine bu (hl pins s σ H _ I h) fun v s1 aJ=>?_
 obtain⟨x,H1,I1,r1,q1⟩:=aJ
 obtain⟨a,e,⟨xs,hq⟩,q⟩:=q1
 subst e;cases r1
 obtain⟨its,rv,p,hz⟩:=I1.list hq
 refine Ux p.isList ?_
 refine⟨s1.heap.objs.size,[s1.heap.objs.size],_,_,H1,rfl,I1.kept (t':=s1.toks) fun b o e=>cB _ e,afW a _,⟨_,gF _ rfl,rfl,rfl⟩,fun b hb=>?_,q⟩
 have e:b=s1.heap.objs.size:=by simpa using hb
 subst e;exact I1.ux (bD _) (I1.hok.fresh (bD _))
theorem Qm{l:Expr}{tl:TE}(hl:PE X l tl):PI X tg l (alF X.K tl):=by
 intro pins s σ H R I h;refine bu (hl pins s σ H _ I h) fun v s1 aJ=>?_
 obtain⟨x,H1,I1,r1,q1⟩:=aJ
 obtain⟨a,e,⟨xs,hq⟩,q⟩:=q1
 subst e;cases r1
 obtain⟨its,rv,p,hz⟩:=I1.tuple hq
 refine wpAny_pyIter_tuple (show s1.heap.IsTuple a its.toArray from p) ?_
 refine⟨s1.heap.objs.size,[s1.heap.objs.size],_,_,H1,rfl,I1.kept (t':=s1.toks) fun b o e=>cB _ e,afd a _,⟨_,gF _ rfl,rfl,rfl⟩,fun b hb=>?_,q⟩
 have e:b=s1.heap.objs.size:=by simpa using hb
 subst e;exact I1.ux (bD _) (I1.hok.fresh (bD _))
theorem XS{pins:List (aa×Obj)}{σ:St}{H:Hp}{s:au}{R:It→Hp→Prop}{E:Value→au→Prop}{lo hi:Int}{t u v:Tok}{tk:Nat}(I:Inv X pins σ H s)(h1:-(2^62)≤lo)(h2:lo<2^62)(h3:-(2^62)≤hi)(h4:hi<2^62)
  (q:R (Eb lo (hi-lo).toNat) H):aL (model X.prog X.w) X.A (Cr (.ref s.heap.objs.size)) (PIE X pins σ tg R) E {s with heap:=s.heap.push {cls:=.type "range",data:=.fields #[.int lo t,.int hi u,.int 1 v]},toks:=tk}:=by
 refine wpAny_pyIter_range (IsRange.new ..) (small_one h1 h2 h3 h4) ?_;have I1:Inv X pins σ H {s with heap:=s.heap.push {cls:=.type "range",data:=.fields #[.int lo t,.int hi u,.int 1 v]},toks:=tk}:=I.kept fun b o e=>cB _ e
 refine⟨(s.heap.push {cls:=.type "range",data:=.fields #[.int lo t,.int hi u,.int 1 v]}).objs.size,[(s.heap.push {cls:=.type "range",data:=.fields #[.int lo t,.int hi u,.int 1 v]}).objs.size],_,_,H,rfl,
  I1.kept (t':=tk) fun b o e=>cB _ e,afe _ lo (hi-lo).toNat,?_,fun b hb=>?_,q⟩
 ·have e1:lo+((0:Nat):Int)*1=lo:=by simp
  have e2:(((hi-lo).toNat:Nat):Int)-((0:Nat):Int)=anT lo hi 1:=by rw[rangeSize_one];split<;>omega
  show IsRangeIter _ _ (lo+((0:Nat):Int)*1) ((((hi-lo).toNat:Nat):Int)-((0:Nat):Int)) 1;rw[e1,e2];exact gF _ rfl
 ·have e:b=(s.heap.push {cls:=.type "range",data:=.fields #[.int lo t,.int hi u,.int 1 v]}).objs.size:=by simpa using hb
  subst e;exact I1.ux (bD _) (I1.hok.fresh (bD _))
def akV(ta:TA):TI:=fun σ H R=>ta σ H fun vs H1=>∃j:Int,vs=[.int j]∧-(2^62)≤j∧j<2^62∧R (Eb 0 j.toNat) H1
def akW(ta:TA):TI:=fun σ H R=>ta σ H fun vs H1=>∃i j:Int,vs=[.int i,.int j]∧(-(2^62)≤i∧i<2^62∧-(2^62)≤j∧j<2^62)∧R (Eb i (j-i).toNat) H1
theorem afX{a:Expr}{ta:TA}{p pos:Pos}(hg:Gl X "range")(hm:X.mg "range"=none)(ha:PA X [a] ta)(hs:aZ [a] X.env=[(false,eval a X.env)]:=by rfl):PI X tg (.Call (.Name "range" p) [a] [] pos) (akV ta):=by
 intro pins s σ H R I h;refine Call_ (tY I hg hm boot_range (Fb (bu (ha pos pins s σ H _ I h) fun us s1 aJ=>?_) hs rfl))
 obtain⟨vs,H1,I1,r1,q1⟩:=aJ
 obtain⟨j,e,q1,q2,q⟩:=q1
 subst e;cases r1 with
 |cons r rr=>
  cases rr
  obtain⟨t,rfl⟩:=r
  exact call_range_1 (XS I1 (by omega) (by omega) q1 q2 (by simpa using q))
theorem afY{a b:Expr}{ta:TA}{p pos:Pos}(hg:Gl X "range")(hm:X.mg "range"=none)(ha:PA X [a,b] ta)(hs:aZ [a,b] X.env=[(false,eval a X.env),(false,eval b X.env)]:=by rfl)(hs2:aZ [b] X.env=[(false,eval b X.env)]:=by rfl):
  PI X tg (.Call (.Name "range" p) [a,b] [] pos) (akW ta):=by
 intro pins s σ H R I h;refine Call_ (tY I hg hm boot_range (Fb (bu (ha pos pins s σ H _ I h) fun us s1 aJ=>?_) (by rw[hs,hs2]) (by rw[hs2];rfl)))
 obtain⟨vs,H1,I1,r1,q1⟩:=aJ
 obtain⟨i,j,e,⟨q1,q2,q3,q4⟩,q⟩:=q1
 subst e;cases r1 with
 |cons r rr=>
  cases rr with
  |cons r' rr=>
   cases rr
   obtain⟨t,rfl⟩:=r
   obtain⟨t',rfl⟩:=r'
   exact call_range_2 (XS I1 q1 q2 q3 q4 q)
def abg(wi:TI)(g:TG)(tb:TS):TS:=fun D σ H=>wi σ H fun J H1=>∃W:Nat→Nat→St→Hp→Prop,(∃m,W 0 m σ H1)∧∀i m σ H,W i m σ H→
 (J.stop i H∧D.nx σ H)∨(J.go i H∧∃N:St→Hp→Prop,(∀σ' H',N σ' H'→∃m',m'<m∧W (i+1) m' σ' H')∧∀x H',J.wg i H x H'→g x σ H' fun σ2 H2=>tb {D with nx:=N,ct:=N,bk:=D.nx} σ2 H2)
def Cu(fp:List aa)(h:aU):List (aa×Obj):=fp.filterMap fun b=>(h.get? b).map fun o=>(b,o)
theorem GZ{fp:List aa}{h:aU}{b:aa}{o:Obj}(hb:b∈fp)(e:h.get? b=some o):(b,o)∈Cu fp h:=Kc.mpr ⟨b,hb,by rw[e];rfl⟩
theorem afZ{fp:List aa}{h:aU}{p:aa×Obj}(hp:p∈Cu fp h):p.1∈fp∧h.get? p.1=some p.2:=by
 obtain⟨b,hb,e⟩:=Kc.mp hp
 cases q:h.get? b with
 |none=>rw[q] at e;cases e
 |some o=>
  rw[q] at e;have e':(b,o)=p:=fP e;subst e'
  exact⟨hb,q⟩
theorem Inv.pinned{pins:List (aa×Obj)}{σ:St}{H:Hp}{s:au}{fp:List aa}(I:Inv X pins σ H s)(hf:∀b∈fp,jo X pins H b)(ho:∀b∈fp,∃o,s.heap.get? b=some o∧∀v,o.data≠.cell v):Inv X (pins++Cu fp s.heap) σ H s:=
 I.Y8 fun p hp=>(cI.mp hp).elim (fun z=>I.pin p (dN _ z)) fun z=>by
  obtain⟨hb,e⟩:=afZ z
  obtain⟨f0,f1,f2,_⟩:=hf p.1 hb
  obtain⟨o,e',d⟩:=ho p.1 hb
  rw[e] at e';cases e'
  exact⟨e,f0,f1,f2,d⟩
theorem Inv.Hq{pins pl:List (aa×Obj)}{σ:St}{H:Hp}{s:au}(I:Inv X (pins++pl) σ H s):Inv X pins σ H s:=I.Y8 fun p hp=>I.pin p (dN _ (gh _ hp))
theorem ajE{iter:Expr}{body:List cV}{wi:TI}{g:TG}{tb:TS}{pos:Pos}(hp:M4 (model X.prog X.w) X.A X.env X.xe)(hc:X.calm=true)(hi:PI X tg iter wi)(hg:PG X tg g)(hb:iD X body tb)
  (hs:∀x,wJ iter X.env x=pure x:=by intro _;rfl):PS X (.For tg iter body [] pos) (abg wi g tb):=by
 intro pins s σ H D I h;refine wpAny_For (bu (hi pins s σ H _ I h) fun v s1 h1=>bu h1 fun itv s2 h2=>?_) hs
 obtain⟨it,fp,tn,J,H2,e,I2,T,st2,f2,W,⟨m0,w0⟩,turn⟩:=h2
 subst e;have stat:∀{H':Hp},(∀b∈fp,H' b=none)→∀b∈fp,jo X pins H' b:=fun hn b hb=>⟨hn b hb,(f2 b hb).2⟩
 refine codeAny_forLoop_any (fun n s'=>∃i σ' H',Inv X pins σ' H' s'∧tn i s'.heap∧(∀b∈fp,H' b=none)∧W i n σ' H') ?_ m0 ⟨0,σ,H2,I2,st2,fun b hb=>(f2 b hb).1,w0⟩;rintro n s3 ⟨i,σ3,H3,I3,st3,Ec,w3⟩;rcases turn i n σ3 H3 w3 with⟨stop,qn⟩|⟨go,N,hN,step⟩
 ·refine yN hp (bu (T.done X rfl rfl rfl hc i pins s3 σ3 H3 X.xe I3 (stat Ec) st3 stop) fun r s4 aJ=>?_)
  obtain⟨hr,I4⟩:=aJ
  subst hr;exact Kw ⟨σ3,H3,I4,qn⟩
 ·refine yN hp (bu (T.item X rfl rfl rfl hc i pins s3 σ3 H3 X.xe I3 (stat Ec) st3 go) fun r s4 aJ=>?_)
  obtain⟨u,hr,h4⟩:=aJ
  subst hr;refine yN hp (bu h4 fun _ s5 aJ=>?_)
  obtain⟨x,H5,I5,r5,y5,yw,Sd⟩:=aJ
  have Sg:=I5.pinned (stat Sd) (T.obj _ _ yw);refine yN hp (bu (hg _ s5 σ3 H5 x u _ Sg r5 (step x H5 y5)) fun _ s6 aJ=>?_)
  obtain⟨σ6,H6,I6,q6⟩:=aJ
  refine yN hp (bu (hb _ s6 σ6 H6 _ I6 q6) fun f s7 q7=>?_);have again:∀{σ7:St}{H7:Hp},Inv X (pins++Cu fp s5.heap) σ7 H7 s7→N σ7 H7→∃m,m<n∧∃i σ' H',Inv X pins σ' H' s7∧tn i s7.heap∧(∀b∈fp,H' b=none)∧W i m σ' H':=fun{σ7 H7} I7 n7=>by
   obtain⟨m',hm,w7⟩:=hN σ7 H7 n7
   refine⟨m',hm,i+1,σ7,H7,I7.Hq,T.keep _ _ _ yw fun b hb o e=>(I7.pin (b,o) (dN _ (dN _ (GZ hb e)))).1,fun b hb=>?_,w7⟩
   obtain⟨o,e,d⟩:=T.obj _ _ yw b hb
   exact(I7.pin (b,o) (dN _ (dN _ (GZ hb e)))).2.1
  cases f with
  |next=>obtain⟨σ7,H7,I7,n7⟩:=q7;exact again I7 n7
  |cont=>obtain⟨σ7,H7,I7,n7⟩:=q7;exact again I7 n7
  |brk=>obtain⟨σ7,H7,I7,q7⟩:=q7;exact⟨σ7,H7,I7.Hq,q7⟩
  |ret v=>obtain⟨x7,σ7,H7,I7,r7,q7⟩:=q7;exact⟨x7,σ7,H7,I7.Hq,r7,q7⟩
end
abbrev R2:=V→V→Hp→VK→Prop
def cz(X:Cx)(f:Value→Value→Sem Value)(r:R2):Prop:=
 ∀(pins:List (aa×Obj))(s:au)(σ:St)(H:Hp)(x y:V)(v u:Value)(Q:VK),Inv X pins σ H s→RelV x v→RelV y u→r x y H Q→
  aL (model X.prog X.w) X.A (f v u) (EP X pins σ Q) X.xe s
def gQ(X:Cx)(f:Value)(r:List V→Hp→VK→Prop):Prop:=
 ∀(pins:List (aa×Obj))(s:au)(σ:St)(H:Hp)(xs:List V)(us:List Value)(Q:VK),Inv X pins σ H s→Vals xs us→r xs H Q→
  aL (model X.prog X.w) X.A (call f us) (EP X pins σ Q) X.xe s
def alG(X:Cx)(r:V→Hp→(Bool→Hp→Prop)→Prop):Prop:=
 ∀(pins:List (aa×Obj))(s:au)(σ:St)(H:Hp)(x:V)(v:Value)(Q:Bool→Hp→Prop),Inv X pins σ H s→RelV x v→r x H Q→
  aL (model X.prog X.w) X.A (truthy v) (TP X pins σ Q) X.xe s
def Ed(r:R2)(ta tb:TE):TE:=fun σ H Q=>ta σ H fun x H1=>tb σ H1 fun y H2=>r x y H2 Q
def rI(C:Int→Int→Prop)(g:Int→Int→V):R2:=fun x y H Q=>∃i j,x=.int i∧y=.int j∧C i j∧Q (g i j) H
def oU(g:Int→Int→V):R2:=fun x y H Q=>∃i j,x=.int i∧y=.int j∧Q (g i j) H
section
variable{X:Cx}{a b c:Expr}{ta tb tc:TE}{pos:Pos}
theorem RB(ha:PE X a ta)(hb:PE X b tb){pins:List (aa×Obj)}{s:au}{σ:St}{H:Hp}{R:V→V→Hp→Prop}(I:Inv X pins σ H s)
  (h:ta σ H fun x H1=>tb σ H1 fun y H2=>R x y H2){Q:Value→au→Prop}{f:Value→Value→Sem Value}
  (hf:∀v u s2 x y H2,Inv X pins σ H2 s2→RelV x v→RelV y u→R x y H2→aL (model X.prog X.w) X.A (f v u) Q X.xe s2):
  aL (model X.prog X.w) X.A (eval a X.env) (fun v s₁=>aL (model X.prog X.w) X.A (eval b X.env) (fun u s₂=>aL (model X.prog X.w) X.A (f v u) Q X.xe s₂) X.xe s₁) X.xe s:=by
 refine bu (ha pins s σ H _ I h) fun v s1 aJ=>?_
 obtain⟨x,H1,I1,r1,q1⟩:=aJ
 refine bu (hb pins s1 σ H1 _ I1 q1) fun u s2 aJ=>?_
 obtain⟨y,H2,I2,r2,q2⟩:=aJ
 exact hf v u s2 x y H2 I2 r1 r2 q2
theorem akX{op:Operator}{r:R2}(ho:cz X (mF op) r)(ha:PE X a ta)(hb:PE X b tb):PE X (.BinOp a op b pos) (Ed r ta tb):=by
 intro pins s σ H Q I h;exact wpAny_BinOp (RB ha hb I h fun v u s2 x y H2 I2 rx ry q=>ho pins s2 σ H2 x y v u Q I2 rx ry q)
theorem JF{f:Value→Value→Sem Value}{C:Int→Int→Prop}{g:Int→Int→Int}
  (rule:∀(i j:Int)(t u:Tok)(s:au)(Q:Value→au→Prop)(E:Value→au→Prop),C i j→Q (.int (g i j) s.toks) {s with toks:=s.toks+1}→aL (model X.prog X.w) X.A (f (.int i t) (.int j u)) Q E s):
  cz X f (rI C fun i j=>.int (g i j)):=by
 intro pins s σ H x y v u Q I rx ry h
 obtain⟨i,j,rfl,rfl,hc,q⟩:=h
 obtain⟨t,rfl⟩:=rx
 obtain⟨t',rfl⟩:=ry
 exact rule i j t t' s _ _ hc ⟨.int (g i j),H,I.tok _,⟨_,rfl⟩,q⟩
theorem abh{f:Value→Value→Sem Value}{g:Int→Int→Int}
  (rule:∀(i j:Int)(t u:Tok)(s:au)(Q:Value→au→Prop)(E:Value→au→Prop),Q (.int (g i j) s.toks) {s with toks:=s.toks+1}→aL (model X.prog X.w) X.A (f (.int i t) (.int j u)) Q E s):
  cz X f (oU fun i j=>.int (g i j)):=by
 intro pins s σ H x y v u Q I rx ry h
 obtain⟨i,j,rfl,rfl,q⟩:=h
 obtain⟨t,rfl⟩:=rx
 obtain⟨t',rfl⟩:=ry
 exact rule i j t t' s _ _ ⟨.int (g i j),H,I.tok _,⟨_,rfl⟩,q⟩
theorem RC{f:Value→Value→Sem Value}{g:Int→Int→Bool}
  (rule:∀(i j:Int)(t u:Tok)(s:au)(Q:Value→au→Prop)(E:Value→au→Prop),Q (.bool (g i j)) s→aL (model X.prog X.w) X.A (f (.int i t) (.int j u)) Q E s):
  cz X f (oU fun i j=>.bl (g i j)):=by
 intro pins s σ H x y v u Q I rx ry h
 obtain⟨i,j,rfl,rfl,q⟩:=h
 obtain⟨t,rfl⟩:=rx
 obtain⟨t',rfl⟩:=ry
 exact rule i j t t' s _ _ ⟨.bl (g i j),H,I,rfl,q⟩
def abi(i j:Int):Prop:=0<j∧j<1073741824
def abj(i j:Int):Prop:=0≤j∧j≤1000000∧i.natAbs<2^64
def Dw(i j:Int):Prop:=(-(2^64)<i∧i<2^64)∨(-(2^64)<j∧j<2^64)
theorem Dw.ok{i j:Int}(h:Dw i j):IntMulOk i j:=by
 rcases h with⟨h1,h2⟩|⟨h1,h2⟩
 ·exact .of_left (intBits_le_64 h1 h2)
 ·exact .of_right (intBits_le_64 h1 h2)
theorem ajF:cz X (mF .Add) (oU fun i j=>.int (i+j)):=abh fun _ _ _ _ _ _ _ q=>add_int q
theorem Cv:cz X (mF .Sub) (oU fun i j=>.int (i-j)):=abh fun _ _ _ _ _ _ _ q=>sub_int q
theorem oh:cz X (mF .Mult) (rI Dw fun i j=>.int (i*j)):=JF fun _ _ _ _ _ _ _ hc q=>mul_int q hc.ok
theorem O5:cz X (mF .FloorDiv) (rI abi fun i j=>.int (i / j)):=JF fun i j _ _ _ _ _ hc q=>by
 have h1:(0:Int)<j:=hc.1;have h2:j<1073741824:=hc.2;exact floordiv_int (by omega) (by rw[Int.fdiv_eq_ediv_of_nonneg i (by omega)];exact q) (.inl (PyProof.noPylong_small (by omega)))
theorem qw:cz X (mF .Mod) (rI (fun _ j=>0<j) fun i j=>.int (i%j)):=JF fun i j _ _ _ _ _ hc q=>by
 have h1:(0:Int)<j:=hc;exact mod_int' (by omega) (by rw[Int.fmod_eq_emod_of_nonneg i (by omega)];exact q)
theorem Qn:cz X (mF .Pow) (rI abj fun i j=>.int (i^j.toNat)):=JF fun _ _ _ _ _ _ _ hc q=>pow_int_small hc.1 hc.2.1 hc.2.2 q
end
def RG:V→V→Bool
 |.non,.non=>true|.non,.int _=>true|.int _,.non=>true|.non,.bl _=>true|.bl _,.non=>true|.non,.str _=>true|.str _,.non=>true
 |.int _,.int _=>true|.bl _,.bl _=>true|.str _,.str _=>true|.oR _,.oR _=>true
 |.int _,.str _=>true|.str _,.int _=>true|.bl _,.str _=>true|.str _,.bl _=>true
 |_,_=>false
def rEq:R2:=fun x y H Q=>RG x y=true∧Q (.bl (decide (x=y))) H
def rNe:R2:=fun x y H Q=>RG x y=true∧Q (.bl (!decide (x=y))) H
theorem O6{i j:Int}:decide (V.int i=V.int j)=(i==j):=by
 rw[p7];simp
theorem Qo{i j:Bool}:decide (V.bl i=V.bl j)=(i==j):=by
 rw[p7];simp
theorem O7{i j:Str}:decide (V.str i=V.str j)=(i==j):=by
 rw[p7];simp
theorem Y9{i j:Array UInt8}:decide (V.oR i=V.oR j)=(i.toList==j.toList):=by
 rw[p7];cases i;cases j;simp
section
variable{X:Cx}{a b c:Expr}{ta tb tc:TE}{pos:Pos}
theorem fG{pins:List (aa×Obj)}{σ:St}{H:Hp}{s:au}{Q:VK}{k k':Bool}(I:Inv X pins σ H s)(q:Q (.bl k) H)(e:k=k'):EP X pins σ Q (.bool k') s:=by
 subst e
 exact⟨.bl k,H,I,rfl,q⟩
theorem akY:cz X (dH .Eq) rEq:=by
 intro pins s σ H x y v u Q I rx ry h
 obtain⟨hs,q⟩:=h
 cases x with
 |non=>
  cases rx;cases y with
  |non=>cases ry;exact anq (fG I q (by simp))
  |bl j=>cases ry;exact anr (fG I q (by simp))
  |int j=>obtain⟨t',rfl⟩:=ry;exact anD (fG I q (by simp))
  |str j=>obtain⟨t',rfl⟩:=ry;exact anE (fG I q (by simp))
  |_=>exact absurd (show false=true from hs) gG
 |bl i=>
  cases rx;cases y with
  |non=>cases ry;exact ant (fG I q (by simp))
  |bl j=>cases ry;exact eq_bool (fG I q Qo)
  |str j=>obtain⟨t',rfl⟩:=ry;exact anu (fG I q (by simp))
  |_=>exact absurd (show false=true from hs) gG
 |int i=>
  obtain⟨t,rfl⟩:=rx
  cases y with
  |non=>cases ry;exact anF (fG I q (by simp))
  |int j=>obtain⟨t',rfl⟩:=ry;exact eq_int (fG I q O6)
  |str j=>obtain⟨t',rfl⟩:=ry;exact anG (fG I q (by simp))
  |_=>exact absurd (show false=true from hs) gG
 |str i=>
  obtain⟨t,rfl⟩:=rx
  cases y with
  |non=>cases ry;exact anH (fG I q (by simp))
  |bl j=>cases ry;exact anv (fG I q (by simp))
  |int j=>obtain⟨t',rfl⟩:=ry;exact anI (fG I q (by simp))
  |str j=>obtain⟨t',rfl⟩:=ry;exact eq_str (fG I q O7)
  |_=>exact absurd (show false=true from hs) gG
 |oR i=>
  obtain⟨t,rfl⟩:=rx
  cases y with
  |oR j=>obtain⟨t',rfl⟩:=ry;exact PySem.W.eq_bytes (fG I q Y9)
  |_=>exact absurd (show false=true from hs) gG
 |_=>cases y<;>exact absurd (show false=true from hs) gG
theorem akZ:cz X (dH .NotEq) rNe:=by
 intro pins s σ H x y v u Q I rx ry h
 obtain⟨hs,q⟩:=h
 cases x with
 |non=>
  cases rx;cases y with
  |non=>cases ry;exact anw (fG I q (by simp))
  |bl j=>cases ry;exact anx (fG I q (by simp))
  |int j=>obtain⟨t',rfl⟩:=ry;exact anJ (fG I q (by simp))
  |str j=>obtain⟨t',rfl⟩:=ry;exact anK (fG I q (by simp))
  |_=>exact absurd (show false=true from hs) gG
 |bl i=>
  cases rx;cases y with
  |non=>cases ry;exact anz (fG I q (by simp))
  |bl j=>cases ry;exact ne_bool (fG I q (congrArg not Qo))
  |str j=>obtain⟨t',rfl⟩:=ry;exact anA (fG I q (by simp))
  |_=>exact absurd (show false=true from hs) gG
 |int i=>
  obtain⟨t,rfl⟩:=rx
  cases y with
  |non=>cases ry;exact anL (fG I q (by simp))
  |int j=>obtain⟨t',rfl⟩:=ry;exact ne_int (fG I q (congrArg not O6))
  |str j=>obtain⟨t',rfl⟩:=ry;exact anM (fG I q (by simp))
  |_=>exact absurd (show false=true from hs) gG
 |str i=>
  obtain⟨t,rfl⟩:=rx
  cases y with
  |non=>cases ry;exact anN (fG I q (by simp))
  |bl j=>cases ry;exact anB (fG I q (by simp))
  |int j=>obtain⟨t',rfl⟩:=ry;exact anO (fG I q (by simp))
  |str j=>obtain⟨t',rfl⟩:=ry;exact ne_str (fG I q (congrArg not O7))
  |_=>exact absurd (show false=true from hs) gG
 |oR i=>
  obtain⟨t,rfl⟩:=rx
  cases y with
  |oR j=>obtain⟨t',rfl⟩:=ry;exact PySem.W.ne_bytes (fG I q (congrArg not Y9))
  |_=>exact absurd (show false=true from hs) gG
 |_=>cases y<;>exact absurd (show false=true from hs) gG
theorem ak0:cz X (dH .LtE) (oU fun i j=>.bl (decide (i≤j))):=RC fun _ _ _ _ _ _ _ q=>le_int q
theorem Df:cz X (dH .Gt) (oU fun i j=>.bl (decide (j<i))):=RC fun _ _ _ _ _ _ _ q=>gt_int q
theorem ak1:cz X (dH .GtE) (oU fun i j=>.bl (decide (j≤i))):=RC fun _ _ _ _ _ _ _ q=>ge_int q
theorem aac:cz X (dH .Is) (fun x y H Q=>y=.non∧Q (.bl (decide (x=.non))) H):=by
 intro pins s σ H x y v u Q I rx ry h
 obtain⟨rfl,q⟩:=h
 cases ry;refine is_none_gen (fG I q ?_);cases x<;>first
  |(cases rx;rfl)
  |(obtain⟨t,rfl⟩:=rx;rfl)
theorem ah7:cz X (dH .IsNot) (fun x y H Q=>y=.non∧Q (.bl (!decide (x=.non))) H):=by
 intro pins s σ H x y v u Q I rx ry h
 obtain⟨rfl,q⟩:=h
 cases ry;refine isnot_none_gen (fG I q ?_);cases x<;>first
  |(cases rx;rfl)
  |(obtain⟨t,rfl⟩:=rx;rfl)
theorem cz.or{f:Value→Value→Sem Value}{r r':R2}(h:cz X f r)(h':cz X f r'):cz X f (fun x y H Q=>r x y H Q∨r' x y H Q):=by
 intro pins s σ H x y v u Q I rx ry q;rcases q with q|q
 ·exact h pins s σ H x y v u Q I rx ry q
 ·exact h' pins s σ H x y v u Q I rx ry q
theorem f9(b:Expr){op:CmpOp}(h:op≠.In:=by decide)(h2:op≠.NotIn:=by decide):Bc op b=false:=by
 have e1:(op==CmpOp.In)=false:=by cases op<;>first|rfl|exact absurd rfl h
 have e2:(op==CmpOp.NotIn)=false:=by cases op<;>first|rfl|exact absurd rfl h2
 cases b<;>simp[Bc,e1,e2]
theorem ah8{op:CmpOp}{r:R2}(ho:cz X (dH op) r)(ha:PE X a ta)(hb:PE X b tb)(hm:Bc op b=false):PE X (.Compare a [op] [b] pos) (Ed r ta tb):=by
 intro pins s σ H Q I h;exact wpAny_Compare1 (RB ha hb I h fun v u s2 x y H2 I2 rx ry q=>ho pins s2 σ H2 x y v u Q I2 rx ry q) hm
def Q7(t:TE):TT:=fun σ H Q=>t σ H fun x H'=>∃k,x=.bl k∧Q k H'
theorem ah9{op:CmpOp}{r:R2}(ho:cz X (dH op) r)(ha:PE X a ta)(hb:PE X b tb)(hm:Bc op b=false):PT X (.Compare a [op] [b] pos) (Q7 (Ed r ta tb)):=by
 intro pins s σ H Q I h;refine wpAny_isTrue_Compare1 (bu (ha pins s σ H _ I h) fun v s1 ⟨x,H1,I1,r1,q1⟩=>bu (hb pins s1 σ H1 _ I1 q1) fun u s2 ⟨y,H2,I2,r2,q2⟩=>
  bu (ho pins s2 σ H2 x y v u _ I2 r1 r2 q2) fun c s3 ⟨z,H3,I3,r3,k,e,q3⟩=>?_) hm
 subst e;cases r3;exact uR ⟨H3,I3,q3⟩
def Qp(r r':R2)(ta tb tc:TE):TE:=fun σ H Q=>ta σ H fun x H1=>tb σ H1 fun y H2=>r x y H2 fun z H3=>∃k,z=.bl k∧
 (if k=true then tc σ H3 fun w' H4=>r' y w' H4 Q else Q (.bl false) H3)
theorem agX{op op':CmpOp}{r r':R2}(ho:cz X (dH op) r)(ho':cz X (dH op') r')(ha:PE X a ta)(hb:PE X b tb)(hc:PE X c tc)
  (hm:M5 [op,op'] [b,c]=false:=by with_unfolding_all rfl):PE X (.Compare a [op,op'] [b,c] pos) (Qp r r' ta tb tc):=by
 intro pins s σ H Q I h;refine Compare_chain (bu (ha pins s σ H _ I h) fun v s1 ⟨x,H1,I1,r1,q1⟩=>chain_link (bu (hb pins s1 σ H1 _ I1 q1) fun u s2 ⟨y,H2,I2,r2,q2⟩=>
  bu (ho pins s2 σ H2 x y v u _ I2 r1 r2 q2) fun d s3 ⟨z,H3,I3,r3,k,e,q3⟩=>?_)) hm
 subst e;cases r3;refine uR ?_;cases k with
 |false=>exact ite_ff ⟨.bl false,H3,I3,rfl,q3⟩
 |true=>exact ite_tt (chain_last (bu (hc pins s3 σ H3 _ I3 q3) fun w' s4 ⟨z',H4,I4,r4,q4⟩=>ho' pins s4 σ H4 y z' u w' Q I4 r2 r4 q4))
theorem agY{op op':CmpOp}{r r':R2}(ho:cz X (dH op) r)(ho':cz X (dH op') r')(ha:PE X a ta)(hb:PE X b tb)(hc:PE X c tc)
  (hm:M5 [op,op'] [b,c]=false:=by with_unfolding_all rfl):PT X (.Compare a [op,op'] [b,c] pos) (Q7 (Qp r r' ta tb tc)):=by
 intro pins s σ H Q I h;refine isTrue_chain (bu (ha pins s σ H _ I h) fun v s1 ⟨x,H1,I1,r1,q1⟩=>test_link (bu (hb pins s1 σ H1 _ I1 q1) fun u s2 ⟨y,H2,I2,r2,q2⟩=>
  bu (ho pins s2 σ H2 x y v u _ I2 r1 r2 q2) fun d s3 ⟨z,H3,I3,r3,k,e,q3⟩=>?_)) hm
 subst e;cases r3;refine uR ?_;cases k with
 |false=>
  obtain⟨k',e',q'⟩:=q3
  cases e';exact ite_ff ⟨H3,I3,q'⟩
 |true=>
  refine ite_tt (test_last (bu (hc pins s3 σ H3 _ I3 q3) fun w' s4 ⟨z',H4,I4,r4,q4⟩=>bu (ho' pins s4 σ H4 y z' u w' _ I4 r2 r4 q4) fun d' s5 aJ=>?_))
  obtain⟨z2,H5,I5,r5,k2,e2,q5⟩:=aJ
  subst e2;cases r5;exact uR ⟨H5,I5,q5⟩
def RJ(K:aC)(x:V)(H:Hp)(k:Bool):Prop:=
 match x with
 |.non=>k=false
 |.bl b=>k=b
 |.int i=>k=(i != 0)
 |.str y=>y.length≤bJ∧k=((y.length:Int) != 0)
 |.oR y=>y.size≤bJ∧k=((y.size:Int) != 0)
 |.ref p=>(∃xs,bC K H p xs∧k=!xs.isEmpty)∨(∃xs,cF K H p xs∧k=!xs.isEmpty)∨∃kvs,H p=some (.dK kvs)∧k=!kvs.isEmpty
 |_=>False
theorem afg{κ:Type}{kvs:List (κ×V)}{vs:List (κ×Value)}(r:KV kvs vs):(!vs.isEmpty)=!kvs.isEmpty:=by
 cases r<;>rfl
theorem Wr{xs:List V}{its:List Value}(r:Vals xs its):(!its.toArray.isEmpty)=!xs.isEmpty:=by
 cases r<;>simp
theorem xF:(bJ:Nat)<2^63:=by rw[iI];decide
theorem ajG:alG X (fun x H Q=>∃k,RJ X.K x H k∧Q k H):=by
 intro pins s σ H x v Q I rx h
 obtain⟨k,e,q⟩:=h
 have hl:=xF;have hs:bJ=16777216:=iI;cases x with
 |non=>
  cases rx;have e':k=false:=e;subst e';exact truthy_none ⟨H,I,q⟩
 |bl b=>
  cases rx;have e':k=b:=e;subst e';exact uR ⟨H,I,q⟩
 |int i=>
  obtain⟨t,rfl⟩:=rx
  have e':k=(i != 0):=e;subst e';exact PySem.P.truthy_int ⟨H,I,q⟩
 |str y=>
  obtain⟨t,rfl⟩:=rx
  obtain⟨hy,e'⟩:y.length≤bJ∧k=((y.length:Int) != 0):=e
  subst e';exact PySem.P.truthy_str (by omega) ⟨H,I.tok _,q⟩
 |oR y=>
  obtain⟨t,rfl⟩:=rx
  obtain⟨hy,e'⟩:y.size≤bJ∧k=((y.size:Int) != 0):=e
  subst e';exact PySem.W.truthy_bytes (by omega) ⟨H,I.tok _,q⟩
 |ref p=>
  cases rx;have e':(∃xs,bC X.K H p xs∧k=!xs.isEmpty)∨(∃xs,cF X.K H p xs∧k=!xs.isEmpty)∨∃kvs,H p=some (.dK kvs)∧k=!kvs.isEmpty:=e;rcases e' with⟨xs,hx,e'⟩|⟨xs,hx,e'⟩|⟨kvs,hx,e'⟩
  ·subst e'
   obtain⟨its,r,pl,hz⟩:=I.list hx
   have hlen:=r.length;exact wpAny_truthy_list pl.isList (by simp only[fB];omega) ⟨H,I.tok _,by rw[Wr r];exact q⟩
  ·subst e'
   obtain⟨its,r,pl,hz⟩:=I.tuple hx
   have hlen:=r.length;exact truthy_tuple pl (by simp only[fB];omega) ⟨H,I.tok _,by rw[Wr r];exact q⟩
  ·subst e'
   obtain⟨hz,hS,vs,r,m⟩:kvs.length≤bJ∧(p==rG)=false∧∃vs,KV kvs vs∧s.heap.DictOf (iu X.prog X.w) p vs:=I.hok p _ hx
   have hlen:kvs.length=vs.length:=Paired.length r;exact wpAny_truthy_dict hS m (by omega) ⟨H,I.tok _,by rw[afg r];exact q⟩
 |_=>exact(show False from e).elim
theorem agZ(ha:PE X a ta)(he:∀whole,isTrue a X.env whole=(do let v ←whole;rM a.pos;pF [v] (truthy v))):
  PT X a (fun σ H Q=>ta σ H fun x H'=>∃k,RJ X.K x H' k∧Q k H'):=by
 intro pins s σ H Q I h;exact isTrue_plain (bu (ha pins s σ H _ I h) fun v s1 ⟨x,H1,I1,r1,q1⟩=>ajG pins s1 σ H1 x v Q I1 r1 q1) (he _)
theorem afh:cz X (mF .Add) (fun x y H Q=>∃i j,x=.str i∧y=.str j∧i.length+j.length≤bJ∧Q (.str (i++j)) H):=by
 intro pins s σ H x y v u Q I rx ry h
 obtain⟨i,j,rfl,rfl,hz,q⟩:=h
 obtain⟨t,rfl⟩:=rx
 obtain⟨t',rfl⟩:=ry
 exact add_str (fun t' tk=>⟨.str (i++j),H,I.tok _,⟨_,rfl⟩,q⟩) hz
theorem vals1{x:V}{us:List Value}(r:Vals [x] us):∃u,us=[u]∧RelV x u:=by
 cases r with
 |cons r1 r2=>cases r2;exact⟨_,rfl,r1⟩
theorem vals2{x y:V}{us:List Value}(r:Vals [x,y] us):∃u w',us=[u,w']∧RelV x u∧RelV y w':=by
 cases r with
 |cons r1 r2=>
  cases r2 with
  |cons r3 r4=>cases r4;exact⟨_,_,rfl,r1,r3⟩
theorem XX:gQ X (.builtin "abs") (fun xs H Q=>∃i,xs=[.int i]∧Q (.int (if i<0 then -i else i)) H):=by
 intro pins s σ H xs us Q I r h
 obtain⟨i,rfl,q⟩:=h
 obtain⟨u,rfl,t,rfl⟩:=vals1 r
 exact call_abs_int fun u tk=>⟨.int (if i<0 then -i else i),H,I.tok _,⟨_,rfl⟩,q⟩
theorem af0(hc:X.calm=true):gQ X (.builtin "max") (fun xs H Q=>∃i j,xs=[.int i,.int j]∧Q (.int (if j>i then j else i)) H):=by
 intro pins s σ H xs us Q I r h
 obtain⟨i,j,rfl,q⟩:=h
 obtain⟨u,w',rfl,⟨t,rfl⟩,⟨t',rfl⟩⟩:=vals2 r
 refine max_two_ints (I.ok.hd hc) fun h' tk k=>⟨_,H,I.kept k,?_,q⟩
 by_cases hj:j>i
 ·rw[if_pos hj,if_pos hj];exact⟨_,rfl⟩
 ·rw[if_neg hj,if_neg hj];exact⟨_,rfl⟩
theorem Hg(hc:X.calm=true):gQ X (.builtin "min") (fun xs H Q=>∃i j,xs=[.int i,.int j]∧Q (.int (if j<i then j else i)) H):=by
 intro pins s σ H xs us Q I r h
 obtain⟨i,j,rfl,q⟩:=h
 obtain⟨u,w',rfl,⟨t,rfl⟩,⟨t',rfl⟩⟩:=vals2 r
 refine min_two_ints (I.ok.hd hc) fun h' tk k=>⟨_,H,I.kept k,?_,q⟩
 by_cases hj:j<i
 ·rw[if_pos hj,if_pos hj];exact⟨_,rfl⟩
 ·rw[if_neg hj,if_neg hj];exact⟨_,rfl⟩
theorem M6:gQ X (.type "int") (fun xs H Q=>(∃i,xs=[.int i]∧Q (.int i) H)∨∃k,xs=[.bl k]∧Q (.int (if k then 1 else 0)) H):=by
 intro pins s σ H xs us Q I r h;rcases h with⟨i,rfl,q⟩|⟨k,rfl,q⟩
 ·obtain⟨u,rfl,t,rfl⟩:=vals1 r
  exact call_int_int ⟨.int i,H,I,⟨_,rfl⟩,q⟩
 ·obtain⟨u,rfl,r1⟩:=vals1 r
  cases r1;exact call_int_bool ⟨.int (if k then 1 else 0),H,I.tok _,⟨_,rfl⟩,q⟩
end
structure RK(h:aU)(x dx C:aa)(mA:Str→Option Value):Prop where
 obj:h.get? x=some (Vc C dx)
 ns:h.Ns1 dx mA
 ne:dx≠x
theorem af1{h:aU}{dx:aa}{mA:Str→Option Value}(n:h.Ns1 dx mA):∃od,h.get? dx=some od∧∀name,Vp name od=some (mA name):=by
 obtain⟨o,es,ep,ho,hd,hk,_,hm⟩:=n
 refine⟨o,ho,fun name=>?_⟩
 have e:=hm name;unfold nsFind findBy at e;rw[←Array.find?_toList] at e;unfold Vp;rw[hd];dsimp only;split
 ·rename_i y q;rw[q] at e;exact congrArg some e
 ·rename_i q;rw[q] at e;have a:es.toList.any (·.refKey)=false:=by
   rw[adq];intro y hy
   obtain⟨z,t,hkey⟩:=hk y (Array.mem_toList_iff.mp hy)
   simp[DictEntry.refKey,hkey]
  have a':¬es.toList.any (·.refKey)=true:=by rw[a];exact gG
  rw[if_neg a'];exact congrArg some e
theorem RK.look{h:aU}{x dx C:aa}{mA:Str→Option Value}(I:RK h x dx C mA):∃od,PySem.W.InstAt h x (Vc C dx) C (some od)∧∀name,Vp name od=some (mA name):=
 let ⟨od,ho,hl⟩:=af1 I.ns
 ⟨od,⟨I.obj,rfl,rfl,ho⟩,hl⟩
section
variable{prog:bf}{w:aY}{A:bU}{E:Value→au→Prop}{s:au}{K:aC}{x dx C f:aa}{mA:Str→Option Value}{name:Str}{v:Value}
end
theorem oH.some_of{v:V}{o:Option Value}(r:oH (some v) o):∃u,o=some u∧RelV v u:=by
 cases o with
 |none=>exact(show False from r).elim
 |some u=>exact⟨u,rfl,r⟩
section
variable{P:bf}{w:aY}{H H':Hp}{h h':aU}{a C dx:aa}{fs fs':List (Str×V)}
theorem Za(hok:gf P w H h)(e:H a=some (.ins C dx fs)):∃mA,RK h a dx C mA∧(∀f,oH (fs.lookup f) (mA f))∧aev mA (fs.map (·.1))∧fs.length≤1000∧H dx=some (.own a):=by
 obtain⟨d,z,ne,ob,mA,n,r,q⟩:=(show dO P w H h a (.ins C dx fs) from hok a _ e)
 exact⟨mA,⟨ob,n,ne⟩,r,q,z,d⟩
end
structure Sh(K:aC)(C:aa):Prop where
 pg:adK K C Str.empty=true
 hd:PySem.W.hasDictIn K C=true
 po:PySem.W.plainOver K C=true
 sa:yP K (.ref C) "__setattr__"=some (some (.builtin "object.__setattr__"))
theorem Sh.get{K:aC}{C:aa}(c:Sh K C)(f:Str):adK K C f=true:=c.pg
def aad(K:aC)(C:aa)(f:Str):Prop:=yP K (.ref C) f=some none
theorem aad.taker{K:aC}{C:aa}{f:Str}(n:aad K C f):adX K C f=some none:=by
 unfold adX;rw[show yP K (.ref C) f=some none from n];rfl
structure Con(K:aC)(C:aa)(f:Str)(v:V)(u:Value):Prop where
 at_:yP K (.ref C) f=some (some u)
 rel:RelV v u
 get:adt K u "__get__"=some none
 cp:PySem.W.copiedNames.contains f=false
structure Meth(K:aC)(C:aa)(m:Str)(f:aa):Prop where
 at_:yP K (.ref C) m=some (some (.ref f))
 fn:aex K (.ref f)=true
 kp:uV K (.ref f)=true
section
variable{X:Cx}{pins:List (aa×Obj)}{σ:St}{H:Hp}{s:au}{a C dx:aa}{fs:List (Str×V)}{f:Str}{v:V}{A:bU}{E:Value→au→Prop}
end
section
variable{X:Cx}{o e value:Expr}{f:Str}{pos pos' tpos:Pos}{ta tv:TE}
end
section
variable{X:Cx}{pins:List (aa×Obj)}{σ:St}{H:Hp}{s:au}{A:bU}{E:Value→au→Prop}{Q:Value→au→Prop}{c:Value}{b:Bool}
inductive lA(K:aC)(H:Hp):V→Value→Prop where
 |non:lA K H .non (.type "NoneType")
 |bl (x:Bool):lA K H (.bl x) (.type "bool")
 |int (i:Int):lA K H (.int i) (.type "int")
 |str (x:Str):lA K H (.str x) (.type "str")
 |flt (x:UInt64):lA K H (.flt x) (.type "float")
 |lst {a:aa} {xs:List V} (e:H a=some (.lst xs)):lA K H (.ref a) (.type "list")
 |kj {a:aa} {o:Obj} {xs:List V} (e:H a=some (.kj o (.lst xs))):lA K H (.ref a) (.type "list")
 |tup {a:aa} {xs:List V} (e:H a=some (.tup xs)):lA K H (.ref a) (.type "tuple")
 |dK {a:aa} {kvs:List (Key×V)} (e:H a=some (.dK kvs)):lA K H (.ref a) (.type "dict")
 |dT {a:aa} {kvs:List (List Key×V)} (e:H a=some (.dT kvs)):lA K H (.ref a) (.type "dict")
 |ins {a C dx:aa} {fs:List (Str×V)} (e:H a=some (.ins C dx fs)) (cl:Sh K C) (ha:yP K (.ref C) "__class__"=some (some (.builtin "object.__class__")))
   (hn:adt K (.builtin "object.__class__") "__get__"=some (some (.builtin "getset_descriptor.__get__"))) (htk:PySem.W.takesIn K (.builtin "object.__class__")=some true)
   (hm:PySem.W.mroIn K C (.type "object")=some true):lA K H (.ref a) (.ref C)
theorem af2{x:V}{u t:Value}(I:Inv X pins σ H s)(rx:RelV x u)(ty:lA X.K H x t)(e:yQ X.K t c=some b)(h:∀tk,Q (.bool b) {s with toks:=tk}):
  aL (model X.prog X.w) A (call (.builtin "isinstance") [u,c]) Q E s:=by
 cases ty with
 |non=>cases(show u=o8 from rx);exact rD adu I.gq kJ e (fun z=>nomatch z) h
 |bl y=>cases(show u=o9 y from rx);exact rD adw I.gq kJ e (fun z=>nomatch z) h
 |int i=>obtain⟨t,q⟩:=(show ∃t,u=G9 i t from rx);cases q;exact rD adL I.gq kJ e (fun z=>nomatch z) h
 |str y=>obtain⟨t,q⟩:=(show ∃t,u=Hf y t from rx);cases q;exact rD adM I.gq kJ e (fun z=>nomatch z) h
 |flt y=>obtain⟨t,q⟩:=(show ∃t,u=Wg y t from rx);cases q;exact rD adi I.gq kJ e (fun z=>nomatch z) h
 |@lst a xs ea=>
  cases(show u=dB a from rx)
  obtain⟨_,_,n,_,h1⟩:=(show dO X.prog X.w H s.heap a (.lst xs) from I.hok a _ ea)
  exact rD Ke I.gq ⟨_,h1,rfl⟩ e (fun z=>nomatch z) h
 |@kj a ob xs ea=>
  cases(show u=dB a from rx)
  obtain⟨_,_,_,n,_,h1⟩:=(show dO X.prog X.w H s.heap a (.kj ob (.lst xs)) from I.hok a _ ea)
  exact rD Ke I.gq ⟨_,h1,rfl⟩ e (fun z=>nomatch z) h
 |@tup a xs ea=>
  cases(show u=dB a from rx)
  obtain⟨_,_,_,p⟩:=(show dO X.prog X.w H s.heap a (.tup xs) from I.hok a _ ea)
  obtain⟨o,h1,h2,_⟩:=p
  exact rD adk I.gq ⟨o,h1,h2⟩ e (fun z=>nomatch z) h
 |@dK a kvs ea=>
  cases(show u=dB a from rx)
  obtain⟨_,_,vs,_,p⟩:=(show dO X.prog X.w H s.heap a (.dK kvs) from I.hok a _ ea)
  obtain⟨o,es,ep,h1,h2,_⟩:=p
  exact rD Kf I.gq ⟨o,h1,h2.1⟩ e (fun z=>nomatch z) h
 |@dT a kvs ea=>
  cases(show u=dB a from rx)
  obtain⟨_,_,xs,_,o,es,ep,h1,h2,_⟩:=(show dO X.prog X.w H s.heap a (.dT kvs) from I.hok a _ ea)
  exact rD Kf I.gq ⟨o,h1,h2.1⟩ e (fun z=>nomatch z) h
 |@ins a C dx fs ea cl ha hn htk hm=>
  cases(show u=dB a from rx)
  obtain⟨mA,O,_⟩:=Za I.hok ea
  obtain⟨od,J,_⟩:=O.look
  exact rD (adN (cl.get _) cl.hd ha hn htk hm) I.gq J e (fun z=>nomatch z) h
end
structure gC(k:Nat)(A:bU):Prop where
 hd:A.handled=none
 dp:A.depth+3*k+5<recursionLimit
 un:A.units+16*k+200<dR
 gd:A.guards=some []
theorem gC.mono{j k:Nat}{A:bU}(r:gC k A)(h:j≤k):gC j A:=⟨r.hd,by have:=r.dp;omega,by have:=r.un;omega,r.gd⟩
theorem gC.deeper{k:Nat}{A:bU}(r:gC (k+1) A)(env:Env):gC k (A.deeper env):=
 ⟨r.hd,by have:=r.dp;show A.depth+1+3*k+5<_;omega,by have:=r.un;show A.units+3+16*k+200<_;omega,r.gd⟩
theorem gC.in1{k:Nat}{A:bU}(r:gC (k+1) A):gC k A.in1:=
 ⟨r.hd,by have:=r.dp;show A.depth+3*k+5<_;omega,by have:=r.un;show A.units+1+16*k+200<_;omega,r.gd⟩
theorem gC.depth{k:Nat}{A:bU}(r:gC k A):A.depth<recursionLimit:=by have:=r.dp;omega
theorem gC.units{k:Nat}{A:bU}(r:gC k A):A.units+64<dR:=by have:=r.un;omega
theorem gC.Qq{k:Nat}{A:bU}(r:gC k A):A.units<dR:=by have:=r.un;omega
def alH:TA:=fun _ H Q=>Q [] H
def ak2(ta:TE)(tr:TA):TA:=fun σ H Q=>ta σ H fun x H1=>tr σ H1 fun xs H2=>Q (x::xs) H2
section
variable{X:Cx}{e:Expr}{es:List Expr}{te:TE}{t:TA}{pos:Pos}
theorem ou:PA X [] alH:=fun _ _ _ _ H Q I h=>Kg ⟨[],H,I,.nil,h⟩
theorem lK(ha:PE X e te)(hr:PA X es t)(hs:aZ (e::es) X.env=(false,eval e X.env)::aZ es X.env:=by rfl):PA X (e::es) (ak2 te t):=by
 intro pos pins s σ H Q I h;rw[hs];show aL _ _ (spliced ((false,eval e X.env)::fK pos (aZ es X.env))) _ _ s;refine Fq (bu (ha pins s σ H _ I h) fun u s1 aJ=>?_)
 obtain⟨x,H1,I1,r1,q1⟩:=aJ
 exact bu (hr pos pins s1 σ H1 _ I1 q1) fun us s2 ⟨xs,H2,I2,r2,q2⟩=>⟨x::xs,H2,I2,.cons r1 r2,q2⟩
def alI(t:TA):TE:=fun σ H Q=>t σ H fun xs H1=>xs.length≤bJ∧∀p,H1 p=none→Q (.ref p) (upd H1 p (.tup xs))
def alJ(t:TA):TE:=fun σ H Q=>t σ H fun xs H1=>xs.length≤bJ∧∀p,H1 p=none→Q (.ref p) (upd H1 p (.lst xs))
theorem Qs{x1}(h:PA X es t):PE X (.Tuple es x1 pos) (alI t):=by
 intro pins s σ H Q I hq;refine wpAny_Tuple_spliced (bu (h pos pins s σ H _ I hq) fun us s1 ⟨xs,H1,I1,r,z,q⟩=>⟨by rw[←r.length];exact z,?_⟩);have hf:H1 s1.heap.objs.size=none:=I1.hok.fresh (bD _)
 refine⟨.ref s1.heap.objs.size,upd H1 s1.heap.objs.size (.tup xs),I1.laid (t':=s1.toks) (fun b u e=>cB _ e) (bD _) ?_,rfl,q _ hf⟩
 exact⟨z,us,r,⟨_,gF _ rfl,rfl,_,rfl⟩⟩
theorem ajH(h:PA X es t):PE X (.List es pos) (alJ t):=by
 intro pins s σ H Q I hq;refine wpAny_List_spliced (bu (h pos pins s σ H _ I hq) fun us s1 ⟨xs,H1,I1,r,z,q⟩=>⟨by rw[←r.length];exact z,?_⟩);have hf:H1 s1.heap.objs.size=none:=I1.hok.fresh (bD _)
 refine⟨.ref s1.heap.objs.size,upd H1 s1.heap.objs.size (.lst xs),I1.laid (t':=s1.toks) (fun b u e=>cB _ e) (bD _) ?_,rfl,q _ hf⟩
 exact⟨z,us,0,r,gF _ rfl⟩
end
abbrev Sp:=List V→Hp→VK→XK→Prop
abbrev oV:=List Env→Hp→au→XK→Value→au→Prop
structure xZ(P:bf)(w:aY)(K:aC)(mg:Str→Option Value)(base:aU)(A:bU)(outer:List Env)(s:au)(H:Hp):Prop where
 frames:A.frames=some outer
 mod:Mod K mg base
 bs:∀b o,base.get? b=some o→s.heap.get? b=some o∧H b=none
 sI:base.objs.size≤s.heap.objs.size
 pO:s.heap.FunFrames base outer
 yt:∀b∈frs outer,H b=none
 hok:gf P w H s.heap
 bare:AllBare s.gens
def CE(outer:List Env)(P:bf)(w:aY)(H:Hp)(s:au)(Q:VK)(u:Value)(s':au):Prop:=
 ∃v H',s'.os=s.os∧AllBare s'.gens∧Un (frs outer) [] H H' s.heap s'.heap∧gf P w H' s'.heap∧RelV v u∧Q v H'
def CR(CX:oV)(outer:List Env)(P:bf)(w:aY)(H:Hp)(s:au)(Q:VK)(E:XK)(r:qx)(s':au):Prop:=
 match r with
 |.ok (.ret u)=>CE outer P w H s Q u s'
 |.ok _=>False
 |.error e=>CX outer H s E e s'
structure cY(P:bf)(w:aY)(K:aC)(mg:Str→Option Value)(base:aU)(CX:oV)(k:Nat)(f:aa)(fd:dg)(ps:List Str)(sp:Sp):Prop where
 len:∀vs H Q E,sp vs H Q E→vs.length=ps.length
 run:∀(A:bU)(outer:List Env)(s:au)(H:Hp)(args:Args)(us:List Value)(vs:List V)(Q:VK)(E:XK),gC k A→xZ P w K mg base A outer s H→xm s fd args (ps.zip us)→Vals vs us→sp vs H Q E→
  jR (model P w) A (.call (.ref f) args) (CR CX outer P w H s Q E) s
theorem cY.mono{P:bf}{w:aY}{K:aC}{mg:Str→Option Value}{base:aU}{CX:oV}{j k:Nat}{f:aa}{fd:dg}{ps:List Str}{sp:Sp}(F:cY P w K mg base CX j f fd ps sp)(h:j≤k):
  cY P w K mg base CX k f fd ps sp:=⟨F.len,fun A outer s H args us vs Q E hr=>F.run A outer s H args us vs Q E (hr.mono h)⟩
theorem cY.imp{P:bf}{w:aY}{K:aC}{mg:Str→Option Value}{base:aU}{CX:oV}{k:Nat}{f:aa}{fd:dg}{ps:List Str}{sp sp':Sp}(F:cY P w K mg base CX k f fd ps sp)
  (h:∀vs H Q E,sp' vs H Q E→sp vs H Q E):cY P w K mg base CX k f fd ps sp':=
 ⟨fun vs H Q E q=>F.len vs H Q E (h _ _ _ _ q),fun A outer s H args us vs Q E hr he hb hv hs=>F.run A outer s H args us vs Q E hr he hb hv (h _ _ _ _ hs)⟩
theorem xZ.in1{P:bf}{w:aY}{K:aC}{mg:Str→Option Value}{base:aU}{A:bU}{outer:List Env}{s:au}{H:Hp}(e:xZ P w K mg base A outer s H):
  xZ P w K mg base A.in1 outer s H:=⟨e.frames,e.mod,e.bs,e.sI,e.pO,e.yt,e.hok,e.bare⟩
section
variable{X:Cx}{pins:List (aa×Obj)}{σ:St}{H:Hp}{s s':au}
theorem Inv.env0(I:Inv X pins σ H s):xZ X.prog X.w X.K X.mg X.base X.A X.stack s H:=
 ⟨I.ok.frames,I.ok.mod,I.bs,jd I.ok.sI I.sz,I.stack,I.Y7,I.hok,I.bare⟩
theorem Inv.after{Q:VK}{u:Value}(I:Inv X pins σ H s)(h:CE X.stack X.prog X.w H s Q u s'):EP X pins σ Q u s':=by
 obtain⟨v,H',os,bare,un,hok,r,q⟩:=h
 obtain⟨hh,g,d,t,os'⟩:=s'
 obtain rfl:os'=s.os:=os
 exact⟨v,H',I.call (h':=hh) (g':=g) (d':=d) (t':=t) (ch:=[]) un hok bare (fun b z=>absurd z (by simp)),r,q⟩
end
def Q8(sp:Sp)(wj:List V)(E:XK)(t:TA):TE:=fun σ H Q=>t σ H fun vs H1=>sp (vs++wj) H1 Q E
def Binds(K:aC)(fd:dg)(ps:List Str)(ds:List Value):Prop:=
 ∀(s:au)(us:List Value),K.In s.heap→(us++ds).length=ps.length→xm s fd ⟨us,[]⟩ (ps.zip (us++ds))
theorem Binds.all{K:aC}{fd:dg}{ps:List Str}(h:∀us:List Value,us.length=ps.length→bindArgs fd ⟨us,[]⟩=pure (ps.zip us)):Binds K fd ps []:=fun s us _ hl=>by
 rw[jP] at hl⊢;exact .of_eq (h us hl)
def Passes(CX:oV)(X:Cx)(E:XK):Prop:=∀(pins:List (aa×Obj))(σ:St)(H:Hp)(s:au)(e:Value)(s':au),Inv X pins σ H s→CX X.stack H s E e s'→X.xe e s'
section
variable{X:Cx}{CX:oV}{k:Nat}{f C:aa}{fd:dg}{ps:List Str}{sp:Sp}{wj:List V}{ds:List Value}{E:XK}{x m:Str}{p pos apos:Pos}{e o:Expr}{es:List Expr}{ta:TE}{t:TA}
theorem ajI{pins:List (aa×Obj)}{σ:St}{H:Hp}{s:au}{Q:VK}{us:List Value}{vs:List V}(F:cY X.prog X.w X.K X.mg X.base CX k f fd ps sp)(hr:gC k X.A)(hb:Binds X.K fd ps ds)(hd:Vals wj ds)(hx:Passes CX X E)
  (I:Inv X pins σ H s)(r:Vals vs us)(h:sp (vs++wj) H Q E):aL (model X.prog X.w) X.A (call (.ref f) us) (EP X pins σ Q) X.xe s:=by
 have r2:Vals (vs++wj) (us++ds):=r.append hd;have hl:(us++ds).length=ps.length:=by rw[←r2.length];exact F.len _ _ _ _ h
 refine wpAny_call (Gq (F.run X.A X.stack s H ⟨us,[]⟩ (us++ds) (vs++wj) Q E hr I.env0 (hb s us I.gq hl) r2 h) fun r s' hq=>?_);cases r with
 |error e=>exact hx pins σ H s e s' I hq
 |ok fl=>
  cases fl with
  |ret u=>exact I.after hq
  |next=>exact qe hq
  |brk=>exact qe hq
  |cont=>exact qe hq
theorem aia(F:cY X.prog X.w X.K X.mg X.base CX k f fd ps sp)(hr:gC k X.A)(hg:Gl X x)(hm:X.mg x=some (.ref f))(hk:uV X.K (.ref f)=true)(hb:Binds X.K fd ps ds)(hd:Vals wj ds)(hx:Passes CX X E)
  (ha:PA X (e::es) t)(hdb:(x==("__debug__":Str))=false:=by decide)(he:aZ (e::es) X.env=(false,eval e X.env)::aZ es X.env:=by rfl)(hpl:(fK pos (aZ es X.env)).any (·.1)=false:=by rfl):
  PE X (.Call (.Name x p) (e::es) [] pos) (Q8 sp wj E t):=by
 intro pins s σ H Q I h;refine Ft (ah4 I hg hm ?_ hdb);refine PySem.W.callWith_K (h₀:=X.base) I.ok.mod.R7 hk (bu (ha pos pins s σ H _ I h) fun us s1 ⟨vs,H1,I1,r,q⟩=>⟨I1.gq,?_⟩) he hpl;exact ajI F hr hb hd hx I1 r q
structure Mk(K:aC)(C f:aa):Prop where
 makes:PySem.W.makesIn K C=true
 init:yP K (.ref C) "__init__"=some (some (.ref f))
 fn:aex K (.ref f)=true
 kp:uV K (.ref C)=true
end
section
variable{X:Cx}{CX:oV}{k:Nat}{f C:aa}{fd:dg}{ps ks:List Str}{sp:Sp}{E:XK}{x m:Str}{p pos apos kpos:Pos}{e o:Expr}{es:List Expr}{kws:List lM}{te ta:TE}{t tk:TA}{nm:Option Str}
structure an0(K:aC)(fd:dg)(ps ks:List Str)(g:List Value→List Value→List Value)(gV:List V→List V→List V):Prop where
 to:∀(s:au)(us ws:List Value),K.In s.heap→(g us ws).length=ps.length→xm s fd ⟨us,ks.zip ws⟩ (ps.zip (g us ws))
 rel:∀{vs:List V}{us:List Value}{zs:List V}{ws:List Value},Vals vs us→Vals zs ws→Vals (gV vs zs) (g us ws)
variable{g:List Value→List Value→List Value}{gV:List V→List V→List V}
end
structure gk(N P:List Str)(sc:iK):Prop where
 kind:sc.kind=.function
 co:sc.isCoroutine=false
 gen:sc.isGenerator=false
 nd:N.Nodup
 pre:N.take P.length=P
 par:∀x∈P,sc.names.lookup x=some .local∨sc.names.lookup x=some .cell
 ajJ:∀y∈sc.names,y.2≠.free
theorem W9{kindOf:Str→Option zq}{x:Str}:∀{binds:List (Str×Value)}{m:Str→Option Value},(∀v,(x,v)∉binds)→xN kindOf binds m x=m x
 |[],_,_=>rfl
 |(n,v)::r,m,h=>by
  unfold xN;rw[W9 fun w hw=>h w (eZ _ hw)];split
  ·have:x≠n:=by rintro rfl;exact h v fj
   simp[this]
  ·rfl
theorem Xa{kindOf:Str→Option zq}{x:Str}:∀{binds:List (Str×Value)}{m:Str→Option Value},(∀v,(x,v)∉binds)→xO kindOf binds m x=m x
 |[],_,_=>rfl
 |(n,v)::r,m,h=>by
  unfold xO;rw[Xa fun w hw=>h w (eZ _ hw)];split
  ·rfl
  ·have:x≠n:=by rintro rfl;exact h v fj
   simp[this]
theorem Xb{kindOf:Str→Option zq}{x:Str}{v:Value}:∀{P:List Str}{vs:List Value}{i:Nat}{m:Str→Option Value},P.Nodup→P[i]?=some x→vs[i]?=some v→kindOf x=some .local→
  xN kindOf (P.zip vs) m x=some v
 |[],_,_,_,_,h,_,_=>by simp at h
 |_::_,[],_,_,_,_,h,_=>by simp at h
 |p::P,w::vs,0,m,nd,h1,h2,hk=>by
  simp at h1 h2;subst h1;subst h2;show xN kindOf ((p,w)::P.zip vs) m p=_;unfold xN;rw[W9 fun v hv=>(jC.mp nd).1 (Vd hv).1,if_pos hk];simp
 |p::P,w::vs,i+1,m,nd,h1,h2,hk=>by
  show xN kindOf ((p,w)::P.zip vs) m x=_;unfold xN;exact Xb (i:=i) (jC.mp nd).2 (by simpa using h1) (by simpa using h2) hk
theorem Xc{kindOf:Str→Option zq}{x:Str}{v:Value}:∀{P:List Str}{vs:List Value}{i:Nat}{m:Str→Option Value},P.Nodup→P[i]?=some x→vs[i]?=some v→kindOf x≠some .local→
  xO kindOf (P.zip vs) m x=some v
 |[],_,_,_,_,h,_,_=>by simp at h
 |_::_,[],_,_,_,_,h,_=>by simp at h
 |p::P,w::vs,0,m,nd,h1,h2,hk=>by
  simp at h1 h2;subst h1;subst h2;show xO kindOf ((p,w)::P.zip vs) m p=_;unfold xO;rw[Xa fun v hv=>(jC.mp nd).1 (Vd hv).1,if_neg hk];simp
 |p::P,w::vs,i+1,m,nd,h1,h2,hk=>by
  show xO kindOf ((p,w)::P.zip vs) m x=_;unfold xO;exact Xc (i:=i) (jC.mp nd).2 (by simpa using h1) (by simpa using h2) hk
def start(N:List Str)(vs:List V):St:=vs.map some++cH (N.length-vs.length) none
def yc(CX:oV)(P:bf)(w:aY)(K:aC)(mg:Str→Option Value)(base:aU)(N:List Str)(qual:Str)(scope:iK)(f:aa)(cd:Value)(A:bU)(outer:List Env)(s:au)(H:Hp)(E:XK):Cx where
 prog:=P
 w:=w
 K:=K
 mg:=mg
 base:=base
 A:=A.deeper (envOfC qual scope s.heap.objs.size f cd)
 N:=N
 s₀:=s
 H₀:=H
 env:=envOfC qual scope s.heap.objs.size f cd
 outer:=outer
 stack:=envOfC qual scope s.heap.objs.size f cd::outer
 ex:=[]
 calm:=true
 fn:=fun _=>true
 pn:=[]
 xe:=fun e s'=>aL (model P w) (A.deeper (envOfC qual scope s.heap.objs.size f cd)) (leaving (envOfC qual scope s.heap.objs.size f cd) e) (fun _ s''=>CX outer H s E e s'') (fun e' s''=>CX outer H s E e' s'') s'
theorem X3{sc:iK}{n:Nat}{x:Str}(h:sc.names.lookup x=some .cell):∃c,(cellsFrom n sc.names []).lookup x=some c:=by
 have q:=acR sc.names n [] (.inl h);exact uL.mp q
theorem af3{CX:oV}{P:bf}{w:aY}{K:aC}{mg:Str→Option Value}{base:aU}{N ps:List Str}{qual:Str}{scope:iK}{f:aa}{cd:Value}{A:bU}{outer:List Env}{s s1:au}{H:Hp}{E:XK}{us:List Value}{vs:List V}
  (S:gk N ps scope)(hd:A.handled=none)(e0:xZ P w K mg base A outer s H)(hl:vs.length=ps.length)(r:Vals vs us)
  (x:InCallC s s.heap.objs.size (xN (envOfC qual scope s.heap.objs.size f cd).kindOf (ps.zip us) fun _=>none) (cellsFrom (s.heap.objs.size+1) scope.names []) (xO (envOfC qual scope s.heap.objs.size f cd).kindOf (ps.zip us) fun _=>none) s1):
  Inv (yc CX P w K mg base N qual scope f cd A outer s H E) [] (start N vs) H s1:=by
 have hpl:ps.length≤N.length:=by have:=congrArg o7 S.pre;rw[m7] at this;omega
 obtain⟨h1,tk,rfl,hk⟩:=x.done
 have Ef:∀b:aa,b∉(yc CX P w K mg base N qual scope f cd A outer s H E).ex:=fun b z=>absurd (show b∈([]:List aa) from z) (by simp)
 refine⟨⟨e0.mod,S.kind,rfl,rfl,bD _,fun y z c h1 h2=>?_,fun y hy=>?_,fun y c _ h=>?_,fun _=>hd,Around.frames_deeper e0.frames,.inr ⟨rfl,rfl⟩,fun b z=>absurd z (Ef b),e0.bs,e0.sI,fun b _ _=>Ef b,fun b z=>absurd z (Ef b),e0.pO,e0.yt⟩,
  rfl,e0.bare,Un.kept hk,⟨_,x.toInCall.ns,fun i y v h1 h2 h3=>?_⟩,fun y c h=>⟨_,x.cell y c h⟩,e0.hok.fresh (bD _),fun y c h=>?_,fun p hp=>absurd (show p∈([]:List (aa×Obj)) from hp) (by simp),e0.hok.kept hk,?_⟩
 ·exact name_of_addr x.apart (uP h1) (uP h2)
 ·have hy:scope.names.lookup y=some .cell∨scope.names.lookup y=some .free:=hy;rcases hy with hy|hy
  ·exact X3 hy
  ·exact absurd rfl (S.ajJ _ (uP hy))
 ·exact uZ (x.above y c (uP h))
 ·have hi:i<vs.length:=by
   unfold start at h2;by_cases hi:i<vs.length
   ·exact hi
   ·rw[nJ (by simpa using hi)] at h2;rw[T8] at h2;split at h2<;>cases h2
  have ha:vs[i]?=some v:=by
   unfold start at h2;rw[nM (by simpa using hi),fY] at h2;cases e:vs[i]? with
   |none=>rw[e] at h2;cases h2
   |some a=>rw[e] at h2;cases h2;rfl
  obtain⟨u,hu,rv⟩:=r.get ha
  have hp:ps[i]?=some y:=by
   rw[←S.pre,T4 (by omega)];exact h1
  have ndP:ps.Nodup:=by rw[←S.pre];exact S.nd.sublist (FJ _ _)
  refine⟨u,rv,?_⟩
  rcases S.par y (lV hp) with k|k
  ·exact .inl ⟨k,Xb ndP hp hu k⟩
  ·obtain⟨c,e⟩:=X3 (n:=s.heap.objs.size+1) k
   refine .inr ⟨.inl k,c,e,?_⟩;have q:=x.cell y c e;rw[Xc ndP hp hu (by show scope.names.lookup y≠_;rw[k];decide)] at q;exact q
 ·exact e0.hok.fresh (uZ (x.above y c (uP h)))
 ·unfold start;show _=N.length;rw[fO,aX,Ud];omega
theorem ak3{CX:oV}{P:bf}{w:aY}{K:aC}{mg:Str→Option Value}{base:aU}{k:Nat}{f:aa}{name qual:Str}{params:Arguments}{body:List cV}{scope:iK}{dV kV doc pm cdv ct oc:Value}{an od:Option aa}
  {osl:Array (Option Value)}{N ps:List Str}{sp:Sp}(lk:K.lookup f=some ⟨oc,od,.func (wW name qual params body scope dV kV doc pm an cdv ct),osl⟩)(hcd:KJ K cdv qual=true)(S:gk N ps scope)
  (len:∀vs H Q E,sp vs H Q E→vs.length=ps.length)
  (hbody:∀(A:bU)(outer:List Env)(s:au)(H:Hp)(vs:List V)(Q:VK)(E:XK),gC k (A.deeper (envOfC qual scope s.heap.objs.size f cdv))→sp vs H Q E→
   ∃t,iD (yc CX P w K mg base N qual scope f cdv A outer s H E) body t∧t {nx:=fun _ H'=>Q .non H',rt:=Q} (start N vs) H):
  cY P w K mg base CX (k+1) f (wW name qual params body scope dV kV doc pm an cdv ct) ps sp:=by
 refine⟨len,fun A outer s H args us vs Q E hr e0 hb r hsp=>?_⟩
 have hl:=len _ _ _ _ hsp;have KX:K.In s.heap:=e0.mod.R7.keeps fun b o e=>(e0.bs b o e).1
 have lim:s.heap.NoLimit:=e0.mod.nolimit.keeps fun b o e=>(e0.bs b o e).1
 have hkind:∀y∈ps.zip us,scope.names.lookup y.1=some .local∨(scope.names.lookup y.1=some .cell∧((cellsFrom (s.heap.objs.size+1) scope.names []).lookup y.1).isSome=true):=fun⟨n,v⟩ hy=>by
  rcases S.par n (Vd hy).1 with q|q
  ·exact .inl q
  ·exact .inr ⟨q,acR _ _ _ (.inl q)⟩
 refine codeAny_call_function hr.depth (KX _ _ lk) rfl S.co S.gen rfl (PySem.W.codeRec_of KX hcd) (hb _ _ _ _ ?_);refine wpAny_newFunctionEnv_cells S.kind hkind fun env he s1 x=>?_
 subst he
 refine⟨lim.keeps x.toInCall.keep,codeAny_func ?_⟩
 obtain⟨t,ht,hq⟩:=hbody A outer s H vs Q E (hr.deeper _) hsp
 have I:Inv (yc CX P w K mg base N qual scope f cdv A outer s H E) [] (start N vs) H s1:=af3 S hr.hd e0 hl r x;refine nW (ht [] s1 (start N vs) H _ I hq) (fun fl s' hs=>?_) fun e s' hs=>hs
 have fin:∀{σ':St}{H':Hp}{v:V}{u:Value},Inv (yc CX P w K mg base N qual scope f cdv A outer s H E) [] σ' H' s'→RelV v u→Q v H'→CE outer P w H s Q u s':=
  fun{σ' H' v u} J rv q=>⟨v,H',J.os,J.bare,J.base,J.hok,rv,q⟩
 cases fl with
 |ret u=>
  obtain⟨v,σ',H',J,rv,q⟩:=hs
  exact fin J rv q
 |next=>
  obtain⟨σ',H',J,q⟩:=hs
  exact fin (v:=V.non) (u:=o8) J rfl q
 |brk=>
  obtain⟨_,_,_,q⟩:=hs
  exact qe q
 |cont=>
  obtain⟨_,_,_,q⟩:=hs
  exact qe q
section
variable{X:Cx}{x:Str}{p pos:Pos}{e:Expr}{es:List Expr}{t:TA}{id T:String}{r:List V→Hp→VK→Prop}
def Sq(r:List V→Hp→VK→Prop)(t:TA):TE:=fun σ H Q=>t σ H fun vs H1=>r vs H1 Q
theorem Hr(hc:gQ X (.builtin id) r)(hg:Gl X x)(hm:X.mg x=none)(hv:rF x=some (.builtin id))(ha:PA X (e::es) t)(hn:x≠"__name__":=by decide)(hdb:(x==("__debug__":Str))=false:=by decide)
  (he:aZ (e::es) X.env=(false,eval e X.env)::aZ es X.env:=by rfl)(hpl:(fK pos (aZ es X.env)).any (·.1)=false:=by rfl):PE X (.Call (.Name x p) (e::es) [] pos) (Sq r t):=by
 intro pins s σ H Q I h;refine Ft (tY I hg hm hv ?_ hn hdb);exact TQ (bu (ha pos pins s σ H _ I h) fun us s1 ⟨vs,H1,I1,r1,q1⟩=>hc pins s1 σ H1 vs us Q I1 r1 q1) he hpl
theorem af4(hc:gQ X (.type T) r)(hg:Gl X x)(hm:X.mg x=none)(hv:rF x=some (.type T))(ha:PA X (e::es) t)(hn:x≠"__name__":=by decide)(hdb:(x==("__debug__":Str))=false:=by decide)
  (he:aZ (e::es) X.env=(false,eval e X.env)::aZ es X.env:=by rfl)(hpl:(fK pos (aZ es X.env)).any (·.1)=false:=by rfl):PE X (.Call (.Name x p) (e::es) [] pos) (Sq r t):=by
 intro pins s σ H Q I h;refine Ft (tY I hg hm hv ?_ hn hdb);exact Fb (bu (ha pos pins s σ H _ I h) fun us s1 ⟨vs,H1,I1,r1,q1⟩=>hc pins s1 σ H1 vs us Q I1 r1 q1) he hpl
end
end L2
namespace HT
open PySem PyProof.Rows
section
open PySem.SeqAt
open PySem.AutoSeq1 (wpAny_loadPart')
open PySem.MeetsSeq PySem.MeetsSeq2 PySem.MeetsSeq3
end
section
variable{prog:bf}{w:aY}{A:bU}{E:Value→au→Prop}{s:au}
theorem aib{t b:aa}{vs ws:List Value}{Q:Value→au→Prop}(ht:IsTup s.heap t vs.toArray)(hb:IsTup s.heap b ws.toArray)(hv:vs≠[])
  (h1:ws=[]→Q (.ref t) s)(h2:ws≠[]→Q (.ref s.heap.objs.size) {s with heap:=s.heap.push {cls:=.type "tuple",data:=.seq (vs++ws).toArray}})
  (hsz:vs.length+ws.length≤bJ):aL (model prog w) A (mF .Add (.ref t) (.ref b)) Q E s:=by
 obtain⟨⟨cls,dd,data,sl⟩,ho,hc,n,hd⟩:=id ht
 obtain⟨⟨cls2,dd2,data2,sl2⟩,ho2,hc2,n2,hd2⟩:=id hb
 simp only at hc hd hc2 hd2;subst hc hd hc2 hd2;have e:vs.toArray++ws.toArray=(vs++ws).toArray:=by simp
 by_cases hw:ws=[]
 ·exact V3 ⟨_,ho,rfl⟩ ⟨_,ho2,rfl⟩ U3 VG Ua T9 (T5 _ _)
   (tuple_addW1 t b vs.toArray ws.toArray n n2 dd dd2 sl sl2 (by simpa using hv) (by simp[hw])) ⟨ho,ho2,h1 hw⟩
 ·refine V3 ⟨_,ho,rfl⟩ ⟨_,ho2,rfl⟩ U3 VG Ua T9 (T5 _ _)
   (tuple_addW2 t b vs.toArray ws.toArray n n2 dd dd2 sl sl2 (by simpa using hv) (by simpa using hw) (by rw[fB,fB];exact hsz)) ⟨ho,ho2,?_⟩
  rw[e];exact h2 hw
def bQ(n d:Nat):Option Int→Nat
 |none=>d
 |some v=>if v<0 then(v+(n:Int)).toNat else min v.toNat n
theorem HR(n d k:Nat):bQ n d (some (k:Int))=min k n:=by
 show(if(k:Int)<0 then((k:Int)+(n:Int)).toNat else min (k:Int).toNat n)=min k n
 rw[if_neg (by omega),Al]
theorem ajK(n d:Nat)(hd:d≤n)(o:Option Int):bQ n d o≤n:=by
 cases o with
 |none=>exact hd
 |some v=>
  show(if v<0 then(v+(n:Int)).toNat else min v.toNat n)≤n
  by_cases hv:v<0
  ·rw[if_pos hv];omega
  ·rw[if_neg hv];exact Nat.min_le_right _ _
theorem Zb(v:Int)(n d:Nat):(if v<0 then max (v+(n:Int)) 0 else min v (n:Int))=((bQ n d (some v):Nat):Int):=by
 show(if v<0 then max (v+(n:Int)) 0 else min v (n:Int))=(((if v<0 then(v+(n:Int)).toNat else min v.toNat n):Nat):Int)
 by_cases hv:v<0
 ·simp only[if_pos hv];omega
 ·simp only[if_neg hv];omega
theorem afi(lo hi:Option Int)(n:Nat):TX lo hi 1 (n:Int)=(((bQ n 0 lo:Nat):Int),((bQ n n hi:Nat):Int)):=by
 have h1:¬((1:Int)<0):=by omega
 unfold TX;simp only[h1,if_false];refine Prod.ext ?_ ?_
 ·cases lo with
  |none=>rfl
  |some v=>exact Zb v n 0
 ·cases hi with
  |none=>rfl
  |some v=>exact Zb v n n
theorem afj(i j:Nat):J3 (i:Int) (j:Int) 1=j-i:=by
 unfold J3;have h1:(1:Int)>0:=by omega
 simp only[h1,if_true,Int.ediv_one];split<;>omega
theorem Ws{v:Value}{o:Option Int}{Q:Option Int→au→Prop}(p:rO v o)(h:Q o s):aL (model prog w) A (ank v) Q E s:=by
 cases p with
 |none=>exact slicePart_none h
 |int i t=>exact slicePart_int h
theorem U4{sl:aa}{vl vu:Value}{lo hi:Option Int}{n:Nat}{Q:Int×Int×Nat→au→Prop}(hs:s.heap.IsSliceOf sl vl vu .none)(pl:rO vl lo)(pu:rO vu hi)
  (h:Q (((bQ n 0 lo:Nat):Int),1,bQ n n hi-bQ n 0 lo) s):aL (model prog w) A (acE (.ref sl) (pure (n:Int))) Q E s:=by
 obtain⟨os,hos,hcs,hds⟩:=id hs
 unfold acE anC;refine aD (aD (Wi hos hds (x:=vl) rfl (aD (Wi hos hds (x:=vu) rfl (aD (Wi hos hds (x:=.none) rfl (aV ?_)))))));refine aD (slicePart_none ?_);show aL _ _ (if((1:Int)==0)=true then _ else _) _ _ s;rw[if_neg (by decide)];refine aD (Ws pl (aD (Ws pu (aD (aV ?_)))));show aL _ _ (match TX lo hi 1 (n:Int) with|(lo,hi)=>pure (lo,(1:Int),J3 lo hi 1)) _ _ s;rw[afi lo hi n];show aL _ _ (pure (((bQ n 0 lo:Nat):Int),(1:Int),J3 ((bQ n 0 lo:Nat):Int) ((bQ n n hi:Nat):Int) 1)) _ _ s;rw[afj];exact aV h
theorem ag0(xs:Array Value)(i k:Nat):((dz k).filterMap fun(m:Nat)=>xs[((i:Int)+(m:Int)*1).toNat]?).toArray=((xs.toList.drop i).take k).toArray:=by
 have e:(fun(m:Nat)=>xs[((i:Int)+(m:Int)*1).toNat]?)=fun m=>xs[i+m]?:=by
  funext m;have:((i:Int)+(m:Int)*1).toNat=i+m:=by omega
  rw[this]
 rw[e];have:=pick_run xs i k;rw[List.filterMap_map] at this;have e2:((fun x=>xs[x]?) ∘ fun x=>i+x)=fun m=>xs[i+m]?:=rfl
 rw[e2] at this;rw[this]
theorem adx{t sl:aa}{items:Array Value}{vl vu:Value}{lo hi:Option Int}{Q:Value→au→Prop}(ht:IsTup s.heap t items)(hs:s.heap.IsSliceOf sl vl vu .none)(pl:rO vl lo)(pu:rO vu hi)
  (hw:¬(bQ items.size 0 lo=0∧bQ items.size items.size hi=items.size))
  (h:Q (.ref s.heap.objs.size) {s with heap:=s.heap.push {cls:=.type "tuple",data:=.seq ((items.toList.drop (bQ items.size 0 lo)).take (bQ items.size items.size hi-bQ items.size 0 lo)).toArray}})
  (hsz:items.size≤bJ):aL (model prog w) A (vq (.ref t) (.ref sl)) Q E s:=by
 have Jf:sizeOk (.seq ((items.toList.drop (bQ items.size 0 lo)).take (bQ items.size items.size hi-bQ items.size 0 lo)).toArray):=by
  show((items.toList.drop (bQ items.size 0 lo)).take (bQ items.size items.size hi-bQ items.size 0 lo)).toArray.size≤bJ
  rw[fB,m7,Aq,ju];omega
 have hj:bQ items.size items.size hi≤items.size:=ajK _ _ (bD _) hi
 obtain⟨os,hos,hcs,hds⟩:=id hs
 have hTs:s.TypeIs (.ref sl) "slice":=⟨os,hos,hcs⟩
 unfold vq
 try with_reducible refine mj ?_
 first|refine aD (aV ?_)|skip
 refine aD (ady ht.typeIs (by decide) ?_);refine aD (Aj (name:=dU "__getitem__") ht.typeIs J0
  (p6 J0 ht.typeIs entry_tuple_getitem ?_ (args_tuple_getitem _ _)))
 show aL _ _ (acF (.ref t) >>= _) _ _ s;refine aD (tupleItemsOf_ ht ?_);refine aD (Gr hTs ?_);rw[if_pos (by decide)];refine aD (U4 hs pl pu ?_);have hno:¬((((bQ items.size 0 lo:Nat):Int)==0&&(1:Int)==1&&(bQ items.size items.size hi-bQ items.size 0 lo)==items.size)=true):=by
  intro q;rw[gH,gH] at q;have q1:((bQ items.size 0 lo:Nat):Int)=0:=eq_of_beq q.1.1;have q2:bQ items.size items.size hi-bQ items.size 0 lo=items.size:=eq_of_beq q.2;exact hw ⟨by omega,by omega⟩
 show aL _ _ (if(((bQ items.size 0 lo:Nat):Int)==0&&(1:Int)==1&&(bQ items.size items.size hi-bQ items.size 0 lo)==items.size)=true then _ else _) _ _ s;rw[if_neg hno,ag0]
 first
  |exact aD (m:=J4 _) (lX (aV ⟨_,rfl,aV h⟩) Jf)
  |exact aD (m:=J4 _) (lX (aD (aV (aV ⟨_,rfl,aV h⟩))) Jf)
  |exact aD (aD (m:=J4 _) (lX (aV (aV ⟨_,rfl,aV h⟩)) Jf))
  |exact aD (aD (m:=J4 _) (lX (aV ⟨_,rfl,aV h⟩) Jf))
end
end HT
namespace L2
open PySem PySem.Spec PyProof.Rows
abbrev TO:=St→Hp→(Option Int→Hp→Prop)→Prop
def PO(X:Cx)(e:Option Expr)(t:TO):Prop:=
 ∀(pins:List (aa×Obj))(s:au)(σ:St)(H:Hp)(Q:Option Int→Hp→Prop),Inv X pins σ H s→t σ H Q→
  aL (model X.prog X.w) X.A (evalPart e X.env) (fun u s'=>∃o H',Inv X pins σ H' s'∧rO u o∧Q o H') X.xe s
def aic:TO:=fun _ H Q=>Q none H
def ak4(t:TE):TO:=fun σ H Q=>t σ H fun x H1=>∃i,x=.int i∧Q (some i) H1
section
variable{X:Cx}{e:Expr}{te:TE}{lo hi:Option Expr}{tl th:TO}{pos p2:Pos}
theorem aid:PO X none aic:=by
 intro pins s σ H Q I h;rw[evalPart_none];exact aV ⟨none,H,I,.none,h⟩
theorem aie(h:PE X e te):PO X (some e) (ak4 te):=by
 intro pins s σ H Q I hw;rw[evalPart_some];refine bu (h pins s σ H _ I hw) fun u s1 aJ=>?_
 obtain⟨x,H1,I1,r1,q1⟩:=aJ
 obtain⟨i,rfl,q⟩:=q1
 obtain⟨t,rfl⟩:=r1
 exact⟨some i,H1,I1,.int i t,q⟩
def uG(X:Cx)(r:V→Option Int→Option Int→Hp→VK→Prop):Prop:=
 ∀(pins:List (aa×Obj))(s:au)(σ:St)(H:Hp)(x:V)(v vl vu:Value)(lo hi:Option Int)(sl:aa)(Q:VK),Inv X pins σ H s→RelV x v→s.heap.IsSliceOf sl vl vu .none→rO vl lo→rO vu hi→r x lo hi H Q→
  ∃T id,typeLookup (.type T) "__getitem__"=pure (some (.builtin id))∧s.TypeIs v T∧aL (model X.prog X.w) X.A (vq v (.ref sl)) (EP X pins σ Q) X.xe s
theorem uG.or{r r':V→Option Int→Option Int→Hp→VK→Prop}(h:uG X r)(h':uG X r'):uG X (fun x lo hi H Q=>r x lo hi H Q∨r' x lo hi H Q):=by
 intro pins s σ H x v vl vu lo hi sl Q I rx hs pl pu q;rcases q with q|q
 ·exact h pins s σ H x v vl vu lo hi sl Q I rx hs pl pu q
 ·exact h' pins s σ H x v vl vu lo hi sl Q I rx hs pl pu q
def tSl(r:V→Option Int→Option Int→Hp→VK→Prop)(te:TE)(tl th:TO):TE:=fun σ H Q=>te σ H fun x H1=>tl σ H1 fun l H2=>th σ H2 fun u H3=>r x l u H3 Q
theorem ag1{r:V→Option Int→Option Int→Hp→VK→Prop}(hr:uG X r)(he:PE X e te)(hl:PO X lo tl)(hu:PO X hi th):PE X (.Subscript e (.Slice lo hi none p2) pos) (tSl r te tl th):=by
 intro pins s σ H Q I h;refine Subscript_ (bu (he pins s σ H _ I h) fun v s1 aJ=>?_)
 obtain⟨x,H1,I1,r1,q1⟩:=aJ
 refine wpAny_Slice (bu (hl pins s1 σ H1 _ I1 q1) fun vl s2 ⟨l,H2,I2,pl,q2⟩=>bu (hu pins s2 σ H2 _ I2 q2) fun vu s3 aJ=>?_)
 obtain⟨u,H3,I3,pu,q3⟩:=aJ
 rw[evalPart_none];refine aV ?_;have I4:Inv X pins σ H3 {s3 with heap:=s3.heap.push {cls:=.type "slice",data:=.fields #[vl,vu,.none]}}:=I3.kept (t':=s3.toks) fun b ob q=>cB _ q
 obtain⟨T,id,hT,ht,hg⟩:=hr pins {s3 with heap:=s3.heap.push {cls:=.type "slice",data:=.fields #[vl,vu,.none]}} σ H3 x v vl vu l u s3.heap.objs.size Q I4 r1 (anY ..) pl pu q3
 show aL (model X.prog X.w) X.A (subscriptTail e (.Slice lo hi none p2) v (.ref s3.heap.objs.size)) (EP X pins σ Q) X.xe {s3 with heap:=s3.heap.push {cls:=.type "slice",data:=.fields #[vl,vu,.none]}};exact tail_any (ops:=[.ref s3.heap.objs.size,v]) ht hT hg (by with_unfolding_all rfl)
def qN(xs:List V)(lo hi:Option Int):List V:=(xs.drop (HT.bQ xs.length 0 lo)).take (HT.bQ xs.length xs.length hi-HT.bQ xs.length 0 lo)
theorem Wj(xs:List V)(lo hi:Option Int):(qN xs lo hi).length≤xs.length:=by
 unfold qN;rw[m7,Aq];omega
def alK(K:aC):V→Option Int→Option Int→Hp→VK→Prop:=fun x lo hi H Q=>∃a xs,x=.ref a∧cF K H a xs∧
 ¬(HT.bQ xs.length 0 lo=0∧HT.bQ xs.length xs.length hi=xs.length)∧∀p,H p=none→Q (.ref p) (upd H p (.tup (qN xs lo hi)))
theorem ajL:uG X (alK X.K):=by
 intro pins s σ H x v vl vu lo hi sl Q I rx hs pl pu h
 obtain⟨a,xs,rfl,hx,hw,q⟩:=h
 cases rx
 obtain⟨its,r,ht,hz⟩:=I.tuple hx
 have hlen:its.toArray.size=xs.length:=by rw[fB];exact r.length.symm
 refine⟨"tuple",_,PyProof.Rows.slot_tuple_getitem.lookup,ht.typeIs,?_⟩
 refine HT.adx ht hs pl pu (by rw[hlen];exact hw) ?_ (by rw[hlen];exact hz);rw[hlen]
 refine⟨.ref s.heap.objs.size,_,I.laid (t':=s.toks) (o:=.tup (qN xs lo hi)) (fun b ob q=>cB _ q) (bD _) ?_,rfl,q _ (I.hok.fresh (bD _))⟩
 exact⟨jd (Wj xs lo hi) hz,_,(r.drop (HT.bQ xs.length 0 lo)).take (HT.bQ xs.length xs.length hi-HT.bQ xs.length 0 lo),IsTup.new _ _⟩
def aaT(K:aC):R2:=fun x y H Q=>∃a b xs ys,x=.ref a∧y=.ref b∧cF K H a xs∧cF K H b ys∧xs≠[]∧xs.length+ys.length≤bJ∧
 (ys=[]→Q (.ref a) H)∧(ys≠[]→∀p,H p=none→Q (.ref p) (upd H p (.tup (xs++ys))))
theorem Vals.O8{xs:List V}{us:List Value}(r:Vals xs us):us=[]↔xs=[]:=by
 cases r with
 |nil=>simp
 |cons _ _=>simp
theorem aif:cz X (mF .Add) (aaT X.K):=by
 intro pins s σ H x y v u Q I rx ry h
 obtain⟨a,b,xs,ys,rfl,rfl,ha,hb,hx,hz,q1,q2⟩:=h
 cases rx;cases ry
 obtain⟨its,r1,p1,_⟩:=I.tuple ha
 obtain⟨its2,r2,p2,_⟩:=I.tuple hb
 refine HT.aib p1 p2 (fun z=>hx (r1.O8.mp z)) (fun z=>⟨.ref a,H,I,rfl,q1 (r2.O8.mp z)⟩) (fun z=>?_) (by rw[←r1.length,←r2.length];exact hz)
 refine⟨.ref s.heap.objs.size,_,I.laid (t':=s.toks) (o:=.tup (xs++ys)) (fun b ob q=>cB _ q) (bD _) ?_,rfl,q2 (fun w=>z (r2.O8.mpr w)) _ (I.hok.fresh (bD _))⟩
 exact⟨by rw[fO];exact hz,_,r1.append r2,IsTup.new _ _⟩
end
def mX(n:Nat)(i:Int):Option Nat:=if 0≤i then(if i<n then some i.toNat else none) else if -(n:Int)≤i then some (i+n).toNat else none
def eN{α:Type}(xs:List α)(i:Int):Option α:=(mX xs.length i).bind fun j=>xs[j]?
theorem Zc{n:Nat}{i:Int}{j:Nat}(h:mX n i=some j):M7 i n=some j∧j<n∧-(n:Int)≤i∧i<n:=by
 unfold mX at h;by_cases h0:0≤i
 ·rw[if_pos h0] at h;by_cases h1:i<n
  ·rw[if_pos h1] at h;have e:i.toNat=j:=fP h
   exact⟨by rw[Wk h0 h1,e],by omega,by omega,h1⟩
  ·rw[if_neg h1] at h;cases h
 ·rw[if_neg h0] at h;by_cases h1:-(n:Int)≤i
  ·rw[if_pos h1] at h;have e:(i+n).toNat=j:=fP h
   exact⟨by rw[V4 (by omega) h1,e],by omega,h1,by omega⟩
  ·rw[if_neg h1] at h;cases h
theorem O9{α:Type}{xs:List α}{i:Int}{v:α}(h:eN xs i=some v):∃j,M7 i xs.length=some j∧xs[j]?=some v∧j<xs.length∧-(xs.length:Int)≤i∧i<xs.length:=by
 unfold eN at h;cases e:mX xs.length i with
 |none=>rw[e] at h;cases h
 |some j=>
  rw[e] at h
  obtain⟨h1,h2,h3,h4⟩:=Zc e
  exact⟨j,h1,h,h2,h3,h4⟩
theorem vz{α:Type}{xs:List α}{j:Nat}{v:α}(h:xs[j]?=some v):eN xs (j:Int)=some v:=by
 have hj:j<xs.length:=(iG.mp h).1;have e:mX xs.length (j:Int)=some j:=by
  unfold mX;rw[if_pos (by omega),if_pos (by omega)];simp
 unfold eN;rw[e];exact h
def HS(b:Expr):Prop:=∀o i,Wl b false o i=operate [o,i] (vq o i)
def pU(X:Cx)(r:R2):Prop:=
 ∀(value slice:Expr)(pins:List (aa×Obj))(s:au)(σ:St)(H:Hp)(x y:V)(v u:Value)(Q:VK),Inv X pins σ H s→RelV x v→RelV y u→r x y H Q→
  Wl slice false v u=operate [v,u] (vq v u)→aL (model X.prog X.w) X.A (subscriptTail value slice v u) (EP X pins σ Q) X.xe s
def Ad(X:Cx)(id:String)(r:V→List V→Hp→VK→Prop):Prop:=
 ∀(pins:List (aa×Obj))(s:au)(σ:St)(H:Hp)(x:V)(xs:List V)(v:Value)(us:List Value)(Q:VK),Inv X pins σ H s→RelV x v→Vals xs us→r x xs H Q→
  aL (model X.prog X.w) X.A (call (.builtin id) (v::us)) (EP X pins σ Q) X.xe s
section
variable{X:Cx}{a b:Expr}{ta tb:TE}{pos:Pos}
theorem pU.or{r r':R2}(h:pU X r)(h':pU X r'):pU X (fun x y H Q=>r x y H Q∨r' x y H Q):=by
 intro value slice pins s σ H x y v u Q I rx ry q hs;rcases q with q|q
 ·exact h value slice pins s σ H x y v u Q I rx ry q hs
 ·exact h' value slice pins s σ H x y v u Q I rx ry q hs
theorem Ad.or{id:String}{r r':V→List V→Hp→VK→Prop}(h:Ad X id r)(h':Ad X id r'):Ad X id (fun x xs H Q=>r x xs H Q∨r' x xs H Q):=by
 intro pins s σ H x xs v us Q I rx rs q;rcases q with q|q
 ·exact h pins s σ H x xs v us Q I rx rs q
 ·exact h' pins s σ H x xs v us Q I rx rs q
theorem Q9{r:R2}(hr:pU X r)(ha:PE X a ta)(hb:PE X b tb)(hs:HS b):PE X (.Subscript a b pos) (Ed r ta tb):=by
 intro pins s σ H Q I h;exact Subscript_ (RB ha hb I h fun v u s2 x y H2 I2 rx ry q=>hr a b pins s2 σ H2 x y v u Q I2 rx ry q (hs _ _))
def abk(K:aC):R2:=fun x y H Q=>∃p xs i v,x=.ref p∧y=.int i∧bC K H p xs∧eN xs i=some v∧Q v H
def abl(K:aC):R2:=fun x y H Q=>∃p xs i v,x=.ref p∧y=.int i∧cF K H p xs∧eN xs i=some v∧Q v H
def abm:R2:=fun x y H Q=>∃z i c,x=.str z∧y=.int i∧z.length≤bJ∧eN z.cps.toList i=some c∧Q (.str ⟨#[c]⟩) H
theorem Pa:pU X (abk X.K):=by
 intro value slice pins s σ H x y v u Q I rx ry h hs
 obtain⟨p,xs,i,z,rfl,rfl,hq,he,q⟩:=h
 cases rx
 obtain⟨t,rfl⟩:=ry
 obtain⟨its,r,pl,hz⟩:=I.list hq
 obtain⟨j,h1,h2,h3,h4,h5⟩:=O9 he
 obtain⟨w,ew,rw'⟩:=r.get h2
 have hl:=r.length;have hn:=xF;have fin:EP X pins σ Q w s:=⟨z,H,I,rw',q⟩
 by_cases h0:0≤i
 ·have hj:i.toNat=j:=by
   rw[Wk h0 h5] at h1;exact fP h1
  exact item_listR pl.isList h0 (by omega) (by rw[hj];simpa using ew) fin hs
 ·have hj:(i+(its.toArray.size:Int)).toNat=j:=by
   rw[V4 (by omega) h4] at h1;rw[fB,←hl];exact fP h1
  exact subscriptTail_builtinR (x:=w) pl.isList.typeIs slot_list_getitem.lookup
   (wpAny_getItem_list_neg (Q:=fun r s'=>r=w∧EP X pins σ Q r s') pl.isList (by omega) (by rw[fB]<;>omega) (by omega) (by rw[hj];simpa using ew) ⟨rfl,fin⟩) hs
theorem ajM:pU X (abl X.K):=by
 intro value slice pins s σ H x y v u Q I rx ry h hs
 obtain⟨p,xs,i,z,rfl,rfl,hq,he,q⟩:=h
 cases rx
 obtain⟨t,rfl⟩:=ry
 obtain⟨its,r,pl,hz⟩:=I.tuple hq
 obtain⟨j,h1,h2,h3,h4,h5⟩:=O9 he
 obtain⟨w,ew,rw'⟩:=r.get h2
 have hl:=r.length;have hn:=xF;have fin:EP X pins σ Q w s:=⟨z,H,I,rw',q⟩
 exact subscriptTail_builtinR (x:=w) pl.typeIs slot_tuple_getitem.lookup
  (getItem_tuple (j:=j) (Q:=fun r s'=>r=w∧EP X pins σ Q r s') pl (by omega) (by omega) (by rw[fB,←hl];exact h1) (by simpa using ew) ⟨rfl,fin⟩) hs
theorem ajN:pU X abm:=by
 intro value slice pins s σ H x y v u Q I rx ry h hs
 obtain⟨z,i,c,rfl,rfl,hz,he,q⟩:=h
 obtain⟨t,rfl⟩:=rx
 obtain⟨t',rfl⟩:=ry
 obtain⟨j,h1,h2,h3,h4,h5⟩:=O9 he
 have hl:z.cps.toList.length=z.length:=by simp[Str.length]
 rw[hl] at h1 h4 h5;have hn:=xF;exact tail_any (Wt s z t) slot_str_getitem.lookup (getItem_str (c:=c) (by
  have e1:decide (i< -(2^63:Int))=false:=decide_eq_false (by omega);have e2:decide (i≥2^63)=false:=decide_eq_false (by omega);rw[e1,e2,Bool.or_false]) (by rw[h1];simpa using h2) ⟨.str ⟨#[c]⟩,H,I.tok _,⟨_,rfl⟩,q⟩) hs
def rIx(K:aC):R2:=fun x y H Q=>abk K x y H Q∨abl K x y H Q∨abm x y H Q
theorem ajO:pU X (rIx X.K):=Pa.or (ajM.or ajN)
theorem afk(its:List Value)(n j:Nat)(u:Value):kO (·.setIfInBounds j u) {cls:=.type "list",data:=.seq its.toArray n}={cls:=.type "list",data:=.seq (its.set j u).toArray n}:=by
 simp[kO]
theorem Inv.lst{pins:List (aa×Obj)}{σ:St}{H:Hp}{s:au}{p:aa}{xs:List V}(I:Inv X pins σ H s)(h:H p=some (.lst xs)):
  ∃(its:List Value)(n:Nat),Vals xs its∧s.heap.get? p=some {cls:=.type "list",data:=.seq its.toArray n}∧xs.length≤bJ:=by
 obtain⟨z,its,n,r,e⟩:=I.hok p _ h
 exact⟨its,n,r,e,z⟩
theorem Inv.ajP{pins:List (aa×Obj)}{σ:St}{H:Hp}{s:au}{p:aa}{xs ys:List V}{its its':List Value}{n n':Nat}{f:Obj→Obj}(I:Inv X pins σ H s)(h:H p=some (.lst xs))
  (ho:s.heap.get? p=some {cls:=.type "list",data:=.seq its.toArray n})(hf:f {cls:=.type "list",data:=.seq its.toArray n}={cls:=.type "list",data:=.seq its'.toArray n'})(r:Vals ys its')(hz:ys.length≤bJ)(t:Nat):
  Inv X pins σ (upd H p (.lst ys)) {s with heap:=s.heap.update p f,toks:=t}:=by
 have e:(s.heap.update p f).get? p=some {cls:=.type "list",data:=.seq its'.toArray n'}:=by
  rw[yF f ho (by rw[hf]<;>rfl),hf]
 refine I.write (x:=p) (e:=p) (by rw[h];trivial) (.inl rfl) (fun b u hb q=>(rB _ _ (jE hb)).trans q) ⟨_,e⟩ ?_
 exact⟨hz,its',n',r,e⟩
def Ra:V→V→V→Hp→(Hp→Prop)→Prop:=fun o i v H Q=>∃p xs k j,o=.ref p∧i=.int k∧H p=some (.lst xs)∧mX xs.length k=some j∧Q (upd H p (.lst (xs.set j v)))
theorem set_list:uw X Ra:=by
 intro pins s σ H o i v ov iv u Q I ro ri rv h
 obtain⟨p,xs,k,j,rfl,rfl,hp,hj,q⟩:=h
 cases ro
 obtain⟨t,rfl⟩:=ri
 obtain⟨its,n,r,ho,hz⟩:=I.lst hp
 obtain⟨h1,h2,h3,h4⟩:=Zc hj
 have hl:=r.length;have hn:=xF;have I':Inv X pins σ (upd H p (.lst (xs.set j v))) {s with heap:=s.heap.update p (kO (·.setIfInBounds j u))}:=
  I.ajP hp ho (afk its n j u) (r.set rv j) (by rw[uT];exact hz) s.toks
 by_cases h0:0≤k
 ·have hk:k.toNat=j:=by
   rw[Wk h0 h4] at h1;exact fP h1
  exact PySem.W.ki_setAt ho h0 (by omega) (by rw[fB,←hl];exact h4) (by rw[hk];exact⟨_,I',q⟩)
 ·have hk:(k+(its.toArray.size:Int)).toNat=j:=by
   rw[V4 (by omega) h3] at h1;rw[fB,←hl];exact fP h1
  exact PySem.W.ki_setBack ho (by omega) (by rw[fB,←hl];exact h3) (by omega) (by rw[hk];exact⟨_,I',q⟩)
theorem aey(lo hi:Option Int)(n:Nat):(za lo hi none n).1=((HT.bQ n 0 lo:Nat):Int)∧(za lo hi none n).2.1=((HT.bQ n n hi:Nat):Int)∧(za lo hi none n).2.2=1:=by
 refine⟨?_,?_,rfl⟩
 ·cases lo with
  |none=>simp[za,HT.bQ]
  |some i=>
   simp only[za,HT.bQ,adO,show(1:Int)>0 by decide,if_true];by_cases h:i<0
   ·simp only[h,if_true]<;>omega
   ·simp only[h,if_false]<;>omega
 ·cases hi with
  |none=>simp[za,HT.bQ]
  |some i=>
   simp only[za,HT.bQ,adO,show(1:Int)>0 by decide,if_true];by_cases h:i<0
   ·simp only[h,if_true]<;>omega
   ·simp only[h,if_false]<;>omega
theorem aej(its:List Value)(lo hi:Option Int):slicePick its.toArray lo hi none=((its.drop (HT.bQ its.length 0 lo)).take (HT.bQ its.length its.length hi-HT.bQ its.length 0 lo)).toArray:=by
 obtain⟨h1,h2,h3⟩:=aey lo hi its.toArray.size
 unfold slicePick;rw[h1,h2,h3];simp only[sliceRange_one,pick_run,fB]<;>rfl
def alL(K:aC):V→Option Int→Option Int→Hp→VK→Prop:=fun x lo hi H Q=>∃a xs,x=.ref a∧bC K H a xs∧∀p,H p=none→Q (.ref p) (upd H p (.lst (qN xs lo hi)))
theorem aih:uG X (alL X.K):=by
 intro pins s σ H x v vl vu lo hi sl Q I rx hs pl pu h
 obtain⟨a,xs,rfl,hx,q⟩:=h
 cases rx
 obtain⟨its,r,ht,hz⟩:=I.list hx
 have hlen:=r.length
 refine⟨"list",_,slot_list_getitem.lookup,ht.isList.typeIs,?_⟩
 refine wpAny_getItem_list_slice ht.isList hs pl pu .none (by simp) ?_ (by rw[fB]<;>omega);rw[aej,←hlen]
 refine⟨.ref s.heap.objs.size,_,I.laid (t':=s.toks) (o:=.lst (qN xs lo hi)) (fun b ob q=>cB _ q) (bD _) ?_,rfl,q _ (I.hok.fresh (bD _))⟩
 exact⟨jd (Wj xs lo hi) hz,_,0,(r.drop (HT.bQ xs.length 0 lo)).take (HT.bQ xs.length xs.length hi-HT.bQ xs.length 0 lo),gF _ rfl⟩
def oE:V→Bool
 |.non=>true
 |.bl _=>true
 |.int _=>true
 |.str _=>true
 |_=>false
def qU:V→V→Bool
 |.non,.non=>true
 |.bl a,.bl b=>a==b
 |.bl a,.int b=>(if a then 1 else 0)==b
 |.int a,.bl b=>a==(if b then 1 else 0)
 |.int a,.int b=>a==b
 |.str a,.str b=>a==b
 |_,_=>false
theorem Qt{A:bU}{s:au}{y x:V}{u v:Value}(ry:RelV y u)(rx:RelV x v)(fy:oE y=true)(fx:oE x=true):G3 A s u v (qU y x):=by
 cases y with
 |non=>
  cases ry;cases x with
  |non=>cases rx;exact adY _
  |bl b=>cases rx;exact SeqAt.EqAt.none_bool b
  |int b=>obtain⟨t,rfl⟩:=rx;exact SeqAt.EqAt.none_int b t
  |str b=>obtain⟨t,rfl⟩:=rx;exact SeqAt.EqAt.none_str b t
  |_=>exact absurd (show false=true from fx) gG
 |bl a=>
  cases ry;cases x with
  |non=>cases rx;exact SeqAt.EqAt.bool_none a
  |bl b=>cases rx;exact SeqAt.EqAt.bool_bool a b
  |int b=>obtain⟨t,rfl⟩:=rx;exact SeqAt.EqAt.bool_int a b t
  |str b=>obtain⟨t,rfl⟩:=rx;exact SeqAt.EqAt.bool_str a b t
  |_=>exact absurd (show false=true from fx) gG
 |int a=>
  obtain⟨t',rfl⟩:=ry
  cases x with
  |non=>cases rx;exact SeqAt.EqAt.int_none a t'
  |bl b=>cases rx;exact SeqAt.EqAt.int_bool a t' b
  |int b=>obtain⟨t,rfl⟩:=rx;exact adl a t' b t
  |str b=>obtain⟨t,rfl⟩:=rx;exact adf a t' b t
  |_=>exact absurd (show false=true from fx) gG
 |str a=>
  obtain⟨t',rfl⟩:=ry
  cases x with
  |non=>cases rx;exact SeqAt.EqAt.str_none a t'
  |bl b=>cases rx;exact SeqAt.EqAt.str_bool a t' b
  |int b=>obtain⟨t,rfl⟩:=rx;exact adg a t' b t
  |str b=>obtain⟨t,rfl⟩:=rx;exact SeqAt.EqAt.str_str a t' b t
  |_=>exact absurd (show false=true from fx) gG
 |_=>exact absurd (show false=true from fy) gG
def mY(x:V)(u:Value):Bool:=match u with
 |.none=>qU .non x
 |.bool b=>qU (.bl b) x
 |.int i _=>qU (.int i) x
 |.str z _=>qU (.str z) x
 |_=>false
theorem aae{x y:V}{u:Value}(r:RelV y u)(f:oE y=true):mY x u=qU y x:=by
 cases y with
 |non=>cases r;rfl
 |bl b=>cases r;rfl
 |int i=>obtain⟨t,rfl⟩:=r;rfl
 |str z=>obtain⟨t,rfl⟩:=r;rfl
 |_=>exact absurd (show false=true from f) gG
theorem BR{x:V}:∀{xs:List V}{us:List Value},Vals xs us→xs.all oE=true→us.any (mY x)=xs.any fun y=>qU y x
 |_,_,.nil,_=>rfl
 |y::xs,u::us,.cons r t,f=>by
  rw[K9,gH] at f;rw[Gi,Gi,aae r f.1,BR t f.2]
theorem Bv{A:bU}{s:au}{x:V}{v:Value}(rx:RelV x v)(fx:oE x=true):∀{xs:List V}{us:List Value},Vals xs us→xs.all oE=true→∀u∈us,G3 A s u v (mY x u)
 |_,_,.nil,_=>fun u hu=>by cases hu
 |y::xs,u::us,.cons r t,f=>fun u' hu=>by
  rw[K9,gH] at f;rcases bL.mp hu with rfl|hu
  ·rw[aae r f.1];exact Qt r rx f.1 fx
  ·exact Bv rx fx t f.2 u' hu
def inV(x:V)(xs:List V):Bool:=xs.any fun y=>qU y x
def JG(K:aC)(neg:Bool):R2:=fun x y H Q=>∃p xs,y=.ref p∧(bC K H p xs∨cF K H p xs)∧oE x=true∧xs.all oE=true∧Q (.bl (if neg then !inV x xs else inV x xs)) H
theorem af5:cz X (dH .In) (JG X.K false):=by
 intro pins s σ H x y v u Q I rx ry h
 obtain⟨p,xs,rfl,hq,fx,fs,q⟩:=h
 cases ry;rcases hq with hq|hq
 ·obtain⟨its,r,pl,hz⟩:=I.list hq
  refine SeqAt.in_listAt (mY x) pl.isList (fun w hw=>Bv rx fx r fs w (by simpa using hw)) ⟨.bl _,H,I,rfl,?_⟩;rw[show its.toArray.any (mY x)=its.any (mY x) by simp,BR r fs];exact q
 ·obtain⟨its,r,pl,hz⟩:=I.tuple hq
  refine SeqAt.in_tupleAt (mY x) pl (fun w hw=>Bv rx fx r fs w (by simpa using hw)) ⟨.bl _,H,I,rfl,?_⟩;rw[show its.toArray.any (mY x)=its.any (mY x) by simp,BR r fs];exact q
theorem aez:cz X (dH .NotIn) (JG X.K true):=by
 intro pins s σ H x y v u Q I rx ry h
 obtain⟨p,xs,rfl,hq,fx,fs,q⟩:=h
 cases ry;rcases hq with hq|hq
 ·obtain⟨its,r,pl,hz⟩:=I.list hq
  refine SeqAt.notIn_listAt (mY x) pl.isList (fun w hw=>Bv rx fx r fs w (by simpa using hw)) ⟨.bl _,H,I,rfl,?_⟩;rw[show its.toArray.any (mY x)=its.any (mY x) by simp,BR r fs];exact q
 ·obtain⟨its,r,pl,hz⟩:=I.tuple hq
  refine SeqAt.notIn_tupleAt (mY x) pl (fun w hw=>Bv rx fx r fs w (by simpa using hw)) ⟨.bl _,H,I,rfl,?_⟩;rw[show its.toArray.any (mY x)=its.any (mY x) by simp,BR r fs];exact q
theorem V5:gQ X (.builtin "len") (fun xs H Q=>∃p ys,xs=[.ref p]∧(bC X.K H p ys∨cF X.K H p ys)∧Q (.int ys.length) H):=by
 intro pins s σ H xs us Q I r h
 obtain⟨p,ys,rfl,hq,q⟩:=h
 obtain⟨u,rfl,rx⟩:=vals1 r
 cases rx;have hn:=xF;rcases hq with hq|hq
 ·obtain⟨its,r',pl,hz⟩:=I.list hq
  have hlen:=r'.length;exact Calls.call_len_list pl.isList (by simp only[fB]<;>omega) ⟨.int ys.length,H,I.tok _,⟨s.toks+1,by rw[fB,hlen]⟩,q⟩
 ·obtain⟨its,r',pl,hz⟩:=I.tuple hq
  have hlen:=r'.length;exact len_tuple pl (by simp only[fB]<;>omega) ⟨.int ys.length,H,I.tok _,⟨s.toks+1,by rw[fB,hlen]⟩,q⟩
theorem aeA:gQ X (.builtin "len") (fun xs H Q=>∃z,xs=[.str z]∧z.length≤bJ∧Q (.int z.length) H):=by
 intro pins s σ H xs us Q I r h
 obtain⟨z,rfl,hz,q⟩:=h
 obtain⟨u,rfl,t,rfl⟩:=vals1 r
 have hn:=xF;exact len_str (by omega) ⟨.int z.length,H,I.tok _,⟨_,rfl⟩,q⟩
theorem gQ.or{f:Value}{r r':List V→Hp→VK→Prop}(h:gQ X f r)(h':gQ X f r'):gQ X f (fun xs H Q=>r xs H Q∨r' xs H Q):=by
 intro pins s σ H xs us Q I rs q;rcases q with q|q
 ·exact h pins s σ H xs us Q I rs q
 ·exact h' pins s σ H xs us Q I rs q
theorem aeB:gQ X (.type "list") (fun xs H Q=>∃p ys,xs=[.ref p]∧(bC X.K H p ys∨cF X.K H p ys)∧∀l,H l=none→Q (.ref l) (upd H l (.lst ys))):=by
 intro pins s σ H xs us Q I r h
 obtain⟨p,ys,rfl,hq,q⟩:=h
 obtain⟨u,rfl,rx⟩:=vals1 r
 cases rx;have fin:∀(its:List Value),Vals ys its→ys.length≤bJ→∀(h':aU)(c':Nat),(∀b o',s.heap.get? b=some o'→h'.get? b=some o')→
   h'.get? s.heap.objs.size=some {cls:=.type "list",dict:=none,data:=.seq its.toArray c',slots:=#[]}→EP X pins σ Q (.ref s.heap.objs.size) {s with heap:=h'}:=fun its r' hz h' c' kp e=>
  ⟨.ref s.heap.objs.size,_,I.laid (t':=s.toks) kp (bD _) (show dO X.prog X.w _ h' _ (.lst ys) from⟨hz,its,c',r',e⟩),rfl,q _ (I.hok.fresh (bD _))⟩
 rcases hq with hq|hq
 ·obtain⟨its,r',pl,hz⟩:=I.list hq
  have hlen:=r'.length
  obtain⟨o,ho,hc,n,hd⟩:=pl.isList
  exact call_list_seq p (.inl rfl) ho hc hd (fun h' c' kp e=>fin its r' hz h' c' kp e) (by simp only[fB]<;>omega)
 ·obtain⟨its,r',pl,hz⟩:=I.tuple hq
  have hlen:=r'.length
  obtain⟨o,ho,hc,n,hd⟩:=pl
  exact call_list_seq p (.inr rfl) ho hc hd (fun h' c' kp e=>fin its r' hz h' c' kp e) (by simp only[fB]<;>omega)
theorem VH:gQ X (.type "tuple") (fun xs H Q=>∃p ys,xs=[.ref p]∧((bC X.K H p ys∧∀l,H l=none→Q (.ref l) (upd H l (.tup ys)))∨(cF X.K H p ys∧Q (.ref p) H))):=by
 intro pins s σ H xs us Q I r h
 obtain⟨p,ys,rfl,h⟩:=h
 obtain⟨u,rfl,rx⟩:=vals1 r
 cases rx;rcases h with⟨hq,q⟩|⟨hq,q⟩
 ·obtain⟨its,r',pl,hz⟩:=I.list hq
  have hlen:=r'.length;refine call_tuple_list pl.isList (fun h' kp=>?_) (by simp only[fB]<;>omega);have I1:Inv X pins σ H {s with heap:=h'}:=I.kept (t':=s.toks) kp;have I2:Inv X pins σ (upd H h'.objs.size (.tup ys)) {s with heap:=h'.push {cls:=.type "tuple",data:=.seq its.toArray}}:=
   I1.laid (t':=s.toks) (fun b o e=>cB _ e) (bD _) (show dO X.prog X.w _ _ _ (.tup ys) from⟨hz,its,r',IsTup.new _ _⟩)
  exact⟨.ref h'.objs.size,_,I2,rfl,q _ (I1.hok.fresh (bD _))⟩
 ·obtain⟨its,r',pl,hz⟩:=I.tuple hq
  exact call_tuple_same pl ⟨.ref p,H,I,rfl,q⟩
def tyV(K:aC)(T:String)(x:V)(H:Hp):Prop:=match x with
 |.str _=>T="str"
 |.int _=>T="int"
 |.ref p=>(T="list"∧∃xs,bC K H p xs)∨(T="tuple"∧∃o,K.lookup p=some o∧o.cls=.type "tuple"∧o.dict=none)∨
   (T="dict"∧((∃kvs,H p=some (.dK kvs))∨∃kvs,H p=some (.dT kvs)))∨(T="set"∧∃S n,H p=some (.set S n))
 |_=>False
theorem ajQ{pins:List (aa×Obj)}{σ:St}{H:Hp}{s:au}{T:String}{x:V}{v:Value}(I:Inv X pins σ H s)(r:RelV x v)(ty:tyV X.K T x H):
  s.TypeIs v T∧∀a,v=.ref a→∃ob,s.heap.get? a=some ob∧ob.dict=none:=by
 cases x with
 |str z=>
  obtain⟨t,rfl⟩:=r
  cases(show T="str" from ty)
  exact⟨Wt s z t,fun _ e=>nomatch e⟩
 |int i=>
  obtain⟨t,rfl⟩:=r
  cases(show T="int" from ty)
  exact⟨Wu s i t,fun _ e=>nomatch e⟩
 |ref p=>
  cases r;rcases ty with⟨rfl,xs,hq⟩|⟨rfl,o,hk,hc,hd⟩|⟨rfl,hk⟩|⟨rfl,S,n,hk⟩
  ·obtain⟨its,_,pl,_⟩:=I.list hq
   refine⟨pl.isList.typeIs,fun a e=>?_⟩
   cases e
   obtain⟨o,n,e,c,hd,_⟩:=pl
   exact⟨o,e,hd⟩
  ·refine⟨⟨o,I.gq p o hk,hc⟩,fun a e=>?_⟩
   cases e
   exact⟨o,I.gq _ o hk,hd⟩
  ·have z:∃o,s.heap.get? p=some o∧o.ExactDict:=by
    rcases hk with⟨kvs,hk⟩|⟨kvs,hk⟩
    ·obtain⟨_,_,_,_,o,_,_,e,ex,_⟩:=I.hok p _ hk
     exact⟨o,e,ex⟩
    ·obtain⟨_,_,_,_,o,_,_,e,ex,_⟩:=I.hok p _ hk
     exact⟨o,e,ex⟩
   obtain⟨o,e,ex⟩:=z
   refine⟨⟨o,e,ex.1⟩,fun a e2=>?_⟩
   cases e2
   exact⟨o,e,ex.2.1⟩
  ·obtain⟨o,_,_,_,e,ex,_⟩:=I.hok p _ hk
   refine⟨⟨o,e,ex.1⟩,fun a e2=>?_⟩
   cases e2
   exact⟨o,e,ex.2.1⟩
 |_=>exact qe ty
def tBM(K:aC)(T:String)(r:V→List V→Hp→VK→Prop)(to:TE)(t:TA):TE:=fun σ H Q=>to σ H fun x H1=>tyV K T x H1∧t σ H1 fun xs H2=>r x xs H2 Q
variable{o e:Expr}{es:List Expr}{to:TE}{t:TA}{name:Str}{apos cpos:Pos}{T id:String}{r:V→List V→Hp→VK→Prop}
theorem Dg(pa:PlainAttrs T)(slot:Slot T name id)(hty:typeOf (.builtin id)=pure (.type "method_descriptor"))(hm:Ad X id r)(ho:PE X o to)(ha:PA X (e::es) t)
  (hbase:tK o name X.env (eval o X.env)=eval o X.env:=by rfl)
  (hfew:((fK cpos (aZ (e::es) X.env)).all (fun x=>!x.1)&&(xj cpos (wX [] X.env)).all (fun x=>x.1.isSome)
   &&decide ((e::es).length+([]:List lM).length+(if([]:List lM).isEmpty then 0 else 1)<30))=true:=by rfl)
  (hline:(apos.endLine==cpos.line)=true:=by rfl)(hs:aZ (e::es) X.env=(false,eval e X.env)::aZ es X.env:=by rfl)(hplain:(fK cpos (aZ es X.env)).any (·.1)=false:=by rfl):
  PE X (.Call (.Attribute o name apos) (e::es) [] cpos) (tBM X.K T r to t):=by
 intro pins s σ H Q I h;refine wpAny_Call_method_late hbase hfew hline rfl (bu (ho pins s σ H _ I h) fun v s1 aJ=>?_)
 obtain⟨x,H1,I1,r1,ty,q1⟩:=aJ
 obtain⟨h1,h2⟩:=ajQ I1 r1 ty
 refine⟨T,id,pa,slot,hty,h1,h2,?_⟩
 have hA:=ha cpos pins s1 σ H1 _ I1 q1;rw[hs] at hA⊢;refine acS (by show(false||(fK cpos (aZ es X.env)).any (·.1))=false;rw[hplain]<;>rfl) (ac4 ?_);exact bu hA fun us s2 ⟨vs,H2,I2,r2,q2⟩=>hm pins s2 σ H2 x vs v us Q I2 r1 r2 q2
end
def qW(X:Cx)(id:String)(r:V→List V→Hp→VK→Prop):Prop:=
 ∀(pins:List (aa×Obj))(s:au)(σ:St)(H:Hp)(x:V)(xs:List V)(v:Value)(us:List Value)(Q:VK),Inv X pins σ H s→RelV x v→Vals xs us→r x xs H Q→
  aL (model X.prog X.w) X.A (call (.builtin id) (v::us)) (EP X pins σ Q) X.xe s
theorem Vals.one:∀{x:V}{us:List Value},Vals [x] us→∃u,us=[u]∧RelV x u
 |_,_,.cons r .nil=>⟨_,rfl,r⟩
theorem Vals.two:∀{x y:V}{us:List Value},Vals [x,y] us→∃u v,us=[u,v]∧RelV x u∧RelV y v
 |_,_,_,.cons r (.cons q .nil)=>⟨_,_,rfl,r,q⟩
theorem Vals.eraseIdx:∀{xs:List V}{us:List Value}(i:Nat),Vals xs us→Vals (xs.eraseIdx i) (us.eraseIdx i)
 |_,_,_,.nil=>.nil
 |_,_,0,.cons _ t=>t
 |_,_,i+1,.cons r t=>.cons r (Vals.eraseIdx i t)
theorem Vals.reverse{xs:List V}{us:List Value}(h:Vals xs us):Vals xs.reverse us.reverse:=by
 induction h with
 |nil=>exact .nil
 |cons r t ih=>rw[Kh,Kh];exact Vals.append ih (.cons r .nil)
theorem Vals.rep{xs:List V}{us:List Value}(h:Vals xs us):∀k:Nat,Vals (cH k xs).flatten (cH k us).flatten
 |0=>.nil
 |k+1=>by
  rw[sX,sX,Am,Am];exact Vals.append h (Vals.rep h k)
theorem Xd{α:Type}:∀(l:List α)(i:Nat),(l.eraseIdx i).length≤l.length
 |[],_=>bD _
 |_::_,0=>Bm _
 |_::r,i+1=>U5 (Xd r i)
theorem foldl_rep(its:List Value):∀(k:Nat)(acc:List Value),
  Wv (fun x1 x2=>x1++x2) acc.toArray (cH k its.toArray)=(acc++(cH k its).flatten).toArray
 |0,acc=>by simp
 |k+1,acc=>by
  have e:acc.toArray++its.toArray=(acc++its).toArray:=by simp
  have e2:(acc++its)++(cH k its).flatten=acc++(cH (k+1) its).flatten:=by
   rw[sX,Am,j0]
  rw[←e2,←foldl_rep its k (acc++its),←e,sX,Av]
section
variable{X:Cx}{pins:List (aa×Obj)}{σ:St}{H:Hp}{s:au}{l b:aa}{xs ys zs:List V}
theorem Inv.RL{its its':List Value}{n:Nat}{f:Array Value→Array Value}{t':Nat}(I:Inv X pins σ H s)(hH:H l=some (.lst xs))
  (e:s.heap.get? l=some {cls:=.type "list",data:=.seq its.toArray n})(hf:f its.toArray=its'.toArray)(hv:Vals ys its')(hz:ys.length≤bJ):
  Inv X pins σ (upd H l (.lst ys)) {s with heap:=s.heap.update l (kO f),toks:=t'}:=by
 have q:=PySem.IsL.update e f;rw[hf] at q;refine I.write (x:=l) (e:=l) (by rw[hH];exact trivial) (.inl rfl) (fun b' u hb hu=>(rB s.heap (kO f) (jE hb)).trans hu) ⟨_,q⟩ ?_
 exact⟨hz,its',_,hv,q⟩
theorem Inv.abn{its:List Value}{t':Nat}(I:Inv X pins σ H s)(hv:Vals ys its)(hz:ys.length≤bJ):
  Inv X pins σ (upd H s.heap.objs.size (.lst ys)) {s with heap:=s.heap.push {cls:=.type "list",data:=.seq its.toArray},toks:=t'}:=
 I.laid (fun _ _ q=>cB _ q) (bD _) ⟨hz,its,0,hv,gF _ rfl⟩
theorem Inv.fresh(I:Inv X pins σ H s):H s.heap.objs.size=none:=I.hok.fresh (bD _)
theorem Inv.ye(I:Inv X pins σ H s)(hH:H l=some (.lst xs)):xs.length≤bJ∧∃(its:List Value)(n:Nat),Vals xs its∧xs.length=its.length∧s.heap.get? l=some {cls:=.type "list",data:=.seq its.toArray n}:=by
 obtain⟨z,its,n,r,e⟩:=I.hok l _ hH
 exact⟨z,its,n,r,r.length,e⟩
theorem X4{n:Nat}(h:n≤bJ):J5 n=false:=by
 unfold J5;exact decide_eq_false (by omega)
end
section
variable{X:Cx}
def aii:V→List V→Hp→VK→Prop:=fun x vs H Q=>∃l xs y,x=.ref l∧vs=[y]∧H l=some (.lst xs)∧xs.length<bJ∧Q .non (upd H l (.lst (xs++[y])))
theorem M8:qW X "list.append" aii:=by
 intro pins s σ H x vs v us Q I rx rv h
 obtain⟨l,xs,y,rfl,rfl,hH,hz,q⟩:=h
 cases rx
 obtain⟨u,rfl,ru⟩:=rv.one
 obtain⟨z,its,n,r,hl,e⟩:=I.ye hH
 refine G4 Uo ⟨_,e,rfl⟩ F.entry_list_append (F.args_list_append_2 _ _) (PySem.list_append l its.toArray n u (by rw[fB];omega)) ⟨e,?_⟩
 refine⟨.non,_,I.RL (its':=its++[u]) hH e (by simp) (r.append (.cons ru .nil)) ?_,rfl,q⟩
 rw[fO,List.length_singleton];omega
def aij:V→List V→Hp→VK→Prop:=fun x vs H Q=>∃l b xs zs,x=.ref l∧vs=[.ref b]∧H l=some (.lst xs)∧H b=some (.lst zs)∧xs.length+zs.length≤bJ∧Q .non (upd H l (.lst (xs++zs)))
theorem af6:qW X "list.extend" aij:=by
 intro pins s σ H x vs v us Q I rx rv h
 obtain⟨l,b,xs,zs,rfl,rfl,hH,hB,hz,q⟩:=h
 cases rx
 obtain⟨u,rfl,ru⟩:=rv.one
 cases ru
 obtain⟨z,its,n,r,hl,e⟩:=I.ye hH
 obtain⟨z2,its2,n2,r2,hl2,e2⟩:=I.ye hB
 have hsz:its.toArray.size+its2.toArray.size≤bJ:=by rw[fB,fB];omega
 have Rb:¬(!its.toArray.isEmpty&&J5 (its.toArray.size+its2.toArray.size))=true:=by
  rw[X4 hsz,Bool.and_false];exact gG
 refine G4 adm ⟨_,e,rfl⟩ F.entry_list_extend (F.args_list_extend_2 _ _)
  (AutoSeq1.list_extend_list_list_0 l its.toArray n b its2.toArray n2 Rb (by rw[fB];omega) (by omega)) ⟨e,e2,?_⟩
 refine⟨.non,_,I.RL (its':=its++its2) hH e (by simp) (r.append r2) ?_,rfl,q⟩
 rw[fO];omega
def ajR:V→List V→Hp→VK→Prop:=fun x vs H Q=>∃l xs i k y,x=.ref l∧vs=[.int i]∧H l=some (.lst xs)∧-(2^63)≤i∧i<2^63∧M7 i xs.length=some k∧xs[k]?=some y∧Q y (upd H l (.lst (xs.eraseIdx k)))
theorem ag2:qW X "list.pop" ajR:=by
 intro pins s σ H x vs v us Q I rx rv h
 obtain⟨l,xs,i,k,y,rfl,rfl,hH,h1,h2,hk,hy,q⟩:=h
 cases rx
 obtain⟨u,rfl,ru⟩:=rv.one
 obtain⟨t,rfl⟩:=ru
 obtain⟨z,its,n,r,hl,e⟩:=I.ye hH
 obtain⟨w,hw,rw'⟩:=r.get hy
 refine G4 adZ ⟨_,e,rfl⟩ F.entry_list_pop (F.args_list_pop_2 _ _)
  (MeetsSeq.list_pop_at l its.toArray n i t k w (fitsIndex_both h1 h2) (by rw[fB,←hl];exact hk) (by rw[←J9];exact hw) (by rw[fB];omega)) ⟨e,?_⟩
 refine⟨y,_,I.RL (its':=its.eraseIdx k) hH e ?_ (r.eraseIdx k) ?_,rw',q⟩
 ·show its.toArray.eraseIdxIfInBounds k=(its.eraseIdx k).toArray;rw[List.eraseIdxIfInBounds_toArray]
 ·have:=Xd xs k;omega
def abo:R2:=fun x y H Q=>∃l b xs zs,x=.ref l∧y=.ref b∧H l=some (.lst xs)∧H b=some (.lst zs)∧xs.length+zs.length≤bJ∧∀p,H p=none→Q (.ref p) (upd H p (.lst (xs++zs)))
theorem ajS:cz X (mF .Add) abo:=by
 intro pins s σ H x y v u Q I rx ry h
 obtain⟨l,b,xs,zs,rfl,rfl,hH,hB,hz,q⟩:=h
 cases rx;cases ry
 obtain⟨z,its,n,r,hl,e⟩:=I.ye hH
 obtain⟨z2,its2,n2,r2,hl2,e2⟩:=I.ye hB
 refine PySem.P.add_list e e2 ?_ (by rw[fB,fB];omega);have ea:its.toArray++its2.toArray=(its++its2).toArray:=by simp
 rw[ea]
 exact⟨.ref _,_,I.abn (t':=s.toks) (r.append r2) (by rw[fO];omega),rfl,q _ I.fresh⟩
def abp:R2:=fun x y H Q=>∃l k xs,x=.ref l∧y=.int k∧H l=some (.lst xs)∧-(2^63)≤k∧k<2^63∧xs.length*k.toNat≤bJ∧
 ∀p,H p=none→Q (.ref p) (upd H p (.lst (cH k.toNat xs).flatten))
theorem len_rep{α:Type}(xs:List α)(k:Nat):(cH k xs).flatten.length=k*xs.length:=by
 induction k with
 |zero=>simp
 |succ k ih=>rw[sX,Am,fO,ih,aeC,Nat.add_comm]
theorem ajT:cz X (mF .Mult) abp:=by
 intro pins s σ H x y v u Q I rx ry h
 obtain⟨l,k,xs,rfl,rfl,hH,h1,h2,hz,q⟩:=h
 cases rx
 obtain⟨t,rfl⟩:=ry
 obtain⟨z,its,n,r,hl,e⟩:=I.ye hH
 have hlen:its.toArray.size*k.toNat≤bJ:=by rw[fB,←hl];exact hz
 have hcap:¬its.toArray.size*k.toNat>(2^63-1) / 8:=by
  have:(bJ:Nat)≤(2^63-1) / 8:=by decide
  omega
 have hfit:¬(!Builtin.List.listFitsIndex k)=true:=by
  rw[fitsIndex_both h1 h2];exact gG
 have Rb:¬J5 (its.toArray.size*k.toNat)=true:=by
  rw[X4 hlen];exact gG
 have hnew:Wv (fun x1 x2=>x1++x2) #[] (cH (if its.toArray.isEmpty=true then 0 else k.toNat) its.toArray)=(cH k.toNat its).flatten.toArray:=by
  have f0:∀m:Nat,Wv (fun x1 x2=>x1++x2) #[] (cH m its.toArray)=(cH m its).flatten.toArray:=fun m=>by
   have:=foldl_rep its m [];rw[jc] at this;exact this
  rw[f0];cases its with
  |nil=>simp
  |cons a r'=>rw[if_neg (by simp)]
 refine wpAny_binaryOp_repeat_ref (T:="list") (U:="int") (by decide) ⟨_,e,rfl⟩ (fun s'=>Wu s' k t) noFill_list_mul F.fills_int_mul ad0 repeat_list F.slot_int_index.lookup
  (G4 ad0 (Wu s k t) F.entry_int_rmul (F.args_int_rmul_2 _ _) (int___rmul___int_list k t l its.toArray n)
   ⟨e,rfl,⟨_,e,rfl⟩,G4 F.slot_list_mul ⟨_,e,rfl⟩ F.entry_list_mul (F.args_list_mul_2 _ _) (AutoListH.list___mul___list_int_3 l its.toArray n k t hfit hcap Rb) ⟨e,?_⟩⟩)
 rw[hnew]
 exact⟨.ref _,_,I.abn (t':=s.toks) (r.rep k.toNat) (by rw[len_rep,Nat.mul_comm];exact hz),rfl,q _ I.fresh⟩
end
section
variable{prog:bf}{w:aY}{A:bU}{E:Value→au→Prop}{s:au}
set_option maxRecDepth 100000 in
end
section
variable{X:Cx}
end
section
variable{κ:Type}[DecidableEq κ]
def lO(kvs:List (κ×V))(k:κ):Option V:=(kvs.find? fun kv=>decide (kv.1=k)).map (·.2)
def putK(kvs:List (κ×V))(k:κ)(v:V):List (κ×V):=
 if(kvs.any fun kv=>decide (kv.1=k))=true then kvs.map (fun kv=>if kv.1=k then(kv.1,v) else kv) else kvs++[(k,v)]
def aaU(kvs:List (κ×V))(k:κ):List (κ×V):=kvs.filter fun kv=>decide (kv.1≠k)
theorem Hs{p:κ×V}{r:List (κ×V)}{k:κ}(e:p.1=k):lO (p::r) k=some p.2:=by simp[lO,nP,e]
theorem Ht{p:κ×V}{r:List (κ×V)}{k:κ}(e:¬p.1=k):lO (p::r) k=lO r k:=by simp[lO,nP,e]
theorem X5(k:κ):∀kvs:List (κ×V),(kvs.any fun kv=>decide (kv.1=k))=(lO kvs k).isSome
 |[]=>rfl
 |p::r=>by
  rw[Gi];by_cases e:p.1=k
  ·simp only[Hs e,decide_eq_true e,Bool.true_or,Ak]
  ·rw[Ht e,decide_eq_false e,Bool.false_or];exact X5 k r
theorem GD(kvs:List (κ×V))(k:κ)(v:V):(putK kvs k v).length≤kvs.length+1:=by
 unfold putK;split
 ·rw[aX];omega
 ·rw[fO,cN,Aw];omega
theorem oH.Bt{o:Option V}{u:Option Value}(r:oH o u):o.isSome=u.isSome:=by
 cases o with
 |none=>cases u with
  |none=>rfl
  |some _=>exact(show False from r).elim
 |some _=>cases u with
  |none=>exact(show False from r).elim
  |some _=>rfl
theorem oH.getD{o:Option V}{u:Option Value}{d:V}{d':Value}(r:oH o u)(rd:RelV d d'):RelV (o.getD d) (u.getD d'):=by
 cases o with
 |none=>cases u with
  |none=>exact rd
  |some _=>exact(show False from r).elim
 |some _=>cases u with
  |none=>exact(show False from r).elim
  |some _=>exact r
theorem KV.val{kvs:List (κ×V)}{vs:List (κ×Value)}(r:KV kvs vs)(k:κ):oH (lO kvs k) (zx vs k):=by
 unfold KV at r;induction r with
 |nil=>exact kJ
 |@cons p q ps qs h t ih=>
  obtain⟨h1,h2⟩:=h
  by_cases e:p.1=k
  ·have e':q.1=k:=h1.symm.trans e;have b:zx (q::qs) k=some q.2:=by simp[zx,nP,e']
   rw[Hs e,b];exact h2
  ·have e':¬q.1=k:=fun z=>e (h1.trans z)
   have b:zx (q::qs) k=zx qs k:=by simp[zx,nP,e']
   rw[Ht e,b];exact ih
theorem KV.any{kvs:List (κ×V)}{vs:List (κ×Value)}(r:KV kvs vs)(k:κ):(kvs.any fun kv=>decide (kv.1=k))=vs.any fun kv=>decide (kv.1=k):=by
 unfold KV at r;induction r with
 |nil=>rfl
 |cons h t ih=>rw[Gi,Gi,ih,h.1]
theorem KV.repl{kvs:List (κ×V)}{vs:List (κ×Value)}(r:KV kvs vs)(k:κ){y:V}{u:Value}(ry:RelV y u):
  KV (kvs.map fun kv=>if kv.1=k then(kv.1,y) else kv) (vs.map fun kv=>if kv.1=k then(kv.1,u) else kv):=by
 unfold KV at r⊢;induction r with
 |nil=>exact .nil
 |@cons p q ps qs h t ih=>
  rw[cj,cj];refine .cons ?_ ih
  obtain⟨h1,h2⟩:=h
  by_cases e:p.1=k
  ·rw[if_pos e,if_pos (h1.symm.trans e)];exact⟨h1,ry⟩
  ·rw[if_neg e,if_neg (fun z=>e (h1.trans z))];exact⟨h1,h2⟩
theorem KV.put{kvs:List (κ×V)}{vs:List (κ×Value)}(r:KV kvs vs)(k:κ){y:V}{u:Value}(ry:RelV y u):KV (putK kvs k y) (stored vs k u):=by
 unfold putK stored;rw[r.any k];by_cases e:(vs.any fun kv=>decide (kv.1=k))=true
 ·rw[if_pos e,if_pos e];exact r.repl k ry
 ·rw[if_neg e,if_neg e];exact Paired.snoc r ⟨rfl,ry⟩
theorem KV.drop{kvs:List (κ×V)}{vs:List (κ×Value)}(r:KV kvs vs)(k:κ):KV (aaU kvs k) (without vs k):=by
 unfold KV at r⊢;unfold aaU without;induction r with
 |nil=>exact .nil
 |@cons p q ps qs h t ih=>
  obtain⟨h1,h2⟩:=h
  rw[Ko,Ko];by_cases e:p.1=k
  ·have a:¬decide (p.1≠k)=true:=by simp[e]
   have b:¬decide (q.1≠k)=true:=by simp[h1.symm.trans e]
   rw[if_neg a,if_neg b];exact ih
  ·have e':¬q.1=k:=fun z=>e (h1.trans z)
   have a:decide (p.1≠k)=true:=by simp[e]
   have b:decide (q.1≠k)=true:=by simp[e']
   rw[if_pos a,if_pos b];exact .cons ⟨h1,h2⟩ ih
theorem KV.length{kvs:List (κ×V)}{vs:List (κ×Value)}(r:KV kvs vs):kvs.length=vs.length:=Paired.length r
end
theorem vH{P:bf}{w:aY}{k:Key}{u:Value}(r:RelV (kV k) u):(iu P w).is k u=true:=by
 cases k with
 |inl i=>obtain⟨t,e⟩:=(show ∃t,u=G9 i t from r);subst e;exact aeX P w i t
 |inr x=>obtain⟨t,e⟩:=(show ∃t,u=Hf x t from r);subst e;exact aeY P w x t
theorem ajU{a b:Key}(e:kV a=kV b):a=b:=by
 cases a with
 |inl i=>cases b with
  |inl j=>have e':V.int i=V.int j:=e;injection e' with e';rw[e']
  |inr y=>exact nomatch(show V.int i=V.str y from e)
 |inr x=>cases b with
  |inl j=>exact nomatch(show V.str x=V.int j from e)
  |inr y=>have e':V.str x=V.str y:=e;injection e' with e';rw[e']
theorem Zd:∀{a b:List Key},a.map kV=b.map kV→a=b
 |[],[],_=>rfl
 |[],_::_,e=>by simp at e
 |_::_,[],e=>by simp at e
 |x::xs,y::ys,e=>by
  rw[cj,cj] at e;injection e with e1 e2
  rw[ajU e1,Zd e2]
theorem Xe{P:bf}{w:aY}:∀{ks:List Key}{us:List Value},Vals (ks.map kV) us→ItemsAre (iu P w) ks us
 |[],_,r=>by rw[kI] at r;cases r;exact .nil
 |k::ks,_,r=>by
  rw[cj] at r;cases r with
  |cons h t=>exact .cons (vH h) (Xe t)
abbrev KT(H:Hp):List (List Key×V)→List (List Key×aa×Value)→Prop:=Paired fun p q=>p.1=q.1∧H q.2.1=some (.tup (p.1.map kV))∧RelV p.2 q.2.2
theorem KT.val{H:Hp}{kvs:List (List Key×V)}{xs:List (List Key×aa×Value)}(r:KT H kvs xs)(k:List Key):oH (lO kvs k) ((vI xs k).map (·.2)):=by
 induction r with
 |nil=>exact kJ
 |@cons p q ps qs h t ih=>
  obtain⟨h1,_,h2⟩:=h
  by_cases e:p.1=k
  ·have e':q.1=k:=h1.symm.trans e;have b:vI (q::qs) k=some q.2:=by simp[vI,nP,e']
   rw[Hs e,b];exact h2
  ·have e':¬q.1=k:=fun z=>e (h1.trans z)
   have b:vI (q::qs) k=vI qs k:=by simp[vI,nP,e']
   rw[Ht e,b];exact ih
theorem KT.repl{H:Hp}{kvs:List (List Key×V)}{xs:List (List Key×aa×Value)}(r:KT H kvs xs)(k:List Key){y:V}{u:Value}(ry:RelV y u):
  KT H (kvs.map fun kv=>if kv.1=k then(kv.1,y) else kv) (xs.map (putAt k u)):=by
 induction r with
 |nil=>exact .nil
 |@cons p q ps qs h t ih=>
  rw[cj,cj];refine .cons ?_ ih
  obtain⟨h1,h2,h3⟩:=h
  unfold putAt;by_cases e:p.1=k
  ·rw[if_pos e,if_pos (h1.symm.trans e)];exact⟨h1,h2,ry⟩
  ·rw[if_neg e,if_neg (fun z=>e (h1.trans z))];exact⟨h1,h2,h3⟩
theorem KT.put{H:Hp}{kvs:List (List Key×V)}{xs:List (List Key×aa×Value)}(r:KT H kvs xs)(k:List Key){b:aa}{y:V}{u:Value}(hb:H b=some (.tup (k.map kV)))(ry:RelV y u):
  KT H (putK kvs k y) (storedH xs k b u):=by
 have e:(kvs.any fun kv=>decide (kv.1=k))=(vI xs k).isSome:=by
  rw[X5,(r.val k).Bt,FP]
 unfold putK storedH;rw[e];by_cases q:(vI xs k).isSome=true
 ·rw[if_pos q,if_pos q];exact r.repl k ry
 ·rw[if_neg q,if_neg q];exact Paired.snoc r ⟨rfl,hb,ry⟩
theorem KT.keeps{H H':Hp}{kvs:List (List Key×V)}{xs:List (List Key×aa×Value)}(r:KT H kvs xs)(ht:∀b ys,H b=some (.tup ys)→H' b=some (.tup ys)):KT H' kvs xs:=
 Paired.Rw r fun _ _ z=>⟨z.1,ht _ _ z.2.1,z.2.2⟩
section
variable{P:bf}{w:aY}{H:Hp}{h:aU}{a:aa}
theorem aaV{u:HO}(ok:gf P w H h)(e:Rd H a u):dO P w H h a u:=e.ok ok
theorem vJ{kvs:List (Key×V)}(ok:gf P w H h)(e:Rd H a (.dK kvs)):kvs.length≤bJ∧(a==rG)=false∧∃vs,KV kvs vs∧h.DictOf (iu P w) a vs:=
 show dO P w H h a (.dK kvs) from aaV ok e
theorem Jg{kvs:List (Key×V)}(ok:gf P w H h)(e:H a=some (.dK kvs)):kvs.length≤bJ∧(a==rG)=false∧∃vs,KV kvs vs∧h.DictOf (iu P w) a vs:=vJ ok (.inl e)
theorem zH{ks:List Key}(ok:gf P w H h)(e:H a=some (.tup (ks.map kV))):(Bs (iu P w)).is h ks a:=by
 obtain⟨_,its,r,o,h1,h2,n,h3⟩:=(show dO P w H h a (.tup (ks.map kV)) from ok a _ e)
 exact⟨o,its.toArray,n,h1,h2,h3,by simpa using Xe r⟩
theorem xP{kvs:List (List Key×V)}(ok:gf P w H h)(e:Rd H a (.dT kvs)):kvs.length≤bJ∧(a==rG)=false∧
  ∃xs,KT H kvs xs∧h.DictOfH (Bs (iu P w)) a xs:=by
 obtain⟨z,y,xs,r,o,es,ep,h1,h2,h3,h4,h5⟩:=(show dO P w H h a (.dT kvs) from aaV ok e)
 refine⟨z,y,xs,r,o,es,ep,h1,h2,h3,h4,fun x hx=>?_,h5⟩
 have all:∀{l:List (List Key×V)}{m:List (List Key×aa×Value)},KT H l m→∀x∈m,(Bs (iu P w)).is h x.1 x.2.1:=by
  intro l m q;induction q with
  |nil=>intro x hx;exact nomatch hx
  |@cons p q ps qs hq t ih=>
   intro x hx;rcases bL.mp hx with e|hx
   ·subst e;exact zH ok (by rw[←hq.1];exact hq.2.1)
   ·exact ih x hx
 exact all r x hx
theorem ak5{kvs:List (List Key×V)}(ok:gf P w H h)(e:H a=some (.dT kvs)):kvs.length≤bJ∧(a==rG)=false∧
  ∃xs,KT H kvs xs∧h.DictOfH (Bs (iu P w)) a xs:=xP ok (.inl e)
end
def lB(H:Hp)(a:aa)(y:V)(r:Option V):Prop:=
 (∃kvs k,Rd H a (.dK kvs)∧y=kV k∧r=lO kvs k)∨∃kvs k b,Rd H a (.dT kvs)∧y=.ref b∧H b=some (.tup (k.map kV))∧r=lO kvs k
def qO(H:Hp)(a:aa)(y v:V)(H':Hp):Prop:=
 (∃kvs k,H a=some (.dK kvs)∧y=kV k∧kvs.length<bJ∧H'=upd H a (.dK (putK kvs k v)))∨
 ∃kvs k b,H a=some (.dT kvs)∧y=.ref b∧H b=some (.tup (k.map kV))∧kvs.length<bJ∧H'=upd H a (.dT (putK kvs k v))
theorem lB.k{H:Hp}{a:aa}{kvs:List (Key×V)}{k:Key}(e:H a=some (.dK kvs)):lB H a (kV k) (lO kvs k):=.inl ⟨kvs,k,.inl e,rfl,rfl⟩
theorem lB.t{H:Hp}{a b:aa}{kvs:List (List Key×V)}{k:List Key}(e:H a=some (.dT kvs))(eb:H b=some (.tup (k.map kV))):lB H a (.ref b) (lO kvs k):=.inr ⟨kvs,k,b,.inl e,rfl,eb,rfl⟩
theorem qO.k{H:Hp}{a:aa}{kvs:List (Key×V)}{k:Key}{v:V}(e:H a=some (.dK kvs))(hl:kvs.length<bJ):qO H a (kV k) v (upd H a (.dK (putK kvs k v))):=.inl ⟨kvs,k,e,rfl,hl,rfl⟩
theorem qO.t{H:Hp}{a b:aa}{kvs:List (List Key×V)}{k:List Key}{v:V}(e:H a=some (.dT kvs))(eb:H b=some (.tup (k.map kV)))(hl:kvs.length<bJ):
  qO H a (.ref b) v (upd H a (.dT (putK kvs k v))):=.inr ⟨kvs,k,b,e,rfl,eb,hl,rfl⟩
section
variable{X:Cx}{pins:List (aa×Obj)}{σ:St}{H:Hp}{s:au}{a:aa}{y v:V}{u r:Value}{o:Option V}{A:bU}{E:Value→au→Prop}
theorem Inv.big(I:Inv X pins σ H s):rG<s.heap.objs.size:=by
 have h:fZ<s.heap.objs.size:=(I.mod.glob.keeps I.bk).lt;exact Gs (by decide) h
theorem af7{Q:Value→au→Prop}(hu:A.units+1<dR)(I:Inv X pins σ H s)(g:lB H a y (some v))(ry:RelV y u)(h:∀w' s',Inv X pins σ H s'→RelV v w'→Q w' s'):
  aL (model X.prog X.w) A (vq (.ref a) u) Q E s:=by
 rcases g with⟨kvs,k,e,ey,l⟩|⟨kvs,k,b,e,ey,eb,l⟩
 ·subst ey
  obtain⟨z,hd,vs,rel,dd⟩:=vJ I.hok e
  obtain⟨w',hw,rw'⟩:=oH.some_of (v:=v) (o:=zx vs k) (by rw[l];exact rel.val k)
  exact wpAny_getItem_of (vH ry) dd.mapOf hw (h w' _ (I.tok _) rw')
 ·subst ey
  cases(show u=dB b from ry)
  obtain⟨z,hd,xs,rel,dd⟩:=xP I.hok e
  obtain⟨w',hw,rw'⟩:=oH.some_of (v:=v) (o:=(vI xs k).map (·.2)) (by rw[l];exact rel.val k)
  obtain⟨p,hp,hp2⟩:=Fe.mp hw
  refine wpAny_getItem_heap (Fv hu) (zH I.hok eb) dd hp ?_;rw[hp2];exact h w' _ (I.tok _) rw'
theorem abq{Q:Value→au→Prop}(hu:A.units+1<dR)(I:Inv X pins σ H s)(g:lB H a y o)(ry:RelV y u)(h:∀s',Inv X pins σ H s'→Q (.bool o.isSome) s'):
  aL (model X.prog X.w) A (dH .In u (.ref a)) Q E s:=by
 rcases g with⟨kvs,k,e,ey,l⟩|⟨kvs,k,b,e,ey,eb,l⟩
 ·subst ey
  obtain⟨z,hd,vs,rel,dd⟩:=vJ I.hok e
  refine wpAny_in_of (vH ry) hd dd.mapOf ?_;rw[←(rel.val k).Bt,←l];exact h _ (I.tok _)
 ·subst ey
  cases(show u=dB b from ry)
  obtain⟨z,hd,xs,rel,dd⟩:=xP I.hok e
  refine wpAny_in_heap (Fv hu) (zH I.hok eb) hd dd ?_;have q:=(rel.val k).Bt;rw[FP] at q;rw[←q,←l];exact h _ (I.tok _)
theorem Ze{Q:Value→au→Prop}(hu:A.units+1<dR)(I:Inv X pins σ H s)(g:lB H a y o)(ry:RelV y u)(h:∀s',Inv X pins σ H s'→Q (.bool (!o.isSome)) s'):
  aL (model X.prog X.w) A (dH .NotIn u (.ref a)) Q E s:=by
 rcases g with⟨kvs,k,e,ey,l⟩|⟨kvs,k,b,e,ey,eb,l⟩
 ·subst ey
  obtain⟨z,hd,vs,rel,dd⟩:=vJ I.hok e
  refine wpAny_notIn_of (vH ry) hd dd.mapOf ?_;rw[←(rel.val k).Bt,←l];exact h _ (I.tok _)
 ·subst ey
  cases(show u=dB b from ry)
  obtain⟨z,hd,xs,rel,dd⟩:=xP I.hok e
  refine wpAny_notIn_heap (Fv hu) (zH I.hok eb) hd dd ?_;have q:=(rel.val k).Bt;rw[FP] at q;rw[←q,←l];exact h _ (I.tok _)
theorem xq{h':aU}{t':Nat}{ob:HO}(I:Inv X pins σ H s)(mu:DX (H a))(hs:yX a s.heap h')(he:∃q,h'.get? a=some q)(new:dO X.prog X.w (upd H a ob) h' a ob):
  Inv X pins σ (upd H a ob) {s with heap:=h',toks:=t'}:=
 I.write (x:=a) (e:=a) mu (.inl rfl) (fun b q hb z=>(hs.2 b hb).trans z) he new
theorem Iw{P:bf}{w:aY}{H':Hp}{h':aU}{kvs:List (Key×V)}{vs:List (Key×Value)}(z:kvs.length≤bJ)(hd:(a==rG)=false)(rel:KV kvs vs)(dd:h'.DictOf (iu P w) a vs):
  dO P w H' h' a (.dK kvs):=⟨z,hd,vs,rel,dd⟩
theorem Xf{H':Hp}{Q:Unit→au→Prop}(hu:A.units+1<dR)(I:Inv X pins σ H s)(g:qO H a y v H')(ry:RelV y u)(rv:RelV v r)(h:∀s',Inv X pins σ H' s'→Q () s'):
  aL (model X.prog X.w) A (setItem (.ref a) u r) Q E s:=by
 rcases g with⟨kvs,k,e,ey,l,eH⟩|⟨kvs,k,b,e,ey,eb,l,eH⟩
 ·subst ey eH
  obtain⟨z,hd,vs,rel,dd⟩:=Jg I.hok e
  have hz:vs.length≤bJ:=by rw[←rel.length];exact z
  have hl:(putK kvs k v).length≤bJ:=by have:=GD kvs k v;omega
  refine wpAny_setItem_pairs (hsz:=hz) (vH ry) dd fun h' sJ hs=>h _ ?_
  have he:∃q,h'.get? a=some q:=let ⟨q,_,_,hq,_⟩:=sJ;⟨q,hq⟩
  exact xq I (by rw[e];exact kJ) hs he (Iw hl hd (rel.put k rv) sJ)
 ·subst ey eH
  cases(show u=dB b from ry)
  obtain⟨z,hd,xs,rel,dd⟩:=ak5 I.hok e
  have hz:xs.length≤bJ:=by rw[←Paired.length rel];exact z
  have hl:(putK kvs k v).length≤bJ:=by have:=GD kvs k v;omega
  refine wpAny_setItem_heap (hsz:=hz) (Fv hu) (zH I.hok eb) dd fun h' sJ hs=>h _ ?_
  obtain⟨q,es,ep,hq,h2,h3,h4,_,h5⟩:=sJ
  refine xq I (by rw[e];exact kJ) hs ⟨q,hq⟩ ⟨hl,hd,_,(rel.put k eb rv).keeps fun c ys ec=>?_,q,es,ep,hq,h2,h3,h4,h5⟩;rw[cG (Q3 ec e (fun z=>nomatch z))];exact ec
end
section
variable{X:Cx}{pins:List (aa×Obj)}{σ:St}{H:Hp}{s:au}{a:aa}{kvs:List (Key×V)}{k:Key}{u:Value}{A:bU}{E:Value→au→Prop}
theorem ak6{Q:Value→au→Prop}(I:Inv X pins σ H s)(e:Rd H a (.dK kvs))(h:∀t s',Inv X pins σ H s'→Q (.int kvs.length t) s'):aL (model X.prog X.w) A (call (.builtin "len") [.ref a]) Q E s:=by
 obtain⟨z,hd,vs,rel,dd⟩:=vJ I.hok e
 refine call_len_dict hd dd (by rw[←rel.length];rw[iI] at z;omega) ?_;rw[←rel.length];exact h _ _ (I.tok _)
end
theorem aeZ{X:Cx}{pins:List (aa×Obj)}{σ:St}{H:Hp}{s:au}{a:aa}{y:V}{o:Option V}(I:Inv X pins σ H s)(g:lB H a y o):s.TypeIs (.ref a) "dict":=by
 rcases g with⟨kvs,k,e,_,_⟩|⟨kvs,k,b,e,_,_,_⟩
 ·obtain⟨_,_,vs,_,dd⟩:=vJ I.hok e
  exact dd.typeIs
 ·obtain⟨_,_,xs,_,dd⟩:=xP I.hok e
  exact dd.typeIs
section
variable{X:Cx}{o i e value:Expr}{pos pos' tpos:Pos}{td ty tv:TE}
end
theorem Nz{P:bf}{w:aY}{H:Hp}(h:aU)(hb:rG<h.objs.size):dO P w H (h.push {cls:=.type "dict",data:=.dict #[]}) h.objs.size (.dK []):=
 ⟨lJ _,beq_eq_false_iff_ne.mpr (jE (dF hb)),[],.nil,Heap.DictOf.new h⟩
def ajV:TE:=fun _ H Q=>∀p,H p=none→Q (.ref p) (upd H p (.dK []))
section
variable{X:Cx}{pos:Pos}
theorem ag3:PE X (.Dict [] [] pos) ajV:=fun pins s σ H Q I h=>
 wpAny_Dict_empty ⟨.ref s.heap.objs.size,_,I.laid (a:=s.heap.objs.size) (o:=.dK []) (t':=s.toks) (fun _ _ q=>cB _ q) (bD _) (Nz s.heap I.big),rfl,h _ (I.hok.fresh (bD _))⟩
end
def Qu:List (TE×TE)→St→Hp→(List (V×V)→Hp→Prop)→Prop
 |[],_,H,Q=>Q [] H
 |(tk,tv)::r,σ,H,Q=>tk σ H fun x H1=>tv σ H1 fun y H2=>Qu r σ H2 fun ps H3=>Q ((x,y)::ps) H3
abbrev VV:List (V×V)→List (Value×Value)→Prop:=Paired fun p q=>RelV p.1 q.1∧RelV p.2 q.2
def JH(X:Cx)(pos:Pos)(keys:List (Option Expr))(values:List Expr)(uH:List (TE×TE)):Prop:=
 ∀(pins:List (aa×Obj))(s:au)(σ:St)(H:Hp)(Q:List (V×V)→Hp→Prop),Inv X pins σ H s→Qu uH σ H Q→
  aL (model X.prog X.w) X.A (evalPairs (pairTrees keys values X.env pos)) (fun vs s'=>∃ps H',Inv X pins σ H' s'∧VV ps vs∧Q ps H') X.xe s
theorem aik{X:Cx}{pos:Pos}:JH X pos [] [] []:=fun pins s σ H Q I h=>pairTrees_nil_walk ⟨[],H,I,.nil,h⟩
theorem ag4{X:Cx}{pos:Pos}{k v:Expr}{ks:List (Option Expr)}{vs:List Expr}{tk tv:TE}{uH:List (TE×TE)}(hk:PE X k tk)(hv:PE X v tv)(hr:JH X pos ks vs uH):
  JH X pos (some k::ks) (v::vs) ((tk,tv)::uH):=fun pins s σ H Q I h=>
 pairTrees_cons_walk (bu (hk pins s σ H _ I h) fun u s1 ⟨x,H1,I1,rx,q1⟩=>bu (hv pins s1 σ H1 _ I1 q1) fun w2 s2 ⟨y,H2,I2,ry,q2⟩=>
  bu (hr pins s2 σ H2 _ I2 q2) fun ws s3 ⟨ps,H3,I3,rel,q3⟩=>⟨(x,y)::ps,H3,I3,.cons ⟨rx,ry⟩ rel,q3⟩)
def Cw(kvs more:List (Key×V)):List (Key×V):=more.foldl (fun acc kv=>putK acc kv.1 kv.2) kvs
theorem KV.merge:∀{more:List (Key×V)}{rs:List (Key×Value)}{kvs:List (Key×V)}{vs:List (Key×Value)},KV more rs→KV kvs vs→KV (Cw kvs more) (merged vs rs):=by
 intro more rs kvs vs r;unfold KV at r;induction r generalizing kvs vs with
 |nil=>intro q;exact q
 |@cons p q ps qs h t ih=>
  intro r0;have e:KV (putK kvs p.1 p.2) (stored vs q.1 q.2):=by
   have:=r0.put p.1 h.2;rw[←h.1];exact this
  exact ih e
theorem VJ:∀(more kvs:List (Key×V)),(Cw kvs more).length≤kvs.length+more.length
 |[],kvs=>by show kvs.length≤kvs.length+0;omega
 |p::r,kvs=>by
  have h1:=VJ r (putK kvs p.1 p.2);have h2:=GD kvs p.1 p.2
  show(Cw (putK kvs p.1 p.2) r).length≤_
  rw[cN];omega
theorem Ww{P:bf}{w:aY}:∀{kvs:List (Key×V)}{ws:List (Value×Value)},VV (kvs.map fun kv=>(kV kv.1,kv.2)) ws→∃rs,Carries (iu P w) ws rs∧KV kvs rs
 |[],_,r=>by rw[kI] at r;cases r;exact⟨[],kJ,.nil⟩
 |p::kvs,_,r=>by
  rw[cj] at r;cases r with
  |@cons a b as bs h t=>
   obtain⟨rs,c,q⟩:=Ww (P:=P) (w:=w) t
   obtain⟨b1,b2⟩:=b
   exact⟨(p.1,b2)::rs,⟨vH h.1,rfl,c⟩,.cons ⟨rfl,h.2⟩ q⟩
def ak7(uH:List (TE×TE)):TE:=fun σ H Q=>∀p,H p=none→Qu uH σ (upd H p (.dK [])) fun ps H2=>H2 p=some (.dK [])∧∃kvs:List (Key×V),ps=kvs.map (fun kv=>(kV kv.1,kv.2))∧kvs.length≤15∧Q (.ref p) (upd H2 p (.dK (Cw [] kvs)))
theorem ail{X:Cx}{pos:Pos}{keys:List (Option Expr)}{values:List Expr}{uH:List (TE×TE)}(h:JH X pos keys values uH)(hall:keys.all (·.isSome)=true)(hl:keys.length=values.length)(h0:keys≠[])
  (h15:keys.length≤15):PE X (.Dict keys values pos) (ak7 uH):=by
 intro pins s σ H Q I q;have hn:=I.hok.fresh (bD s.heap.objs.size);have I1:=I.laid (a:=s.heap.objs.size) (o:=.dK []) (h':=s.heap.push {cls:=.type "dict",data:=.dict #[]}) (t':=s.toks) (fun _ _ q=>cB _ q) (bD _) (Nz s.heap I.big);refine wpAny_Dict_walk (knd:=iu X.prog X.w) hall hl h0 h15 (bu (h pins _ σ _ _ I1 (q _ hn)) fun ws s2 aJ=>?_)
 obtain⟨ps,H2,I2,rel,e,kvs,ep,lk,q2⟩:=aJ
 subst ep
 obtain⟨rs,c,rk⟩:=Ww (P:=X.prog) (w:=X.w) rel
 obtain⟨z,hd,Ae,r0,dd⟩:=Jg I2.hok e
 cases r0
 refine⟨rs,c,dd,fun h' sJ hs=>⟨.ref s.heap.objs.size,_,?_,rfl,q2⟩⟩
 have hz:(Cw [] kvs).length≤bJ:=by
  have h1:=VJ kvs [];rw[Aw] at h1;rw[iI];omega
 have he:∃q,h'.get? s.heap.objs.size=some q:=let ⟨q,_,_,hq,_⟩:=sJ;⟨q,hq⟩
 exact xq I2 (by rw[e];exact kJ) hs he (Iw hz hd (rk.merge .nil) sJ)
structure M1(X:Cx)(o:Expr)(m:Str)(apos:Pos)(e:Expr)(cpos:Pos):Prop where
 base:tK o m X.env (eval o X.env)=eval o X.env
 few:((fK cpos (aZ [e] X.env)).all (fun x=>!x.1)&&(xj cpos (wX [] X.env)).all (fun x=>x.1.isSome)
  &&decide (([e]:List Expr).length+([]:List lM).length+(if([]:List lM).isEmpty then 0 else 1)<30))=true
 line:(apos.endLine==cpos.line)=true
 trees:fK cpos (aZ [e] X.env)=[(false,eval e X.env)]
structure M2(X:Cx)(o:Expr)(m:Str)(apos:Pos)(e f:Expr)(cpos:Pos):Prop where
 base:tK o m X.env (eval o X.env)=eval o X.env
 few:((fK cpos (aZ [e,f] X.env)).all (fun x=>!x.1)&&(xj cpos (wX [] X.env)).all (fun x=>x.1.isSome)
  &&decide (([e,f]:List Expr).length+([]:List lM).length+(if([]:List lM).isEmpty then 0 else 1)<30))=true
 line:(apos.endLine==cpos.line)=true
 trees:fK cpos (aZ [e,f] X.env)=[(false,eval e X.env),(false,eval f X.env)]
def IsD(H:Hp)(a:aa):Prop:=(∃kvs,Rd H a (.dK kvs))∨∃kvs,Rd H a (.dT kvs)
theorem ajW{X:Cx}{pins:List (aa×Obj)}{σ:St}{H:Hp}{s:au}{a:aa}(I:Inv X pins σ H s)(d:IsD H a):
  s.TypeIs (.ref a) "dict"∧(∀b,dB a=.ref b→∃ob,s.heap.get? b=some ob∧ob.dict=none)∧(a==rG)=false:=by
 rcases d with⟨kvs,e⟩|⟨kvs,e⟩
 ·obtain⟨_,hd,vs,_,dd⟩:=vJ I.hok e
  refine⟨dd.typeIs,fun b q=>?_,hd⟩
  cases q
  obtain⟨ob,_,_,h1,h2,_⟩:=dd
  exact⟨ob,h1,h2.2.1⟩
 ·obtain⟨_,hd,xs,_,dd⟩:=xP I.hok e
  refine⟨dd.typeIs,fun b q=>?_,hd⟩
  cases q
  obtain⟨ob,_,_,h1,h2,_⟩:=dd
  exact⟨ob,h1,h2.2.1⟩
section
variable{X:Cx}{pins:List (aa×Obj)}{σ:St}{H:Hp}{s:au}{a:aa}{y d:V}{u r:Value}{o:Option V}{A:bU}{E:Value→au→Prop}
theorem aaf{Q:Value→au→Prop}(hu:A.units+1<dR)(I:Inv X pins σ H s)(g:lB H a y o)(ry:RelV y u)(rd:RelV d r)(h:∀w' s',Inv X pins σ H s'→RelV (o.getD d) w'→Q w' s'):
  aL (model X.prog X.w) A (call (.builtin "dict.get") [.ref a,u,r]) Q E s:=by
 rcases g with⟨kvs,k,e,ey,l⟩|⟨kvs,k,b,e,ey,eb,l⟩
 ·subst ey
  obtain⟨z,hd,vs,rel,dd⟩:=vJ I.hok e
  refine call_meetsIn Ue dd.typeIs acT (acL _ _ _) (meets_dict_get_default (iu X.prog X.w) a (vH ry) hd r) ⟨_,dd.mapOf,h _ _ (I.tok _) ?_⟩;rw[l]
  exact(rel.val k).getD rd
 ·subst ey
  cases(show u=dB b from ry)
  obtain⟨z,hd,xs,rel,dd⟩:=xP I.hok e
  refine call_meetsIn Ue dd.typeIs acT (acL _ _ _) (meetsH_dict_get_default (Bs (iu X.prog X.w)) a b hd r) ⟨Fv hu,k,xs,zH I.hok eb,dd,h _ _ (I.tok _) ?_⟩;rw[l]
  exact(rel.val k).getD rd
end
section
variable{X:Cx}{o e f:Expr}{apos cpos:Pos}{td ty tx:TE}
end
section
variable{X:Cx}{pins:List (aa×Obj)}{σ:St}{H:Hp}{s:au}{a:aa}{kvs:List (Key×V)}{A:bU}{E:Value→au→Prop}
end
section
variable{X:Cx}{pins:List (aa×Obj)}{σ:St}{H:Hp}{s:au}{a:aa}{y:V}{u:Value}{A:bU}{E:Value→au→Prop}
end
end L2
namespace Att
open PySem PySem.W PySem.Calls PyProof.Rows
theorem ad3{P:Params}{h:aU}:∀(ns:List Int)(vs:List Value),WellAll P h vs (ns.map WData.int)→IntsAre vs ns:=by
 intro ns;induction ns with
 |nil=>
  intro vs w;rw[kI] at w;cases w;exact .nil
 |cons n ns ih=>
  intro vs w;rw[cj] at w;cases w with
  |cons a b=>
   cases a;exact .cons _ _ (ih _ b)
theorem af8{l:OpenLaw}{n:Nat}(hn:l.most=some n){P:Params}{h:aU}{args:List WData}{vals:List Value}
  (hpre:l.row.toRowW.claim.pre args=true)(hwl:WellAll P h vals args):
  ∃a vs ns,vals=[dB a]∧args=[WData.list (ns.map WData.int)]∧h.get? a=some {cls:=.type "list",data:=.seq vs.toArray}∧IntsAre vs ns∧ns.length≤n:=by
 have hsh:WShape.hasAll [] args [.list .int]=true:=(pre_splitW hpre).1;have hc:l.pre.holds [] {args:=args}=true:=(pre_splitW hpre).2
 obtain⟨d,r,rfl,h1,h2⟩:=hasAllW_cons hsh
 obtain rfl:=hasAllW_nil h2
 obtain⟨xs,rfl,h3⟩:=hasW_list h1
 obtain⟨ns,rfl⟩:=items_int h3
 have hlen:ns.length≤n:=by
  unfold OpenLaw.pre at hc;have h4:(WTm.not (.lt (.lit (.int (n:Int))) (.len (.arg 0)))).holds [] {args:=[.list (ns.map .int)]}=true:=by
   have h4:=(holds_andW hc).1;rw[hn] at h4;exact h4
  have h5:=condW_of h4 (w_not (w_lt w_lit (w_len_list (w_arg rfl))));rw[aX] at h5;refine Nat.le_of_not_lt fun q=>?_
  have q':(n:Int)<((ns.length:Nat):Int):=by omega
  first
   |(rw[decide_eq_true q'] at h5;exact absurd h5 (by decide))
   |(simp at h5;omega)
 cases hwl with
 |cons w1 w2=>
  cases w2;cases w1 with
  |list ho hall=>exact⟨_,_,ns,rfl,rfl,ho,ad3 ns _ hall,hlen⟩
theorem af9(l:OpenLaw)(args:List WData):l.row.toRowW.claim.post args (.bool true) args=true:=
 postW_of (r:=l.row.toRowW) (X:=(true==true))
  (show WShape.has [] (.bool true) .bool=true by first|rfl|decide|simp[WShape.has,WShape.arms,WShape.armsAll])
  (show(WTm.eq .res (.lit (.bool true))).value [] {args:=args,res:=some (.bool true),after:=args}=some (.bool (true==true)) from w_eq_bool (w_res rfl) w_lit) rfl
theorem ae0{l:OpenLaw}{n:Nat}{q:bf}{loose:List Str}{XP:(Str→Option Value)→aU→Prop}{YP:aY→aU→Prop}{d:DefRec}
  (hn:l.most=some n)(hdf:d.params.defaults=[])
  (call:∀(w:aY)(s₀ s₁:au)(mg mb:Str→Option Value)(fa:aa)(o:Obj)(pm cd doc:Value)(a:aa)(vs:List Value)(ns:List Int),
   Ground q loose [] XP w s₀ mg mb s₁.heap→YP w s₁.heap→
   s₁.heap.get? fa=some o→o.data=.func (docDef d.name d.params d.body d.scope pm cd doc)→s₁.heap.CodeRec cd d.name→mg d.name=some (.ref fa)→
   s₁.heap.get? a=some {cls:=.type "list",data:=.seq vs.toArray}→IntsAre vs ns→ns.length≤n→s₁.gens=#[]→
   jR (model l.prog w) zy (.call (.ref fa) ⟨[.ref a],[]⟩) (fun r s'=>r=.ok (.ret (.bool true))∧OldK s₁.heap s'.heap∧s'.os=s₁.os∧AllBare s'.gens) s₁):
  WalkO q loose XP YP l.row.toRowW d [] (fun f vs=>Wx f vs):=by
 intro w s₀ s₁ mg mb G Y fa o pm cd doc dV kV ho hd hcd hD hmg hg args vals as hpre hlay hrd hwl hlo;obtain rfl:dV=.none:=Dflts.none hD hdf;obtain rfl:kV=.none:=Dflts.noKw hD
 obtain⟨a,vs,ns,rfl,rfl,hobj,hints,hlen⟩:=af8 hn hpre hwl
 refine enter_call (Gq (call w s₀ s₁ mg mb fa o pm cd doc a vs ns G Y ho (fd_plain hd) hcd hmg hobj hints hlen hg) fun r s' hq=>?_)
 obtain⟨rfl,h2,h3,h4⟩:=hq
 exact⟨.inl ⟨.bool true,.bool true,[],rfl,fun _=>rfl,.bool true,af9 l _,fun _=>⟨yH,fun _ hm=>(nomatch hm)⟩⟩,h2,h3,h4⟩
section
variable{prog:bf}{w:aY}{A:bU}{E:Value→au→Prop}{s:au}{K:Frag}
def ledger(h:aU)(L d:aa):List (aa×Obj):=(dz h.objs.size).filterMap fun a=>if a=L∨a=d then none else(h.get? a).map fun o=>(a,o)
end
end Att
namespace L2
open PySem PySem.Spec PyProof.Rows
theorem Xg:∀{vs:List Value}{ns:List Int},IntsAre vs ns→Vals (ns.map V.int) vs
 |_,_,.nil=>.nil
 |_,_,.cons n t h=>.cons ⟨t,rfl⟩ (Xg h)
def Only(H:Hp):Prop:=∀b,H b=none∨∃o xs,H b=some (.kj o (.lst xs))
theorem ag5{P:bf}{w:aY}{K:aC}{mg mb:Str→Option Value}{CX:oV}{k:Nat}{fa a:aa}{fd:dg}{x:Str}{sp:Sp}{s₁:au}{vs:List Value}{ns:List Int}
  (KX:K.In s₁.heap)(hns:s₁.heap.Ns fZ mg)(hb:s₁.heap.Ns builtinsNs mb)(hbb:∀x:Str,x≠"__name__"→mb x=rF x)(hlim:s₁.heap.NoLimit)(hg:s₁.gens=#[])
  (ha:s₁.heap.get? a=some {cls:=.type "list",data:=.seq vs.toArray})(hi:IntsAre vs ns)(hl:ns.length≤bJ)(hr:gC k zy)
  (F:∀base:aU,K.In base→base.Ns fZ mg→cY P w K mg base CX k fa fd [x] sp)(hbind:∀(s:au)(u:Value),xm s fd ⟨[u],[]⟩ [(x,u)])
  (hsp:∀H:Hp,Only H→bC K H a (ns.map V.int)→sp [.ref a] H (fun v _=>v=.bl true) fun _ _ _=>False)
  (Ss:∀H e s',CX [] H s₁ (fun _ _ _=>False) e s'→False):
  jR (model P w) zy (.call (.ref fa) ⟨[.ref a],[]⟩) (fun r s'=>r=.ok (.ret (.bool true))∧OldK s₁.heap s'.heap∧s'.os=s₁.os∧AllBare s'.gens) s₁:=by
 have rv:=Xg hi;have lenV:=hi.length;have core:∀H:Hp,Only H→bC K H a (ns.map V.int)→gf P w H s₁.heap→(∀b,H b≠none→b=a)→(H a≠none→K.lookup a=none)→
   jR (model P w) zy (.call (.ref fa) ⟨[.ref a],[]⟩) (fun r s'=>r=.ok (.ret (.bool true))∧OldK s₁.heap s'.heap∧s'.os=s₁.os∧AllBare s'.gens) s₁:=by
  intro H hO hS hok hA hK;have Zf:∀{b:aa}{o:Obj},s₁.heap.get? b=some o→H b=none→(uv s₁.heap H).get? b=some o:=fun e n=>agT e n
  have Ef:∀{b:aa}{o:Obj}{es:Array DictEntry}{ep:Nat},s₁.heap.get? b=some o→o.data=.dict es ep→H b=none:=fun{b o es ep} e d=>by
   cases q:H b with
   |none=>rfl
   |some u=>
    have e':b=a:=hA b (by rw[q];simp);subst e';rw[ha] at e;cases e;have d':Data.seq vs.toArray _=Data.dict es ep:=d;cases d'
  have JK:∀{b:aa}{m:Str→Option Value},s₁.heap.Ns b m→(uv s₁.heap H).Ns b m:=fun{b m} ⟨o,es,ep,e,d,r⟩=>⟨o,es,ep,Zf e (Ef e d),d,r⟩
  have hKb:K.In (uv s₁.heap H):=fun b o e=>Zf (KX b o e) (by
   cases q:H b with
   |none=>rfl
   |some u=>
    have e':b=a:=hA b (by rw[q];simp);subst e';rw[hK (by rw[q];simp)] at e;cases e)
  have hM:Mod K mg (uv s₁.heap H):=⟨hKb,JK hns,⟨mb,JK hb,hbb⟩,let ⟨mc,h1,h2⟩:=hlim;⟨mc,JK h1,h2⟩⟩
  have e0:xZ P w K mg (uv s₁.heap H) zy [] s₁ H:=⟨rfl,hM,fun b o e=>ah2 e,Nat.le_of_eq (afU _ _),trivial,fun b hb=>absurd (show b∈([]:List aa) from hb) (by simp),hok,.of_eq hg⟩
  refine Gq ((F _ hKb (JK hns)).run zy [] s₁ H ⟨[.ref a],[]⟩ [.ref a] [.ref a] _ _ hr e0 (hbind s₁ (.ref a)) (.cons rfl .nil) (hsp H hO hS)) fun r s' h=>?_
  cases r with
  |error e=>exact(Ss H e s' h).elim
  |ok fl=>
   cases fl with
   |next=>exact qe h
   |brk=>exact qe h
   |cont=>exact qe h
   |ret u=>
    obtain⟨v,H',os,bare,un,hok',r',q⟩:=h
    have q':v=.bl true:=q;subst q';obtain rfl:u=o9 true:=r'
    refine⟨rfl,OldK.of_keep fun b o e=>?_,os,bare⟩
    cases q:H b with
    |none=>exact un.keep b o e q (by intro z;exact absurd (show b∈([]:List aa) from z) (by simp)) (by simp)
    |some u=>
     rcases hO b with z|⟨ob,xs,z⟩
     ·rw[q] at z;cases z
     ·have z2:=un.oJ b ob _ z
      obtain⟨e1,_⟩:=hok b _ z
      obtain⟨e2,_⟩:=hok' b _ z2
      rw[e] at e1;cases e1;exact e2
 cases hk:K.lookup a with
 |some o=>
  have e:=KX a o hk;rw[ha] at e;cases e;refine core (fun _=>none) (fun _=>.inl rfl) (.inr ⟨_,vs.toArray,_,hk,rfl,rfl,rfl,by rw[fB,lenV];exact hl,by simpa using rv⟩) (fun b u z=>by have z':(none:Option HO)=some u:=z;cases z') (fun b z=>absurd rfl z) fun z=>absurd rfl z
 |none=>
  refine core (fun b=>if b=a then some (.kj {cls:=.type "list",data:=.seq vs.toArray} (.lst (ns.map V.int))) else none) (fun b=>?_) (.inl (.inr ⟨{cls:=.type "list",data:=.seq vs.toArray},if_pos rfl⟩)) (fun b u z=>?_) (fun b z=>?_) fun _=>hk
  ·by_cases hb:b=a
   ·exact .inr ⟨_,_,if_pos hb⟩
   ·exact .inl (if_neg hb)
  ·by_cases hb:b=a
   ·have z':=(if_pos hb).symm.trans z;cases z';subst hb
    exact⟨ha,by rw[aX];exact hl,vs,_,rv,ha⟩
   ·have z':=(if_neg hb).symm.trans z;cases z'
  ·by_cases hb:b=a
   ·exact hb
   ·exact absurd (if_neg hb) z
theorem aim{l:Ve}{n k:Nat}{q:bf}{loose:List Str}{XP:(Str→Option Value)→aU→Prop}{YP:aY→aU→Prop}{d:DefRec}{K:Params→aC}{CX:aY→oV}{sp:aY→Sp}{x:Str}
  (hn:l.most=some n)(hn2:n≤bJ)(hdf:d.params.defaults=[])(hr:gC k zy)
  (hY:∀(w:aY)(h:aU),YP w h→(K w.params).In h)
  (F:∀(w:aY)(mg:Str→Option Value)(fa:aa)(h:aU),(K w.params).In h→h.Ns fZ mg→mg d.name=some (.ref fa)→
   ∃fd:dg,(∀(s:au)(u:Value),xm s fd ⟨[u],[]⟩ [(x,u)])∧
    ∀base:aU,(K w.params).In base→base.Ns fZ mg→cY l.prog w (K w.params) mg base (CX w) k fa fd [x] (sp w))
  (hsp:∀(w:aY)(H:Hp)(a:aa)(ns:List Int),ns.length≤n→Only H→bC (K w.params) H a (ns.map V.int)→sp w [.ref a] H (fun v _=>v=.bl true) fun _ _ _=>False)
  (Ss:∀(w:aY)(H:Hp)(s:au)(e:Value)(s':au),CX w [] H s (fun _ _ _=>False) e s'→False):
  aek q loose XP YP l.row.toRowW d [] (fun f vs=>Wx f vs):=by
 refine Att.ae0 hn hdf fun w s₀ s₁ mg mb fa o pm cd doc a vs ns G Y ho hd hcd hmg hobj hints hlen hg=>?_
 have KX:=hY w _ Y
 obtain⟨fd,hb,hF⟩:=F w mg fa _ KX G.T.g hmg
 exact ag5 KX G.T.g G.T.b G.T.builtins G.T.nolimit hg hobj hints (jd hlen hn2) hr hF hb (fun H hO hS=>hsp w H a ns hlen hO hS) fun H e s'=>Ss w H s₁ e s'
def zA(s:cV):Arguments:=match s with
 |.FunctionDef _ a _ _ _ _ _ _ _ _=>a
 |_=>{posonlyargs:=[],args:=[],vararg:=none,kwonlyargs:=[],kw_defaults:=[],kwarg:=none,defaults:=[]}
def vA(s:cV):List cV:=match s with
 |.FunctionDef _ _ b _ _ _ _ _ _ _=>b
 |_=>[]
def cO(s:cV):iK:=match s with
 |.FunctionDef _ _ _ _ _ _ sc _ _ _=>sc
 |_=>{kind:=.function,names:=[],isGenerator:=false,isCoroutine:=false}
abbrev eO:oV:=fun _ _ _ _ _ _=>False
abbrev E0:XK:=fun _ _ _=>False
theorem ak8{X:Cx}:Passes eO X E0:=fun _ _ _ _ _ _ _ h=>h.elim
structure fM(K:aC)(x qual:Str)(st:cV)(f:aa)(fd:dg):Prop where
 ex:∃(oc:Value)(od:Option aa)(kV doc pm:Value)(an:Option aa)(cdv ct:Value)(osl:Array (Option Value)),
  fd=wW x qual (zA st) (vA st) (cO st) .none kV doc pm an cdv ct∧K.lookup f=some ⟨oc,od,.func fd,osl⟩∧KJ K cdv qual=true
 kp:uV K (.ref f)=true
section
variable{P:bf}{w:aY}{K:aC}{mg:Str→Option Value}{base:aU}
theorem fM.ok{x qual:Str}{st:cV}{f:aa}{fd:dg}{N ps:List Str}{k:Nat}{sp:Sp}(F:fM K x qual st f fd)(S:gk N ps (cO st))(len:∀vs H Q E,sp vs H Q E→vs.length=ps.length)
  (hbody:∀(cdv:Value)(A:bU)(outer:List Env)(s:au)(H:Hp)(vs:List V)(Q:VK)(E:XK),gC k (A.deeper (envOfC qual (cO st) s.heap.objs.size f cdv))→sp vs H Q E→
   ∃t,iD (yc eO P w K mg base N qual (cO st) f cdv A outer s H E).uE (vA st) t∧t {nx:=fun _ H'=>Q .non H',rt:=Q} (start N vs) H):cY P w K mg base eO (k+1) f fd ps sp:=by
 obtain⟨oc,od,kV,doc,pm,an,cdv,ct,osl,rfl,lk,hcd⟩:=F.ex
 refine ak3 lk hcd S len fun A outer s H vs Q E hr hsp=>?_
 obtain⟨t,h,q⟩:=hbody cdv A outer s H vs Q E hr hsp
 exact⟨t,h.uE,q⟩
theorem fM.binds{x qual:Str}{st:cV}{f:aa}{fd:dg}{ps:List Str}(F:fM K x qual st f fd)
  (h:∀(kV doc pm:Value)(an:Option aa)(cdv ct:Value)(us:List Value),us.length=ps.length→bindArgs (wW x qual (zA st) (vA st) (cO st) .none kV doc pm an cdv ct) ⟨us,[]⟩=pure (ps.zip us)):Binds K fd ps []:=by
 obtain⟨oc,od,kV,doc,pm,an,cdv,ct,osl,rfl,lk,hcd⟩:=F.ex
 exact .all (h kV doc pm an cdv ct)
theorem Qv{x qual:Str}{st:cV}{f:aa}{oc:Value}{od an:Option aa}{osl:Array (Option Value)}{kV doc pm cdv ct:Value}(l:K.lookup f=some ⟨oc,od,.func (wW x qual (zA st) (vA st) (cO st) .none kV doc pm an cdv ct),osl⟩)
  (c:KJ K cdv qual=true)(k:uV K (.ref f)=true):fM K x qual st f (wW x qual (zA st) (vA st) (cO st) .none kV doc pm an cdv ct):=⟨⟨oc,od,kV,doc,pm,an,cdv,ct,osl,rfl,l,c⟩,k⟩
end
section
variable{X:Cx}
theorem pv(i:Nat){x:Str}{pos:Pos}(hN:X.N[i]?=some x:=by rfl)(hv:Jy X.env.scope x:=by first|exact cC rfl|exact qz (cC rfl)|exact qz (qz rfl))(hd:(x==("__debug__":Str))=false:=by decide)
  (hcd:(x==("__classdict__":Str))=false:=by decide):PE X (.Name x pos) (oK i):=ajv hN hv hd hcd
end
theorem vR{A B:Prop}(h:B):if false=true then A else B:=by
 rw[if_neg gG];exact h
theorem vU{A B:Prop}(h:A):if true=true then A else B:=by
 rw[if_pos rfl];exact h
def bh(H H':Hp):Prop:=∀b o,H b=some o→H' b=some o
theorem bh.refl(H:Hp):bh H H:=fun _ _ h=>h
theorem bh.trans{H H1 H2:Hp}(a:bh H H1)(b:bh H1 H2):bh H H2:=fun c o h=>b c o (a c o h)
theorem bh.free{H H':Hp}(e:bh H H'){l:aa}(h:H' l=mC):H l=mC:=by
 cases q:H l with
 |none=>rfl
 |some o=>
  rw[e l o q] at h;cases h
theorem bh.seq{K:aC}{H H':Hp}{a:aa}{xs:List V}(e:bh H H')(h:bC K H a xs):bC K H' a xs:=by
 rcases h with(h|⟨o,h⟩)|h
 ·exact .inl (.inl (e _ _ h))
 ·exact .inl (.inr ⟨o,e _ _ h⟩)
 ·exact .inr h
section
variable{X:Cx}
theorem aga:gQ X (.builtin "len") (fun xs H Q=>∃a kvs,xs=[V.ref a]∧H a=some (.dK kvs)∧Q (.int kvs.length) H):=by
 intro pins s σ H xs us Q I r h
 obtain⟨a,kvs,rfl,ha,q⟩:=h
 obtain⟨u,rfl,ru⟩:=vals1 r
 cases ru;exact ak6 I (.inl ha) fun t s' I'=>⟨.int kvs.length,H,I',⟨t,rfl⟩,q⟩
end
section
variable{κ:Type}[DecidableEq κ]
end
def Cx.blk(X:Cx)(N:List Str)(scope:iK)(cl:List (Str×aa))(C:aa)(s:au)(H:Hp)(fp:List aa):Cx:=
 {X with N:=N,s₀:=s,H₀:=H,env:=NB scope cl C X.env,outer:=X.stack,ex:=fp,fn:=fun _=>false,pn:=[],xe:=fun _ _=>False}
theorem LK(f:Str×zq→List (Str×aa)→Sem (ForInStep (List (Str×aa))))
  (hf:∀n k r,f (n,k) r=if k==nU then(do let c ←cellOf env n;pure (.yield ((n,c)::r))) else pure (.yield r)):
  ∀(names:List (Str×zq))(cs:List (Str×aa)),(∀y∈names,y.2=.free→∃c,env.cells.lookup y.1=some c)→(∀n c,cs.lookup n=some c→env.cells.lookup n=some c)→
   ∃cl,(forIn names cs f:Sem (List (Str×aa)))=pure cl∧(∀n c,cl.lookup n=some c→env.cells.lookup n=some c)∧
    ∀n,((∃c,cs.lookup n=some c)∨∃y∈names,y.1=n∧y.2=.free)→∃c,cl.lookup n=some c
 |[],cs,_,h2=>⟨cs,rfl,h2,fun n h=>h.elim id fun⟨_,hy,_⟩=>nomatch hy⟩
 |(n,k)::r,cs,h1,h2=>by
  rw[List.forIn_cons,hf];by_cases hk:k=.free
  ·subst hk
   obtain⟨c,hc⟩:=h1 (n,.free) fj rfl
   have hc':env.cells.lookup n=some c:=hc;have e:cellOf env n=pure c:=by unfold cellOf;rw[hc']
   obtain⟨cl,q1,q2,q3⟩:=LK f hf r ((n,c)::cs) (fun y hy=>h1 y (eZ _ hy)) (fun m d hm=>by
    rw[yJ] at hm;by_cases hb:(m==n)=true
    ·rw[hb] at hm;have:=eq_of_beq hb;subst this;cases hm;exact hc'
    ·rw[U6] at hb;rw[hb] at hm;exact h2 m d hm)
   refine⟨cl,?_,q2,fun m hm=>q3 m ?_⟩
   ·rw[if_pos (show(nU==nU)=true from rfl),e];simp only[pure_bind];exact q1
   ·by_cases hb:m=n
    ·subst hb;exact .inl ⟨c,by simp[yJ]⟩
    ·rcases hm with⟨d,hm⟩|⟨y,hy,e1,e2⟩
     ·refine .inl ⟨d,?_⟩;rw[yJ,beq_eq_false_iff_ne.mpr hb];exact hm
     ·rcases bL.mp hy with rfl|hy
      ·exact absurd e1.symm hb
      ·exact .inr ⟨y,hy,e1,e2⟩
  ·have hb:(k==nU)=false:=beq_eq_false_iff_ne.mpr hk
   obtain⟨cl,q1,q2,q3⟩:=LK f hf r cs (fun y hy=>h1 y (eZ _ hy)) h2
   refine⟨cl,?_,q2,fun m hm=>q3 m ?_⟩
   ·rw[hb];simp only[oX,if_false,pure_bind];exact q1
   ·rcases hm with hm|⟨y,hy,e1,e2⟩
    ·exact .inl hm
    ·rcases bL.mp hy with rfl|hy
     ·exact absurd e2 hk
     ·exact .inr ⟨y,hy,e1,e2⟩
theorem Mv(h1:∀y∈scope.names,y.2=.free→∃c,env.cells.lookup y.1=some c):
  ∃cl,closureFor scope env=pure cl∧(∀n c,cl.lookup n=some c→env.cells.lookup n=some c)∧∀y∈scope.names,y.2=.free→∃c,cl.lookup y.1=some c:=by
 unfold closureFor
 obtain⟨cl,q1,q2,q3⟩:=LK (env:=env) (fun x r=>if(x.2==nU)=true then(do let c ←cellOf env x.1;pure (.yield ((x.1,c)::r))) else pure (.yield r)) (fun n k r=>rfl) scope.names [] h1 (fun n c h=>by simp at h)
 have q:=congrArg (fun t:Sem (List (Str×aa))=>t >>= fun cs=>pure cs) q1;simp only[pure_bind] at q
 exact⟨cl,q,q2,fun y hy e=>q3 y.1 (.inr ⟨y,hy,rfl,e⟩)⟩
theorem V6{scope:iK}{env:Env}{x:Str}:∀{names:List (Str×zq)},
  (names.map fun(n,k)=>if(k==nU&&env.scope.kind==.function&&env.kindOf n==some .cell) then(n,La) else(n,k)).lookup x=
   (names.lookup x).map fun k=>if(k==nU&&env.scope.kind==.function&&env.kindOf x==some .cell) then La else k
 |[]=>rfl
 |(n,k)::r=>by
  have ih:=@V6 scope env x r;show List.lookup x ((if(k==nU&&env.scope.kind==.function&&env.kindOf n==some .cell)=true then(n,La) else(n,k))::_)=_;cases hx:x==n with
  |true=>
   have e:=eq_of_beq hx;subst e;by_cases hc:(k==nU&&env.scope.kind==.function&&env.kindOf x==some .cell)=true
   ·rw[if_pos hc];simp only[yJ,beq_self_eq_true,jD,hc,if_true]
   ·rw[if_neg hc];simp only[yJ,beq_self_eq_true,jD,hc,if_false];rfl
  |false=>
   by_cases hc:(k==nU&&env.scope.kind==.function&&env.kindOf n==some .cell)=true
   ·rw[if_pos hc];simp only[yJ,hx];exact ih
   ·rw[if_neg hc];simp only[yJ,hx];exact ih
def frees(js:List Nat)(σ:St):St:=js.map fun j=>(σ[j]?).join
section
variable{X:Cx}{pins:List (aa×Obj)}{σ:St}{H:Hp}{s s1:au}{NT NF:List Str}{js:List Nat}{scope:iK}{cl:List (Str×aa)}{fp:List aa}
structure qI(X:Cx)(NT NF:List Str)(js:List Nat)(scope:iK):Prop where
 kind:scope.kind=.function
 names:∀y∈scope.names,y.2=.local→scope.names.lookup y.1=some .local
 cell:∀y∈scope.names,y.2≠.cell
 free:∀y∈scope.names,y.2=.free→X.env.scope.names.lookup y.1=some .cell∨X.env.scope.names.lookup y.1=some .free
 len:js.length=NF.length
 fr:∀(k:Nat)(j:Nat)(x:Str),js[k]?=some j→NF[k]?=some x→X.N[j]?=some x∧scope.names.lookup x=some .free
 tg:∀x∈NT,scope.names.lookup x=some .local
 nd:(NT++NF).Nodup
theorem Inv.blk(I:Inv X pins σ H s)(B:qI X NT NF js scope)(q2:∀n c,cl.lookup n=some c→X.env.cells.lookup n=some c)(q3:∀y∈scope.names,y.2=.free→∃c,cl.lookup y.1=some c)
  (hf:∀b∈fp,jo X pins H b)(hlt:∀b∈fp,b<s.heap.objs.size){m:Str→Option Value}(hns:s1.heap.Ns s.heap.objs.size m)(keep:∀b o,s.heap.get? b=some o→s1.heap.get? b=some o)
  (hos:s1.os=s.os)(hg:AllBare s1.gens):
  Inv (X.blk (NT++NF) scope cl s.heap.objs.size s H fp) [] (cH NT.length none++frees js σ) H s1:=by
 have look:∀x,(X.blk (NT++NF) scope cl s.heap.objs.size s H fp).env.kindOf x=(scope.names.lookup x).map fun k=>if(k==nU&&X.env.scope.kind==.function&&X.env.kindOf x==some .cell) then La else k:=fun x=>V6 (scope:=scope)
 have ajX:∀x,((X.blk (NT++NF) scope cl s.heap.objs.size s H fp).env.kindOf x=some .cell∨(X.blk (NT++NF) scope cl s.heap.objs.size s H fp).env.kindOf x=some .free)→scope.names.lookup x=some .free:=fun x h=>by
  rw[look] at h;cases e:scope.names.lookup x with
  |none=>rw[e] at h;simp at h
  |some k=>
   rw[e] at h;by_cases hk:k=.free
   ·rw[hk]
   ·have hb:(k==nU)=false:=beq_eq_false_iff_ne.mpr hk;simp only[jD,hb,Vo,oX,if_false,Kl] at h;rcases h with h|h
    ·subst h;exact absurd rfl (B.cell _ (uP e))
    ·exact absurd h hk
 have ltC:∀c x,X.env.cells.lookup x=some c→c<s.heap.objs.size:=fun c x e=>by
  obtain⟨v,q⟩:=I.cell x c e
  exact q.lt
 refine⟨⟨I.ok.mod,B.kind,I.ok.glob,I.ok.blt,bD _,fun x y c h1 h2=>I.ok.inj x y c (q2 x c h1) (q2 y c h2),fun x hx=>?_,fun x c h _=>(nomatch(show false=true from h)),I.ok.hd,I.ok.frames,.inl rfl,fun b hb=>⟨dF (hlt b hb),fun x c e=>(hf b hb).2.2.2.2.1 x c (q2 x c e)⟩,I.bs,jd I.ok.sI I.sz,fun b o e hb=>?_,fun b hb hb2=>?_,I.stack,I.Y7⟩,
  hos,hg,Un.kept keep,⟨m,hns,fun i x v h1 h2 h3=>?_⟩,fun x c e=>?_,I.hok.fresh (bD _),fun x c e=>I.qH x c (q2 x c e),fun p hp=>(nomatch(show p∈([]:List (aa×Obj)) from hp)),I.hok.kept keep,?_⟩
 ·exact q3 _ (uP (ajX x hx)) rfl
 ·rcases(hf b hb).2.2.2.1 with z|z
  ·exact I.ok.Du b o e z
  ·exact absurd (lW (bT e) (jd I.ok.sI z)) (uW _)
 ·obtain⟨_,f1,f2,_⟩:=hf b hb
  rcases bL.mp (I.zG b hb2) with z|z
  ·exact f1 z
  ·exact f2 z
 ·have h1':(NT++NF)[i]?=some x:=h1;by_cases hi:i<NT.length
  ·rw[nM (by simpa using hi),T8] at h2;split at h2<;>cases h2
  ·have hi':NT.length≤i:=by omega
   rw[nJ (by simpa using hi')] at h2;rw[nJ hi'] at h1';simp only[Ud] at h2;unfold frees at h2;rw[fY] at h2;cases ej:js[i-NT.length]? with
   |none=>rw[ej] at h2;cases h2
   |some j=>
    rw[ej] at h2;have h2':(σ[j]?).join=some v:=by simpa using h2
    obtain⟨g1,g2⟩:=B.fr _ j x ej h1'
    have hj:σ[j]?=some (some v):=by
     cases e:σ[j]? with
     |none=>rw[e] at h2';cases h2'
     |some o=>rw[e] at h2';simp at h2';rw[h2']
    have hk:=B.free _ (uP g2) rfl;have hk':X.env.scope.names.lookup x=some .cell∨X.env.scope.names.lookup x=some .free:=hk
    obtain⟨m0,hn0,hl0⟩:=I.loc
    obtain⟨u,r,l⟩:=hl0 j x v g1 hj (.inr hk')
    refine⟨u,r,.inr ⟨?_,?_⟩⟩
    ·rw[look,g2];by_cases hc:(nU==nU&&X.env.scope.kind==.function&&X.env.kindOf x==some .cell)=true
     ·left;simp only[jD,hc,if_true]
     ·right;simp only[jD,hc,if_false];rfl
    ·rcases l with⟨k0,_⟩|⟨_,c,e,z⟩
     ·have k0':X.env.scope.names.lookup x=some .local:=k0;rcases hk' with z|z<;>rw[z] at k0'<;>cases k0'
     ·obtain⟨c',hc'⟩:=q3 _ (uP g2) rfl
      have hc2:cl.lookup x=some c':=hc';have e2:=q2 x c' hc2;rw[e] at e2;cases e2
      obtain⟨o,ho,hd⟩:=z
      exact⟨c,hc2,o,keep c o ho,hd⟩
 ·obtain⟨v,o,ho,hd⟩:=I.cell x c (q2 x c e)
  exact⟨v,o,keep c o ho,hd⟩
 ·show(cH NT.length none++frees js σ).length=(NT++NF).length
  unfold frees;simp[B.len]
theorem Inv.Rc(I:Inv X pins σ H s)(hf:∀b∈fp,jo X pins H b)(J:Inv (X.blk N scope cl s.heap.objs.size s H fp) Q4 σ' H' s'):Inv X pins σ H' s':=
 I.call' J.os J.base J.hok J.bare fun b hb=>⟨(hf b hb).2.2.2.1,(hf b hb).2.1,(hf b hb).2.2.2.2.1,(hf b hb).2.2.2.2.2⟩
end
theorem ain(a:List α)(x y:α)(b:List α)(h:a.length=n):(a++x::b).set n y=a++y::b:=by
 subst h;rw[List.set_append_right _ _ (bD _),V7];rfl
inductive fU where
 |one|many (n:Nat)
def wu(K:aC):fU→V→Hp→List V→Prop
 |.one,x,_,vs=>vs=[x]
 |.many n,x,H,vs=>∃a,x=.ref a∧cF K H a vs∧vs.length=n
def isNm(e:Expr)(x:Str):Prop:=∃pos,e=.Name x pos
def pP(tg:Expr)(NT:List Str):fU→Prop
 |.one=>∃x,isNm tg x∧NT=[x]
 |.many n=>∃es k pos,tg=.Tuple es k pos∧Paired isNm es NT∧NT.length=n
theorem Wy:∀{es:List Expr}{NT:List Str},Paired isNm es NT→rH es env=es.map fun e=>(false,assign e env)
 |_,_,.nil=>rfl
 |_,_,.cons ⟨pos,e⟩ t=>by
  subst e
  show(false,assign _ env)::rH _ env=_
  rw[Wy t];rfl
section
variable{X:Cx}{pins:List (aa×Obj)}{H:Hp}{E:Value→au→Prop}
theorem agb(p:Paired isNm es NT):∀{pre NF:List Str}{σp fs:St}{s:au}{vs:List V}{us:List Value}{Q:Unit→au→Prop},
  X.N=pre++NT++NF→X.N.Nodup→(∀x∈NT,X.env.scope.names.lookup x=some .local)→σp.length=pre.length→vs.length=NT.length→
  Inv X pins (σp++(cH NT.length none++fs)) H s→Vals vs us→(∀s',Inv X pins (σp++(vs.map some++fs)) H s'→Q () s')→
  aL (model X.prog X.w) X.A (Bb (es.map fun e=>assign e X.env) us) Q E s:=by
 induction p with
 |nil=>
  intro pre NF σp fs s vs us Q hN nd hl hp hv I r q;cases vs with
  |cons _ _=>simp at hv
  |nil=>
   cases r;exact assignInOrder_nil (q s I)
 |@cons e x es NT he t ih=>
  intro pre NF σp fs s vs us Q hN nd hl hp hv I r q;cases vs with
  |nil=>simp at hv
  |cons v vs=>
   cases r with
   |cons r rr=>
    obtain⟨pos,rfl⟩:=he
    have hx:=hl x fj;have hi:X.N[pre.length]?=some x:=by
     rw[hN,j0,nJ (bD _)];simp
    refine assignInOrder_cons (Kd (rJ I nd hi (.inl hx) r (fun s' I'=>?_) (.inr hx)));have e1:(σp++(cH (x::NT).length none++fs)).set pre.length (some v)=(σp++[some v])++(cH NT.length none++fs):=by
     exact(ain σp none (some v) (cH NT.length none++fs) hp).trans (List.append_cons σp (some v) (cH NT.length none++fs))
    rw[e1] at I';refine ih (pre:=pre++[x]) (NF:=NF) (σp:=σp++[some v]) (by rw[hN];simp) nd (fun y hy=>hl y (eZ _ hy)) (by simp[hp]) (by simpa using hv) I' rr fun s2 I2=>q s2 ?_
    have e2:σp++[some v]++(vs.map some++fs)=σp++((v::vs).map some++fs):=by simp
    rw[e2] at I2;exact I2
theorem ajY(tk:pP tg NT T)(hN:X.N=NT++NF)(nd:X.N.Nodup)(hc:X.calm=true)
  (hl:∀x∈NT,X.env.scope.names.lookup x=some .local)(I:Inv X pins (cH NT.length none++fs) H s)(r:RelV v u)(hv:wu X.K T v H vs)
  (q:∀s',Inv X pins (vs.map some++fs) H s'→Q () s'):aL (model X.prog X.w) X.A (assign tg X.env u) Q E s:=by
 cases T with
 |one=>
  obtain⟨x,⟨pos,rfl⟩,rfl⟩:=tk
  have hv':vs=[v]:=hv;subst hv';have hx:=hl x fj;exact Kd (rJ I nd (i:=0) (by rw[hN];rfl) (.inl hx) r (fun s' I'=>q s' I') (.inr hx))
 |many n=>
  obtain⟨es,k,pos,rfl,p,hn⟩:=tk
  obtain⟨a,rfl,hq,hlen⟩:=hv
  cases r
  obtain⟨its,rv,ht,hz⟩:=I.tuple hq
  have e:=Wy (env:=X.env) p;have hpl:=p.length;refine assign_Tuple_tuple (I.ok.hd hc) ht (by rw[e];simp only[aX,fB];rw[←rv.length];omega) (by rw[e];simp) fun h' hx=>?_
  have I1:Inv X pins (cH NT.length none++fs) H {s with heap:=h'}:=I.kept (t':=s.toks) fun b o e=>hx b o (dF (bT e)) e
  rw[e,dX];exact agb p (pre:=[]) (σp:=[]) (by rw[hN];rfl) nd hl rfl (by omega) I1 (by simpa using rv) q
end
def turnOf(target iter:Expr)(ifs:List Expr)(it:Value)(env:Env)(emit:Sem Unit)(more:Sem PySem.Fin):Sem PySem.Fin:=do
 rM iter.pos
 match ←n6 it with
 |none=>pure (.done .next)
 |some v=>
  wN target it v
  assign target env v
  let mut ok:=true
  for c in ifs do
   if ok then ok ←isTrue c env (eval c env)
  if ok then emit
  more
theorem afl(elt target iter:Expr)(ifs:List Expr)(scope:iK)(pos:Pos)(it acc:Value)(env:Env):
  Bw (.ListComp elt [⟨target,iter,ifs,0⟩] scope pos) 0 it acc env=turnOf target iter ifs it env (do let _ ←call (.builtin "list.append") [acc,←eval elt env]) (again (.compLoop (.ListComp elt [⟨target,iter,ifs,0⟩] scope pos) 0 it acc env)):=by rfl
theorem afm(kx vx target iter:Expr)(ifs:List Expr)(scope:iK)(pos:Pos)(it:Value)(D:aa)(env:Env):
  Bw (.DictComp kx vx [⟨target,iter,ifs,0⟩] scope pos) 0 it (.ref D) env=turnOf target iter ifs it env (do
      let kv ←eval kx env
      let vv ←pF [kv] (eval vx env)
      rM {kx.pos with endLine:=vx.pos.endLine,endCol:=vx.pos.endCol}
      pF [kv,vv] (dictSet D kv vv)) (again (.compLoop (.DictComp kx vx [⟨target,iter,ifs,0⟩] scope pos) 0 it (.ref D) env)):=by rfl
theorem agc(elt target iter:Expr)(ifs:List Expr)(scope:iK)(pos:Pos)(it acc:Value)(env:Env):
  Bw (.SetComp elt [⟨target,iter,ifs,0⟩] scope pos) 0 it acc env=turnOf target iter ifs it env (do let v ←eval elt env;rM elt.pos;let _ ←call (.builtin "set.add") [acc,v]) (again (.compLoop (.SetComp elt [⟨target,iter,ifs,0⟩] scope pos) 0 it acc env)):=by rfl
def nD(X:Cx)(ifs:List Expr)(t:TT):Prop:=
 ∀(pins:List (aa×Obj))(s:au)(σ:St)(H:Hp)(Q:Bool→Hp→Prop),Inv X pins σ H s→t σ H Q→
  aL (model X.prog X.w) X.A (forIn ifs true fun c r=>if r=true then do let ok ←isTrue c X.env (eval c X.env);pure (ad4 ok) else pure (ad4 r)) (TP X pins σ Q) X.xe s
def alM:TT:=fun _ H Q=>Q true H
theorem aio:nD X [] alM:=fun _ _ _ H _ I h=>wpAny_tests_nil ⟨H,I,h⟩
theorem aip(h:PT X c t):nD X [c] t:=fun pins s σ H Q I q=>wpAny_tests_one (h pins s σ H Q I q)
abbrev TM:=St→Hp→(Hp→Prop)→Prop
def PM(X:Cx)(emit:Sem Unit)(t:TM):Prop:=
 ∀(pins:List (aa×Obj))(s:au)(σ:St)(H:Hp)(Q:Hp→Prop),Inv X pins σ H s→t σ H Q→
  aL (model X.prog X.w) X.A emit (fun _ s'=>∃H',Inv X pins σ H' s'∧Q H') X.xe s
def Pb(D:aa)(te:TE):TM:=fun σ H Q=>te σ H fun y H1=>∃xs,H1 D=some (.lst xs)∧xs.length<bJ∧Q (upd H1 D (.lst (xs++[y])))
theorem agd(he:PE X elt te):PM X (do let _ ←call (.builtin "list.append") [.ref D,←eval elt X.env]) (Pb D te):=by
 intro pins s σ H Q I h;refine aD (bu (he pins s σ H _ I h) fun v s1 aJ=>?_)
 obtain⟨y,H1,I1,r1,xs,hD,hz,q⟩:=aJ
 refine aD (bu (M8 (X:=X) pins s1 σ H1 (.ref D) [y] (.ref D) [v] (fun _ H'=>Q H') I1 rfl (.cons r1 .nil) ⟨D,xs,y,rfl,rfl,hD,hz,q⟩) fun _ s2 ⟨_,H2,I2,_,q2⟩=>aV ⟨H2,I2,q2⟩)
def vV(K:aC)(T:fU)(ts:TT)(em:TM)(fs:St)(J:It)(H0:Hp)(done:Hp→Prop):Prop:=
 ∃W:Nat→Nat→Hp→Prop,(∃m,W 0 m H0)∧∀i m H,W i m H→
  (J.stop i H∧done H)∨(J.go i H∧∀x H',J.wg i H x H'→∃vs,wu K T x H' vs∧
   ts (vs.map some++fs) H' fun b H2=>if b=true then em (vs.map some++fs) H2 fun H3=>∃m',m'<m∧W (i+1) m' H3 else ∃m',m'<m∧W (i+1) m' H2)
section
variable{X:Cx}{NT NF:List Str}{tg iter e:Expr}{ifs:List Expr}{T:fU}{ts:TT}{em:TM}{emit:Sem Unit}{acc:Value}{fp:List aa}{it:aa}{J:It}{tn:Nat→aU→Prop}
theorem ag6{fs:St}{vs:List V}{pins:List (aa×Obj)}{H:Hp}{s:au}(hv:vs.length=NT.length)(I:Inv X pins (vs.map some++fs) H s):Inv X pins (cH NT.length none++fs) H s:=
 I.weak (by simp[hv]) fun i v h=>by
  by_cases hi:i<NT.length
  ·rw[nM (by simpa using hi),T8] at h;split at h<;>cases h
  ·rw[nJ (by simp;omega)] at h⊢;simpa[hv] using h
theorem wu.len{tg:Expr}{K:aC}{x:V}{H:Hp}{vs:List V}(tk:pP tg NT T)(h:wu K T x H vs):vs.length=NT.length:=by
 cases T with
 |one=>obtain⟨y,_,rfl⟩:=tk;rw[show vs=[x] from h];rfl
 |many n=>obtain⟨_,_,_,_,_,e⟩:=tk;obtain⟨_,_,_,e'⟩:=h;omega
theorem NK{R:qx→au→Prop}{fs:St}{H:Hp}{s:au}{done:Hp→Prop}(hx:X.xe=fun _ _=>False)(hT:Bw e 0 (.ref it) acc X.env=turnOf tg iter ifs (.ref it) X.env emit (again (.compLoop e 0 (.ref it) acc X.env)))
  (hq:(Bd e 0 (.ref it) acc X.env).isFrame=false)(hqu:(Bd e 0 (.ref it) acc X.env).quiet=true)(hA:X.A.under (Bd e 0 (.ref it) acc X.env)=X.A)
  (tk:pP tg NT T)(hN:X.N=NT++NF)(nd:X.N.Nodup)(hc:X.calm=true)(hl:∀x∈NT,X.env.scope.names.lookup x=some .local)
  (hts:nD X ifs ts)(hem:PM X emit em)(TT:Turn X.prog X.w X.K tg J fp it tn)(hf:∀b∈fp,jo X [] H b)(I:Inv X [] (cH NT.length none++fs) H s)(st:tn 0 s.heap)(hb:vV X.K T ts em fs J H done)
  (hR:∀H' s' σ',Inv X [] σ' H' s'→done H'→R (.ok .next) s'):
  jR (model X.prog X.w) X.A (.compLoop e 0 (.ref it) acc X.env) R s:=by
 obtain⟨W,⟨m0,w0⟩,turn⟩:=hb
 have stat:∀{H':Hp},(∀b∈fp,H' b=none)→∀b∈fp,jo X [] H' b:=fun hn b hb=>⟨hn b hb,(hf b hb).2⟩
 have noE:∀{α:Type}{t:Sem α}{Q:α→au→Prop}{E:Value→au→Prop}{s:au},aL (model X.prog X.w) X.A t Q (fun _ _=>False) s→aL (model X.prog X.w) X.A t Q E s:=fun h=>nW h (fun _ _ z=>z) fun _ _ z=>z.elim
 have noX:∀{α:Type}{t:Sem α}{Q:α→au→Prop}{E:Value→au→Prop}{s:au},aL (model X.prog X.w) X.A t Q X.xe s→aL (model X.prog X.w) X.A t Q E s:=fun h=>noE (by rw[hx] at h;exact h)
 refine codeAny_loop hqu (fun n s'=>∃i H',Inv X [] (cH NT.length none++fs) H' s'∧tn i s'.heap∧(∀b∈fp,H' b=none)∧W i n H') ?_ m0 ⟨0,H,I,st,fun b hb=>(hf b hb).1,w0⟩;rintro n s3 ⟨i,H3,I3,st3,Ec,w3⟩;rw[hA];show aL _ X.A (if(Bd e 0 (.ref it) acc X.env).isFrame=true then(Bw e 0 (.ref it) acc X.env).onRaise (leaving X.env) else(Bw e 0 (.ref it) acc X.env).onRaise (fun x=>do noteFrame x X.env;theTreesLotGoes x)) _ _ s3;rw[hq,if_neg gG];refine wpAny_noted (noE ?_);rw[hT];unfold turnOf;refine aD (uX (aD ?_));rcases turn i n H3 w3 with⟨stop,qn⟩|⟨go,step⟩
 ·refine bu (TT.done X rfl rfl rfl hc i [] s3 _ H3 _ I3 (stat Ec) st3 stop) fun r s4 aJ=>?_
  obtain⟨hr,I4⟩:=aJ
  subst hr;exact aV (hR H3 s4 _ I4 qn)
 ·refine bu (TT.item X rfl rfl rfl hc i [] s3 _ H3 _ I3 (stat Ec) st3 go) fun r s4 aJ=>?_
  obtain⟨u,hr,h4⟩:=aJ
  subst hr;refine aD (bu h4 fun _ s5 aJ=>?_)
  obtain⟨x,H5,I5,r5,y5,yw,Sd⟩:=aJ
  have Sg:=I5.pinned (stat Sd) (TT.obj _ _ yw)
  obtain⟨vs,hv,q5⟩:=step x H5 y5
  have hvl:=wu.len tk hv;refine aD (ajY tk hN nd hc hl Sg r5 hv fun s6 I6=>?_);refine aD (noX (bu (hts _ s6 _ H5 _ I6 q5) fun b s7 aJ=>?_))
  obtain⟨H7,I7,q7⟩:=aJ
  have aag:∀{s8:au}{H8:Hp},Inv X ([]++Cu fp s5.heap) (vs.map some++fs) H8 s8→(∃m',m'<n∧W (i+1) m' H8)→
    (Bd e 0 (.ref it) acc X.env=Bd e 0 (.ref it) acc X.env)∧∃m,m<n∧∃i H',Inv X [] (cH NT.length none++fs) H' s8∧tn i s8.heap∧(∀b∈fp,H' b=none)∧W i m H':=fun{s8 H8} I8 n8=>by
   obtain⟨m',hm,w8⟩:=n8
   refine⟨rfl,m',hm,i+1,H8,ag6 hvl I8.Hq,TT.keep _ _ _ yw fun b hb o e=>(I8.pin (b,o) (dN _ (dN _ (GZ hb e)))).1,fun b hb=>?_,w8⟩
   obtain⟨o,e,d⟩:=TT.obj _ _ yw b hb
   exact(I8.pin (b,o) (dN _ (dN _ (GZ hb e)))).2.1
  cases b with
  |false=>exact aV (aag I7 q7)
  |true=>exact aD (noX (bu (hem _ s7 _ H7 _ I7 q7) fun _ s8 ⟨H8,I8,q8⟩=>aV (aag I8 q8)))
end
structure Bk where
 cl:List (Str×aa)
 C:aa
 s:au
 H:Hp
 fp:List aa
abbrev Cx.bk(X:Cx)(N:List Str)(scope:iK)(b:Bk):Cx:=X.blk N scope b.cl b.C b.s b.H b.fp
section
variable{X:Cx}{NT NF:List Str}{js:List Nat}{elt kx vx tg iter e:Expr}{ifs:List Expr}{T:fU}{wi:TI}{ts:Bk→TT}{te tk' tv:Bk→TE}{scope:iK}{pos:Pos}
def tLC(K:aC)(wi:TI)(T:fU)(ts:Bk→TT)(te:Bk→TE)(js:List Nat):TE:=fun σ H Q=>wi σ H fun J H1=>∀D,H1 D=none→∀b,vV K T (ts b) (Pb D (te b)) (frees js σ) J (upd H1 D (.lst [])) (Q (.ref D))
theorem ajZ{pins:List (aa×Obj)}{σ:St}{s2:au}{H2:Hp}{cl:List (Str×aa)}{it:aa}{fp:List aa}{tn:Nat→aU→Prop}{J:It}{Q:Hp→Prop}{RR:Value→aa→qx→au→Prop}{E:Value→au→Prop}
  (B:qI X NT NF js scope)(tk:pP tg NT T)(hc:X.calm=true)
  (hin:∀b,nD (X.bk (NT++NF) scope b) ifs (ts b)∧PE (X.bk (NT++NF) scope b) elt (te b))
  (q2:∀n c,cl.lookup n=some c→X.env.cells.lookup n=some c)(q3:∀y∈scope.names,y.2=.free→∃c,cl.lookup y.1=some c)
  (I2:Inv X pins σ H2 s2)(TT:Turn X.prog X.w X.K tg J fp it tn)(st2:tn 0 s2.heap)(f2:∀b∈fp,jo X pins H2 b)
  (q:∀b,vV X.K T (ts b) (Pb s2.heap.objs.size (te b)) (frees js σ) J (upd H2 s2.heap.objs.size (.lst [])) Q)
  (hR:∀C H' s' m,Inv X pins σ H' s'→jo X pins H' C→s'.heap.Ns C m→Q H'→RR (.ref s2.heap.objs.size) C (.ok .next) s'):
  aL (model X.prog X.w) X.A (newList []) (fun acc s₃=>aL (model X.prog X.w) X.A (Vq scope X.env.globals cl [] X.env.qual none .none (some X.env)) (fun cenv s₄=>
   jR (model X.prog X.w) X.A (.compStart (.ListComp elt [⟨tg,iter,ifs,0⟩] scope pos) 0 (.ref it) acc {cenv with scope:=relabel scope X.env}) (RR acc cenv.locals) s₄) E s₃) E s2:=by
 refine lX ?_;have hD:H2 s2.heap.objs.size=none:=I2.hok.fresh (bD _);have I3:Inv X pins σ (upd H2 s2.heap.objs.size (.lst [])) {s2 with heap:=s2.heap.push {cls:=.type "list",dict:=none,data:=.seq ([]:List Value).toArray}}:=
  I2.laid (t':=s2.toks) (fun b o e=>cB _ e) (bD _) ⟨lJ _,[],0,.nil,gF _ rfl⟩
 have hsz:(s2.heap.push {cls:=.type "list",dict:=none,data:=.seq ([]:List Value).toArray}).objs.size=s2.heap.objs.size+1:=wQ ..;refine Ug B.cell (by intro y hy;simp at hy) (fun h₁ hns₁ hsb₁=>?_) B.kind;have sO:∀b∈fp,b<s2.heap.objs.size:=fun b hb=>by
  obtain⟨o,e,_⟩:=TT.obj 0 _ st2 b hb
  exact bT e
 have f3:∀b∈fp,jo X pins (upd H2 s2.heap.objs.size (.lst [])) b:=fun b hb=>⟨by rw[cG (dF (sO b hb))];exact(f2 b hb).1,(f2 b hb).2⟩
 have keep:∀b o,(s2.heap.push {cls:=.type "list",dict:=none,data:=.seq ([]:List Value).toArray}).get? b=some o→h₁.get? b=some o:=fun b o e=>
  hsb₁.extBut b o (dF (bT e)) (cB _ e)
 have wz:∀b∈fp,b<(s2.heap.push {cls:=.type "list",dict:=none,data:=.seq ([]:List Value).toArray}).objs.size:=fun b hb=>by have:=sO b hb;rw[hsz];exact wK this
 have I4:=I3.blk (s1:={s2 with heap:=h₁,toks:=s2.toks+([]:List (Str×Value)).length}) B q2 q3 f3 wz hns₁ keep rfl I2.bare;have wA:tn 0 h₁:=TT.keep 0 _ _ st2 fun b _ o e=>keep b o (cB _ e)
 obtain⟨i1,i2⟩:=hin ⟨cl,(s2.heap.push {cls:=.type "list",dict:=none,data:=.seq ([]:List Value).toArray}).objs.size,{s2 with heap:=s2.heap.push {cls:=.type "list",dict:=none,data:=.seq ([]:List Value).toArray}},upd H2 s2.heap.objs.size (.lst []),fp⟩
 have loop:jR (model X.prog X.w) X.A (.compLoop (.ListComp elt [⟨tg,iter,ifs,0⟩] scope pos) 0 (.ref it) (.ref s2.heap.objs.size) (NB scope cl (s2.heap.push {cls:=.type "list",dict:=none,data:=.seq ([]:List Value).toArray}).objs.size X.env))
   (RR (.ref s2.heap.objs.size) (s2.heap.push {cls:=.type "list",dict:=none,data:=.seq ([]:List Value).toArray}).objs.size) {s2 with heap:=h₁,toks:=s2.toks+([]:List (Str×Value)).length}:=by
  refine NK (X:=X.blk (NT++NF) scope cl (s2.heap.push {cls:=.type "list",dict:=none,data:=.seq ([]:List Value).toArray}).objs.size {s2 with heap:=s2.heap.push {cls:=.type "list",dict:=none,data:=.seq ([]:List Value).toArray}} (upd H2 s2.heap.objs.size (.lst [])) fp)
   (T:=T) (fs:=frees js σ) (done:=Q) rfl (afl elt tg iter ifs scope pos _ _ _) rfl rfl rfl tk rfl B.nd hc (fun x hx=>Uh (B.tg x hx)) i1 (agd i2) TT (fun b hb=>?_) I4 wA (q _) fun H' s' σ' J' qd=>?_
  ·exact⟨(f3 b hb).1,dF (wz b hb),fun hb2=>by
    rcases bL.mp (I3.zG b hb2) with z|z
    ·exact(f3 b hb).2.1 z
    ·exact(f3 b hb).2.2.1 z,.inl hb,fun x c e=>(f3 b hb).2.2.2.2.1 x c (q2 x c e),fun p hp=>(nomatch(show p∈([]:List (aa×Obj)) from hp))⟩
  ·obtain⟨m,hn,_⟩:=J'.loc
   exact hR _ H' s' m (I3.Rc f3 J') (I3.ux (bD _) J'.free) hn qd
 exact codeAny_compStart_list loop (TT.self _ 0 _ _ _ wA loop)
theorem ak9(B:qI X NT NF js scope)(tk:pP tg NT T)(hc:X.calm=true)(hi:PI X tg iter wi)
  (hin:∀b,nD (X.bk (NT++NF) scope b) ifs (ts b)∧PE (X.bk (NT++NF) scope b) elt (te b))
  (hs:∀x,wJ iter X.env x=pure x:=by intro _;rfl):PE X (.ListComp elt [⟨tg,iter,ifs,0⟩] scope pos) (tLC X.K wi T ts te js):=by
 intro pins s σ H Q I h
 obtain⟨cl,hclos,q2,q3⟩:=Mv (env:=X.env) (scope:=scope) fun y hy e=>I.ok.has y.1 (B.free y hy e)
 rw[eval_ListComp];refine T6 (use:=none) rfl hs hclos B.kind B.names (bu (hi pins s σ H _ I h) fun v s1 h1=>bu h1 fun itv s2 aJ=>?_)
 obtain⟨it,fp,tn,J,H2,e,I2,TT,st2,f2,q⟩:=aJ
 subst e;refine ajZ (Q:=fun H'=>Q (.ref s2.heap.objs.size) H') (RR:=fun acc C=>compPost (model X.prog X.w) X.A X.xe none (EP X pins σ Q) acc C) B tk hc hin q2 q3 I2 TT st2 f2 (q _ (I2.hok.fresh (bD _))) fun C H' s' m I' fC hn qd=>?_
 refine⟨m,hn,fun h' sb=>⟨.ref s2.heap.objs.size,H',?_,rfl,qd⟩⟩
 exact I'.turned (t':=s'.toks) (fun b o hb e=>(sb.2 b hb).trans e) fC.1 fC.2.1 fC.2.2.2.1 fC.2.2.2.2.1 fC.2.2.2.2.2
end
def Su(z:Str):It:=⟨fun i _=>i<z.cps.size,fun i H x H'=>H'=H∧∃c,z.cps[i]?=some c∧x=.str ⟨#[c]⟩,fun i _=>z.cps.size≤i⟩
theorem ag7{P:bf}{w:aY}{K:aC}{tg:Expr}{z:Str}{t:Tok}{ty:String}{it:aa}(hty:ty="str_ascii_iterator"∨ty="str_iterator")(hgo:∀i u,wN tg i u=pure ()):
  Turn P w K tg (Su z) [it] it (fun i h=>h.IsStrIter it ty z t i) where
 mem:=by simp
 obj:=fun i h st b hb=>by
  have e:b=it:=by simpa using hb
  subst e
  obtain⟨o,e,c,d⟩:=st
  exact⟨o,e,fun v q=>by rw[d] at q;cases q⟩
 keep:=fun i h h' st k=>let ⟨o,ho,r⟩:=st;⟨o,k it (by simp) o ho,r⟩
 item:=by
  intro X hP hw hK hc i pins s σ H E I hf st hg;subst hP hw hK
  obtain⟨f0,f1,f2,f3,f4,f5⟩:=hf it (by simp)
  have hi:i<z.cps.size:=hg;have W:Walks X.prog X.w X.A it [it] [it] z.cps.size (SignAt z) (fun i h=>h.IsStrIter it ty z t i):=by
   rcases hty with rfl|rfl
   ·exact Walks.strAscii (I.ok.hd hc) it z t
   ·exact Walks.strWide (I.ok.hd hc) it z t
  refine W.item i s _ _ hi st fun v h' tk hv st' kk=>?_
  obtain⟨c,u,hc',rfl⟩:=hv
  have I1:Inv X pins σ H {s with heap:=h',toks:=tk}:=I.turned (fun b o hb e=>kk b o (by simpa using hb) e) f0 f1 f3 f4 f5
  refine⟨_,rfl,?_⟩
  rw[hgo];exact aV ⟨.str ⟨#[c]⟩,H,I1,⟨u,rfl⟩,⟨rfl,c,hc',rfl⟩,st',fun b hb=>(hf b hb).1⟩
 done:=by
  intro X hP hw hK hc i pins s σ H E I hf st hg;subst hP hw hK
  obtain⟨f0,f1,f2,f3,f4,f5⟩:=hf it (by simp)
  have hi:z.cps.size≤i:=hg;rcases hty with rfl|rfl
  ·exact wpAny_pyNext_ascii_end (I.ok.hd hc) st (by simpa using hi) fun h' eb=>⟨rfl,I.turned (t':=s.toks) (fun b o hb e=>eb b o hb e) f0 f1 f3 f4 f5⟩
  ·exact wpAny_pyNext_wide_end (I.ok.hd hc) st (by simpa using hi) fun h' eb=>⟨rfl,I.turned (t':=s.toks) (fun b o hb e=>eb b o hb e) f0 f1 f3 f4 f5⟩
 self:=fun _ _ _ _ _ st h=>by
  rcases hty with rfl|rfl
  ·exact wpAny_pyIter_striter_ascii st h
  ·exact wpAny_pyIter_striter_wide st h
section
variable{X:Cx}{tg:Expr}
def alN(tl:TE):TI:=fun σ H R=>tl σ H fun x H1=>∃z,x=.str z∧R (Su z) H1
theorem aah{l:Expr}{tl:TE}(hl:PE X l tl)(hgo:∀i u,wN tg i u=pure ():=by intro _ _;rfl):PI X tg l (alN tl):=by
 intro pins s σ H R I h;refine bu (hl pins s σ H _ I h) fun v s1 aJ=>?_
 obtain⟨x,H1,I1,r1,q1⟩:=aJ
 obtain⟨z,e,q⟩:=q1
 subst e
 obtain⟨t,rfl⟩:=r1
 have fin:∀(o:Obj)(ty:String),(ty="str_ascii_iterator"∨ty="str_iterator")→Heap.IsStrIter (s1.heap.push o) s1.heap.objs.size ty z t 0→PIE X pins σ tg R (.ref s1.heap.objs.size) {s1 with heap:=s1.heap.push o}:=fun o ty hty st=>by
  refine⟨s1.heap.objs.size,[s1.heap.objs.size],_,_,H1,rfl,I1.kept (t':=s1.toks) fun b o e=>cB _ e,ag7 hty hgo,st,fun b hb=>?_,q⟩
  have e:b=s1.heap.objs.size:=by simpa using hb
  subst e;exact I1.ux (bD _) (I1.hok.fresh (bD _))
 cases ha:z.cps.all (·<128)
 ·exact wpAny_pyIter_wide ha (fin _ _ (.inr rfl) ⟨_,gF _ rfl,rfl,rfl⟩)
 ·exact wpAny_pyIter_ascii ha (fin _ _ (.inl rfl) ⟨_,gF _ rfl,rfl,rfl⟩)
theorem age:cz X (dH .LtE) (fun x y H Q=>∃i j,x=.str i∧y=.str j∧Q (.bl (!(decide (j.cps.toList<i.cps.toList)))) H):=by
 intro pins s σ H x y v u Q I rx ry h
 obtain⟨i,j,rfl,rfl,q⟩:=h
 obtain⟨t,rfl⟩:=rx
 obtain⟨t',rfl⟩:=ry
 exact PySem.P.le_str (fG I q rfl)
theorem Mw:∀{ys:List Str}{us:List Value},Vals (ys.map V.str) us→StrsAre us ys
 |[],_,h=>by cases h;exact .nil
 |y::ys,_,h=>by
  cases h with
  |cons r rr=>
   obtain⟨t,rfl⟩:=r
   exact .cons y t (Mw rr)
theorem aiq:qW X "str.join" (fun x xs H Q=>∃z p ys,x=.str z∧xs=[.ref p]∧bC X.K H p (ys.map V.str)∧(ys.map (·.length)).sum+ys.length*z.length≤16777216∧Q (.str (Txt.join z ys)) H):=by
 intro pins s σ H x xs v us Q I rx r h
 obtain⟨z,p,ys,rfl,rfl,hp,hz,q⟩:=h
 obtain⟨t,rfl⟩:=rx
 obtain⟨u,rfl,ru⟩:=vals1 r
 cases ru
 obtain⟨its,rv,pl,_⟩:=I.list hp
 exact join_list pl.isList (by simpa using Mw rv) hz fun t' k=>⟨.str _,H,I.tok _,⟨_,rfl⟩,q⟩
end
section
variable{X:Cx}
theorem part_of(h:rO v o):∃l:Option (Int×Tok),v=partValue l∧l.map (·.1)=o:=by
 cases h with
 |none=>exact⟨none,rfl,rfl⟩
 |int i t=>exact⟨some (i,t),rfl,rfl⟩
theorem aj0:uG X (fun x lo hi H Q=>∃z,x=.str z∧z.length≤bJ∧Q (.str (Txt.slice z lo hi)) H):=by
 intro pins s σ H x v vl vu lo hi sl Q I rx hs pl pu h
 obtain⟨z,rfl,hz,q⟩:=h
 obtain⟨t,rfl⟩:=rx
 obtain⟨l,rfl,rfl⟩:=part_of pl
 obtain⟨u,rfl,rfl⟩:=part_of pu
 refine⟨"str",_,F.slot_str_getitem.lookup,Wt s z t,?_⟩
 exact wpAny_getItem_str_slice (l:=l) (u:=u) (st:=none) hs rfl (post_val_or_str ⟨jd (Txt.slice_le z _ _) hz,fun t' k=>⟨.str _,H,I.tok _,⟨t',rfl⟩,q⟩⟩)
theorem X6:∀{bs:List Bool}{us:List Value},Vals (bs.map V.bl) us→us=bs.map o9
 |[],_,h=>by cases h;rfl
 |b::bs,_,h=>by
  cases h with
  |cons r rr=>
   cases r;rw[X6 rr];rfl
theorem ag8(hc:X.calm=true):gQ X (.builtin "all") (fun xs H Q=>∃(p:aa)(bs:List Bool),xs=[.ref p]∧bC X.K H p (bs.map V.bl)∧Q (.bl (bs.all id)) H):=by
 intro pins s σ H xs us Q I r h
 obtain⟨p,bs,rfl,hp,q⟩:=h
 obtain⟨u,rfl,ru⟩:=vals1 r
 cases ru
 obtain⟨its,rv,pl,_⟩:=I.list hp
 have hl:=pl.isList;have e0:=X6 rv;subst e0;have hlt:p<s.heap.objs.size:=by obtain⟨_,e,_⟩:=hl;exact bT e
 refine call_all_walk (Ux hl ?_)
 refine⟨s.heap.objs.size,[s.heap.objs.size,p],[s.heap.objs.size],(bs.map o9).toArray.size,_,_,fun i=>(bs[i]?).getD true,rfl,afn (A:=X.A.in1) (I.ok.hd hc) _ p (dF hlt) (bs.map o9).toArray,
  ⟨⟨_,gF _ rfl,rfl,rfl⟩,hl.push _⟩,fun i v s' Q' E' hP hQ=>?_,fun h' tk hk=>?_⟩
 ·have hP':(bs.map o9)[i]?=some v:=by simpa using hP
  rw[fY] at hP';cases e:bs[i]? with
  |none=>rw[e] at hP';cases hP'
  |some b=>
   rw[e] at hP';cases hP';simp only[e,FW] at hQ;exact uR hQ
 ·have e:((dz (bs.map o9).toArray.size).all fun i=>(bs[i]?).getD true)=bs.all id:=by
   have:(bs.map o9).toArray.size=bs.length:=by simp
   rw[this,p7,nO,nO];constructor
   ·intro h b hb
    obtain⟨i,hi,rfl⟩:=sY hb
    have:=h i (oY.mpr hi);simpa[ie hi] using this
   ·intro h i hi;have hi':=oY.mp hi;simp only[ie hi',FW];exact h _ (wM hi')
  rw[e]
  refine⟨.bl _,H,I.kept fun b x e=>hk b x (fun hm=>?_) (cB _ e),rfl,q⟩
  rw[jm.mp hm] at e;exact uW _ (bT e)
end
mutual
def RD(K:aC)(H:Hp):aj→V→Prop
 |.none,v=>v=.non
 |.bool b,v=>v=.bl b
 |.int i,v=>v=.int i
 |.str x,v=>v=.str x
 |.tuple ds,v=>∃a vs,v=.ref a∧cF K H a vs∧jK K H ds vs
 |.list ds,v=>∃a vs,v=.ref a∧bC K H a vs∧jK K H ds vs
 |.dict _,_=>False
def jK(K:aC)(H:Hp):List aj→List V→Prop
 |[],vs=>vs=[]
 |d::ds,vs=>∃v r,vs=v::r∧RD K H d v∧jK K H ds r
end
theorem cF.same{K:aC}{H H':Hp}{a:aa}{xs:List V}(e:∀b ys,H b=some (.tup ys)→H' b=some (.tup ys))(ef:∀b o u,H b=some (.kj o u)→H' b=some (.kj o u))(h:cF K H a xs):cF K H' a xs:=by
 rcases h with(h|⟨o,h⟩)|h
 ·exact .inl (.inl (e _ _ h))
 ·exact .inl (.inr ⟨o,ef _ _ _ h⟩)
 ·exact .inr h
mutual
theorem RD.same{K:aC}{H H':Hp}(e:bh H H'):∀{d:aj}{v:V},RD K H d v→RD K H' d v
 |.none,_,h=>h
 |.bool _,_,h=>h
 |.int _,_,h=>h
 |.str _,_,h=>h
 |.tuple ds,v,h=>by
  obtain⟨a,vs,e1,q,r⟩:=h
  exact⟨a,vs,e1,q.same (fun b ys z=>e _ _ z) (fun b o u z=>e _ _ z),jK.same e r⟩
 |.list ds,v,h=>by
  obtain⟨a,vs,e1,q,r⟩:=h
  exact⟨a,vs,e1,e.seq q,jK.same e r⟩
theorem jK.same{K:aC}{H H':Hp}(e:bh H H'):∀{ds:List aj}{vs:List V},jK K H ds vs→jK K H' ds vs
 |[],_,h=>h
 |d::ds,vs,h=>by
  obtain⟨v,r,e1,q,t⟩:=h
  exact⟨v,r,e1,RD.same e q,jK.same e t⟩
end
mutual
theorem RD.nodict{K:aC}{H:Hp}:∀{d:aj}{v:V},RD K H d v→d.hasDict=false
 |.none,_,h=>by simp[Ay]
 |.bool _,_,h=>by simp[Ay]
 |.int _,_,h=>by simp[Ay]
 |.str _,_,h=>by simp[Ay]
 |.tuple ds,v,h=>by
  obtain⟨a,vs,e1,q,r⟩:=h
  simpa[Ay] using jK.nodict r
 |.list ds,v,h=>by
  obtain⟨a,vs,e1,q,r⟩:=h
  simpa[Ay] using jK.nodict r
theorem jK.nodict{K:aC}{H:Hp}:∀{ds:List aj}{vs:List V},jK K H ds vs→Uy ds=false
 |[],_,h=>by simp[Uy]
 |d::ds,vs,h=>by
  obtain⟨v,r,e1,q,t⟩:=h
  simp[Uy,RD.nodict q,jK.nodict t]
end
section
variable{X:Cx}{pins:List (aa×Obj)}{σ:St}{H:Hp}{s:au}
mutual
theorem RD.reads(I:Inv X pins σ H s):∀{d:aj}{v:V}{u:Value},RD X.K H d v→RelV v u→∃as,Reads s.heap u d as
 |.none,_,_,h,r=>by
  cases(show _=V.non from h)
  cases r
  exact⟨_,.none⟩
 |.bool b,_,_,h,r=>by
  cases(show _=V.bl b from h)
  cases r
  exact⟨_,.bool b⟩
 |.int i,_,_,h,r=>by
  cases(show _=V.int i from h)
  obtain⟨t,rfl⟩:=r
  exact⟨_,.int i t⟩
 |.str x,_,_,h,r=>by
  cases(show _=V.str x from h)
  obtain⟨t,rfl⟩:=r
  exact⟨_,.str x t⟩
 |.tuple ds,v,u,h,r=>by
  obtain⟨a,vs,e1,q,t⟩:=h
  subst e1;cases r
  obtain⟨its,rv,⟨o,e,c,n,d⟩,_⟩:=I.tuple q
  obtain⟨as,R⟩:=jK.reads I t rv
  exact⟨_,.tuple e c d (by simpa using R)⟩
 |.list ds,v,u,h,r=>by
  obtain⟨a,vs,e1,q,t⟩:=h
  subst e1;cases r
  obtain⟨its,rv,⟨o,n,e,c,_,d⟩,_⟩:=I.list q
  obtain⟨as,R⟩:=jK.reads I t rv
  exact⟨_,.list e c d (by simpa using R)⟩
theorem jK.reads(I:Inv X pins σ H s):∀{ds:List aj}{vs:List V}{us:List Value},jK X.K H ds vs→Vals vs us→∃as,ReadsAll s.heap us ds as
 |[],_,_,h,r=>by
  cases(show _=[] from h)
  cases r
  exact⟨_,.nil⟩
 |d::ds,vs,us,h,r=>by
  obtain⟨v,rr,e1,q,t⟩:=h
  subst e1;cases r with
  |cons r1 r2=>
   obtain⟨as,R⟩:=RD.reads I q r1
   obtain⟨bs,R2⟩:=jK.reads I t r2
   exact⟨_,.cons R R2⟩
end
end
section
variable{X:Cx}
end
def aai(mZ:iK)(N0 NT NF:List Str)(js:List Nat)(scope:iK):Bool:=
 scope.kind==.function&&scope.names.all (fun y=>!(y.2==.local)||scope.names.lookup y.1==some .local)&&scope.names.all (fun y=>!(y.2==.cell))&&
  scope.names.all (fun y=>!(y.2==.free)||(mZ.names.lookup y.1==some .cell||mZ.names.lookup y.1==some .free))&&js.length==NF.length&&
  (js.zip NF).all (fun p=>N0[p.1]?==some p.2&&scope.names.lookup p.2==some .free)&&NT.all (fun x=>scope.names.lookup x==some .local)&&decide (NT++NF).Nodup
theorem qP.ok(h:aai mZ N0 NT NF js scope=true)(ho:X.env.scope=mZ)(hN:X.N=N0):qI X NT NF js scope:=by
 unfold aai at h;simp only[gH] at h
 obtain⟨⟨⟨⟨⟨⟨⟨h1,h2⟩,h3⟩,h4⟩,h5⟩,h6⟩,h7⟩,h8⟩:=h
 refine⟨eq_of_beq h1,fun y hy e=>?_,fun y hy e=>?_,fun y hy e=>?_,by simpa using h5,fun k j x ej ex=>?_,fun x hx=>?_,of_decide_eq_true h8⟩
 ·have:=nO.mp h2 y hy;rw[e] at this;simpa using this
 ·have:=nO.mp h3 y hy;rw[e] at this;simp at this
 ·have:=nO.mp h4 y hy;rw[e] at this;rw[ho];simpa using this
 ·have hm:(j,x)∈js.zip NF:=by
   have:(js.zip NF)[k]?=some (j,x):=by
    rw[List.getElem?_zip_eq_some]
    exact⟨ej,ex⟩
   exact lV this
  have:=nO.mp h6 _ hm;simp only[gH] at this;rw[hN]
  exact⟨eq_of_beq this.1,eq_of_beq this.2⟩
 ·exact eq_of_beq (nO.mp h7 x hx)
structure dD(P:bf)(w:aY)(K:aC)(mg:Str→Option Value)(base:aU)(x:Str)(k:Nat)(ps:List Str)(sp:Sp):Prop where
 ex:∃(f:aa)(fd:dg),mg x=some (.ref f)∧uV K (.ref f)=true∧Binds K fd ps []∧cY P w K mg base eO k f fd ps sp
section
variable{X:Cx}{x:Str}{k:Nat}{ps:List Str}{sp:Sp}{p pos:Pos}{e:Expr}{es:List Expr}{t:TA}
theorem ala(F:dD X.prog X.w X.K X.mg X.base x k ps sp)(hr:gC k X.A)(hg:Gl X x)(ha:PA X (e::es) t)(hdb:(x==("__debug__":Str))=false:=by decide)
  (he:aZ (e::es) X.env=(false,eval e X.env)::aZ es X.env:=by rfl)(hpl:(fK pos (aZ es X.env)).any (·.1)=false:=by rfl):
  PE X (.Call (.Name x p) (e::es) [] pos) (Q8 sp [] E0 t):=by
 obtain⟨f,fd,h1,h2,h3,h4⟩:=F.ex
 exact aia h4 hr hg h1 h2 h3 .nil ak8 ha hdb he hpl
theorem ae1:gQ X (.builtin "isinstance") (fun xs H Q=>∃x n t b,xs=[x,.ty n]∧lA X.K H x t∧yQ X.K t (.type n)=some b∧Q (.bl b) H):=by
 intro pins s σ H xs us Q I r h
 obtain⟨x,n,t,b,rfl,ty,e,q⟩:=h
 obtain⟨u,u2,rfl,r1,r2⟩:=vals2 r
 cases r2;exact af2 I r1 ty e fun tk=>⟨.bl b,H,I.tok tk,rfl,q⟩
end
structure Fx(K:aC)(T:fU)(J:It)(n:Nat)(vs:Nat→List V)(G:Hp→Prop):Prop where
 go:∀i H,i<n→G H→J.go i H
 wg:∀i H x H',i<n→G H→J.wg i H x H'→H'=H∧wu K T x H (vs i)
 stop:∀H,G H→J.stop n H
section
variable{K:aC}{T:fU}{J:It}{n:Nat}{vs:Nat→List V}{G:Hp→Prop}{ts:TT}{te:TE}{fs:St}{H1:Hp}{D:aa}{done:Hp→Prop}
end
theorem air(h:n≤m)(hm:m≤16777216:=by decide):n≤bJ:=by rw[iI];omega
section
variable{K:aC}{T:fU}{J:It}{n:Nat}{vs:Nat→List V}{G:Hp→Prop}{te:TE}{fs:St}{H1:Hp}{D:aa}{done:Hp→Prop}
end
section
variable{X:Cx}
theorem qW.r{id:String}{r:V→List V→Hp→VK→Prop}(h:qW X id r):Ad X id r:=h
end
def Ext(p:aa)(H H':Hp):Prop:=∀b o,H b=some o→b≠p→H' b=some o
theorem Ext.refl(p:aa)(H:Hp):Ext p H H:=fun _ _ h _=>h
theorem Ext.trans(a:Ext p H H1)(b:Ext p H1 H2):Ext p H H2:=fun c o h hc=>b c o (a c o h hc) hc
theorem bh.ext(s:bh H H'):Ext p H H':=fun b o h _=>s b o h
theorem Ext.upd:Ext p H (upd H p o):=fun b u h hb=>by rw[cG hb];exact h
theorem bh.upd(h:H p=none):bh H (L2.upd H p o):=fun b u e=>by rw[cG (pA e h)];exact e
def RM(D:aa)(tk tv:TE):TM:=fun σ H Q=>tk σ H fun y H1=>tv σ H1 fun z H2=>∃kvs k,H2 D=some (.dK kvs)∧y=kV k∧kvs.length<bJ∧Q (upd H2 D (.dK (putK kvs k z)))
theorem aj1(hu:X.A.units+1<dR)(hk:PE X kx tk)(hv:PE X vx tv):PM X (do
      let kv ←eval kx X.env
      let vv ←pF [kv] (eval vx X.env)
      rM {kx.pos with endLine:=vx.pos.endLine,endCol:=vx.pos.endCol}
      pF [kv,vv] (dictSet D kv vv)) (RM D tk tv):=by
 intro pins s σ H Q I h;refine aD (bu (hk pins s σ H _ I h) fun kv s1 aJ=>?_)
 obtain⟨y,H1,I1,r1,q1⟩:=aJ
 refine aD (mj (bu (hv pins s1 σ H1 _ I1 q1) fun vv s2 aJ=>?_))
 obtain⟨z,H2,I2,r2,kvs,k,hD,ey,hl,q2⟩:=aJ
 subst ey;refine aD (uX (mj ?_))
 obtain⟨z1,hd,vs,rel,dd⟩:=Jg I2.hok hD
 have hz:vs.length≤bJ:=by rw[←rel.length];exact z1
 have hl2:(putK kvs k z).length≤bJ:=by have:=GD kvs k z;omega
 refine wpAny_dictSet_pairs (hsz:=hz) (vH r1) dd fun h' sJ hs=>⟨_,?_,q2⟩
 have he:∃q,h'.get? D=some q:=let ⟨q,_,_,hq,_⟩:=sJ;⟨q,hq⟩
 exact xq I2 (by rw[hD];exact kJ) hs he (Iw hl2 hd (rel.put k r2) sJ)
section
variable{X:Cx}{NT NF:List Str}{js:List Nat}{elt kx vx tg iter e:Expr}{ifs:List Expr}{T:fU}{wi:TI}{ts:Bk→TT}{te tk' tv:Bk→TE}{scope:iK}{pos:Pos}
def tDC(K:aC)(wi:TI)(T:fU)(ts:Bk→TT)(tk' tv:Bk→TE)(js:List Nat):TE:=fun σ H Q=>wi σ H fun J H1=>∀D,H1 D=none→∀b,vV K T (ts b) (RM D (tk' b) (tv b)) (frees js σ) J (upd H1 D (.dK [])) (Q (.ref D))
theorem aj2{pins:List (aa×Obj)}{σ:St}{s2:au}{H2:Hp}{cl:List (Str×aa)}{it:aa}{fp:List aa}{tn:Nat→aU→Prop}{J:It}{Q:Hp→Prop}{RR:Value→aa→qx→au→Prop}{E:Value→au→Prop}
  (B:qI X NT NF js scope)(tk:pP tg NT T)(hc:X.calm=true)(hu:X.A.units+1<dR)
  (hin:∀b,nD (X.bk (NT++NF) scope b) ifs (ts b)∧PE (X.bk (NT++NF) scope b) kx (tk' b)∧PE (X.bk (NT++NF) scope b) vx (tv b))
  (q2:∀n c,cl.lookup n=some c→X.env.cells.lookup n=some c)(q3:∀y∈scope.names,y.2=.free→∃c,cl.lookup y.1=some c)
  (I2:Inv X pins σ H2 s2)(TT:Turn X.prog X.w X.K tg J fp it tn)(st2:tn 0 s2.heap)(f2:∀b∈fp,jo X pins H2 b)
  (q:∀b,vV X.K T (ts b) (RM s2.heap.objs.size (tk' b) (tv b)) (frees js σ) J (upd H2 s2.heap.objs.size (.dK [])) Q)
  (hR:∀C H' s' m,Inv X pins σ H' s'→jo X pins H' C→s'.heap.Ns C m→Q H'→RR (.ref s2.heap.objs.size) C (.ok .next) s'):
  aL (model X.prog X.w) X.A (newDict) (fun acc s₃=>aL (model X.prog X.w) X.A (Vq scope X.env.globals cl [] X.env.qual none .none (some X.env)) (fun cenv s₄=>
   jR (model X.prog X.w) X.A (.compStart (.DictComp kx vx [⟨tg,iter,ifs,0⟩] scope pos) 0 (.ref it) acc {cenv with scope:=relabel scope X.env}) (RR acc cenv.locals) s₄) E s₃) E s2:=by
 refine lX ?_;have hD:H2 s2.heap.objs.size=none:=I2.hok.fresh (bD _);have I3:Inv X pins σ (upd H2 s2.heap.objs.size (.dK [])) {s2 with heap:=s2.heap.push {cls:=.type "dict",dict:=none,data:=.dict #[]}}:=
  I2.laid (t':=s2.toks) (fun b o e=>cB _ e) (bD _) (Nz s2.heap I2.big)
 have hsz:(s2.heap.push {cls:=.type "dict",dict:=none,data:=.dict #[]}).objs.size=s2.heap.objs.size+1:=wQ ..;refine Ug B.cell (by intro y hy;simp at hy) (fun h₁ hns₁ hsb₁=>?_) B.kind;have sO:∀b∈fp,b<s2.heap.objs.size:=fun b hb=>by
  obtain⟨o,e,_⟩:=TT.obj 0 _ st2 b hb
  exact bT e
 have f3:∀b∈fp,jo X pins (upd H2 s2.heap.objs.size (.dK [])) b:=fun b hb=>⟨by rw[cG (dF (sO b hb))];exact(f2 b hb).1,(f2 b hb).2⟩
 have keep:∀b o,(s2.heap.push {cls:=.type "dict",dict:=none,data:=.dict #[]}).get? b=some o→h₁.get? b=some o:=fun b o e=>
  hsb₁.extBut b o (dF (bT e)) (cB _ e)
 have wz:∀b∈fp,b<(s2.heap.push {cls:=.type "dict",dict:=none,data:=.dict #[]}).objs.size:=fun b hb=>by have:=sO b hb;rw[hsz];exact wK this
 have I4:=I3.blk (s1:={s2 with heap:=h₁,toks:=s2.toks+([]:List (Str×Value)).length}) B q2 q3 f3 wz hns₁ keep rfl I2.bare;have wA:tn 0 h₁:=TT.keep 0 _ _ st2 fun b _ o e=>keep b o (cB _ e)
 obtain⟨i1,i2,i3⟩:=hin ⟨cl,(s2.heap.push {cls:=.type "dict",dict:=none,data:=.dict #[]}).objs.size,{s2 with heap:=s2.heap.push {cls:=.type "dict",dict:=none,data:=.dict #[]}},upd H2 s2.heap.objs.size (.dK []),fp⟩
 have loop:jR (model X.prog X.w) X.A (.compLoop (.DictComp kx vx [⟨tg,iter,ifs,0⟩] scope pos) 0 (.ref it) (.ref s2.heap.objs.size) (NB scope cl (s2.heap.push {cls:=.type "dict",dict:=none,data:=.dict #[]}).objs.size X.env))
   (RR (.ref s2.heap.objs.size) (s2.heap.push {cls:=.type "dict",dict:=none,data:=.dict #[]}).objs.size) {s2 with heap:=h₁,toks:=s2.toks+([]:List (Str×Value)).length}:=by
  refine NK (X:=X.blk (NT++NF) scope cl (s2.heap.push {cls:=.type "dict",dict:=none,data:=.dict #[]}).objs.size {s2 with heap:=s2.heap.push {cls:=.type "dict",dict:=none,data:=.dict #[]}} (upd H2 s2.heap.objs.size (.dK [])) fp)
   (T:=T) (fs:=frees js σ) (done:=Q) rfl (afm kx vx tg iter ifs scope pos _ _ _) rfl rfl rfl tk rfl B.nd hc (fun x hx=>Uh (B.tg x hx)) i1 (aj1 hu i2 i3) TT (fun b hb=>?_) I4 wA (q _) fun H' s' σ' J' qd=>?_
  ·exact⟨(f3 b hb).1,dF (wz b hb),fun hb2=>by
    rcases bL.mp (I3.zG b hb2) with z|z
    ·exact(f3 b hb).2.1 z
    ·exact(f3 b hb).2.2.1 z,.inl hb,fun x c e=>(f3 b hb).2.2.2.2.1 x c (q2 x c e),fun p hp=>(nomatch(show p∈([]:List (aa×Obj)) from hp))⟩
  ·obtain⟨m,hn,_⟩:=J'.loc
   exact hR _ H' s' m (I3.Rc f3 J') (I3.ux (bD _) J'.free) hn qd
 exact codeAny_compStart_dict loop (TT.self _ 0 _ _ _ wA loop)
theorem ag9(B:qI X NT NF js scope)(tk:pP tg NT T)(hc:X.calm=true)(hu:X.A.units+1<dR)(hi:PI X tg iter wi)
  (hin:∀b,nD (X.bk (NT++NF) scope b) ifs (ts b)∧PE (X.bk (NT++NF) scope b) kx (tk' b)∧PE (X.bk (NT++NF) scope b) vx (tv b))
  (hsw:u9 (.DictComp kx vx [⟨tg,iter,ifs,0⟩] scope pos) (some (.Name y pos')) spos.line X.env=pure true)
  (hN:X.N.Nodup)(hI:X.N[i]?=some y)(hy:X.env.scope.names.lookup y=some .local)
  (hs:∀x,wJ iter X.env x=pure x:=by intro _;rfl):PS X (.Assign [.Name y pos'] (.DictComp kx vx [⟨tg,iter,ifs,0⟩] scope pos) spos) (Dv (tDC X.K wi T ts tk' tv js) (xM i)):=by
 intro pins s σ H D I h
 obtain⟨cl,hclos,q2,q3⟩:=Mv (env:=X.env) (scope:=scope) fun y hy e=>I.ok.has y.1 (B.free y hy e)
 rw[exec_Assign_Name_used _ _ _ _ hsw];refine aD (uX (aD ?_));show aL _ X.A (do let _ ←comprehension (.DictComp kx vx [⟨tg,iter,ifs,0⟩] scope pos) scope X.env _ (newDict) false (eval iter X.env) (some (assign (.Name y pos') X.env))) _ _ s;refine aD (nW (T6 (use:=some (assign (.Name y pos') X.env)) (Q:=fun _ s'=>SP X pins D .next s') rfl hs hclos B.kind B.names
  (bu (hi pins s σ H _ I h) fun v s1 h1=>bu h1 fun itv s2 ⟨it,fp,tn,J,H2,e,I2,TT,st2,f2,q⟩=>?_)) (fun _ s' hq=>aV (aV hq)) fun _ _ e=>e)
 subst e;refine aj2 (hu:=hu) (Q:=fun H'=>D.nx (σ.set i (some (.ref s2.heap.objs.size))) H') (RR:=fun acc C=>compPost (model X.prog X.w) X.A X.xe (some (assign (.Name y pos') X.env)) (fun _ s'=>SP X pins D .next s') acc C) B tk hc (hin:=hin) q2 q3 I2 TT st2 f2 (q _ (I2.hok.fresh (bD _))) fun C H' s' m I' fC hn qd=>?_
 show aL _ X.A (assign (.Name y pos') X.env (.ref s2.heap.objs.size)) _ _ _;refine Kd (W8 I' hN hI (.inl hy) (v:=.ref s2.heap.objs.size) rfl (fun s3 I3 aJ=>?_) (.inr hy))
 obtain⟨a,sb,ha⟩:=aJ
 have hCa:C≠a:=by
  rcases ha with z|z
  ·rw[z];exact fC.2.1
  ·exact fun w=>fC.2.2.2.2.1 y a z w.symm
 refine⟨m,hn.sameBut sb hCa,fun h' sb'=>⟨_,H',?_,qd⟩⟩
 exact I3.turned (t':=s3.toks) (fun b o hb e=>(sb'.2 b hb).trans e) fC.1 fC.2.1 fC.2.2.2.1 fC.2.2.2.2.1 fC.2.2.2.2.2
end
section
variable{X:Cx}
theorem ais{K:aC}{t:Value}{c d:Value}{p q:Bool}(e1:yQ K t c=some p)(e2:yQ K t d=some q):KN K t [c,d]=some (p||q):=by
 unfold KN;rw[e1];cases p with
 |true=>rfl
 |false=>
  unfold KN;rw[e2];cases q with
  |true=>rfl
  |false=>rfl
end
structure Fy(K:aC)(T:fU)(J:It)(n:Nat)(vs:Nat→List V)(G:Hp→Prop):Prop where
 go:∀i H,i<n→G H→J.go i H
 wg:∀i H x H',i<n→G H→J.wg i H x H'→bh H H'∧wu K T x H' (vs i)
 stop:∀H,G H→J.stop n H
section
variable{K:aC}{T:fU}{J:It}{n:Nat}{vs:Nat→List V}{G:Hp→Prop}{ts:TT}{te:TE}{fs:St}{H1:Hp}{D:aa}{done:Hp→Prop}
end
theorem Inv.BV{X:Cx}{pins:List (aa×Obj)}{σ:St}{H H':Hp}{s:au}{h':aU}{t':Nat}{ch:List aa}(I:Inv X pins σ H s)(k:∀b o,b∉ch→s.heap.get? b=some o→h'.get? b=some o)(hf:∀b∈ch,jo X pins H b)
  (hs:bh H H')(hfr:∀b o,s.heap.get? b=some o→H b=none→H' b=none)(hn:∀b u,H' b=some u→H b=some u∨dO X.prog X.w H' h' b u):Inv X pins σ H' {s with heap:=h',toks:=t'}:=by
 have Ea:∀b u,H b=some u→b∉ch:=fun b u e z=>by rw[(hf b z).1] at e;cases e
 refine I.step (g':=s.gens) (d':=s.drawn) (ch:=ch) (fun b hb=>⟨(hf b hb).2.2.2.1,(hf b hb).2.1,(hf b hb).2.2.2.2.1,(hf b hb).2.2.2.2.2⟩) (fun b o _ _ hc e _=>k b o hc e) (fun b o _ _ hc e _=>⟨o.slots,k b o hc e⟩) (fun b o _ e n=>hfr b o e n)
  (fun b o hc e=>⟨o,k b o hc e⟩) (fun _ _ e=>hs _ _ e) (fun _ _ _ e=>hs _ _ e) (fun b ps e=>⟨#[],by rw[hs _ _ e];simp⟩) (fun m hm=>?_) (fun b u e=>?_) I.bare
 ·obtain⟨o,es,ep,ho,r⟩:=hm
  exact⟨o,es,ep,k _ o (fun z=>(hf _ z).2.1 rfl) ho,r⟩
 ·rcases hn b u e with z|z
  ·refine(I.hok b u z).stay (fun c v hc q=>k c v ?_ q) (fun _ q=>hs _ _ q) fun _ _ q=>hs _ _ q
   rcases hc with y|y
   ·rw[y];exact Ea b u z
   ·exact Ea c _ y
  ·exact z
def Sv(K:aC)(a b:aa):It:=⟨fun i H=>∃xs ys,bC K H a xs∧bC K H b ys∧i<min xs.length ys.length,
 fun i H v H'=>∃p x y,H p=none∧v=.ref p∧H'=upd H p (.tup [x,y])∧∀xs ys,bC K H a xs→bC K H b ys→xs[i]?=some x∧ys[i]?=some y,
 fun i H=>∃xs ys,bC K H a xs∧bC K H b ys∧i=min xs.length ys.length⟩
theorem aha{P:bf}{w:aY}{K:aC}{es:List Expr}{k:Nat}{ps:Pos}{a b z TI TO i1 i2:aa}(D:ZipApart z TI TO i1 i2 a b):
  Turn P w K (.Tuple es k ps) (Sv K a b) [z,TI,TO,i1,i2] z (fun i h=>IsZip h z TI TO .none∧IsPair h TI (.ref i1) (.ref i2)∧(∃c d,IsPair h TO c d)∧h.IsListIter i1 a i∧h.IsListIter i2 b i) where
 mem:=by simp
 obj:=fun i h st c hc=>by
  obtain⟨h1,h2,⟨_,_,h3⟩,⟨o4,e4,_,d4⟩,⟨o5,e5,_,d5⟩⟩:=st
  simp only[bL,jb,or_false] at hc;rcases hc with rfl|rfl|rfl|rfl|rfl
  ·exact⟨_,h1,fun v q=>by cases q⟩
  ·exact⟨_,h2,fun v q=>by cases q⟩
  ·exact⟨_,h3,fun v q=>by cases q⟩
  ·exact⟨_,e4,fun v q=>by rw[d4] at q;cases q⟩
  ·exact⟨_,e5,fun v q=>by rw[d5] at q;cases q⟩
 keep:=fun i h h' st kk=>by
  obtain⟨h1,h2,⟨c,d,h3⟩,h4,h5⟩:=st
  exact⟨kk z (by simp) _ h1,kk TI (by simp) _ h2,⟨c,d,kk TO (by simp) _ h3⟩,h4.at fun o e=>kk i1 (by simp) o e,h5.at fun o e=>kk i2 (by simp) o e⟩
 item:=by
  intro X hP hw hK hc i pins s σ H E I hf st hg;subst hP hw hK
  obtain⟨xs,ys,ha,hb,hi⟩:=hg
  obtain⟨its,r1,p1,_⟩:=I.list ha
  obtain⟨its2,r2,p2,_⟩:=I.list hb
  have l1:=r1.length;have l2:=r2.length;have W:=ae2 (prog:=X.prog) (w:=X.w) (A:=X.A) (I.ok.hd hc) z TI TO i1 i2 a b D its.toArray its2.toArray
  obtain⟨s1,s2,s3,s4,s5⟩:=st
  refine W.item i s _ E (by simp;omega) ⟨s1,s2,s3,s4,s5,p1.isList,p2.isList⟩ fun T vals h' tk hv hT ht hm kk=>?_
  obtain⟨x,y,hx,hy,rfl⟩:=hv
  refine⟨_,rfl,W.go es k ps i T _ _ E hm fun h2 st2 qX=>?_⟩
  have gx:xs[i]?=some (xs.getD i .non):=by
   have:i<xs.length:=by omega
   simp[qg,this]
  have gy:ys[i]?=some (ys.getD i .non):=by
   have:i<ys.length:=by omega
   simp[qg,this]
  obtain⟨u1,hu1,q1⟩:=r1.get gx
  obtain⟨u2,hu2,q2⟩:=r2.get gy
  have ex:u1=x:=by
   have:its[i]?=some x:=by simpa using hx
   rw[hu1] at this;exact fP this
  have ey:u2=y:=by
   have:its2[i]?=some y:=by simpa using hy
   rw[hu2] at this;exact fP this
  subst ex ey;have wf:∀c,c∈[z,TO,i1,i2]→jo X pins H c:=fun c hc=>hf c (by simp at hc⊢;rcases hc with rfl|rfl|rfl|rfl<;>simp)
  have Eg:H T=none:=I.hok.fresh hT;have nT:T∉[z,TO,i1,i2]:=W.apart i T _ hm;have kT:h2.get? T=h'.get? T:=by
   obtain⟨o,e,_⟩:=id ht
   rw[qX T o nT e];exact e.symm
  obtain⟨oT,eT,cT,nT',dT⟩:=id ht
  refine⟨.ref T,upd H T (.tup [xs.getD i .non,ys.getD i .non]),I.BV (fun c o hc e=>qX c o hc (kk c o hc e)) wf (bh.upd Eg) (fun c o e n=>?_) (fun c u e=>?_),rfl,⟨T,_,_,Eg,rfl,rfl,fun xs' ys' h1 h2=>?_⟩,?_,fun c hc=>?_⟩
  ·rw[cG]
   ·exact n
   ·intro z;subst z;exact absurd (bT e) (Mx.mpr hT)
  ·by_cases Eh:c=T
   ·subst Eh;rw[dI] at e;cases e;refine .inr ⟨by show 2≤bJ;decide,[u1,u2],.cons q1 (.cons q2 .nil),oT,kT.trans eT,cT,nT',by simpa using dT⟩
   ·rw[cG Eh] at e;exact .inl e
  ·rw[I.Ho h1 ha,I.Ho h2 hb]
   exact⟨gx,gy⟩
  ·exact⟨st2.1,st2.2.1,st2.2.2.1,st2.2.2.2.1,st2.2.2.2.2.1⟩
  ·rw[cG]
   ·exact(hf c hc).1
   ·intro z;subst z
    obtain⟨o,e,_⟩:∃o,s.heap.get? c=some o∧True:=by
     simp only[bL,jb,or_false] at hc
     obtain⟨c1,d1,s3⟩:=s3
     obtain⟨o4,e4,_⟩:=s4
     obtain⟨o5,e5,_⟩:=s5
     rcases hc with rfl|rfl|rfl|rfl|rfl
     ·exact⟨_,s1,trivial⟩
     ·exact⟨_,s2,trivial⟩
     ·exact⟨_,s3,trivial⟩
     ·exact⟨_,e4,trivial⟩
     ·exact⟨_,e5,trivial⟩
    exact absurd (bT e) (Mx.mpr hT)
 done:=by
  intro X hP hw hK hc i pins s σ H E I hf st hg;subst hP hw hK
  obtain⟨xs,ys,ha,hb,hi⟩:=hg
  obtain⟨its,r1,p1,_⟩:=I.list ha
  obtain⟨its2,r2,p2,_⟩:=I.list hb
  have l1:=r1.length;have l2:=r2.length;have W:=ae2 (prog:=X.prog) (w:=X.w) (A:=X.A) (I.ok.hd hc) z TI TO i1 i2 a b D its.toArray its2.toArray
  obtain⟨s1,s2,s3,s4,s5⟩:=st
  have e:i=min its.toArray.size its2.toArray.size:=by simp;omega
  subst e;refine W.done s _ E ⟨s1,s2,s3,s4,s5,p1.isList,p2.isList⟩ fun h' tk kk=>⟨rfl,?_⟩
  have wf:∀c,c∈[z,TO,i1,i2]→jo X pins H c:=fun c hc=>hf c (by simp at hc⊢;rcases hc with rfl|rfl|rfl|rfl<;>simp)
  exact I.BV kk wf (bh.refl H) (fun _ _ _ n=>n) fun _ _ e=>.inl e
 self:=fun _ _ _ _ _ st h=>adP st.1 h
def alO(K:aC)(t:TA):TI:=fun σ H R=>t σ H fun vs H1=>∃a b xs ys,vs=[.ref a,.ref b]∧bC K H1 a xs∧bC K H1 b ys∧R (Sv K a b) H1
theorem aj3{X:Cx}{es:List Expr}{k:Nat}{ps:Pos}{x y:Expr}{t:TA}{p pos:Pos}(hg:Gl X "zip")(hm:X.mg "zip"=none)(ha:PA X [x,y] t)(hs:aZ [x,y] X.env=[(false,eval x X.env),(false,eval y X.env)]:=by rfl)(hs2:aZ [y] X.env=[(false,eval y X.env)]:=by rfl):
  PI X (.Tuple es k ps) (.Call (.Name "zip" p) [x,y] [] pos) (alO X.K t):=by
 intro pins s σ H R I h;refine Call_ (tY I hg hm anW (Fb (bu (ha pos pins s σ H _ I h) fun us s1 aJ=>?_) (by rw[hs,hs2]) (by rw[hs2];rfl)))
 obtain⟨vs,H1,I1,r1,q1⟩:=aJ
 obtain⟨a,b,xs,ys,e,h1,h2,q⟩:=q1
 subst e;cases r1 with
 |cons r rr=>
  cases rr with
  |cons r' rr=>
   cases rr;cases r;cases r'
   obtain⟨its,v1,p1,_⟩:=I1.list h1
   obtain⟨its2,v2,p2,_⟩:=I1.list h2
   have lt1:a<s1.heap.objs.size:=by obtain⟨_,e,_⟩:=p1.isList;exact bT e
   have sO:b<s1.heap.objs.size:=by obtain⟨_,e,_⟩:=p2.isList;exact bT e
   refine call_zip_2 p1.isList p2.isList fun h' g1 g2 g3 g4 g5 hsz kk=>?_
   refine adP g1 ?_;have I2:Inv X pins σ H1 {s1 with heap:=h'}:=I1.kept (t':=s1.toks) kk
   refine⟨s1.heap.objs.size+4,[s1.heap.objs.size+4,s1.heap.objs.size+2,s1.heap.objs.size+3,s1.heap.objs.size,s1.heap.objs.size+1],_,_,H1,rfl,I2,aha (zipApart_new lt1 sO),⟨g1,g2,⟨_,_,g3⟩,g4,g5⟩,fun c hc=>?_,q⟩
   refine I1.ux ?_ (I1.hok.fresh ?_)
   all_goals
    simp only[bL,jb,or_false] at hc;rcases hc with rfl|rfl|rfl|rfl|rfl<;>omega
theorem afo(I:Inv X pins σ H s)(rx:RelV x u)(ty:lA X.K H x t)(e:KN X.K t its=some b)
  (hc:s.heap.IsTuple c its.toArray)(h:∀tk,Q (.bool b) {s with toks:=tk}):aL (model X.prog X.w) A (call (.builtin "isinstance") [u,.ref c]) Q E s:=by
 obtain⟨⟨oc,od,oda,osl⟩,g1,g2,g3,g4⟩:=hc
 simp only at g2 g4;subst g2 g4;cases ty with
 |non=>cases(show u=o8 from rx);exact rE adu I.gq kJ g1 e (fun z=>nomatch z) h
 |bl y=>cases(show u=o9 y from rx);exact rE adw I.gq kJ g1 e (fun z=>nomatch z) h
 |int i=>obtain⟨t,q⟩:=(show ∃t,u=G9 i t from rx);cases q;exact rE adL I.gq kJ g1 e (fun z=>nomatch z) h
 |str y=>obtain⟨t,q⟩:=(show ∃t,u=Hf y t from rx);cases q;exact rE adM I.gq kJ g1 e (fun z=>nomatch z) h
 |flt y=>obtain⟨t,q⟩:=(show ∃t,u=Wg y t from rx);cases q;exact rE adi I.gq kJ g1 e (fun z=>nomatch z) h
 |@lst a xs ea=>
  cases(show u=dB a from rx)
  obtain⟨_,_,n,_,h1⟩:=(show dO X.prog X.w H s.heap a (.lst xs) from I.hok a _ ea)
  exact rE Ke I.gq ⟨_,h1,rfl⟩ g1 e (fun z=>nomatch z) h
 |@kj a ob xs ea=>
  cases(show u=dB a from rx)
  obtain⟨_,_,_,n,_,h1⟩:=(show dO X.prog X.w H s.heap a (.kj ob (.lst xs)) from I.hok a _ ea)
  exact rE Ke I.gq ⟨_,h1,rfl⟩ g1 e (fun z=>nomatch z) h
 |@tup a xs ea=>
  cases(show u=dB a from rx)
  obtain⟨_,_,_,p⟩:=(show dO X.prog X.w H s.heap a (.tup xs) from I.hok a _ ea)
  obtain⟨o,h1,h2,_⟩:=p
  exact rE adk I.gq ⟨o,h1,h2⟩ g1 e (fun z=>nomatch z) h
 |@dK a kvs ea=>
  cases(show u=dB a from rx)
  obtain⟨_,_,vs,_,p⟩:=(show dO X.prog X.w H s.heap a (.dK kvs) from I.hok a _ ea)
  obtain⟨o,es,ep,h1,h2,_⟩:=p
  exact rE Kf I.gq ⟨o,h1,h2.1⟩ g1 e (fun z=>nomatch z) h
 |@dT a kvs ea=>
  cases(show u=dB a from rx)
  obtain⟨_,_,xs,_,o,es,ep,h1,h2,_⟩:=(show dO X.prog X.w H s.heap a (.dT kvs) from I.hok a _ ea)
  exact rE Kf I.gq ⟨o,h1,h2.1⟩ g1 e (fun z=>nomatch z) h
 |@ins a C dx fs ea cl ha hn htk hm=>
  cases(show u=dB a from rx)
  obtain⟨mA,O,_⟩:=Za I.hok ea
  obtain⟨od,J,_⟩:=O.look
  exact rE (adN (cl.get _) cl.hd ha hn htk hm) I.gq J g1 e (fun z=>nomatch z) h
theorem aeD:gQ X (.builtin "isinstance") (fun xs H Q=>∃x c m n t p q,xs=[x,.ref c]∧H c=some (.tup [.ty m,.ty n])∧lA X.K H x t∧yQ X.K t (.type m)=some p∧yQ X.K t (.type n)=some q∧Q (.bl (p||q)) H):=by
 intro pins s σ H xs us Q I r h
 obtain⟨x,c,m,n,t,p,q,rfl,hc,ty,e1,e2,k⟩:=h
 obtain⟨u,u2,rfl,r1,r2⟩:=vals2 r
 cases r2
 obtain⟨_,its,rv,ob,g1,g2,g3⟩:=(show dO X.prog X.w H s.heap c (.tup [.ty m,.ty n]) from I.hok c _ hc)
 cases rv with
 |cons a1 rv=>
  cases rv with
  |cons a2 rv=>
   cases rv;cases a1;cases a2;exact afo I r1 ty (ais e1 e2) ⟨ob,g1,g2,g3⟩ fun tk=>⟨.bl (p||q),H,I.tok tk,rfl,k⟩
end L2
namespace L2
open PySem PySem.Spec PyProof.Rows PySem.W
section
variable{N:Nat}{lt:Nat→Nat→Bool}{α β:Type}
def dJ(N:Nat)(lt:Nat→Nat→Bool):KasT α→(α→Prop)→Prop
 |.ret a,R=>R a
 |.ask i j k,R=>i<N∧j<N∧dJ N lt (k (lt i j)) R
theorem dJ.mono:∀{t:KasT α},dJ N lt t R→(∀a,R a→S a)→dJ N lt t S
 |.ret a,h,f=>f a h
 |.ask i j k,h,f=>⟨h.1,h.2.1,dJ.mono h.2.2 f⟩
theorem dJ.bind:∀{t:KasT α},dJ N lt t (fun a=>dJ N lt (f a) R)→dJ N lt (t.bind f) R
 |.ret a,h=>h
 |.ask i j k,h=>⟨h.1,h.2.1,dJ.bind h.2.2⟩
theorem dJ.wp(ask:∀i j,i<N→j<N→∀C:Bool→au→Prop,C (lt i j) s→cmp i j C s)(q:∀a,R a→Q a s):∀{t:KasT α},dJ N lt t R→t.kasWp cmp Q s
 |.ret a,h=>q a h
 |.ask i j k,h=>ask i j h.1 h.2.1 _ (dJ.wp ask q h.2.2)
def KP(N:Nat)(p:Array Nat):Prop:=p.toList.Perm (dz N)
theorem KP.ix(h:KP N p)(h0:0<N)(i:Nat):p.getD i 0<N:=by
 by_cases hi:i<p.size
 ·have:p.getD i 0∈p.toList:=by simp[afp,hi]
  exact oY.mp (h.mem_iff.mp this)
 ·simpa[afp,hi] using h0
theorem KP.rev(h:KP N p)(i j:Nat):KP N (kas_rev p i j):=((mirror_perm p i j _).toList).trans h
theorem KP.bub(h:KP N p)(i j:Nat):KP N (bubble p i j):=((bubble_perm p i j).toList).trans h
theorem Qw(h:KP N p)(h0:0<N):∀f n,dJ N lt (kas_asc p f n) fun _=>True
 |0,n=>trivial
 |f+1,n=>by
  refine⟨h.ix h0 _,h.ix h0 _,?_⟩
  dsimp only;split
  ·exact trivial
  ·exact Qw h h0 f (n+1)
theorem HW(h0:0<N):∀f (p:Array Nat) n q,KP N p→dJ N lt (kas_desc f p n q) fun r=>KP N r.1
 |0,p,n,q,h=>h
 |f+1,p,n,q,h=>by
  refine⟨h.ix h0 _,h.ix h0 _,?_⟩
  dsimp only;split
  ·split
   ·exact HW h0 f _ _ _ (h.rev _ _)
   ·exact HW h0 f _ _ _ h
  ·refine⟨h.ix h0 _,h.ix h0 _,?_⟩
   dsimp only;split
   ·exact h
   ·exact HW h0 f _ _ _ h
theorem X7(h0:0<N)(h:KP N p)(n nrem:Nat):dJ N lt (kas_tail3 n nrem p) fun r=>KP N r.2:=
 dJ.bind (dJ.mono (Qw (h.rev 0 n) h0 _ _) fun _ _=>h.rev 0 n)
theorem Wm(h0:0<N)(h:KP N p)(n nrem:Nat):dJ N lt (kas_descPart n nrem p) fun r=>KP N r.2:=by
 refine dJ.bind (dJ.mono (HW h0 _ p _ _ h) fun r hr=>?_);split
 ·exact X7 h0 (KP.rev hr _ _) _ _
 ·exact X7 h0 hr _ _
theorem ahb(h0:0<N)(h:KP N p)(nrem:Nat):dJ N lt (kas_count nrem p) fun r=>KP N r.2:=by
 refine dJ.bind (dJ.mono (Qw h h0 _ _) fun n _=>?_);split
 ·exact h
 ·split
  ·refine⟨h.ix h0 _,h.ix h0 _,?_⟩
   dsimp only;split
   ·exact h
   ·exact Wm h0 (h.rev _ _) _ _
  ·exact Wm h0 h _ _
theorem NP(h0:0<N)(h:KP N p)(k:Nat):∀f l r,dJ N lt (kas_place p k f l r) fun _=>True
 |0,l,r=>trivial
 |f+1,l,r=>by
  unfold kas_place;split
  ·exact trivial
  ·refine⟨h.ix h0 _,h.ix h0 _,?_⟩
   dsimp only;split
   ·exact NP h0 h k f _ _
   ·exact NP h0 h k f _ _
theorem aaj(h0:0<N):∀f (p:Array Nat) k,KP N p→dJ N lt (kas_bin f p k) (KP N)
 |0,p,k,h=>h
 |f+1,p,k,h=>dJ.bind (dJ.mono (NP h0 h k _ _ _) fun l _=>aaj h0 f _ _ (h.bub _ _))
theorem Zg(h0:0<N):dJ N lt (kas_sort N) (KP N):=by
 refine dJ.bind (dJ.mono (ahb h0 (p:=List.toArray (dz N)) (yR _) N) fun r hr=>?_);split
 ·exact aaj h0 _ _ _ hr
 ·exact hr
end
def kLt:Key→Key→Bool
 |.inl i,.inl j=>decide (i<j)
 |.inr x,.inr y=>decide (x.cps.toList<y.cps.toList)
 |_,_=>false
def di:List Key→List Key→Bool
 |a::r,b::t=>if a=b then di r t else kLt a b
 |_,_=>false
def bI:Key→Bool
 |.inl _=>true
 |.inr _=>false
section
variable{prog:bf}{w:aY}{A:bU}{E:Value→au→Prop}{s:au}{Q:Bool→au→Prop}
theorem ahc(ra:RelV (kV a) u)(rb:RelV (kV b) v)(ht:bI a=bI b)(h:Q (kLt a b) s):aL (model prog w) A (oneLt' f u v) Q E s:=by
 cases a with
 |inl i=>
  cases b with
  |inr y=>cases ht
  |inl j=>
   obtain⟨t,rfl⟩:=ra
   obtain⟨t',rfl⟩:=rb
   cases f with
   |true=>exact oneLt_int h
   |false=>exact kat_one _ _ (lt_int h)
 |inr x=>
  cases b with
  |inl y=>cases ht
  |inr y=>
   obtain⟨t,rfl⟩:=ra
   obtain⟨t',rfl⟩:=rb
   cases f with
   |true=>exact oneLt_str h
   |false=>exact kat_one _ _ (lt_str h)
theorem Zh(ht:bI a=bI b):qU (kV a) (kV b)=decide (a=b):=by
 cases a with
 |inl i=>
  cases b with
  |inr y=>cases ht
  |inl j=>show(i==j)=_;rw[p7];simp
 |inr x=>
  cases b with
  |inl y=>cases ht
  |inr y=>show(x==y)=_;rw[p7];simp
theorem Hu(a:Key):oE (kV a)=true:=by cases a<;>rfl
theorem X8:∀{ks js:List Key}{us vs:List Value}{i:Nat},Vals (ks.map kV) us→Vals (js.map kV) vs→ks.map bI=js.map bI→Q (di ks js) s→KatLex prog w A true false Q (us.zip vs) i s
 |[],[],_,_,_,ra,rb,_,h=>by
  cases ra;cases rb;exact kat_nil h
 |[],_::_,_,_,_,_,_,e,_=>by cases e
 |_::_,[],_,_,_,_,_,e,_=>by cases e
 |a::ks,b::js,us,vs,i,ra,rb,e,h=>by
  cases ra with
  |cons r1 ra=>
   cases rb with
   |cons r2 rb=>
    have e1:bI a=bI b:=(yU e).1;have e2:=(yU e).2;refine kat_cons (Qt r1 r2 (Hu a) (Hu b) prog w _ _ ?_);rw[Zh e1];unfold di at h;by_cases hab:a=b
    ·rw[if_pos hab] at h;rw[decide_eq_true hab];exact kat_yes (X8 ra rb e2 h)
    ·rw[if_neg hab] at h;rw[decide_eq_false hab];exact kat_no (ahc r1 r2 e1 h)
end
section
variable{prog:bf}{w:aY}{A:bU}{E:Value→au→Prop}{s:au}{vs:List Value}{κ:SortKind}{lt:Nat→Nat→Bool}{Rl:List Nat→Prop}
def Kp(a:aa)(h h':aU):Prop:=∀b o,b≠a→h.get? b=some o→h'.get? b=some o
theorem afq(ho:s.heap.get? a=some (seqObj "list" vs.toArray n))(h64:vs.length<64)(hg:2≤vs.length→dJ vs.length lt (kas_sort vs.length) fun p=>KP vs.length p∧Rl p.toList)(hsm:vs.length<2→Rl (dz vs.length))
  (hk:2≤vs.length→∀s':au,Kp a s.heap s'.heap→∀Q:SortKind→au→Prop,Q κ s'→aL (model prog w) A (keyKind' vs.toArray) Q (fun _ _=>False) s')
  (hl:2≤vs.length→∀s':au,Kp a s.heap s'.heap→∀i j,i<vs.length→j<vs.length→∀C:Bool→au→Prop,C (lt i j) s'→kas_ask prog w A κ vs i j C s')
  (h:∀(p:List Nat)(h':aU)(c:Nat),p.Perm (dz vs.length)→Rl p→Kp a s.heap h'→h'.get? a=some (seqObj "list" (p.map fun i=>vs.getD i o8).toArray c)→P (.done (.ret .none)) {s with heap:=h'}):
  aL (model prog w) A (j5.«list.sort» ⟨[.ref a],[]⟩) P E s:=by
 have lta:a<s.heap.objs.size:=bT ho
 obtain⟨e1,ho1⟩:∃e1,(s.heap.update a (kO fun _=>(#[]:Array Value))).get? a=some (seqObj "list" #[] e1):=⟨_,get?_update_seq ho fun _=>#[]⟩
 have sz:vs.length≤bJ:=by rw[iI];omega
 have kp:Kp a s.heap (((s.heap.update a (kO fun _=>(#[]:Array Value))).push (seqObj "tuple" vs.toArray 0)).push (seqObj "list" #[] 0)):=fun b o hb e=>
  cB _ (cB _ (((sZ s.heap a _).2 b hb).trans e))
 have Ei:(((s.heap.update a (kO fun _=>(#[]:Array Value))).push (seqObj "tuple" vs.toArray 0)).push (seqObj "list" #[] 0)).get? a=some (seqObj "list" #[] e1):=cB _ (cB _ ho1);rw[list_sort_plain];refine aD (listItems_at ho rfl (aD (listUpdate_at ho rfl (aD (seqEpoch_at ho1 rfl (aD (wpAny_newTuple (aD (Lb (mj ?_) (lJ _))) (by show vs.length≤_;exact sz))))) (by rw[fB];exact sz) (lJ _))));show aL (model prog w) A _ P E {s with heap:=((s.heap.update a (kO fun _=>(#[]:Array Value))).push (seqObj "tuple" vs.toArray 0)).push (seqObj "list" #[] 0)};dsimp only;have fin:∀(p:List Nat),p.Perm (dz vs.length)→Rl p→∀out:Array Value,out=(p.map fun i=>vs.getD i o8).toArray→
   P (.done (.ret .none)) {s with heap:=(((s.heap.update a (kO fun _=>(#[]:Array Value))).push (seqObj "tuple" vs.toArray 0)).push (seqObj "list" #[] 0)).update a (kO fun _=>out)}:=fun p hp hrl out eo=>by
  subst eo;refine h p _ _ hp hrl (fun b o hb e=>((sZ _ a _).2 b hb).trans (kp b o hb e)) (get?_update_seq Ei _)
 by_cases h2:vs.toArray.size<2
 ·rw[if_pos h2,if_pos h2];refine aD (aV ?_);rw[StateT.run_pure];refine aD (aV ?_);dsimp only;have hz:(pairsOf vs).size≤bJ:=by rw[pairsOf_size];exact sz
  refine aD (seqEpoch_at Ei rfl (aD (listUpdate_at Ei rfl ?_ (hsz2:=by rw[Array.size_map];show(pairsOf vs).size≤_;omega))));simp only[bne_self_eq_false,oX,if_false];refine aV (fin (dz vs.length) (yR _) (hsm (by simpa using h2)) _ ?_);apply Array.toList_inj.mp
  show((vs.toArray.zip vs.toArray).map (·.2)).toList=_
  rw[Array.toList_map,Array.toList_zip,List.map_snd_zip (bD _)];show vs=_;refine yK (by simp) fun i h1 h3=>?_
  simp[qg,h1]
 ·have h2':2≤vs.length:=by simpa using h2
  rw[if_neg h2,if_neg h2];refine aD (nW (hk h2' _ kp (fun k s'=>k=κ∧s'={s with heap:=((s.heap.update a (kO fun _=>(#[]:Array Value))).push (seqObj "tuple" vs.toArray 0)).push (seqObj "list" #[] 0)}) ⟨rfl,rfl⟩) (fun k s0 hk0=>?_) fun _ _ x=>x.elim)
  obtain⟨rfl,rfl⟩:=hk0
  refine aD (nW (kat_run (ks:=vs) (vs:=vs) (Q:=fun st' s'=>∃p:Array Nat,(KP vs.length p∧Rl p.toList)∧arrOf st'=p.map (kas_item (vs.toArray.zip vs.toArray))∧failedOf st'=none∧s'={s with heap:=((s.heap.update a (kO fun _=>(#[]:Array Value))).push (seqObj "tuple" vs.toArray 0)).push (seqObj "list" #[] 0)})
   rfl h2' h64 (G:=fun p s'=>(KP vs.length p∧Rl p.toList)∧s'={s with heap:=((s.heap.update a (kO fun _=>(#[]:Array Value))).push (seqObj "tuple" vs.toArray 0)).push (seqObj "list" #[] 0)}) (fun p st' s' a1 a2 a3 a4=>⟨p,a4.1,a2,a3,a4.2⟩) (dJ.wp (lt:=lt) (hl h2' _ kp) (fun p hp=>⟨hp,rfl⟩) (hg h2'))) ?_ fun _ _ e=>e)
  rintro⟨⟨⟩,st'⟩ s' ⟨p,⟨hp,hrl⟩,har,hf,rfl⟩
  dsimp only;have hout:=kat_snds (ks:=vs) (vs:=vs) rfl har;have hps:p.toList.length=vs.length:=by rw[hp.length_eq,kE]
  rw[hout];refine aD (seqEpoch_at Ei rfl (aD (listUpdate_at Ei rfl ?_ (lJ _) (by rw[fB,aX,hps];omega))));rw[hf];simp only[bne_self_eq_false,oX,if_false];exact aV (fin p.toList hp hrl _ rfl)
end
def abr(h:aU)(d:aa)(es:Array DictEntry)(ep:Nat):Prop:=∃o,h.get? d=some o∧o.ExactDict∧o.data=.dict es ep
section
variable{prog:bf}{w:aY}{A:bU}{E:Value→au→Prop}{s:au}{d it:aa}{es:Array DictEntry}{ep i:Nat}
theorem abr.ty(h:abr s.heap d es ep):s.TypeIs (.ref d) "dict":=let ⟨o,ho,hc,_⟩:=h;⟨o,ho,hc.1⟩
theorem ae3(K:KdlSrc prog w T r d n P OK)(hh:A.handled=none)(hok:OK s.heap)(hn:n≤bJ)
  (h:∀(h':aU)(tk:Nat)(acc:Array Value),s.heap.objs.size≤h'.objs.size→(∀b o,s.heap.get? b=some o→h'.get? b=some o)→ItemsOf P acc n→R acc.toList {s with heap:=h',toks:=tk}):
  aL (model prog w) A (collect (.ref r)) R E s:=by
 have hlt:=K.there _ hok;unfold collect;refine aD (wpAny_runValue (uU entry_proto_collect' ?_));rw[uN acz _];show aL _ A.in1 (newList [] >>= fun l=>again (.builtin "list.__iadd__" ⟨[l,.ref r],[]⟩)) _ _ s;refine aD (lX ?_);refine aV ⟨tL J6 _,uU entry_list_iadd' ?_⟩;rw[uN J6 _];have hS:(s.heap.push {cls:=.type "list",data:=.seq ([]:List Value).toArray}).get? s.heap.objs.size=some {cls:=.type "list",data:=.seq #[]}:=gF _ rfl;show aL _ A.in1 (J1 (.ref s.heap.objs.size) (.ref r) (.ref s.heap.objs.size)) _ _ _;have key:=kdl_extend (A:=A) (s:={s with heap:=s.heap.push {cls:=.type "list",data:=.seq ([]:List Value).toArray}}) (R:=fun(q:qx)(s':au)=>∃(h':aU)(tk:Nat)(acc':Array Value)(c':Nat),q=.ok (.ret (.ref s.heap.objs.size))∧s'={s with heap:=h',toks:=tk}∧(∀b o,s.heap.get? b=some o→h'.get? b=some o)∧h'.get? s.heap.objs.size=some {cls:=.type "list",dict:=none,data:=.seq acc' c',slots:=#[]}∧ItemsOf P acc' n)
  K hh (K.keep _ _ hok fun b _ o e=>cB _ e) s.heap.objs.size (yZ hlt.1) (yZ hlt.2) (.ref s.heap.objs.size) 0 hS (fun h' tk acc' c' hk hS' hacc=>⟨h',tk,acc',c',rfl,rfl,fun b o e=>hk b o (dF (bT e)) (cB _ e),hS',hacc⟩) hn
 refine nW key (fun fin s' x=>?_) fun e s' x=>?_
 ·cases fin with
  |done f=>
   obtain⟨h',tk,acc',c',e,rfl,hk,hS',hacc⟩:=x
   cases e;show aL _ A (load s.heap.objs.size >>= _) _ _ _
   exact aD (GX hS' (aV (h h' tk acc' (uZ (bT hS')) hk hacc)))
  |again c₁=>
   refine⟨x.1,Gq x.2 fun q s₂ y=>?_⟩
   obtain⟨h',tk,acc',c',rfl,rfl,hk,hS',hacc⟩:=y
   show aL _ A (load s.heap.objs.size >>= _) _ _ _;exact aD (GX hS' (aV (h h' tk acc' (uZ (bT hS')) hk hacc)))
 ·obtain⟨_,_,_,_,e',_⟩:=x;cases e'
end
theorem M9:∀{us:List Value}{ns:List Str},StrsAre us ns→Vals (ns.map V.str) us
 |_,_,.nil=>.nil
 |_,_,.cons _ t r=>.cons ⟨t,rfl⟩ (M9 r)
section
variable{X:Cx}
theorem gC.bN(r:gC k A):A.units+1<dR:=by have:=r.un;omega
abbrev Row:=aa×List Key
def TupAt(h:aU)(r:Row):Prop:=∃its,Vals (r.2.map kV) its∧IsTup h r.1 its.toArray
theorem TupAt.keep(t:TupAt h r)(k:∀b o,h.get? b=some o→h'.get? b=some o):TupAt h' r:=by
 obtain⟨its,v,o,e,c⟩:=t
 exact⟨its,v,o,k _ _ e,c⟩
theorem Zi:∀{rows:List Row},(∀r∈rows,TupAt h r∧r.2.map bI=b::sh)→∃fs,KatTups h (rows.map fun r=>dB r.1) fs∧fs.length=rows.length∧∀f∈fs,∃k,RelV (kV k) f∧bI k=b
 |[],_=>⟨[],KatTups.nil,rfl,by simp⟩
 |r::rows,ha=>by
  obtain⟨fs,t,l,g⟩:=Zi (rows:=rows) fun q hq=>ha q (eZ _ hq)
  obtain⟨⟨its,v,o,e,c,n,d⟩,s⟩:=ha r fj
  obtain⟨a,ks⟩:=r
  cases ks with
  |nil=>cases s
  |cons k ks=>
   cases v with
   |@cons _ u _ us v1 v2=>
    refine⟨u::fs,KatTups.cons e c d (by simp) t,by simp[l],fun f hf=>?_⟩
    rcases bL.mp hf with rfl|hf
    ·exact⟨k,v1,(yU s).1⟩
    ·exact g f hf
theorem agf(r:RelV (kV k) f)(e:bI k=b):Looks M h (typeOf f) (if b=true then .type "int" else .type "str"):=by
 subst e;cases k with
 |inl i=>obtain⟨t,rfl⟩:=r;exact Looks.of_pure rfl
 |inr i=>obtain⟨t,rfl⟩:=r;exact Looks.of_pure rfl
theorem NQ(rows:List Row)(hi:i<rows.length):(rows.map fun r=>dB r.1).getD i o8=.ref rows[i].1:=by simp[qg,hi]
def rowAt(rows:List Row)(i:Nat):List Key:=((rows[i]?).map (·.2)).getD []
theorem agg{prog:bf}{w:aY}{A:bU}{s':au}{rows:List Row}{b:Bool}{sh:List Bool}(ha:∀r∈rows,TupAt s'.heap r∧r.2.map bI=b::sh)(h0:0<rows.length)(Q:SortKind→au→Prop)(q:Q (tuples' true) s'):
  aL (model prog w) A (keyKind' (rows.map fun r=>dB r.1).toArray) Q (fun _ _=>False) s':=by
 obtain⟨fs,t,l,g⟩:=Zi ha
 refine kat_kind (T:=if b=true then .type "int" else .type "str") t (by omega) (fun v hv=>?_) (by cases b<;>rfl) (by cases b<;>exact q)
 obtain⟨k,r,e⟩:=g v hv
 exact agf r e
theorem ait(ha:∀r∈rows,TupAt s'.heap r∧r.2.map bI=sh)(hi:i<rows.length)(hj:j<rows.length)(C:Bool→au→Prop)(q:C (di (rowAt rows i) (rowAt rows j)) s'):
  kas_ask prog w A (tuples' true) (rows.map fun r=>dB r.1) i j C s':=by
 obtain⟨⟨its,v,o,e,c,n,d⟩,s1⟩:=ha rows[i] (wM hi)
 obtain⟨⟨its2,v2,o2,e2,c2,n2,d2⟩,s2⟩:=ha rows[j] (wM hj)
 unfold kas_ask;rw[NQ rows hi,NQ rows hj];have l1:=v.length;have l2:=v2.length;have l3:rows[i].2.length=rows[j].2.length:=by
  have:=congrArg o7 (s1.trans s2.symm);simpa using this
 refine kat_lt e d e2 d2 ?_;have ez:decide (its.toArray.size<its2.toArray.size)=false:=by
  rw[decide_eq_false];simp only[fB];rw[aX] at l1 l2;omega
 rw[ez];have q':C (di rows[i].2 rows[j].2) s':=by
  unfold rowAt at q;rw[ie hi,ie hj] at q;exact q
 exact X8 (by simpa using v) (by simpa using v2) (s1.trans s2.symm) q'
theorem agh{rows:List Row}{p:List Nat}(h:p.Perm (dz rows.length)):(p.map fun i=>rows.getD i (0,[])).Perm rows:=by
 have e:(dz rows.length).map (fun i=>rows.getD i (0,[]))=rows:=yK (by simp) fun i h1 h2=>by simp[qg,h2]
 exact(h.map _).trans (by rw[e])
theorem agi{rows:List Row}{p:List Nat}(h:p.Perm (dz rows.length)):(p.map fun i=>(rows.map fun r=>dB r.1).getD i o8)=(p.map fun i=>rows.getD i (0,[])).map fun r=>dB r.1:=by
 rw[dX];refine yG fun i hi=>?_
 have hlt:=oY.mp (h.mem_iff.mp hi);rw[NQ rows hlt];simp[qg,hlt]
theorem Xh:∀(rows:List Row),Vals (rows.map fun r=>V.ref r.1) (rows.map fun r=>dB r.1)
 |[]=>.nil
 |r::rows=>.cons rfl (Xh rows)
end
section
variable{K:aC}{T:fU}{J:It}{n:Nat}{vs:Nat→List V}{G:Hp→Prop}{ts:TT}{em:TM}{fs:St}{H0 H1:Hp}{D:aa}{done:Hp→Prop}
end
theorem NZ(A:bU)(s:au)(ra:RelV (kV a) u)(rb:RelV (kV b) v)(ht:bI a=bI b):G3 A s u v (decide (a=b)):=by
 rw[←Zh ht];exact Qt ra rb (Hu a) (Hu b)
theorem Hv(A:bU)(s:au)(ra:RelV (kV a) u)(rb:RelV (kV b) v)(ht:bI a=bI b)(prog:bf)(w:aY)(E:Value→au→Prop)(Q:Value→au→Prop)(h:Q (.bool (kLt a b)) s):
  aL (model prog w) A (Bo .Lt u v) Q E s:=by
 cases a with
 |inl i=>
  cases b with
  |inr y=>cases ht
  |inl j=>
   obtain⟨t,rfl⟩:=ra
   obtain⟨t',rfl⟩:=rb
   exact(lt_int h:aL (model prog w) A (dH .Lt _ _) Q E s)
 |inr x=>
  cases b with
  |inl y=>cases ht
  |inr y=>
   obtain⟨t,rfl⟩:=ra
   obtain⟨t',rfl⟩:=rb
   exact(lt_str h:aL (model prog w) A (dH .Lt _ _) Q E s)
section
open PySem.SeqAt
open PySem.AutoSeq1 (wpAny_loadPart')
open PySem.MeetsSeq PySem.MeetsSeq2 PySem.MeetsSeq3
theorem ael(l b:aa)(items items2:Array Value)(n n2:Nat)(dd dd2:Option aa)(sl sl2:Array (Option Value))(ns ms:List Key)(hi:Vals (ns.map kV) items.toList)(hj:Vals (ms.map kV) items2.toList)(hty:ns.map bI=ms.map bI):
  Meets (j5.«tuple.__lt__» ⟨[.ref l,.ref b],[]⟩)
   (fun _ R s=>s.heap.get? l=some {cls:=.type "tuple",dict:=dd,data:=.seq items n,slots:=sl}∧s.heap.get? b=some {cls:=.type "tuple",dict:=dd2,data:=.seq items2 n2,slots:=sl2}∧R (.ok (.ret (.bool (di ns ms)))) s):=
 .of_wp fun prog w A R s h=>by
  obtain⟨hp,g,d,tk,os⟩:=s;obtain⟨hl,hb,h⟩:=h
  have f2:=acJ;have z0:ns.length=ms.length:=by have:=congrArg o7 hty;simpa using this
  have z1:items.size=ns.length:=by have:=hi.length;rw[aX] at this;simpa using this.symm
  have z2:items2.size=ms.length:=by have:=hj.length;rw[aX] at this;simpa using this.symm
  wp_walk using nQ hl,nQ hb,adQ _ (fun rest b s'=>b.1=none∧s'=⟨hp,g,d,tk,os⟩∧∃(vs ws:List Value)(ns' ms':List Key),rest=vs.zip ws∧
   Vals (ns'.map kV) vs∧Vals (ms'.map kV) ws∧ns'.map bI=ms'.map bI∧R (.ok (.ret (.bool (di ns' ms')))) ⟨hp,g,d,tk,os⟩) _
  case turn=>
   rintro⟨y,x⟩ rest b s' ⟨hb',rfl,vs,ws,ns',ms',hz,JL,hwi,hlen,hR⟩
   cases ns' with
   |nil=>cases JL;rw[List.zip_nil_left] at hz;cases hz
   |cons a ns'=>
    cases ms' with
    |nil=>cases hlen
    |cons c ms'=>
     cases JL with
     |cons r1 abt=>
      cases hwi with
      |cons r2 abu=>
       rw[Fw] at hz;injection hz with hyx hrest
       injection hyx with hy hx
       subst hy hx;have t1:bI a=bI c:=(yU hlen).1;have t2:=(yU hlen).2;unfold di at hR;refine aD (NZ A.in1 ⟨hp,g,d,tk,os⟩ r1 r2 t1 prog w _ _ ?_);by_cases hac:a=c
       ·rw[if_pos hac] at hR;rw[decide_eq_true hac];wp_walk
        exact⟨rfl,rfl,_,_,_,_,hrest,abt,abu,t2,hR⟩
       ·rw[if_neg hac] at hR;rw[decide_eq_false hac];have hri:=Hv A.in1 ⟨hp,g,d,tk,os⟩ r1 r2 t1 prog w;wp_walk using hri
        exact⟨_,rfl,by simpa using hR⟩
  case fin=>
   rintro⟨b1,b2⟩ s' ⟨hb',rfl,vs,ws,ns',ms',hz,JL,hwi,hlen,hR⟩
   simp only at hb';subst hb';have hv:di ns' ms'=decide (items.size<items2.size):=by
    rw[decide_eq_false (by omega)];cases ns' with
    |nil=>unfold di;rfl
    |cons a ns'=>
     cases ms' with
     |nil=>cases hlen
     |cons c ms'=>
      cases JL with
      |cons r1 abt=>
       cases hwi with
       |cons r2 abu=>
        rw[Fw] at hz;cases hz
   rw[hv] at hR;wp_walk
   exact⟨_,rfl,by simpa[acy] using hR⟩
  case h=>
   exact⟨rfl,rfl,items.toList,items2.toList,ns,ms,rfl,hi,hj,hty,h⟩
end
theorem Wz(hl:IsTup s.heap l items)(hb:IsTup s.heap b items2)(hi:Vals (ns.map kV) items.toList)(hj:Vals (ms.map kV) items2.toList)(hty:ns.map bI=ms.map bI)
  (hu:A.units<dR)(h:Q (.bool (di ns ms)) s):aL (model prog w) A (dH .Lt (.ref l) (.ref b)) Q E s:=by
 obtain⟨⟨cls,dd,data,sl⟩,ho,hc,n,hd⟩:=id hl
 obtain⟨⟨cls2,dd2,data2,sl2⟩,ho2,hc2,n2,hd2⟩:=id hb
 simp only at hc hd hc2 hd2;subst hc hd hc2 hd2;exact Ub (op:=.Lt) ⟨_,ho,rfl⟩ ⟨_,ho2,rfl⟩ acZ acU (acM _ _) (ael l b items items2 n n2 dd dd2 sl sl2 ns ms hi hj hty)
  ⟨ho,ho2,show o9 (di ns ms)≠Ui∧Q (.bool (di ns ms)) s from⟨(fun x=>nomatch x),h⟩⟩ hu
mutual
def RX(H:Hp):aj→V→Prop
 |.none,v=>v=.non
 |.bool b,v=>v=.bl b
 |.int i,v=>v=.int i
 |.str x,v=>v=.str x
 |.list ds,v=>∃a vs,v=.ref a∧H a=some (.lst vs)∧lG H ds vs
 |.tuple ds,v=>∃a vs,v=.ref a∧H a=some (.tup vs)∧lG H ds vs
 |.dict _,_=>False
def lG(H:Hp):List aj→List V→Prop
 |[],vs=>vs=[]
 |d::ds,vs=>∃v r,vs=v::r∧RX H d v∧lG H ds r
end
mutual
theorem RX.same(s:bh H H'):∀{d:aj}{v:V},RX H d v→RX H' d v
 |.none,_,h=>h
 |.bool _,_,h=>h
 |.int _,_,h=>h
 |.str _,_,h=>h
 |.list ds,_,h=>by
  obtain⟨a,vs,e,q,r⟩:=h
  exact⟨a,vs,e,s _ _ q,lG.same s r⟩
 |.tuple ds,_,h=>by
  obtain⟨a,vs,e,q,r⟩:=h
  exact⟨a,vs,e,s _ _ q,lG.same s r⟩
theorem lG.same(s:bh H H'):∀{ds:List aj}{vs:List V},lG H ds vs→lG H' ds vs
 |[],_,h=>h
 |d::ds,vs,h=>by
  obtain⟨v,r,e,q,t⟩:=h
  exact⟨v,r,e,RX.same s q,lG.same s t⟩
end
mutual
theorem RX.rd{K:aC}{H:Hp}:∀{d:aj}{v:V},RX H d v→RD K H d v
 |.none,_,h=>h
 |.bool _,_,h=>h
 |.int _,_,h=>h
 |.str _,_,h=>h
 |.list ds,_,h=>by
  obtain⟨a,vs,e,q,r⟩:=h
  exact⟨a,vs,e,bC.of q,lG.rd r⟩
 |.tuple ds,_,h=>by
  obtain⟨a,vs,e,q,r⟩:=h
  exact⟨a,vs,e,cF.of q,lG.rd r⟩
theorem lG.rd{K:aC}{H:Hp}:∀{ds:List aj}{vs:List V},lG H ds vs→jK K H ds vs
 |[],_,h=>h
 |d::ds,vs,h=>by
  obtain⟨v,r,e,q,t⟩:=h
  exact⟨v,r,e,RX.rd q,lG.rd t⟩
end
def Ej:aj→Value
 |.none=>.type "NoneType"
 |.bool _=>.type "bool"
 |.int _=>.type "int"
 |.str _=>.type "str"
 |.list _=>.type "list"
 |.tuple _=>.type "tuple"
 |.dict _=>.type "dict"
theorem RX.ty{K:aC}{H:Hp}{d:aj}{v:V}(h:RX H d v):lA K H v (Ej d):=by
 cases d with
 |none=>cases(show v=.non from h);exact .non
 |bool b=>cases(show v=.bl b from h);exact .bl b
 |int i=>cases(show v=.int i from h);exact .int i
 |str x=>cases(show v=.str x from h);exact .str x
 |list ds=>obtain⟨a,vs,rfl,e,_⟩:=h;exact .lst e
 |tuple ds=>obtain⟨a,vs,rfl,e,_⟩:=h;exact .tup e
 |dict ds=>exact(show False from h).elim
section
variable{X:Cx}
theorem afr(hu:X.A.units<dR):cz X (dH .Lt) (fun x y H Q=>∃a b ks js,x=.ref a∧y=.ref b∧H a=some (.tup (ks.map kV))∧H b=some (.tup (js.map kV))∧ks.map bI=js.map bI∧Q (.bl (di ks js)) H):=by
 intro pins s σ H x y v u Q I rx ry h
 obtain⟨a,b,ks,js,rfl,rfl,ha,hb,ht,q⟩:=h
 cases rx;cases ry
 obtain⟨_,its,r1,p1⟩:=(show dO X.prog X.w H s.heap a (.tup (ks.map kV)) from I.hok a _ ha)
 obtain⟨_,its2,r2,p2⟩:=(show dO X.prog X.w H s.heap b (.tup (js.map kV)) from I.hok b _ hb)
 exact Wz p1 p2 (by simpa using r1) (by simpa using r2) ht hu (fG I q rfl)
theorem My(hu:X.A.units<dR):cz X (dH .Lt) (fun x y H Q=>(∃a b,x=kV a∧y=kV b∧bI a=bI b∧Q (.bl (kLt a b)) H)∨∃a b ks js,x=.ref a∧y=.ref b∧H a=some (.tup (ks.map kV))∧H b=some (.tup (js.map kV))∧ks.map bI=js.map bI∧Q (.bl (di ks js)) H):=by
 refine cz.or ?_ (afr hu);intro pins s σ H x y v u Q I rx ry h
 obtain⟨a,b,rfl,rfl,ht,q⟩:=h
 exact Hv X.A s rx ry ht _ _ _ _ (fG I q rfl)
end
structure Ord(lt:Nat→Nat→Bool):Prop where
 abv:∀a b,lt a b=true→lt b a=false
 trans:∀a b c,lt b a=false→lt c b=false→lt c a=false
section
variable{N:Nat}{lt:Nat→Nat→Bool}(O:Ord lt)
abbrev at0(p:Array Nat)(i:Nat):Nat:=p.getD i 0
def Up(lt:Nat→Nat→Bool)(p:Array Nat)(n:Nat):Prop:=∀i j,i<j→j<n→lt (at0 p j) (at0 p i)=false
def Dn(lt:Nat→Nat→Bool)(p:Array Nat)(n:Nat):Prop:=∀i j,i<j→j<n→lt (at0 p i) (at0 p j)=false
theorem Qx(p:Array Nat)(i:Nat):at0 p i=(p[i]?).getD 0:=rA
theorem aak(hj:j≤p.size)(k:Nat):at0 (kas_rev p i j) k=if i≤k∧k<j then at0 p (i+j-1-k) else at0 p k:=by
 rw[Qx,Qx,Qx];unfold kas_rev;rw[getElem?_mirror_all hj];split<;>rfl
theorem KP.size(h:KP N p):p.size=N:=by
 have:=h.length_eq;rw[kE] at this;simpa using this
include O
theorem Up.succ(h:Up lt p n)(hn:1≤n)(hs:lt (at0 p n) (at0 p (n-1))=false):Up lt p (n+1):=fun i j hij hj=>by
 by_cases e:j<n
 ·exact h i j hij e
 ·have ej:j=n:=by omega
  subst ej;by_cases ei:i=j-1
  ·rw[ei];exact hs
  ·exact O.trans _ _ _ (h i (j-1) (by omega) (by omega)) hs
theorem Dn.succ(h:Dn lt p n)(hn:1≤n)(hs:lt (at0 p (n-1)) (at0 p n)=false):Dn lt p (n+1):=fun i j hij hj=>by
 by_cases e:j<n
 ·exact h i j hij e
 ·have ej:j=n:=by omega
  subst ej;by_cases ei:i=j-1
  ·rw[ei];exact hs
  ·exact O.trans _ _ _ hs (h i (j-1) (by omega) (by omega))
theorem Dn.turn(h:Dn lt p n)(hn:n≤p.size):Up lt (kas_rev p 0 n) n:=fun a b hab hb=>by
 rw[aak hn,aak hn,if_pos ⟨by omega,by omega⟩,if_pos ⟨by omega,by omega⟩];exact h _ _ (by omega) (by omega)
end
theorem aiu(h:kLt a b=true):kLt b a=false:=by
 cases a with
 |inl i=>
  cases b with
  |inr y=>cases h
  |inl j=>have:=of_decide_eq_true h;exact decide_eq_false (by omega)
 |inr x=>
  cases b with
  |inl y=>cases h
  |inr y=>exact KeyOrd.klt_asymm (O:=strKind.toKeyOrd) (a:=x.cps.toList) (b:=y.cps.toList) h
theorem aj4(t1:bI a=bI b)(t2:bI b=bI c)(h:kLt a c=true):kLt a b=true∨kLt b c=true:=by
 cases a with
 |inl i=>
  cases b with
  |inr y=>cases t1
  |inl j=>
   cases c with
   |inr y=>cases t2
   |inl k=>
    have h1:=of_decide_eq_true h;by_cases h2:i<j
    ·exact .inl (decide_eq_true h2)
    ·exact .inr (decide_eq_true (by omega))
 |inr x=>
  cases b with
  |inl y=>cases t1
  |inr y=>
   cases c with
   |inl k=>cases t2
   |inr z=>exact strKind.negTrans x.cps.toList y.cps.toList z.cps.toList h
theorem str_of_list{x y:Str}(h:x.cps.toList=y.cps.toList):x=y:=by
 cases x;cases y;simp at h;simp[h]
theorem aj5(t:bI a=bI b)(h1:kLt a b=false)(h2:kLt b a=false):a=b:=by
 cases a with
 |inl i=>
  cases b with
  |inr y=>cases t
  |inl j=>
   have g1:=of_decide_eq_false h1;have g2:=of_decide_eq_false h2;have:i=j:=by omega
   rw[this]
 |inr x=>
  cases b with
  |inl y=>cases t
  |inr y=>
   have:=strKind.total x.cps.toList y.cps.toList h1 h2;rw[str_of_list this]
def ue(rows:List Row)(i:Nat):List Key:=(rows.getD i (rows.headD (0,[]))).2
def kZ(rows:List Row)(i j:Nat):Bool:=di (ue rows i) (ue rows j)
def runK{α:Type}(lt:Nat→Nat→Bool):KasT α→α
 |.ret a=>a
 |.ask i j k=>runK lt (k (lt i j))
theorem dJ.run:∀{t:KasT α},dJ N lt t R→dJ N lt t (fun a=>R a∧a=runK lt t)∧R (runK lt t)
 |.ret a,h=>⟨⟨h,rfl⟩,h⟩
 |.ask i j k,h=>let r:=dJ.run h.2.2;⟨⟨h.1,h.2.1,r.1⟩,r.2⟩
def sH(ks:List (List Key)):List Nat:=if ks.length<2 then dz ks.length else(runK (fun i j=>di (ks.getD i (ks.headD [])) (ks.getD j (ks.headD []))) (kas_sort ks.length)).toList
def Dy(ks:List (List Key)):List (List Key):=(sH ks).map fun i=>ks.getD i (ks.headD [])
theorem agj(ks:List (List Key)):(sH ks).Perm (dz ks.length):=by
 unfold sH;split
 ·exact yR _
 ·exact(dJ.run (Zg (lt:=fun i j=>di (ks.getD i (ks.headD [])) (ks.getD j (ks.headD []))) (by omega))).2
theorem agk(ks:List (List Key)):(Dy ks).Perm ks:=by
 have:=(agj ks).map fun i=>ks.getD i (ks.headD [])
 refine this.trans (ad5 ?_);refine yK (by simp) fun i h1 h2=>?_
 simp[h2]
theorem Hw(rows:List Row)(i:Nat):ue rows i=(rows.map (·.2)).getD i ((rows.map (·.2)).headD []):=by
 unfold ue;cases h:rows[i]? with
 |none=>cases rows<;>simp_all [qg]
 |some r=>simp[qg,h]
theorem agl(hn:n=rows.length)(h2:2≤n):dJ n (kZ rows) (kas_sort n) fun p=>KP n p∧p.toList=sH (rows.map (·.2)):=by
 subst hn;have e:kZ rows=fun i j=>di ((rows.map (·.2)).getD i ((rows.map (·.2)).headD [])) ((rows.map (·.2)).getD j ((rows.map (·.2)).headD [])):=by
  funext i j;rw[kZ,Hw,Hw]
 refine(dJ.run (Zg (lt:=kZ rows) (N:=rows.length) (by omega))).1.mono fun p hp=>⟨hp.1,?_⟩
 unfold sH;rw[if_neg (by rw[aX];omega),hp.2,e,aX]
theorem afs{rows:List Row}{n:Nat}(hn:n=rows.length)(h:n<2):dz n=sH (rows.map (·.2)):=by
 subst hn;unfold sH;rw[if_pos (by rw[aX];exact h),aX]
theorem aiv{rows:List Row}{p:List Nat}(h:p.Perm (dz rows.length))(hr:p=sH (rows.map (·.2))):(p.map fun i=>rows.getD i (0,[])).map (·.2)=Dy (rows.map (·.2)):=by
 unfold Dy;rw[←hr,dX];refine yG fun i hi=>?_
 have hlt:=oY.mp (h.mem_iff.mp hi);simp[qg,hlt]
section
variable{X:Cx}
theorem ahd(ha:∀r∈rows,TupAt s'.heap r∧r.2.map bI=sh)(hi:i<rows.length)(hj:j<rows.length)(C:Bool→au→Prop)(q:C (kZ rows i j) s'):
  kas_ask prog w A (tuples' true) (rows.map fun r=>dB r.1) i j C s':=by
 refine ait ha hi hj C ?_;have e1:ue rows i=rowAt rows i:=by simp[ue,rowAt,qg,hi]
 have e2:ue rows j=rowAt rows j:=by simp[ue,rowAt,qg,hj]
 unfold kZ at q;rw[e1,e2] at q;exact q
end
abbrev uy:=List (Option aj)
def qJ(H:Hp)(Γ:uy)(σ:St):Prop:=σ.length=Γ.length∧∀(i:Nat)(d:aj),Γ[i]?=some (some d)→∃v,σ[i]?=some (some v)∧RX H d v
theorem qJ.same(h:qJ H Γ σ)(s:bh H H'):qJ H' Γ σ:=⟨h.1,fun i d e=>let ⟨v,a,b⟩:=h.2 i d e;⟨v,a,b.same s⟩⟩
theorem qJ.set(h:qJ H Γ σ)(hv:RX H d v):qJ H (Γ.set i (some d)) (σ.set i (some v)):=by
 refine⟨by rw[uT,uT];exact h.1,fun j e he=>?_⟩
 by_cases hj:i=j
 ·subst hj;rw[An] at he;simp only[if_true] at he;split at he
  ·rename_i hl;cases he
   refine⟨v,?_,hv⟩
   rw[An];simp only[if_true];rw[if_pos (by rw[h.1];exact hl)]
  ·cases he
 ·rw[uM hj] at he;rw[uM hj];exact h.2 j e he
def er(Z:List aa)(H:Hp):Hp:=fun b=>if b∈Z then none else H b
theorem gM(h:er Z H b=some o):H b=some o:=by
 unfold er at h;split at h
 ·cases h
 ·exact h
theorem zR(Z:List aa)(H:Hp):bh (er Z H) H:=fun b o h=>gM h
theorem Pg(s:bh H H'):bh (er Z H) (er Z H'):=fun b o h=>by
 unfold er at h⊢;split at h
 ·cases h
 ·rename_i n;rw[if_neg n];exact s _ _ h
theorem Cy(H:Hp):er [] H=H:=by
 funext b;simp[er]
def Iz(t:TE)(Γ:uy)(d:aj):Prop:=∀Z σ H (Q:VK),(∀b,b∈Z→H b≠none)→qJ (er Z H) Γ σ→(∀v H',bh H H'→RX (er Z H') d v→Q v H')→t σ H Q
def Zj(t:TA)(Γ:uy)(ds:List aj):Prop:=∀Z σ H (Q:List V→Hp→Prop),(∀b,b∈Z→H b≠none)→qJ (er Z H) Γ σ→(∀vs H',bh H H'→lG (er Z H') ds vs→Q vs H')→t σ H Q
section
variable{Γ:uy}{K:aC}
theorem Iz.run(h:Iz t Γ d)(e:qJ H Γ σ)(q:∀v H',bh H H'→RX H' d v→Q v H'):t σ H Q:=
 h [] σ H Q (fun _ m=>by cases m) (by rw[Cy];exact e) fun v H' s r=>q v H' s (by rw[Cy] at r;exact r)
end
end L2
namespace HT
open PySem PySem.Spec PyProof.Rows
section
variable{prog:bf}{w:aY}{A:bU}{E:Value→au→Prop}{s:au}
theorem adb{t sl:aa}{items:Array Value}{vl vu:Value}{lo hi:Option Int}{Q:Value→au→Prop}(ht:IsTup s.heap t items)(hs:s.heap.IsSliceOf sl vl vu .none)(pl:rO vl lo)(pu:rO vu hi)
  (hw:bQ items.size 0 lo=0∧bQ items.size items.size hi=items.size)(h:Q (.ref t) s):aL (model prog w) A (vq (.ref t) (.ref sl)) Q E s:=by
 obtain⟨os,hos,hcs,hds⟩:=id hs
 have hTs:s.TypeIs (.ref sl) "slice":=⟨os,hos,hcs⟩
 unfold vq
 try with_reducible refine mj ?_
 first|refine aD (aV ?_)|skip
 refine aD (ady ht.typeIs (by decide) ?_);refine aD (Aj (name:=dU "__getitem__") ht.typeIs J0
  (p6 J0 ht.typeIs entry_tuple_getitem ?_ (args_tuple_getitem _ _)))
 show aL _ _ (acF (.ref t) >>= _) _ _ s;refine aD (tupleItemsOf_ ht ?_);refine aD (Gr hTs ?_);rw[if_pos (by decide)];refine aD (U4 hs pl pu ?_);have hyes:((((bQ items.size 0 lo:Nat):Int)==0&&(1:Int)==1&&(bQ items.size items.size hi-bQ items.size 0 lo)==items.size)=true):=by
  rw[hw.1,hw.2];simp
 show aL _ _ (if(((bQ items.size 0 lo:Nat):Int)==0&&(1:Int)==1&&(bQ items.size items.size hi-bQ items.size 0 lo)==items.size)=true then _ else _) _ _ s;rw[if_pos hyes];unfold anm;refine aD (aD (Gr ht.typeIs (aV ?_)));rw[if_pos (by decide)];refine aD (wZ ?_);exact aV ⟨_,rfl,aV h⟩
end
end HT
namespace L2
open PySem PySem.Spec PyProof.Rows PySem.W
section
variable{X:Cx}
def alP(K:aC):V→Option Int→Option Int→Hp→VK→Prop:=fun x lo hi H Q=>∃a xs,x=.ref a∧cF K H a xs∧(qN xs lo hi=xs→Q (.ref a) H)∧∀p,H p=none→Q (.ref p) (upd H p (.tup (qN xs lo hi)))
theorem aiw:uG X (alP X.K):=by
 intro pins s σ H x v vl vu lo hi sl Q I rx hs pl pu h
 obtain⟨a,xs,rfl,hx,q1,q2⟩:=h
 by_cases hw:HT.bQ xs.length 0 lo=0∧HT.bQ xs.length xs.length hi=xs.length
 ·cases rx
  obtain⟨its,r,ht,hz⟩:=I.tuple hx
  have hlen:its.toArray.size=xs.length:=by rw[fB];exact r.length.symm
  refine⟨"tuple",_,PyProof.Rows.slot_tuple_getitem.lookup,ht.typeIs,?_⟩
  refine HT.adb ht hs pl pu (by rw[hlen];exact hw) ?_
  refine⟨.ref a,H,I,rfl,q1 ?_⟩
  unfold qN;rw[hw.1,hw.2];simp
 ·exact ajL pins s σ H _ v vl vu lo hi sl Q I rx hs pl pu ⟨a,xs,rfl,hx,hw,q2⟩
end
end L2
namespace HT
open PySem PySem.Spec PyProof.Rows
open Sem (wp)
open Builtin
end HT
namespace L2
open PySem PySem.Spec PyProof.Rows PySem.W
section
variable{X:Cx}
end
section
variable{Γ:uy}{K:aC}
end
section
variable{Γ:uy}{K:aC}
end
section
variable{Γ:uy}{K:aC}
end
section
variable{X:Cx}
theorem aft(hu:X.A.units+64<dR):cz X (dH .NotEq) (fun x y H Q=>∃d e,RX H d x∧RX H e y∧lH d=true∧lH e=true∧Q (.bl (!PyData.eqv d e)) H):=by
 intro pins s σ H x y v u Q I rx ry h
 obtain⟨d,e,hd,he,h1,h2,q⟩:=h
 obtain⟨as,ra⟩:=RD.reads I (hd.rd (K:=X.K)) rx
 obtain⟨bs,rb⟩:=RD.reads I (he.rd (K:=X.K)) ry
 exact ne_dataH ra rb h1 h2 hu ⟨.bl _,H,I,rfl,q⟩
end
section
variable{Γ:uy}{K:aC}
def aj6(t:TE)(Γ:uy)(d:aj):Prop:=∀σ H (Q:VK),qJ H Γ σ→(∀v H',bh H H'→RX H' d v→Q v H')→t σ H Q
theorem Iz.r(h:Iz t Γ d):aj6 t Γ d:=fun σ H Q e q=>h.run e q
theorem Zj.run(h:Zj t Γ ds)(e:qJ H Γ σ)(q:∀vs H',bh H H'→lG H' ds vs→Q vs H'):t σ H Q:=
 h [] σ H Q (fun _ m=>by cases m) (by rw[Cy];exact e) fun v H' s r=>q v H' s (by rw[Cy] at r;exact r)
end
theorem HX{xs:Array Nat}(h:xs.toList.Pairwise (·<·)){i k d:Nat}(hik:i<k)(hk:k<xs.size):xs.getD i d<xs.getD k d:=by
 have h1:=Fd.mp h i k (by simpa using Gs hik hk) (by simpa using hk) hik;have hi:i<xs.size:=Gs hik hk;rw[rA,rA,lU hk,lU hi];simpa using h1
theorem N5{xs:Array Nat}{j:Nat}(h:xs.toList.Pairwise (·<·)):∀f lo hi,lo≤hi→hi≤xs.size→hi-lo≤f→(∀i,i<lo→xs.getD i j<j)→(∀i,hi≤i→i<xs.size→j≤xs.getD i j)→
  FQ xs j f lo hi≤xs.size∧(∀i,i<FQ xs j f lo hi→xs.getD i j<j)∧∀i,FQ xs j f lo hi≤i→i<xs.size→j≤xs.getD i j
 |0,lo,hi,h1,h2,h3,h4,h5=>by
  unfold FQ
  exact⟨by omega,h4,fun i a b=>h5 i (by omega) b⟩
 |f+1,lo,hi,h1,h2,h3,h4,h5=>by
  unfold FQ;by_cases hlt:lo<hi
  ·rw[if_pos hlt];dsimp only;by_cases hm:xs.getD ((lo+hi) / 2) j<j
   ·rw[if_pos hm];refine N5 h f _ _ (by omega) h2 (by omega) (fun i hi'=>?_) h5;by_cases e:i=(lo+hi) / 2
    ·rw[e];exact hm
    ·exact Gs (HX h (by omega) (by omega)) hm
   ·rw[if_neg hm];refine N5 h f _ _ (by omega) (by omega) (by omega) h4 (fun i hi' hs=>?_);by_cases e:i=(lo+hi) / 2
    ·rw[e];omega
    ·have:=HX (d:=j) h (show(lo+hi) / 2<i by omega) hs;omega
  ·rw[if_neg hlt]
   exact⟨by omega,h4,fun i a b=>h5 i (by omega) b⟩
theorem Nb(j:Nat)(h:xs.toList.Pairwise (·<·)):iH xs j≤xs.size∧(∀i,i<iH xs j→xs.getD i j<j)∧∀i,iH xs j≤i→i<xs.size→j≤xs.getD i j:=
 N5 h xs.size 0 xs.size (lJ _) (bD _) (by omega) (fun i hi=>by omega) (fun i a b=>by omega)
theorem Zk(h:xs.toList.Pairwise (·<·)):iH xs 0=0:=by
 obtain⟨_,b,_⟩:=Nb 0 h
 cases e:iH xs 0 with
 |zero=>rfl
 |succ n=>have:=b 0 (by omega);omega
theorem WD{xs:Array Nat}(h:xs.toList.Pairwise (·<·)){i:Nat}(hi:i<xs.size):iH xs (xs[i]+1)=i+1:=by
 obtain⟨a,b,c⟩:=Nb (xs[i]+1) h
 have e:∀k d,(hk:k<xs.size)→xs.getD k d=xs[k]:=fun k d hk=>by rw[rA,lU hk];rfl
 have mono:∀p q,(hp:p<xs.size)→(hq:q<xs.size)→p<q→xs[p]<xs[q]:=fun p q hp hq pq=>by
  have:=HX (d:=0) h pq hq
  rwa [e p 0 hp,e q 0 hq] at this
 by_cases h1:iH xs (xs[i]+1)≤i
 ·have:=c i h1 hi;rw[e i _ hi] at this;omega
 ·by_cases h2:iH xs (xs[i]+1)=i+1
  ·exact h2
  ·have hs:i+1<xs.size:=by omega
   have:=b (i+1) (by omega);rw[e _ _ hs] at this;have:=mono i (i+1) hi hs (by omega);omega
structure iR(b:Bool)(t:tQ):Prop where
 led:t.led=b
 Sw:t.dummies=#[]
 Sx:t.place.toList.Pairwise (·<·)
theorem iR.standIn(h:iR b t)(n:Nat):iR b (t.standIn n):=⟨h.led,rfl,by simpa[SetTable.standIn] using J8⟩
theorem iR.orStandIn(h:iR b t)(n:Nat):iR b (t.orStandIn n):=by
 unfold SetTable.orStandIn;split
 ·exact h
 ·exact h.standIn n
theorem has_none(j:Nat):aeE #[] j=false:=rfl
theorem WK(hd:t.dummies=#[])(f:Nat→Int)(h:Int):∀fuel (p:SetTable.Probe) j d,p.dummy=none→Uz t f h fuel p=some (.empty j d)→d=none∧t.slot j=.empty
 |0,p,j,d,_,e=>by simp[Uz] at e
 |fuel+1,p,j,d,hp,e=>by
  unfold Uz at e;have adv:(t.advance p).dummy=none:=by
   unfold SetTable.advance;split<;>exact hp
  cases hs:t.slot p.j with
  |empty=>
   rw[hs] at e;simp only[Kl,anP] at e
   exact⟨by rw[←e.2];exact hp,by rw[←e.1];exact hs⟩
  |dummy=>
   unfold aem at hs;rw[hd] at hs;simp only[has_none] at hs;split at hs
   ·cases hs
   ·simp at hs
  |live i=>
   rw[hs] at e;simp only at e;split at e
   ·cases e
   ·exact WK hd f h fuel _ j d adv e
theorem afu{xs:Array Nat}{j:Nat}(h:xs.toList.Pairwise (·<·))(hn:xs[iH xs j]?≠some j):(SetTable.insertAt xs (iH xs j) j).toList.Pairwise (·<·):=by
 obtain⟨a,b,c⟩:=Nb j h
 rw[SetTable.toList_insertAt];have h':=h;rw[←List.take_append_drop (iH xs j) xs.toList,Uj] at h'
 obtain⟨h1,h2,h3⟩:=h'
 have e:∀k d,(hk:k<xs.size)→xs.getD k d=xs.toList[k]'(by simpa using hk):=fun k d hk=>by rw[rA,lU hk];simp
 have lo:∀x,x∈xs.toList.take (iH xs j)→x<j:=fun x hx=>by
  obtain⟨i,hi,rfl⟩:=sY hx
  have hi':i<iH xs j:=by simp at hi;omega
  have:=b i hi';rw[e i j (by omega)] at this;rw[adz];exact this
 have hi:∀x,x∈xs.toList.drop (iH xs j)→j<x:=fun x hx=>by
  obtain⟨i,hi,rfl⟩:=sY hx
  have hs:iH xs j+i<xs.size:=by simp at hi;omega
  have h0:=c (iH xs j) (bD _) (by omega);have ne:xs.getD (iH xs j) j≠j:=fun z=>hn (by
   have hb:iH xs j<xs.size:=by omega
   rw[rA,lU hb] at z;rw[lU hb];simpa using z)
  rw[List.getElem_drop,←e _ j hs];by_cases z:i=0
  ·subst z;simp only[V8];omega
  ·have:=HX (d:=j) h (show iH xs j<iH xs j+i by omega) hs;omega
 rw[Uj]
 refine⟨h1,tD.mpr ⟨hi,h2⟩,fun x hx y hy=>?_⟩
 rcases bL.mp hy with rfl|hy
 ·exact lo x hx
 ·exact h3 x hx y hy
theorem iR.layNew(h:iR b t)(es:Array (Int×Value))(hs:Int)(x:Value):iR b (layNew t es hs x).2.1:=by
 unfold PySem.layNew;cases hf:t.freeSlot hs with
 |none=>exact h.standIn _
 |some q=>
  obtain⟨slot,wd⟩:=q
  have free:t.slot slot=.empty:=by
   unfold SetTable.freeSlot at hf;split at hf
   ·rename_i j d hp
    obtain⟨rfl,hj⟩:=WK h.Sw _ _ _ _ _ _ rfl hp
    simp only[Kl,aen] at hf;rw[←hf.1];exact hj
   ·cases hf
  have hn:t.place[iH t.place slot]?≠some slot:=fun z=>by
   unfold aem at free;simp[z] at free
  show iR b ((t.put slot).1.orStandIn _);refine iR.orStandIn (t:=(t.put slot).1) ⟨h.led,?_,afu h.Sx hn⟩ _
  show(if aeE t.dummies slot then _ else t.dummies)=#[]
  rw[h.Sw];rfl
theorem iR.relayAll(h:iR b t)(es:Array (Int×Value))(n:Nat):iR b (relayAll t es n).2.1:=by
 unfold Ge;split
 ·rename_i t' order hr;dsimp only;split
  ·unfold SetTable.relaid SetTable.laid at hr;cases ho:SetTable.layClean (SetTable.sizeAbove n-1) (es.map (·.1)) with
   |none=>simp[ho] at hr
   |some owner=>
    simp only[ho,Option.bind_eq_bind,ir,Option.pure_def,Kl,aen] at hr;rw[←hr.1]
    refine⟨h.led,rfl,?_⟩
    simp only[List.map_filterMap];refine anU _ (fun x y hxy=>?_) J8;intro u hu v hv;simp only[Fe] at hu hv
    obtain⟨p,⟨_,_,rfl⟩,rfl⟩:=hu
    obtain⟨q,⟨_,_,rfl⟩,rfl⟩:=hv
    exact hxy
  ·exact h.standIn _
 ·exact h.standIn _
theorem iR.plain(h:iR b t)(v:Bool):iR b {t with plain:=v}:=⟨h.led,h.Sw,h.Sx⟩
theorem iR.fresh(b:Bool):iR b (.fresh 0 0 b):=⟨rfl,rfl,.nil⟩
end L2
namespace L2
open PySem PySem.Spec PySem.W
section
variable{prog:bf}{w:aY}{T:Type}[DecidableEq T](knd:wR prog w T)
def bt(w:aY):Bool:=!(w.params.followText "set-order")
inductive jA:List (Int×Value)→List T→Prop
 |nil:jA [] []
 |cons {e:Int×Value} {k:T} {es:List (Int×Value)} {ks:List T}:(knd.is k e.2=true∧e.1=knd.hash k∧e.2.scannable=true)→jA es ks→jA (e::es) (k::ks)
def mR(h:aU)(a:aa)(ks:List T):Prop:=∃o es ep t,h.get? a=some o∧o.ExactSet∧o.data=.set es ep t∧(∃ks',jA knd es.toList ks'∧ks'.Perm ks)∧es.size<pC∧t.fits es.size=true∧iR (bt w) t
def jW(ks:List T)(k:T):List T:=if k∈ks then ks else ks++[k]
variable{knd}
theorem jA.elems(h:jA knd es ks):ElemsOf knd es:=by
 induction h with
 |nil=>intro e he;cases he
 |cons a _ ih=>
  intro e he;rcases bL.mp he with rfl|he
  ·exact⟨⟨_,a.1,a.2.1⟩,a.2.2⟩
  ·exact ih e he
theorem jA.len(h:jA knd es ks):es.length=ks.length:=by
 induction h with
 |nil=>rfl
 |cons _ _ ih=>simp[ih]
theorem jA.perm(p:es'.Perm es):∀{ks:List T},jA knd es ks→∃ks',jA knd es' ks'∧ks'.Perm ks:=by
 induction p with
 |nil=>intro ks h;exact⟨ks,h,.refl _⟩
 |cons x _ ih=>
  intro ks h;cases h with
  |cons a r=>
   obtain⟨ks',h1,h2⟩:=ih r
   exact⟨_::ks',.cons a h1,h2.cons _⟩
 |swap x y l=>
  intro ks h;cases h with
  |cons a r=>
   cases r with
   |cons b r=>exact⟨_::_::_,.cons b (.cons a r),.swap ..⟩
 |trans _ _ ih1 ih2=>
  intro ks h
  obtain⟨k2,h1,p1⟩:=ih2 h
  obtain⟨k3,h2,p2⟩:=ih1 h1
  exact⟨k3,h2,p2.trans p1⟩
theorem jA.push(h:jA knd es ks)(hk:knd.is k x=true)(hx:x.scannable=true):jA knd (es++[(knd.hash k,x)]) (ks++[k]):=by
 induction h with
 |nil=>exact .cons ⟨hk,rfl,hx⟩ .nil
 |cons a _ ih=>exact .cons a ih
theorem jA.mem(h:jA knd es ks)(hm:x∈es)(hp:knd.is k x.2=true):k∈ks:=by
 induction h with
 |nil=>cases hm
 |cons a _ ih=>
  rcases bL.mp hm with rfl|hm
  ·cases knd.inj _ _ _ hp a.1;exact fj ..
  ·exact eZ _ (ih hm)
theorem jA.none(h:jA knd es ks)(e:es.findIdx? (fun e=>knd.is k e.2)=.none):k∉ks:=by
 have e':=List.findIdx?_eq_none_iff.mp e;clear e;induction h with
 |nil=>intro h;cases h
 |cons a _ ih=>
  intro hm;rcases bL.mp hm with rfl|hm
  ·have:=e' _ (fj ..);rw[a.1] at this;cases this
  ·exact ih (fun x hx=>e' x (eZ _ hx)) hm
variable{A:bU}{E:Value→au→Prop}{s:au}
theorem Zm{h:aU}{a:aa}{o:Obj}{es es':Array (Int×Value)}{ep:Nat}{t t':tQ}{ks:List T}(ho:h.get? a=some o)(ex:o.ExactSet)(hd:o.data=.set es ep t)(e:∃ks',jA knd es'.toList ks'∧ks'.Perm ks)
  (hb:es'.size<pC)(hf:t'.fits es'.size=true)(tb:iR (bt w) t'):
  ∃o',(h.update a (Mz es' t')).get? a=some o'∧o'.ExactSet∧o'.data=.set es' (ep+1) t'∧mR knd (h.update a (Mz es' t')) a ks:=by
 have g:=yF (Mz es' t') ho (by rw[putSet_of es' t' hd];rfl);rw[putSet_of es' t' hd] at g
 exact⟨_,g,ex,rfl,_,es',ep+1,t',g,ex,rfl,e,hb,hf,tb⟩
theorem aix{a:aa}{k:T}{x:Value}{ks:List T}{Q:Bool→au→Prop}(hk:knd.is k x=true)(hx:x.scannable=true)(hS:mR knd s.heap a ks)(room:ks.length+1<pC)
  (h:∀b h',yX a s.heap h'→mR knd h' a (jW ks k)→Q b {s with heap:=h'}):aL (model prog w) A (setAddHashed a x (knd.hash k)) Q E s:=by
 obtain⟨o,es,ep,t,ho,ex,hd,⟨k0,ek,pk⟩,hb,hf,tb⟩:=hS
 have sz:es.size=ks.length:=by rw[←ju,ek.len,pk.length_eq]
 have el:=ek.elems;have mono:∀{u:Unit→au→Prop}{s1:au}(g:Bool),u () s1→∀r:Sem Unit,(r=rule "set.scan.the-table-gave-way"∨r=pure ())→aL (model prog w) A r u E s1:=fun g hu r hr=>by
  rcases hr with rfl|rfl
  ·exact wZ hu
  ·exact aV hu
 unfold setAddHashed setAddHashedIn;refine mj (aD (Ao ho hd hf ?_));simp only[byScan_of hx hb el,if_true];unfold setAddByScan;refine aD (aD (wZ (aD (wpAny_setScan_of hk ho hd hf el ?_))));cases hr:es.toList.findIdx? (fun e=>knd.is k e.2) with
 |some j=>
  obtain⟨hj,hp,_⟩:=List.findIdx?_eq_some_iff_getElem.mp hr
  have hm:k∈ks:=pk.mem_iff.mp (ek.mem (wM hj) hp);refine aV (aV (h _ s.heap (UG a s.heap) ?_));rw[jW,if_pos hm]
  exact⟨o,es,ep,t,ho,ex,hd,⟨k0,ek,pk⟩,hb,hf,tb⟩
 |none=>
  have hm:k∉ks:=fun z=>ek.none hr (pk.mem_iff.mpr z)
  have pn:=layNew_perm t es (knd.hash k) x;have fn:=layNew_fits t es (knd.hash k) x;have tn:=tb.layNew es (knd.hash k) x;dsimp only;generalize layNew t es (knd.hash k) x=L at pn fn tn⊢
  obtain⟨es1,t1,wd,gv⟩:=L
  dsimp only at pn fn tn⊢;rw[adA] at pn
  obtain⟨k1,e1,p1⟩:=(ek.push hk hx).perm pn
  have ak:jW ks k=ks++[k]:=by rw[jW,if_neg hm]
  have q1:∃ks',jA knd es1.toList ks'∧ks'.Perm (jW ks k):=⟨k1,e1,by rw[ak];exact p1.trans (pk.append_right _)⟩
  have wB:es1.size=es.size+1:=by rw[←ju,pn.length_eq,fO,ju];rfl
  have b1:es1.size<pC:=by omega
  refine aD (mono gv ?_ _ (by cases gv<;>first|exact .inl rfl|exact .inr rfl));have tail:∀t2:tQ,t2.fits es1.size=true→iR (bt w) t2→aL (model prog w) A (do
    storeSet a es1 t2
    if(!wd&&t2.tooFull)=true then do
      (match(Ge t2 es1 (yS es1.size)).2.2 with|true=>rule "set.scan.the-table-gave-way" |false=>pure ())
      storeSet a (Ge t2 es1 (yS es1.size)).1 (Ge t2 es1 (yS es1.size)).2.1
      pure (some true)
     else pure (some true)) (fun r s'=>aL (model prog w) A (match r with|some added=>pure added|none=>setAddHashedIn a x (knd.hash k) 99999) Q E s') E s:=fun t2 f2 tb2=>by
   obtain⟨o1,g1,ex1,d1,S1⟩:=Zm (knd:=knd) ho ex hd q1 b1 f2 tb2
   refine aD (adB ho hd ?_ (UJ b1));have xQ:=sZ s.heap a (Mz es1 t2);split
   ·have pr:=relayAll_perm t2 es1 (yS es1.size);have fr:=relayAll_fits t2 es1 (yS es1.size);have tr:=tb2.relayAll es1 (yS es1.size);generalize Ge t2 es1 (yS es1.size)=L2 at pr fr tr⊢
    obtain⟨es2,t3,gv2⟩:=L2
    dsimp only at pr fr tr⊢
    obtain⟨k2,e2,p2⟩:=q1
    obtain⟨k3,e3,p3⟩:=e2.perm pr
    have sz2:es2.size=es1.size:=by rw[←ju,pr.length_eq,ju]
    have b2:es2.size<pC:=by omega
    refine aD (mono gv2 ?_ _ (by cases gv2<;>first|exact .inl rfl|exact .inr rfl));refine aD (adB g1 d1 ?_ (UJ b2))
    obtain⟨_,_,_,_,S2⟩:=Zm (knd:=knd) g1 ex1 d1 ⟨k3,e3,p3.trans p2⟩ b2 fr tr
    exact aV (aV (h _ _ (xQ.trans (sZ ..)) S2))
   ·exact aV (aV (h _ _ xQ S1))
  split
  ·refine aD ?_;rw[hashByValue_scannable 8 hx];refine aV ?_;by_cases hv:plainKind x=true
   ·simp only[hv,if_true];exact tail t1 fn tn
   ·simp only[hv,oX,if_false];exact tail _ (SetTable.fits_plain_off fn) (tn.plain false)
  ·refine aD (aV ?_);simp only[if_true];exact tail t1 fn tn
end
section
variable{T:Type}[DecidableEq T]
def dedup(ks:List T):List T:=ks.foldl jW []
theorem afv(ks:List T)(k:T):dedup (ks++[k])=jW (dedup ks) k:=by simp[dedup,List.foldl_append]
theorem ahe{ks:List T}{k x:T}:x∈jW ks k↔x∈ks∨x=k:=by
 unfold jW;split
 ·rename_i h
  exact⟨.inl,fun z=>z.elim id fun e=>e▸h⟩
 ·simp
theorem Vr{x:T}:∀(ks as:List T),x∈ks.foldl jW as↔x∈as∨x∈ks
 |[],as=>by simp
 |k::ks,as=>by rw[Av,Vr,ahe,bL,or_assoc]
theorem agm{ks:List T}{x:T}:x∈dedup ks↔x∈ks:=by
 rw[dedup,Vr];simp
theorem afw{ks:List T}{k:T}(h:ks.Nodup):(jW ks k).Nodup:=by
 unfold jW;split
 ·exact h
 ·rename_i hk;exact j4.mpr ⟨h,by simp,fun a ha b hb=>by rw[jm] at hb;rintro rfl;exact hk (hb▸ha)⟩
theorem U7:∀(ks as:List T),as.Nodup→(ks.foldl jW as).Nodup
 |[],_,h=>h
 |k::ks,_,h=>U7 ks _ (afw h)
theorem ae4(ks:List T):(dedup ks).Nodup:=U7 ks [] .nil
theorem ahf(ks:List T)(k:T):(jW ks k).length≤ks.length+1:=by
 unfold jW;split<;>simp
theorem Vs:∀(ks as:List T),(ks.foldl jW as).length≤as.length+ks.length
 |[],_=>by simp
 |k::ks,as=>by
  have h1:=Vs ks (jW as k);have h2:=ahf as k;simp only[Av,cN];omega
theorem Xi(ks:List T):(dedup ks).length≤ks.length:=by simpa[dedup] using Vs ks []
end
section
variable{prog:bf}{w:aY}{T:Type}[DecidableEq T]{knd:wR prog w T}{A:bU}{E:Value→au→Prop}{s:au}
theorem mR.at(H:mR knd h a ks)(e:∀o,h.get? a=some o→h'.get? a=some o):mR knd h' a ks:=
 let ⟨o,es,ep,t,ho,r⟩:=H
 ⟨o,es,ep,t,e o ho,r⟩
theorem mR.lt(H:mR knd h a ks):a<h.objs.size:=let ⟨_,_,_,_,ho,_⟩:=H;bT ho
theorem mR.ty(H:mR knd s.heap a ks):s.TypeIs (.ref a) "set":=let ⟨o,_,_,_,ho,ex,_⟩:=H;⟨o,ho,ex.1⟩
end
section
variable{prog:bf}{w:aY}{T:Type}[DecidableEq T]{knd:wR prog w T}{A:bU}{E:Value→au→Prop}{s:au}
def pQ(w:aY):Obj:={cls:=.type "set",dict:=none,data:=.set #[] 0 (.fresh 0 0 (bt w))}
theorem aj7(g:h.get? a=some (pQ w)):mR knd h a []:=⟨_,#[],0,_,g,⟨rfl,rfl,rfl⟩,rfl,⟨[],.nil,.refl _⟩,by decide,rfl,iR.fresh _⟩
end
theorem Yb:Manifest.owners.lookup (String.ofList "rotareti_tes".toList.reverse)=some Manifest.sig_set_iterator:=by kernel_rfl
theorem qm:Slot "set_iterator" "__next__" "set_iterator.__next__":=.of (owner:="set_iterator") (n:="__next__") (by rw[typeLookup_type,ac0];kernel_rfl) (by decide +kernel) (by decide +kernel) (by decide +kernel) (by first|exact .inl (by decide +kernel)|exact .inr (by decide +kernel)) (by rw[Vt];kernel_rfl)
theorem Zn:Slot "set_iterator" "__iter__" "set_iterator.__iter__":=.of (owner:="set_iterator") (n:="__iter__") (by rw[typeLookup_type,ac0];kernel_rfl) (by decide +kernel) (by decide +kernel) (by decide +kernel) (by first|exact .inl (by decide +kernel)|exact .inr (by decide +kernel)) (by rw[Vt];kernel_rfl)
theorem Hh:N6 table "set_iterator.__next__"=some j5.«set_iterator.__next__»:=entryFor_of_tree (by kernel_rfl)
theorem agn:N6 table "set_iterator.__iter__"=some j5.«dict_keyiterator.__iter__»:=entryFor_alias (id':="dict_keyiterator.__iter__") (by kernel_rfl) rfl (by decide +kernel) (by kernel_rfl)
theorem afx:N6 table "set.__iter__"=some j5.«frozenset.__iter__»:=entryFor_alias (id':="frozenset.__iter__") (by kernel_rfl) rfl (by decide +kernel) (by kernel_rfl)
theorem Hi(a:Value):Cz "set_iterator.__next__" ⟨[a],[]⟩:=by
 unfold Cz;rw[signature?_of (id:="set_iterator.__next__") (n:="__txen__".toList) (o:="rotareti_tes".toList) (by kernel_rfl) Yb];kernel_rfl
theorem ago(a:Value):Cz "set_iterator.__iter__" ⟨[a],[]⟩:=by
 unfold Cz;rw[signature?_of (id:="set_iterator.__iter__") (n:="__reti__".toList) (o:="rotareti_tes".toList) (by kernel_rfl) Yb];kernel_rfl
section
variable{prog:bf}{w:aY}{A:bU}{E:Value→au→Prop}{s:au}{it S:aa}{es:Array (Int×Value)}{ep i n:Nat}{t:tQ}{first:Value}
def lC(b:Bool)(h:aU)(a:aa)(es:Array (Int×Value))(ep:Nat)(t:tQ):Prop:=∃o,h.get? a=some o∧o.ExactSet∧o.data=.set es ep t∧t.fits es.size=true∧iR b t
theorem lC.at(H:lC b h a es ep t)(e:∀o,h.get? a=some o→h'.get? a=some o):lC b h' a es ep t:=let ⟨o,ho,r⟩:=H;⟨o,e o ho,r⟩
def jL(h:aU)(it S:aa)(first:Value)(i n ep:Nat):Prop:=∃o,h.get? it=some o∧o.cls=.type "set_iterator"∧o.data=.fields #[first,jg i,.ref S,jg n,jg ep]
theorem jL.at(H:jL h it S first i n ep)(e:∀o,h.get? it=some o→h'.get? it=some o):jL h' it S first i n ep:=let ⟨o,ho,r⟩:=H;⟨o,e o ho,r⟩
theorem jL.ty(H:jL s.heap it S first i n ep):s.TypeIs (.ref it) "set_iterator":=let ⟨o,ho,c,_⟩:=H;⟨o,ho,c⟩
theorem jL.set{h:aU}{j:Nat}{x:Value}{vs:Array Value}{o:Obj}(ho:h.get? it=some o)(hc:o.cls=.type "set_iterator")(hd:o.data=.fields vs):
  ∃o',(h.update it (Obj.mapFields (·.setIfInBounds j x))).get? it=some o'∧o'.cls=.type "set_iterator"∧o'.data=.fields (vs.setIfInBounds j x):=
 ⟨_,yF _ ho (Obj.isFreed_of_fields (adn hd _)),(Obj.cls_mapFields ..).trans hc,by rw[adn hd]⟩
theorem Ph(hit:jL s.heap it S first i n ep)(h:Q (.ref it) s):aL (model prog w) A (Cr (.ref it)) Q E s:=by
 refine adC hit.ty Zn (p6 Zn hit.ty agn (show aL _ _ (ret (.ref it)) _ _ s from ?_) (ago _));exact aV ⟨_,rfl,"set_iterator",_,hit.ty,qm.lookup,h⟩
theorem Zo{Q:Option Value→au→Prop}{slot:Nat}{R:Option (Value×Nat)}(hit:jL s.heap it S (jg slot) i n ep)(hs:lC (bt w) s.heap S es ep t)(hn:n=es.size)(ne:S≠it)
  (nx:∀{B:bU}{E':Value→au→Prop}{C:Option (Value×Nat)→au→Prop},C R s→aL (model prog w) B (BW S slot i ep) C E' s){x:Value}{nxt:Nat}(hR:R=some (x,nxt))
  (h:∀h',jL h' it S (jg nxt) (i+1) n ep→yX it s.heap h'→Q (some x) {s with heap:=h'}):aL (model prog w) A (n6 (.ref it)) Q E s:=by
 obtain⟨o,ho,hc,hd⟩:=id hit
 obtain⟨os,hos,exs,hds,hf,tb⟩:=id hs
 unfold n6;refine aD (Ld (Aj (name:=dU "__next__") hit.ty qm (p6 qm hit.ty Hh ?_ (Hi _))));unfold j5.«set_iterator.__next__»;refine aD (aV (aD (KQ ho hd ?_)));dsimp only[jg];refine aD (Fo hos hds hf ?_);subst hn;subst hR;rw[if_neg (by simp)];refine aD (nx ?_);dsimp only;refine aD (Az ho hd (by simp) ?_)
 obtain⟨o1,g1,c1,d1⟩:=jL.set (j:=0) (x:=.int nxt 0) ho hc hd
 refine aD (Az g1 d1 (by simp) ?_)
 obtain⟨o2,g2,c2,d2⟩:=jL.set (j:=1) (x:=.int (i+1) 0) g1 c1 d1
 refine aV ⟨_,rfl,aV (h _ ⟨o2,g2,c2,?_⟩ ((sZ ..).trans (sZ ..)))⟩;rw[d2];simp[jg]
theorem Zq(hh:A.handled=none)(h:∀h',(∀b o,s'.heap.get? b=some o→h'.get? b=some o)→Q none {s' with heap:=h'}):
  aL (model prog w) A.in1 (do let e ←newExc (.type "StopIteration") [];(raiseNew e:Sem Fin)) (fun fin s1=>∃v,fin=Fin.done (Flow.ret v)∧aL (model prog w) A (pure (some v)) Q E s1)
   (fun e s1=>aL (model prog w) A (do if(←isInstance e (Br "StopIteration"))=true then pure none else throw e) Q E s1) s':=by
 refine aD ?_;simp only[newExc,newTuple];refine aD (lX ?_ (by size_fits));refine aD (m:=firstArgMember _ _) (wpAny_of_eq (a:=o8) (by first|rfl|(simp only[firstArgMember];rfl)) ?_);refine lX ?_ (by size_fits);simp only[raiseNew];refine aD (wpAny_handled ?_);rw[show A.in1.handled=none from hh];refine aD (aV (wpAny_throw ?_));refine aD (adR (T:="StopIteration") (b:=true) ⟨_,gF _ rfl,rfl⟩ isSubtype_stop ?_);exact aV (h _ fun b o e=>cB _ (cB _ e))
theorem aal{Q:Option Value→au→Prop}{slot:Nat}(hh:A.handled=none)(hit:jL s.heap it S (jg slot) i n ep)(hs:lC (bt w) s.heap S es ep t)(hn:n=es.size)
  (nx:∀{B:bU}{E':Value→au→Prop}{C:Option (Value×Nat)→au→Prop},C none s→aL (model prog w) B (BW S slot i ep) C E' s)
  (h:∀h',(∀b o,b≠it→s.heap.get? b=some o→h'.get? b=some o)→Q none {s with heap:=h'}):aL (model prog w) A (n6 (.ref it)) Q E s:=by
 obtain⟨o,ho,hc,hd⟩:=id hit
 obtain⟨os,hos,exs,hds,hf,tb⟩:=id hs
 unfold n6;refine aD (Ld (Aj (name:=dU "__next__") hit.ty qm (p6 qm hit.ty Hh ?_ (Hi _))));unfold j5.«set_iterator.__next__»;refine aD (aV (aD (KQ ho hd ?_)));dsimp only[jg];refine aD (Fo hos hds hf ?_);subst hn;rw[if_neg (by simp)];refine aD (nx ?_);dsimp only;refine aD (Az ho hd (by simp) ?_);exact Zq hh fun h' kk=>h h' fun b o hb e=>kk b o (((sZ ..).2 b hb).trans e)
end
section
variable{prog:bf}{w:aY}{A:bU}{E:Value→au→Prop}{s:au}{it S:aa}{es:Array (Int×Value)}{ep i n:Nat}{t:tQ}{first:Value}
theorem HY(h:Q (!bt w) s):aL (model prog w) A WL Q E s:=by
 unfold WL;refine aD (Kq (aV ?_));have h':Q (w.params.followText "set-order") s:=by simpa[bt] using h
 exact h'
theorem MF:∀{l:List α}{j:Nat}(h:j<l.length),(l[j]::l.eraseIdx j).Perm l
 |[],j,h=>by cases h
 |a::l,0,h=>.refl _
 |a::l,j+1,h=>by
  have:=MF (l:=l) (j:=j) (by simpa using h);simp only[List.getElem_cons_succ,List.eraseIdx_cons_succ]
  exact(KR ..).trans (this.cons a)
theorem Xj(hs:lC (bt w) s.heap S es ep t)(hb:bt w=true)(nd:(!t.plain&&decide (es.size>1))=false)
  (h:C (match es[iH t.place slot]?,t.place[iH t.place slot]? with|some (_,x),some j=>some (x,j+1)|_,_=>none) s):aL (model prog w) A (BW S slot i ep) C E s:=by
 obtain⟨o,ho,ex,hd,hf,tb⟩:=hs
 unfold BW;refine aD (Ao ho hd hf ?_);refine aD (HY ?_);rw[hb];simp only[aeo,oX,if_false];refine Ky (fun z=>?_) (fun _=>?_)
 ·have z':(!t.plain&&decide (es.size>1))=true:=z;rw[nd] at z';cases z'
 refine aD (show aL _ _ (if(!t.led&&!es.isEmpty)=true then _ else _) _ _ _ from ?_);rw[tb.led,hb];simp only[aeo,Vo,oX,if_false];exact aV (aV h)
theorem Xk(hs:lC (bt w) s.heap S es ep t)(hb:bt w=false)
  (h:C (((w6 (w.params.setOrder S ep) es)[i]?).map fun e=>(e.2,slot)) s):aL (model prog w) A (BW S slot i ep) C E s:=by
 obtain⟨o,ho,ex,hd,hf,tb⟩:=hs
 unfold BW;refine aD (Ao ho hd hf ?_);refine aD (HY ?_);rw[hb];simp only[aeb,if_true,bne_self_eq_false,oX,if_false];refine aD ?_;unfold setWalk;refine aD (Ao ho hd hf ?_);refine aD (HY ?_);rw[hb];simp only[aeb,if_true];refine aD (Kq (aV ?_));exact aV h
theorem Zr(f:Nat→Nat):∀(m k:Nat)(left:List α)(out:Array α),left.length=m→(V9 f m k left out).toList.Perm (out.toList++left)
 |0,k,left,out,h=>by
  unfold V9;rw[acN.mp h];simp
 |m+1,k,left,out,h=>by
  unfold V9;have hl:f k%left.length<left.length:=Nat.mod_lt _ (by omega);rw[ie hl];dsimp only
  refine(Zr f m (k+1) _ _ (by rw[ac5];simp[hl];omega)).trans ?_
  rw[adA,j0];refine ac1 _ ?_;exact MF hl
theorem Nf(f:Nat→Nat)(xs:Array α):(w6 f xs).toList.Perm xs.toList:=by
 have:=Zr f xs.size 0 xs.toList #[] (by simp);simpa[w6] using this
theorem ahg(hm:m≠0)(h:∀j d,j<m→Q j {s with drawn:=d}):aL (model prog w) A (choose src m) Q E s:=fun Γ p _=>⟨hm,h _ _ (Nat.mod_lt _ (Nat.pos_of_ne_zero hm))⟩
theorem Yc:∀(m:Nat)(xs:List α)(s:au)(Q:List α→au→Prop),xs.length=m→(∀ys d,ys.Perm xs→Q ys {s with drawn:=d})→aL (model prog w) A (drawOrder m xs) Q E s
 |0,xs,s,Q,hl,h=>by
  unfold drawOrder;rw[acN.mp hl] at h;exact aV (h [] s.drawn (.refl _))
 |m+1,[],s,Q,hl,h=>by cases hl
 |m+1,x::xs,s,Q,hl,h=>by
  unfold drawOrder;refine aD (ahg (by simp) fun j d hj=>?_);rw[ie hj];dsimp only;refine aD (Yc m _ _ _ (by rw[ac5,if_pos hj];simpa using hl) fun ys d' hp=>?_);exact aV (h _ d' ((hp.cons _).trans (MF hj)))
end
section
variable{prog:bf}{w:aY}{A:bU}{E:Value→au→Prop}{s:au}{it S pl:aa}{es:Array (Int×Value)}{ep i n:Nat}{t:tQ}{ps:List Nat}
def Af(h:aU)(pl:aa)(ps:List Nat):Prop:=∃o c,h.get? pl=some o∧o.data=.seq (ps.map fun k:Nat=>jg k).toArray c
theorem Af.at(H:Af h pl ps)(e:∀o,h.get? pl=some o→h'.get? pl=some o):Af h' pl ps:=let ⟨o,c,ho,r⟩:=H;⟨o,c,e o ho,r⟩
theorem aiy(hit:jL s.heap it S (.ref pl) i n ep)(hs:lC (bt w) s.heap S es ep t)(hp:Af s.heap pl ps)(hn:n=es.size)(hk:ps[i]?=some k)(he:es[k]?=some e)
  (h:∀h',jL h' it S (.ref pl) (i+1) n ep→yX it s.heap h'→Q (some e.2) {s with heap:=h'}):aL (model prog w) A (n6 (.ref it)) Q E s:=by
 obtain⟨o,ho,hc,hd⟩:=id hit
 obtain⟨os,hos,exs,hds,hf,tb⟩:=id hs
 obtain⟨op,cp,hop,hdp⟩:=hp
 unfold n6;refine aD (Ld (Aj (name:=dU "__next__") hit.ty qm (p6 qm hit.ty Hh ?_ (Hi _))));unfold j5.«set_iterator.__next__»;refine aD (aV (aD (KQ ho hd ?_)));dsimp only[jg];refine aD (Fo hos hds hf ?_);subst hn;rw[if_neg (by simp)];refine aD (Gf hop hdp ?_);dsimp only;rw[show((ps.map fun k:Nat=>jg k).toArray)[((i:Int)).toNat]?=some (.int (k:Int) 0) by simp[hk,jg]];dsimp only;refine aD ?_;unfold setNextDrawn;refine aD (Ao hos hds hf ?_);simp only[Al,bne_self_eq_false,oX,if_false,he];refine aV (aD (Az ho hd (by simp) ?_))
 obtain⟨o1,g1,c1,d1⟩:=jL.set (j:=1) (x:=.int (i+1) 0) ho hc hd
 refine aV ⟨_,rfl,aV (h _ ⟨o1,g1,c1,?_⟩ (sZ ..))⟩;rw[d1];simp[jg]
theorem aj8(hh:A.handled=none)(hit:jL s.heap it S (.ref pl) i n ep)(hs:lC (bt w) s.heap S es ep t)(hp:Af s.heap pl ps)(hn:n=es.size)(hk:ps.length≤i)
  (h:∀h',(∀b o,b≠it→s.heap.get? b=some o→h'.get? b=some o)→Q none {s with heap:=h'}):aL (model prog w) A (n6 (.ref it)) Q E s:=by
 obtain⟨o,ho,hc,hd⟩:=id hit
 obtain⟨os,hos,exs,hds,hf,tb⟩:=id hs
 obtain⟨op,cp,hop,hdp⟩:=hp
 unfold n6;refine aD (Ld (Aj (name:=dU "__next__") hit.ty qm (p6 qm hit.ty Hh ?_ (Hi _))));unfold j5.«set_iterator.__next__»;refine aD (aV (aD (KQ ho hd ?_)));dsimp only[jg];refine aD (Fo hos hds hf ?_);subst hn;rw[if_neg (by simp)];refine aD (Gf hop hdp ?_);dsimp only;rw[show((ps.map fun k:Nat=>jg k).toArray)[((i:Int)).toNat]?=none by simp[hk]];dsimp only;refine aD (Az ho hd (by simp) ?_)
 obtain⟨o1,g1,c1,d1⟩:=jL.set (j:=0) (x:=.int 0 0) ho hc hd
 refine aD (Az g1 d1 (by simp) ?_);exact Zq hh fun h' kk=>h h' fun b o hb e=>kk b o ((((sZ ..).trans (sZ ..)).2 b hb).trans e)
theorem agp(hh:A.handled=none)(ne:S≠it)(hb:bt w=true)(nd:(!t.plain&&decide (es.size>1))=false)(hz:t.place.size=es.size)(rs:t.place.toList.Pairwise (·<·)):
  Walks prog w A it [it,S] [it] es.size (fun i v=>(es.toList.map (·.2))[i]?=some v) (fun i h=>jL h it S (jg (if i=0 then 0 else t.place.getD (i-1) 0+1:Nat)) i es.size ep∧lC (bt w) h S es ep t) where
 sub:=fun b hb=>by simp at hb;simp[hb]
 frame:=fun _ _ _ st hk=>⟨st.1.at fun o e=>hk it (by simp) o e,st.2.at fun o e=>hk S (by simp) o e⟩
 item:=fun i s Q E hi st hQ=>by
  have hp:i<t.place.size:=by omega
  have bl:iH t.place (if i=0 then 0 else t.place.getD (i-1) 0+1)=i:=by
   by_cases z:i=0
   ·subst z;exact Zk rs
   ·rw[if_neg z];have h1:i-1<t.place.size:=by omega
    have:=WD rs h1;rw[rA,lU h1,FW,this];omega
  refine Zo (R:=some (es[i].2,t.place[i]+1)) st.1 st.2 rfl ne (fun c=>Xj st.2 hb nd ?_) rfl fun h' hit' same=>hQ _ h' s.toks (by simp[hi]) ⟨?_,st.2.at fun o e=>(same.2 S ne).trans e⟩ fun b o hb e=>(same.2 b fun z=>hb (by simp[z])).trans e
  ·rw[bl,lU hi,lU hp];exact c
  ·have e1:(if i+1=0 then 0 else t.place.getD (i+1-1) 0+1)=t.place[i]+1:=by
    rw[if_neg (by omega),Nat.add_sub_cancel,rA,lU hp,FW]
   rw[e1];exact hit'
 done:=fun s Q E st hQ=>by
  have bl:iH t.place (if es.size=0 then 0 else t.place.getD (es.size-1) 0+1)=es.size:=by
   by_cases z:es.size=0
   ·rw[if_pos z,z];exact Zk rs
   ·rw[if_neg z];have h1:es.size-1<t.place.size:=by omega
    have:=WD rs h1;rw[rA,lU h1,FW,this];omega
  refine aal hh st.1 st.2 rfl (fun c=>Xj st.2 hb nd ?_) fun h' kk=>hQ h' s.toks fun b o hb e=>kk b o (fun z=>hb (by simp[z])) e
  rw[bl,acV (bD _)];exact c
 self:=fun _ _ _ _ st hQ=>Ph st.1 hQ
theorem agq(hh:A.handled=none)(ne:S≠it)(hb:bt w=false):
  Walks prog w A it [it,S] [it] es.size (fun i v=>((w6 (w.params.setOrder S ep) es).toList.map (·.2))[i]?=some v) (fun i h=>jL h it S (jg (0:Nat)) i es.size ep∧lC (bt w) h S es ep t) where
 sub:=fun b hb=>by simp at hb;simp[hb]
 frame:=fun _ _ _ st hk=>⟨st.1.at fun o e=>hk it (by simp) o e,st.2.at fun o e=>hk S (by simp) o e⟩
 item:=fun i s Q E hi st hQ=>by
  have hl:(w6 (w.params.setOrder S ep) es).size=es.size:=by rw[←ju,(Nf _ es).length_eq,ju]
  have hp:i<(w6 (w.params.setOrder S ep) es).size:=by omega
  refine Zo (R:=some ((w6 (w.params.setOrder S ep) es)[i].2,0)) st.1 st.2 rfl ne (fun c=>Xk st.2 hb ?_) rfl fun h' hit' same=>hQ _ h' s.toks (by simp[hp]) ⟨hit',st.2.at fun o e=>(same.2 S ne).trans e⟩ fun b o hb e=>(same.2 b fun z=>hb (by simp[z])).trans e
  rw[lU hp];exact c
 done:=fun s Q E st hQ=>by
  have hl:(w6 (w.params.setOrder S ep) es).size=es.size:=by rw[←ju,(Nf _ es).length_eq,ju]
  refine aal hh st.1 st.2 rfl (fun c=>Xk st.2 hb ?_) fun h' kk=>hQ h' s.toks fun b o hb e=>kk b o (fun z=>hb (by simp[z])) e
  rw[acV (by omega)];exact c
 self:=fun _ _ _ _ st hQ=>Ph st.1 hQ
theorem afy(hh:A.handled=none)(ne:S≠it)(np:pl≠it)(pp:ps.Perm (dz es.size)):
  Walks prog w A it [it,S,pl] [it] es.size (fun i v=>(ps.map fun k=>(es.getD k (0,.none)).2)[i]?=some v) (fun i h=>jL h it S (.ref pl) i es.size ep∧lC (bt w) h S es ep t∧Af h pl ps) where
 sub:=fun b hb=>by simp at hb;simp[hb]
 frame:=fun _ _ _ st hk=>⟨st.1.at fun o e=>hk it (by simp) o e,st.2.1.at fun o e=>hk S (by simp) o e,st.2.2.at fun o e=>hk pl (by simp) o e⟩
 item:=fun i s Q E hi st hQ=>by
  have hl:ps.length=es.size:=by rw[pp.length_eq,kE]
  have hp:i<ps.length:=by omega
  have hk:ps[i]<es.size:=oY.mp (pp.mem_iff.mp (wM hp));refine aiy (k:=ps[i]) (e:=es[ps[i]]) st.1 st.2.1 st.2.2 rfl (ie hp) (lU hk) fun h' hit' same=>hQ _ h' s.toks ?_ ⟨hit',st.2.1.at fun o e=>(same.2 S ne).trans e,st.2.2.at fun o e=>(same.2 pl np).trans e⟩ fun b o hb e=>(same.2 b fun z=>hb (by simp[z])).trans e
  rw[fY,ie hp,jD,rA,lU hk];rfl
 done:=fun s Q E st hQ=>by
  have hl:ps.length=es.size:=by rw[pp.length_eq,kE]
  exact aj8 hh st.1 st.2.1 st.2.2 rfl (by omega) fun h' kk=>hQ h' s.toks fun b o hb e=>kk b o (fun z=>hb (by simp[z])) e
 self:=fun _ _ _ _ st hQ=>Ph st.1 hQ
end
section
variable{prog:bf}{w:aY}{A:bU}{E:Value→au→Prop}{s:au}{S:aa}{es:Array (Int×Value)}{ep:Nat}{t:tQ}
theorem agr(hs:lC (bt w) s.heap S es ep t)(h:Q (bt w&&(!t.plain&&decide (es.size>1))) s):aL (model prog w) A (setDrawn S) Q E s:=by
 obtain⟨os,hos,exs,hds,hf,tb⟩:=id hs
 unfold setDrawn;refine aD (Ao hos hds hf ?_);refine aD (HY (aV ?_));rw[Bool.not_not];exact h
theorem ahh(hh:A.handled=none)(hs:lC (bt w) s.heap S es ep t)(hb:es.size<pC)
  (h:∀(I:aa)(h1:aU)(d:xK)(fp:List aa)(out:List Value)(St:Nat→aU→Prop),Walks prog w A I fp [I] es.size (fun i v=>out[i]?=some v) St→St 0 h1→out.Perm (es.toList.map (·.2))→(∀b o,s.heap.get? b=some o→h1.get? b=some o)→s.heap.objs.size≤I→
   (∀b∈fp,b=S∨s.heap.objs.size≤b)→Q (.ref I) {s with heap:=h1,drawn:=d}):aL (model prog w) A (Cr (.ref S)) Q E s:=by
 obtain⟨os,hos,exs,hds,hf,tb⟩:=id hs
 have hT:s.TypeIs (.ref S) "set":=⟨os,hos,exs.1⟩
 have lt:S<s.heap.objs.size:=bT hos;have hz:t.place.size=es.size:=by
  have:=hf;simp only[SetTable.fits,gH,beq_iff_eq] at this;exact this.1
 refine adC hT ad6 (p6 ad6 hT afx ?_ (F.args_set_iter_1 _));unfold j5.«frozenset.__iter__» anV anQ;refine aD (aD (aV (aV ?_)));refine aD (aD (Fo hos hds hf (aV ?_)));refine aD (agr hs ?_);by_cases hd:(bt w&&(!t.plain&&decide (es.size>1)))=true
 ·rw[if_pos hd];refine aD (Yc _ _ _ _ (kE ..) fun ps d pp=>?_);have pl:ps.length=es.size:=by rw[pp.length_eq,kE]
  unfold newTuple;refine aD (lX ?_ (show(List.map (fun i:Nat=>jg i) ps).toArray.size≤bJ by rw[fB,aX,pl,iI];unfold pC at hb;omega));have g1:(s.heap.push {cls:=.type "tuple",data:=.seq (ps.map fun k:Nat=>jg k).toArray}).get? S=some os:=cB _ hos;refine aD (adD (s:={s with heap:=s.heap.push _,drawn:=d}) g1 hds hf ?_);refine aD ?_;unfold newFields;refine lX ?_;refine aV ⟨_,rfl,"set_iterator",_,⟨_,gF _ rfl,rfl⟩,qm.lookup,?_⟩;have wB:(s.heap.push {cls:=.type "tuple",data:=.seq (ps.map fun k:Nat=>jg k).toArray}).objs.size=s.heap.objs.size+1:=wQ ..;refine h _ _ d [_,S,s.heap.objs.size] _ _ (afy (ep:=ep) (t:=t) hh ?_ ?_ pp) ⟨⟨_,gF _ rfl,rfl,rfl⟩,⟨os,cB _ g1,exs,hds,hf,tb⟩,⟨_,0,cB _ (gF _ rfl),rfl⟩⟩ ?_ (fun b o e=>cB _ (cB _ e)) ?_ ?_
  ·rw[wB];exact dF (wK lt)
  ·rw[wB];exact dF (U8 _)
  ·have e2:(dz es.size).map (fun k=>(es.getD k (0,o8)).2)=es.toList.map (·.2):=by
    refine yK (by simp) fun j h1 h2=>?_
    have hj:j<es.size:=by simpa using h1
    simp[rA,lU hj]
   rw[←e2];exact pp.map _
  ·rw[wB];exact Bm _
  ·intro b hb';simp only[bL,jb,or_false] at hb';rcases hb' with rfl|rfl|rfl
   ·right;rw[wB];exact Bm _
   ·exact .inl rfl
   ·exact .inr (bD _)
 ·rw[if_neg hd];refine aD (aV ?_);refine aD (adD hos hds hf ?_);refine aD ?_;unfold newFields;refine lX ?_;refine aV ⟨_,rfl,"set_iterator",_,⟨_,gF _ rfl,rfl⟩,qm.lookup,?_⟩;have abw:∀b,b∈[s.heap.objs.size,S]→b=S∨s.heap.objs.size≤b:=fun b hb'=>by
   simp only[bL,jb,or_false] at hb';rcases hb' with rfl|rfl
   ·exact .inr (bD _)
   ·exact .inl rfl
  cases hbt:bt w with
  |true=>
   rw[hbt] at hd;have nd:(!t.plain&&decide (es.size>1))=false:=by simpa using hd
   exact h _ _ s.drawn [_,S] _ _ (agp (ep:=ep) hh (dF lt) hbt nd hz tb.Sx) ⟨⟨_,gF _ rfl,rfl,rfl⟩,⟨os,cB _ hos,exs,hds,hf,tb⟩⟩ (.refl _) (fun b o e=>cB _ e) (bD _) abw
  |false=>
   exact h _ _ s.drawn [_,S] _ _ (agq (ep:=ep) (t:=t) hh (dF lt) hbt) ⟨⟨_,gF _ rfl,rfl,rfl⟩,⟨os,cB _ hos,exs,hds,hf,tb⟩⟩ ((Nf _ es).map _) (fun b o e=>cB _ e) (bD _) abw
end
end L2
namespace L2
open PySem PySem.Spec PySem.W PyProof.Rows
section
variable{prog:bf}{w:aY}{A:bU}{E:Value→au→Prop}{s:au}{S:aa}{es:Array (Int×Value)}{ep:Nat}{t:tQ}
theorem ahi(hT:s.TypeIs (.ref S) "set")(h:Q false s):aL (model prog w) A (acA (.ref S)) Q E s:=by
 unfold acA;refine aD (wpAny_specialOf hT PySem.F.slot_set_len.lookup ?_);generalize hid:("set.__len__":String)=nm
 wp_delta
 rw[show splitId nm=some ("set","__len__") by subst hid;decide +kernel];subst hid;refine aD (adR (T:="set") (b:=true) hT (by rw[Vt];kernel_rfl) ?_);refine Ky (fun z=>absurd z (by decide)) fun _=>Ky (fun _=>?_) fun z=>absurd (by decide +kernel) z
 exact aD (Gr hT (aV h))
theorem ags{out:List Value}{acc:Array Value}(h:ItemsOf (fun i v=>out[i]?=some v) acc out.length):acc=out.toArray:=by
 refine Array.ext (by simpa using h.1) fun j h1 h2=>?_
 have this:out[j]?=some acc[j]:=h.2 j acc[j] (lU h1);have hj:j<out.length:=by simpa using h2
 rw[ie hj] at this;simpa using(fP this).symm
theorem afz{R:qx→au→Prop}(hh:A.handled=none)(hs:lC (bt w) s.heap S es ep t)(hb:es.size<pC){L:aa}(ne:L≠S){c0:Nat}(hL:s.heap.get? L=some {cls:=.type "list",data:=.seq #[] c0})(res:Value)
  (hR:∀(h':aU)(d:xK)(tk:Nat)(us:List Value)(c':Nat),us.Perm (es.toList.map (·.2))→(∀b o,b≠L→s.heap.get? b=some o→h'.get? b=some o)→h'.get? L=some {cls:=.type "list",dict:=none,data:=.seq us.toArray c',slots:=#[]}→
   R (.ok (.ret res)) {s with heap:=h',drawn:=d,toks:=tk}):
  aL (model prog w) A.in1 (J1 (.ref L) (.ref S) res) (fun fin s'=>match fin with|.done f=>R (.ok f) s'|.again c'=>c'.quiet=true∧jR (model prog w) A c' R s') (fun e s'=>R (.error e) s') s:=by
 obtain⟨os,hos,exs,hds,hf,tb⟩:=id hs
 have hT:s.TypeIs (.ref S) "set":=⟨os,hos,exs.1⟩
 have ltL:L<s.heap.objs.size:=bT hL;unfold J1;refine aD (Gr hT ?_);rw[show(T7 (.ref L) (.ref S)||Br "set"==Br "list"||Br "set"==Br "tuple")=false by
  rw[show T7 (.ref L) (.ref S)=false by simp[T7,ne]];decide]
 simp only[oX,if_false];refine aD (ahh (A:=A.in1) hh hs hb fun I h1 d fp out St W st pm kp geI okf=>?_);have lo:out.length=es.size:=by rw[pm.length_eq,aX,ju]
 have bG:L∉fp:=fun z=>(okf L z).elim ne fun z'=>absurd ltL (Mx.mpr z')
 have run:∀(h2:aU)(c1 tk:Nat),St 0 h2→(∀b o,b≠L→s.heap.get? b=some o→h2.get? b=some o)→h2.get? L=some {cls:=.type "list",data:=.seq #[] c1}→
   jR (model prog w) A (.builtin "list.extend.loop" ⟨[.ref L,.ref I,res],[]⟩) R {s with heap:=h2,drawn:=d,toks:=tk}:=fun h2 c1 tk st2 k2 g2=>by
  refine codeAny_extend_loopS W.toS (UJ hb) L bG res es.size 0 _ #[] c1 rfl (lJ _) st2 g2 (ItemsOf.nil _) fun s3 acc c3 mv g3 io=>?_
  rw[←lo] at io;have ea:=ags io;subst ea;rw[Moved.eq_with mv];refine hR s3.heap d s3.toks out c3 pm (fun b o nb e=>mv.heap b o (fun z=>?_) (k2 b o nb e)) g3;rcases bL.mp z with z|z
  ·exact nb z
  ·exact absurd (bT e) (by rw[jm.mp z];exact Mx.mpr geI)
 have gL:=kp L _ hL;have gS:Shared.TypeIs {s with heap:=h1,drawn:=d} (.ref S) "set":=⟨os,kp S _ hos,exs.1⟩
 refine aD (mj (ahi gS ?_));refine Ky (fun _=>?_) fun _=>aV ⟨tL acG _,run h1 c0 s.toks st (fun b o _ e=>kp b o e) gL⟩
 refine aD (wZ (aD (show aL _ _ (Ng L (·.push .none) >>= fun _=>Ng L (·.pop)) _ _ _ from ?_)));refine aD (Gb gL rfl ?_);have u2:=yF (kO (·.push o8)) gL rfl;refine Gb (hz:=by seq_fits) u2 rfl ?_;have u3:=yF (kO (·.pop)) u2 rfl;have far:∀b o,b≠L→h1.get? b=some o→((h1.update L (kO (·.push o8))).update L (kO (·.pop))).get? b=some o:=fun b o nb e=>
  (rB _ _ (jE nb)).trans ((rB _ _ (jE nb)).trans e)
 exact aV ⟨tL acG _,run _ _ s.toks (W.frame 0 _ _ st fun b hb' o e=>far b o (fun z=>bG (z▸hb')) e) (fun b o nb e=>far b o nb (kp b o e)) u3⟩
theorem ae5(hh:A.handled=none)(hs:lC (bt w) s.heap S es ep t)(hb:es.size<pC)
  (h:∀(h':aU)(d:xK)(tk:Nat)(us:List Value),us.Perm (es.toList.map (·.2))→s.heap.objs.size≤h'.objs.size→(∀b o,s.heap.get? b=some o→h'.get? b=some o)→R us {s with heap:=h',drawn:=d,toks:=tk}):
  aL (model prog w) A (collect (.ref S)) R E s:=by
 have ltS:S<s.heap.objs.size:=let ⟨_,e,_⟩:=hs;bT e
 unfold collect;refine aD (wpAny_runValue (uU entry_proto_collect' ?_));rw[uN acz _];show aL _ A.in1 (newList [] >>= fun l=>again (.builtin "list.__iadd__" ⟨[l,.ref S],[]⟩)) _ _ s;refine aD (lX (aV ⟨tL J6 _,uU entry_list_iadd' ?_⟩));rw[uN J6 _];have g0:(s.heap.push {cls:=.type "list",data:=.seq ([]:List Value).toArray}).get? s.heap.objs.size=some {cls:=.type "list",data:=.seq #[]}:=gF _ rfl;show aL _ A.in1 (J1 (.ref s.heap.objs.size) (.ref S) (.ref s.heap.objs.size)) _ _ _;have key:=afz (prog:=prog) (A:=A) (s:={s with heap:=s.heap.push {cls:=.type "list",data:=.seq ([]:List Value).toArray}})
  (R:=fun(q:qx)(s':au)=>∃(h':aU)(d:xK)(tk:Nat)(us:List Value)(c':Nat),q=.ok (.ret (.ref s.heap.objs.size))∧s'={s with heap:=h',drawn:=d,toks:=tk}∧us.Perm (es.toList.map (·.2))∧(∀b o,s.heap.get? b=some o→h'.get? b=some o)∧h'.get? s.heap.objs.size=some {cls:=.type "list",dict:=none,data:=.seq us.toArray c',slots:=#[]})
  hh (hs.at fun o e=>cB _ e) hb (yZ ltS) g0 (.ref s.heap.objs.size) (fun h' d tk us c' pm kk g=>⟨h',d,tk,us,c',rfl,rfl,pm,fun b o e=>kk b o (dF (bT e)) (cB _ e),g⟩)
 refine nW key (fun fin s' x=>?_) fun e s' x=>?_
 ·cases fin with
  |done f=>
   obtain⟨h',d,tk,us,c',e,rfl,pm,kk,g⟩:=x
   cases e;show aL _ A (load s.heap.objs.size >>= _) _ _ _;exact aD (GX g (aV (h h' d tk us pm (uZ (bT g)) kk)))
  |again c1=>
   refine⟨x.1,Gq x.2 fun q s2 y=>?_⟩
   obtain⟨h',d,tk,us,c',rfl,rfl,pm,kk,g⟩:=y
   show aL _ A (load s.heap.objs.size >>= _) _ _ _;exact aD (GX g (aV (h h' d tk us pm (uZ (bT g)) kk)))
 ·obtain⟨_,_,_,_,_,e',_⟩:=x
  cases e'
end
section
variable{prog:bf}{w:aY}{A:bU}{E:Value→au→Prop}{s:au}{S:aa}{es:Array (Int×Value)}{ep:Nat}{t:tQ}
theorem afA{Ok:List Value→Prop}{Q:Value→au→Prop}(hh:A.handled=none)(hs:lC (bt w) s.heap S es ep t)(few:es.size<64)
  (srt:∀us:List Value,us.Perm (es.toList.map (·.2))→∀(B:bU)(s1:au)(a:aa)(n:Nat)(P:Fin→au→Prop)(E':Value→au→Prop),s1.heap.get? a=some (seqObj "list" us.toArray n)→
   (∀out:Array Value,Ok out.toList→P (.done (.ret .none)) {s1 with heap:=sortedHeap s1.heap a us out})→aL (model prog w) B (j5.«list.sort» ⟨[.ref a],[]⟩) P E' s1)
  (h:∀(D:aa)(h':aU)(d:xK)(tk c:Nat)(out:Array Value),Ok out.toList→s.heap.objs.size≤D→(∀b o,s.heap.get? b=some o→h'.get? b=some o)→h'.get? D=some (seqObj "list" out c)→Q (.ref D) {s with heap:=h',drawn:=d,toks:=tk}):
  aL (model prog w) A (call (.builtin "sorted") [.ref S]) Q E s:=by
 refine TY kind_sorted plain_sorted entry_sorted (args_sorted1 _) ?_;unfold j5.«sorted»;refine aD (m:=WM "sorted" 1 1 _) (aV (aD (ae5 (A:=A.in1) hh hs (by unfold pC;omega) fun h1 d tk us pm ge kk=>?_)));have lu:us.length=es.size:=by rw[pm.length_eq,aX,ju]
 refine aD (Lb ?_ (by rw[iI];omega));have gL:(h1.push (seqObj "list" us.toArray 0)).get? h1.objs.size=some (seqObj "list" us.toArray 0):=gF _ rfl;refine aD (mj (p6 slot_list_sort ⟨_,gL,rfl⟩ entry_list_sort (srt us pm _ {s with heap:=h1.push (seqObj "list" us.toArray 0),drawn:=d,toks:=tk} _ 0 _ _ gL fun out ok=>⟨_,rfl,?_⟩) (args_list_sort _)))
 obtain⟨c,gD⟩:=sortedHeap_at (out:=out) gL
 refine aV ⟨_,rfl,h h1.objs.size _ d tk c out ok ge (fun b o e=>?_) gD⟩;have lb:b<h1.objs.size:=bT (kk b o e)
 show(sortedHeap (h1.push (seqObj "list" us.toArray 0)) h1.objs.size us out).get? b=some o
 rw[sortedHeap_old (dF lb) (by rw[wQ];exact wK lb)];exact cB _ (kk b o e)
end
theorem Inv.drew(d:xK)(I:Inv X pins σ H s):Inv X pins σ H {s with drawn:=d}:=
 I.call (g':=s.gens) (t':=s.toks) (d':=d) (ch:=[]) (Un.kept fun _ _ e=>e) (I.hok.kept fun _ _ e=>e) I.bare (fun _ z=>nomatch z)
section
variable{X:Cx}{T:Type}[DecidableEq T]{knd:wR X.prog X.w T}{l:Expr}{tl:TE}{p1 p2 pos1 pos2:Pos}
end
section
variable{prog:bf}{w:aY}
theorem ahj(h:jA (Gj prog w) es ks):(es.map (·.2)).map strOf=ks∧∀v,v∈es.map (·.2)→∃x t,v=.str x t:=by
 induction h with
 |nil=>exact⟨rfl,fun v hv=>by cases hv⟩
 |@cons e k es ks a _ ih=>
  obtain⟨t,ht⟩:=ac9 (show VF k e.2=true from a.1)
  refine⟨by rw[cj,cj,ih.1,ht];rfl,fun v hv=>?_⟩
  rcases bL.mp hv with rfl|hv
  ·exact⟨k,t,ht⟩
  ·exact ih.2 v hv
end
section
variable{X:Cx}{l:Expr}{tl:TE}{p1 p2 pos1 pos2:Pos}
end
section
variable{prog:bf}{w:aY}{A:bU}{E:Value→au→Prop}{s:au}{R:qx→au→Prop}{I S:aa}{fp wr:List aa}{n:Nat}{Pv:Nat→Value→Prop}{St:Nat→aU→Prop}{bt:Nat→Nat→Bool}
def alb(v:Value)(c:Nat):Obj:={cls:=.type "list",dict:=none,data:=.seq #[v,v] c,slots:=#[]}
end
section
variable{prog:bf}{w:aY}{A:bU}{E:Value→au→Prop}{s:au}
theorem aeF{id:String}{b:j5}{as:List Value}{kw:List (Str×Value)}{Q:Value→au→Prop}(hk:builtinKind id=none)(hp:plainId id=true)(hb:N6 table id=some b)(ha:Cz id ⟨as,kw⟩)
  (hc:aL (model prog w) A.in1 (b ⟨as,kw⟩) (fun fin s'=>match fin with
   |.done f=>(match(Except.ok f:qx) with|.ok (.ret v)=>Q v s'|.ok _=>False|.error e=>E e s')
   |.again c'=>c'.quiet=true∧jR (model prog w) A c' (fun r s'=>match r with|.ok (.ret v)=>Q v s'|.ok _=>False|.error e=>E e s') s') E s):aL (model prog w) A (call (.builtin id) as kw) Q E s:=by
 refine wpAny_call (codeAny_call_builtin hp hb ?_);simp only[checkBuiltinCall,hk];cases hg:Manifest.signature? id with
 |none=>exact aV hc
 |some sg=>
  simp only[Cz,hg] at ha;show aL _ A.in1 (aec id sg ⟨as,kw⟩) _ _ s;rw[show aec id sg ⟨as,kw⟩=pure () from ha];exact aV hc
end
section
variable{X:Cx}{l de:Expr}{tl td:TE}{p pos kp:Pos}
end
end L2
namespace L2
open PySem PySem.Spec PyProof.Rows PySem.W
def cJ:aj→Option Key
 |.int i=>some (.inl i)
 |.str x=>some (.inr x)
 |_=>none
def keysOf:List aj→Option (List Key)
 |[]=>some []
 |d::r=>match cJ d,keysOf r with
  |some k,some t=>some (k::t)
  |_,_=>none
def rY:aj→Option (List Key)
 |.tuple ds=>keysOf ds
 |_=>none
def cD{κ:Type}(f:aj→Option κ):List (aj×aj)→Option (List κ)
 |[]=>some []
 |p::r=>match f p.1,cD f r with
  |some k,some t=>some (k::t)
  |_,_=>none
def wC(H:Hp)(a:aa)(kvs:List (aj×aj))(vs:List V):Prop:=
 (∃ks,cD cJ kvs=some ks∧H a=some (.dK (ks.zip vs)))∨∃ks,(kvs≠[]∧cD rY kvs=some ks)∧H a=some (.dT (ks.zip vs))
mutual
def RZ(H:Hp):aj→V→Prop
 |.none,v=>v=.non
 |.bool b,v=>v=.bl b
 |.int i,v=>v=.int i
 |.str x,v=>v=.str x
 |.list ds,v=>∃a vs,v=.ref a∧H a=some (.lst vs)∧bV H ds vs
 |.tuple ds,v=>∃a vs,v=.ref a∧H a=some (.tup vs)∧bV H ds vs
 |.dict kvs,v=>∃a vs,v=.ref a∧wC H a kvs vs∧gw H kvs vs
def bV(H:Hp):List aj→List V→Prop
 |[],vs=>vs=[]
 |d::ds,vs=>∃v r,vs=v::r∧RZ H d v∧bV H ds r
def gw(H:Hp):List (aj×aj)→List V→Prop
 |[],vs=>vs=[]
 |p::r,vs=>∃v t,vs=v::t∧RZp H p v∧gw H r t
def RZp(H:Hp):aj×aj→V→Prop
 |(_,d),v=>RZ H d v
end
theorem wC.same(s:bh H H')(h:wC H a kvs vs):wC H' a kvs vs:=by
 rcases h with⟨ks,e,h⟩|⟨ks,e,h⟩
 ·exact .inl ⟨ks,e,s _ _ h⟩
 ·exact .inr ⟨ks,e,s _ _ h⟩
mutual
theorem RZ.same(s:bh H H'):∀{d:aj}{v:V},RZ H d v→RZ H' d v
 |.none,_,h=>h
 |.bool _,_,h=>h
 |.int _,_,h=>h
 |.str _,_,h=>h
 |.list ds,_,h=>by
  obtain⟨a,vs,e,q,r⟩:=h
  exact⟨a,vs,e,s _ _ q,bV.same s r⟩
 |.tuple ds,_,h=>by
  obtain⟨a,vs,e,q,r⟩:=h
  exact⟨a,vs,e,s _ _ q,bV.same s r⟩
 |.dict kvs,_,h=>by
  obtain⟨a,vs,e,q,r⟩:=h
  exact⟨a,vs,e,q.same s,gw.same s r⟩
theorem bV.same(s:bh H H'):∀{ds:List aj}{vs:List V},bV H ds vs→bV H' ds vs
 |[],_,h=>h
 |d::ds,vs,h=>by
  obtain⟨v,r,e,q,t⟩:=h
  exact⟨v,r,e,RZ.same s q,bV.same s t⟩
theorem gw.same(s:bh H H'):∀{kvs:List (aj×aj)}{vs:List V},gw H kvs vs→gw H' kvs vs
 |[],_,h=>h
 |(k,d)::ds,vs,h=>by
  obtain⟨v,r,e,q,t⟩:=h
  exact⟨v,r,e,RZ.same s q,gw.same s t⟩
end
theorem gm:∀{ds:List aj}{vs:List V},bV H ds vs→vs.length=ds.length
 |[],_,h=>by cases(show _=[] from h);rfl
 |e::ds,vs,h=>by
  obtain⟨u,r,e1,q,s⟩:=h
  subst e1;rw[cN,cN,gm s]
theorem BX:∀{ds:List (aj×aj)}{vs:List V},gw H ds vs→vs.length=ds.length
 |[],_,h=>by cases(show _=[] from h);rfl
 |e::ds,vs,h=>by
  obtain⟨u,r,e1,q,s⟩:=h
  subst e1;rw[cN,cN,BX s]
theorem tZ:∀{ds:List aj}{vs:List V}{i:Nat}{d:aj},bV H ds vs→ds[i]?=some d→∃v,vs[i]?=some v∧RZ H d v
 |[],_,_,_,_,e=>by simp at e
 |x::ds,vs,i,d,h,e=>by
  obtain⟨u,r,e1,q,s⟩:=h
  subst e1;cases i with
  |zero=>cases e;exact⟨u,rfl,q⟩
  |succ i=>
   obtain⟨v,e2,h2⟩:=tZ (i:=i) s (by simpa using e)
   exact⟨v,by simpa using e2,h2⟩
theorem vB:∀{ds es:List aj}{vs ws:List V},bV H ds vs→bV H es ws→bV H (ds++es) (vs++ws)
 |[],_,_,_,h,g=>by cases(show _=[] from h);exact g
 |d::ds,_,_,_,h,g=>by
  obtain⟨u,r,e1,q,s⟩:=h
  subst e1
  exact⟨u,_,rfl,q,vB s g⟩
theorem Yd:∀{ds:List aj}{vs:List V}(n:Nat),bV H ds vs→bV H (ds.take n) (vs.take n)
 |_,_,0,_=>by rw[aed,aed];rfl
 |[],_,n+1,h=>by cases(show _=[] from h);rfl
 |d::ds,_,n+1,h=>by
  obtain⟨u,r,e1,q,s⟩:=h
  subst e1
  exact⟨u,_,rfl,q,Yd n s⟩
theorem Ye:∀{ds:List aj}{vs:List V}(n:Nat),bV H ds vs→bV H (ds.drop n) (vs.drop n)
 |_,_,0,h=>h
 |[],_,n+1,h=>by cases(show _=[] from h);rfl
 |d::ds,_,n+1,h=>by
  obtain⟨u,r,e1,q,s⟩:=h
  subst e1;exact Ye n s
theorem Zt(hv:RZ H d v):∀{ds:List aj}{vs:List V}(i:Nat),bV H ds vs→bV H (ds.set i d) (vs.set i v)
 |[],_,_,h=>by cases(show _=[] from h);rfl
 |x::ds,_,i,h=>by
  obtain⟨u,r,e1,q,s⟩:=h
  subst e1;cases i with
  |zero=>exact⟨v,r,rfl,hv,s⟩
  |succ i=>exact⟨u,_,rfl,q,Zt hv i s⟩
def jx:aj→Bool
 |.none=>true
 |.bool _=>true
 |.int _=>true
 |.str _=>true
 |_=>false
def toV:aj→V
 |.none=>.non
 |.bool b=>.bl b
 |.int i=>.int i
 |.str x=>.str x
 |_=>.non
theorem aiz(f:jx d=true)(h:RZ H d v):v=toV d:=by
 cases d<;>first|exact h|cases f
theorem aiA(f:jx d=true):RZ H d (toV d):=by
 cases d<;>first|rfl|cases f
theorem N7:∀{ds:List aj}{vs:List V},ds.all jx=true→bV H ds vs→vs=ds.map toV
 |[],_,_,h=>h
 |d::ds,vs,f,h=>by
  obtain⟨u,r,e1,q,s⟩:=h
  rw[K9,gH] at f;rw[e1,aiz f.1 q,N7 f.2 s];rfl
theorem Yg(ns:List Str):bV H (ns.map c7) (ns.map V.str):=by
 induction ns with
 |nil=>rfl
 |cons n r ih=>exact⟨_,_,rfl,rfl,ih⟩
mutual
def jr:aj→Bool
 |.list _=>false
 |.tuple ds=>fL ds
 |.dict _=>false
 |_=>true
def fL:List aj→Bool
 |[]=>true
 |d::r=>jr d&&fL r
end
mutual
theorem RZ.jr(t:∀a vs,H a=some (.tup vs)→H' a=some (.tup vs)):∀{d:aj}{v:V},jr d=true→RZ H d v→RZ H' d v
 |.none,_,_,h=>h
 |.bool _,_,_,h=>h
 |.int _,_,_,h=>h
 |.str _,_,_,h=>h
 |.list ds,_,n,h=>nomatch n
 |.tuple ds,_,n,h=>by
  obtain⟨a,vs,e,q,r⟩:=h
  exact⟨a,vs,e,t _ _ q,bV.jr t n r⟩
 |.dict _,_,n,_=>nomatch n
theorem bV.jr(t:∀a vs,H a=some (.tup vs)→H' a=some (.tup vs)):∀{ds:List aj}{vs:List V},fL ds=true→bV H ds vs→bV H' ds vs
 |[],_,_,h=>h
 |d::ds,vs,n,h=>by
  obtain⟨v,r,e,q,w⟩:=h
  have n':L2.jr d=true∧fL ds=true:=by rw[fL,gH] at n;exact n
  exact⟨v,r,e,RZ.jr t n'.1 q,bV.jr t n'.2 w⟩
end
mutual
def m5:aj→Bool
 |.list ds=>jk ds
 |.tuple ds=>jk ds
 |.dict _=>false
 |_=>true
def jk:List aj→Bool
 |[]=>true
 |d::r=>m5 d&&jk r
end
mutual
theorem RZ.rx:∀{d:aj}{v:V},m5 d=true→RZ H d v→RX H d v
 |.none,_,_,h=>h
 |.bool _,_,_,h=>h
 |.int _,_,_,h=>h
 |.str _,_,_,h=>h
 |.list ds,_,n,h=>by
  obtain⟨a,vs,e,q,r⟩:=h
  exact⟨a,vs,e,q,bV.rx n r⟩
 |.tuple ds,_,n,h=>by
  obtain⟨a,vs,e,q,r⟩:=h
  exact⟨a,vs,e,q,bV.rx n r⟩
 |.dict _,_,n,_=>nomatch n
theorem bV.rx:∀{ds:List aj}{vs:List V},jk ds=true→bV H ds vs→lG H ds vs
 |[],_,_,h=>h
 |d::ds,vs,n,h=>by
  obtain⟨v,r,e,q,t⟩:=h
  have n':m5 d=true∧jk ds=true:=by rw[jk,gH] at n;exact n
  exact⟨v,r,e,RZ.rx n'.1 q,bV.rx n'.2 t⟩
end
inductive Vl where
 |im (d:aj)
 |ow (d:aj)
 |ce (n:Nat)
 |sc (ns:List Int)
abbrev En:=List (Option Vl)
abbrev Ce:=List (List Int)
def own1:Option Vl→Option V→List aa
 |some (.ow _),some (.ref a)=>[a]
 |_,_=>[]
def bz:En→St→List aa
 |x::e,v::s=>own1 x v++bz e s
 |_,_=>[]
theorem kW:∀{env:En}{σ:St},a∈bz env σ↔∃(i:Nat)(d:aj),env[i]?=some (some (Vl.ow d))∧σ[i]?=some (some (V.ref a))
 |[],σ=>by
  constructor
  ·intro h;simp[bz] at h
  ·rintro⟨i,d,e,_⟩;simp at e
 |x::e,[]=>by
  constructor
  ·intro h;simp[bz] at h
  ·rintro⟨i,d,_,e⟩;simp at e
 |x::e,v::s=>by
  rw[bz,cI,kW (env:=e) (σ:=s)];constructor
  ·rintro(h|⟨i,d,h1,h2⟩)
   ·unfold own1 at h;split at h
    ·rw[jm] at h;subst h
     exact⟨0,_,rfl,rfl⟩
    ·simp at h
   ·exact⟨i+1,d,by simpa using h1,by simpa using h2⟩
  ·rintro⟨i,d,h1,h2⟩
   cases i with
   |zero=>
    simp at h1 h2;subst h1 h2;exact .inl (jm.mpr rfl)
   |succ i=>exact .inr ⟨i,d,by simpa using h1,by simpa using h2⟩
theorem BZ:∀{env:En}{σ:St}{i j:Nat}{d e:aj},(bz env σ).Nodup→env[i]?=some (some (Vl.ow d))→σ[i]?=some (some (V.ref a))→env[j]?=some (some (Vl.ow e))→σ[j]?=some (some (V.ref a))→i=j
 |[],_,i,_,_,_,_,h,_,_,_=>by simp at h
 |_::_,[],i,_,_,_,_,_,h,_,_=>by simp at h
 |x::en,v::s,i,j,d,e,nd,h1,h2,h3,h4=>by
  rw[bz,j4] at nd;cases i with
  |zero=>
   cases j with
   |zero=>rfl
   |succ j=>
    simp at h1 h2;subst h1 h2;have:a∈bz en s:=kW.mpr ⟨j,e,by simpa using h3,by simpa using h4⟩;exact absurd rfl (nd.2.2 a (jm.mpr rfl) a this)
  |succ i=>
   cases j with
   |zero=>
    simp at h3 h4;subst h3 h4;have:a∈bz en s:=kW.mpr ⟨i,d,by simpa using h1,by simpa using h2⟩;exact absurd rfl (nd.2.2 a (jm.mpr rfl) a this)
   |succ j=>rw[BZ (i:=i) (j:=j) nd.2.1 (by simpa using h1) (by simpa using h2) (by simpa using h3) (by simpa using h4)]
def Sy(x y:Option Vl):Prop:=y=x∨∃d,x=some (.ow d)∧y=some (.im d)
def Fz:En→En→Prop
 |[],[]=>True
 |x::r,y::t=>Sy x y∧Fz r t
 |_,_=>False
theorem Fz.refl:∀e:En,Fz e e
 |[]=>trivial
 |x::r=>⟨.inl rfl,Fz.refl r⟩
theorem Fz.trans:∀{a b c:En},Fz a b→Fz b c→Fz a c
 |[],[],[],_,_=>trivial
 |x::r,y::t,z::w,h,g=>by
  refine⟨?_,Fz.trans h.2 g.2⟩
  rcases h.1 with e|⟨d,e1,e2⟩
  ·rw[←e];exact g.1
  ·rcases g.1 with e|⟨d',e3,e4⟩
   ·exact .inr ⟨d,e1,e.trans e2⟩
   ·rw[e2] at e3;cases e3
 |[],[],_::_,_,g=>nomatch g
 |[],_::_,_,h,_=>nomatch h
 |_::_,[],_,h,_=>nomatch h
 |_::_,_::_,[],_,g=>nomatch g
theorem Fz.len:∀{a b:En},Fz a b→b.length=a.length
 |[],[],_=>rfl
 |_::_,_::_,h=>by rw[cN,cN,Fz.len h.2]
 |[],_::_,h=>nomatch h
 |_::_,[],h=>nomatch h
theorem Fz.at:∀{a b:En}{i:Nat}{y:Vl},Fz a b→b[i]?=some (some y)→a[i]?=some (some y)∨∃d,a[i]?=some (some (.ow d))∧y=.im d
 |[],[],i,y,_,e=>by simp at e
 |x::r,z::t,0,y,h,e=>by
  simp at e;rcases h.1 with q|⟨d,q1,q2⟩
  ·left;rw[←q,e];rfl
  ·right;rw[e] at q2;cases q2;exact⟨d,by rw[q1];rfl,rfl⟩
 |x::r,z::t,i+1,y,h,e=>by
  simpa using Fz.at (i:=i) h.2 (by simpa using e)
 |[],_::_,_,_,h,_=>nomatch h
 |_::_,[],_,_,h,_=>nomatch h
theorem aiB(h:Sy x y)(v:Option V):Wa (own1 y v) (own1 x v):=by
 rcases h with e|⟨d,e1,e2⟩
 ·rw[e];exact yI _
 ·rw[e2];exact List.nil_sublist _
theorem Fz.own:∀{a b:En}{σ:St},Fz a b→Wa (bz b σ) (bz a σ)
 |[],[],σ,_=>by cases σ<;>exact yI _
 |x::r,y::t,[],h=>yI _
 |x::r,y::t,v::s,h=>by
  rw[bz,bz];exact Fp (aiB h.1 v) (Fz.own h.2)
 |[],_::_,_,h=>nomatch h
 |_::_,[],_,h=>nomatch h
abbrev aQ(Z Θ:List aa)(env:En)(σ:St):List aa:=Z++(Θ++bz env σ)
def jH(E H:Hp)(a:aa):aj→Prop
 |.list ds=>∃vs,H a=some (.lst vs)∧bV E ds vs
 |.dict kvs=>∃vs,wC H a kvs vs∧gw E kvs vs
 |_=>False
theorem jH.same(s:bh E E')(h:∀o,H a=some o→H' a=some o)(r:jH E H a d):jH E' H' a d:=by
 cases d<;>first|exact r.elim|skip
 ·obtain⟨vs,e,q⟩:=r
  exact⟨vs,h _ e,q.same s⟩
 ·obtain⟨vs,e,q⟩:=r
  refine⟨vs,?_,q.same s⟩
  rcases e with⟨ks,k,e⟩|⟨ks,k,e⟩
  ·exact .inl ⟨ks,k,h _ e⟩
  ·exact .inr ⟨ks,k,h _ e⟩
theorem jH.rz(h:∀o,H a=some o→E a=some o)(r:jH E H a d):RZ E d (.ref a):=by
 cases d<;>first|exact r.elim|skip
 ·obtain⟨vs,e,q⟩:=r
  exact⟨a,vs,rfl,h _ e,q⟩
 ·obtain⟨vs,e,q⟩:=r
  refine⟨a,vs,rfl,?_,q⟩
  rcases e with⟨ks,k,e⟩|⟨ks,k,e⟩
  ·exact .inl ⟨ks,k,h _ e⟩
  ·exact .inr ⟨ks,k,h _ e⟩
structure aO(Θ:List aa)(H H':Hp):Prop where
 keep:∀a o,H a=some o→a∉Θ→H' a=some o
 dom:∀a,H a≠none→H' a≠none
theorem aO.refl(Θ:List aa)(H:Hp):aO Θ H H:=⟨fun _ _ e _=>e,fun _ e=>e⟩
theorem aO.trans(a:aO Θ H H1)(b:aO Θ H1 H2):aO Θ H H2:=⟨fun c o e n=>b.keep _ _ (a.keep _ _ e n) n,fun c e=>b.dom _ (a.dom _ e)⟩
theorem aO.none(k:aO Θ H H')(h:H' a=none):H a=none:=by
 cases e:H a with
 |none=>rfl
 |some o=>exact absurd h (k.dom a (by rw[e];exact uQ _))
theorem aO.of(s:bh H H'):aO Θ H H':=⟨fun a o e _=>s _ _ e,fun a h=>by
 cases e:H a with
 |none=>exact absurd e h
 |some o=>rw[s _ _ e];exact uQ _⟩
theorem aO.upd(h:H p=mC):aO Θ H (L2.upd H p o):=aO.of (bh.upd h)
theorem jU(k:aO Θ H H')(ht:∀a∈Θ,a∈Z)(hz:∀a,a∈Z'→a∈Z∨H a=none):bh (er Z H) (er Z' H'):=fun b o h=>by
 unfold er at h⊢;split at h
 ·cases h
 ·rename_i n;rw[if_neg,k.keep _ _ h (fun m=>n (ht b m))];intro m;rcases hz b m with q|q
  ·exact n q
  ·rw[q] at h;cases h
def Aa(K:aC)(E H:Hp)(Θ:List aa):Vl→V→Prop
 |.im d,v=>RZ E d v
 |.ow d,v=>∃a,v=.ref a∧jH E H a d
 |.ce n,v=>∃a,v=.ref a∧Θ[n]?=some a
 |.sc ns,v=>∃a,v=.ref a∧bC K E a (ns.map V.int)
def NT(o:Option HO):Prop:=∃u,o=some u∧∀vs,u≠.tup vs
theorem NT.ne(h:NT o):o≠none:=by
 obtain⟨u,rfl,_⟩:=h
 exact uQ _
theorem jH.nt(r:jH E H a d):NT (H a):=by
 cases d<;>first|exact r.elim|skip
 ·obtain⟨vs,e,q⟩:=r
  exact⟨_,e,fun _ z=>nomatch z⟩
 ·obtain⟨vs,e,q⟩:=r
  rcases e with⟨ks,k,e⟩|⟨ks,k,e⟩
  ·exact⟨_,e,fun _ z=>nomatch z⟩
  ·exact⟨_,e,fun _ z=>nomatch z⟩
theorem jH.there(r:jH E H a d):H a≠none:=r.nt.ne
structure nj(Θ:List aa)(C:Ce)(H:Hp):Prop where
 len:C.length=Θ.length
 at_:∀(n:Nat)(a:aa)(ns:List Int),Θ[n]?=some a→C[n]?=some ns→H a=some (.lst (ns.map V.int))
structure Sm(K:aC)(Z Θ:List aa)(env:En)(C:Ce)(σ:St)(H:Hp):Prop where
 len:σ.length=env.length
 nd:(aQ Z Θ env σ).Nodup
 dom:∀a∈Z,NT (H a)
 slot:∀(i:Nat)(x:Vl),env[i]?=some (some x)→∃v,σ[i]?=some (some v)∧Aa K (er (aQ Z Θ env σ) H) H Θ x v
 cell:nj Θ C H
theorem nj.dom(c:nj Θ C H):∀a∈Θ,NT (H a):=fun a m=>by
 obtain⟨n,hn,e⟩:=sY m
 have e1:Θ[n]?=some a:=by rw[ie hn,e]
 have h2:n<C.length:=by rw[c.len];exact hn
 exact⟨_,c.at_ n a C[n] e1 (ie h2),fun _ z=>nomatch z⟩
section
variable{K:aC}{Z Θ:List aa}{env env':En}{C C':Ce}{σ:St}{H H':Hp}
theorem Sm.JM(S:Sm K Z Θ env C σ H):∀a∈aQ Z Θ env σ,NT (H a):=fun a m=>by
 rcases cI.mp m with m|m
 ·exact S.dom a m
 ·rcases cI.mp m with m|m
  ·exact S.cell.dom a m
  ·obtain⟨i,d,e1,e2⟩:=kW.mp m
   obtain⟨v,e3,b,e4,r⟩:=S.slot i _ e1
   rw[e2] at e3;cases e3;cases e4;exact r.nt
theorem Sm.yf(S:Sm K Z Θ env C σ H):∀a∈aQ Z Θ env σ,H a≠none:=fun a m=>(S.JM a m).ne
theorem Sm.pW(S:Sm K Z Θ env C σ H):∀a∈Θ,a∈aQ Z Θ env σ:=fun a m=>dN _ (gh _ m)
theorem Aa.same(s:bh E E')(h:∀d a,x=.ow d→v=.ref a→∀o,H a=some o→H' a=some o)(r:Aa K E H Θ x v):Aa K E' H' Θ x v:=by
 cases x with
 |im d=>exact RZ.same s r
 |ow d=>obtain⟨a,e,q⟩:=r;exact⟨a,e,q.same s (h d a rfl e)⟩
 |ce n=>exact r
 |sc ns=>obtain⟨a,e,q⟩:=r;exact⟨a,e,s.seq q⟩
theorem Sm.mG(S:Sm K Z Θ env C σ H)(m:a∈bz env σ):a∉Z∧a∉Θ:=by
 have h:=S.nd;rw[j4] at h
 obtain⟨_,h2,h3⟩:=h
 rw[j4] at h2
 refine⟨fun z=>h3 a z a (dN _ m) rfl,fun z=>h2.2.2 a z a m rfl⟩
theorem Sm.go(S:Sm K Z Θ env C σ H)(k:aO Θ H H')(c:nj Θ C' H'):Sm K Z Θ env C' σ H' where
 len:=S.len
 nd:=S.nd
 dom:=fun a m=>by
  obtain⟨u,e,n⟩:=S.dom a m
  have h:=S.nd;rw[j4] at h
  exact⟨u,k.keep _ _ e fun z=>h.2.2 a m a (gh _ z) rfl,n⟩
 slot:=fun i x e=>by
  obtain⟨v,e1,r⟩:=S.slot i x e
  refine⟨v,e1,r.same (jU k S.pW fun a m=>.inl m) fun d a ex ev o ho=>k.keep _ _ ho ?_⟩
  subst ex ev
  exact(S.mG (kW.mpr ⟨i,d,e,e1⟩)).2
 cell:=c
theorem Sm.fz(S:Sm K Z Θ env C σ H)(f:Fz env env'):Sm K Z Θ env' C σ H:=by
 have sub:Wa (aQ Z Θ env' σ) (aQ Z Θ env σ):=Fp (yI _) (Fp (yI _) f.own);have sm:bh (er (aQ Z Θ env σ) H) (er (aQ Z Θ env' σ) H):=jU (aO.refl [] H) (fun _ m=>nomatch m) fun a m=>.inl (sub.subset m)
 refine⟨by rw[f.len];exact S.len,sub.nodup S.nd,S.dom,fun i x e0=>?_,S.cell⟩
 rcases f.at e0 with e|⟨d,e,ex⟩
 ·obtain⟨v,e1,r⟩:=S.slot i x e
  exact⟨v,e1,r.same sm fun _ _ _ _ _ ho=>ho⟩
 ·subst ex
  obtain⟨v,e1,a,ev,r⟩:=S.slot i _ e
  subst ev
  refine⟨_,e1,jH.rz (H:=H) (fun o ho=>?_) (r.same sm fun _ ho=>ho)⟩
  unfold er;rw[if_neg]
  ·exact ho
  ·intro m;have hm:a∈bz env σ:=kW.mpr ⟨i,d,e,e1⟩;rcases cI.mp m with m|m
   ·exact(S.mG hm).1 m
   ·rcases cI.mp m with m|m
    ·exact(S.mG hm).2 m
    ·obtain⟨j,d',e3,e4⟩:=kW.mp m
     have nd:=S.nd;rw[j4] at nd;have nd2:=nd.2.1;rw[j4] at nd2;rcases f.at e3 with e5|⟨_,_,e5⟩
     ·have:=BZ nd2.2.1 e e1 e5 e4;subst this;rw[e0] at e3;cases e3
     ·cases e5
end
section
variable{K:aC}{Z Θ:List aa}{env env':En}{C C':Ce}{σ:St}{H H':Hp}{a p:aa}
theorem Sm.pop(S:Sm K (a::Z) Θ env C σ H):Sm K Z Θ env C σ H:=by
 have sm:bh (er (aQ (a::Z) Θ env σ) H) (er (aQ Z Θ env σ) H):=jU (aO.refl [] H) (fun _ m=>nomatch m) fun b m=>.inl (eZ _ m)
 exact⟨S.len,(jC.mp S.nd).2,fun b m=>S.dom b (eZ _ m),fun i x e=>let ⟨v,e1,r⟩:=S.slot i x e;⟨v,e1,r.same sm fun _ _ _ _ _ h=>h⟩,S.cell⟩
theorem Sm.push(S:Sm K Z Θ env C σ H)(hp:H p=none)(o:HO)(ho:∀vs,o≠.tup vs):Sm K (p::Z) Θ env C σ (upd H p o):=by
 have k:aO Θ H (upd H p o):=aO.upd hp;have sm:bh (er (aQ Z Θ env σ) H) (er (aQ (p::Z) Θ env σ) (upd H p o)):=jU k S.pW fun b m=>by
  rcases bL.mp m with rfl|m
  ·exact .inr hp
  ·exact .inl m
 have c:nj Θ C (upd H p o):=⟨S.cell.len,fun n b ns e1 e2=>by
  have:=S.cell.at_ n b ns e1 e2;rw[cG (pA this hp)];exact this⟩
 refine⟨S.len,jC.mpr ⟨fun m=>S.yf p m hp,S.nd⟩,fun b m=>?_,fun i x e=>?_,c⟩
 ·rcases bL.mp m with rfl|m
  ·exact⟨o,dI,ho⟩
  ·obtain⟨u,e,n⟩:=S.dom b m
   exact⟨u,by rw[cG (pA e hp)];exact e,n⟩
 ·obtain⟨v,e1,r⟩:=S.slot i x e
  refine⟨v,e1,r.same sm fun d b ex ev o' ho=>?_⟩
  rw[cG (pA ho hp)];exact ho
theorem Sm.xQ(S:Sm K Z Θ env C σ H)(s:bh H H'):Sm K Z Θ env C σ H':=
 S.go (aO.of s) ⟨S.cell.len,fun n b ns e1 e2=>s _ _ (S.cell.at_ n b ns e1 e2)⟩
def Res(K:aC)(Z Θ:List aa)(env:En)(C:Ce)(σ:St)(H H':Hp):Vl→V→Prop
 |.im d,v=>Sm K Z Θ env C σ H'∧RZ (er (aQ Z Θ env σ) H') d v
 |.ow d,v=>∃a,v=.ref a∧H a=none∧Sm K (a::Z) Θ env C σ H'∧jH (er (aQ (a::Z) Θ env σ) H') H' a d
 |.ce n,v=>Sm K Z Θ env C σ H'∧∃a,v=.ref a∧Θ[n]?=some a
 |.sc ns,v=>Sm K Z Θ env C σ H'∧∃a,v=.ref a∧bC K (er (aQ Z Θ env σ) H') a (ns.map V.int)
def yx(E T:Hp):aj→V→Prop
 |.list ds,v=>∃a vs,v=.ref a∧T a=some (.lst vs)∧bV E ds vs
 |.dict kvs,v=>∃a vs,v=.ref a∧wC T a kvs vs∧gw E kvs vs
 |d,v=>RZ E d v
theorem yx.same(s:bh E E')(t:bh T T')(h:yx E T d v):yx E' T' d v:=by
 cases d<;>first|exact RZ.same s h|skip
 ·obtain⟨a,vs,e,q,r⟩:=h
  exact⟨a,vs,e,t _ _ q,r.same s⟩
 ·obtain⟨a,vs,e,q,r⟩:=h
  exact⟨a,vs,e,q.same t,r.same s⟩
theorem RZ.bor(t:bh E T)(h:RZ E d v):yx E T d v:=by
 cases d<;>first|exact h|skip
 ·obtain⟨a,vs,e,q,r⟩:=h
  exact⟨a,vs,e,t _ _ q,r⟩
 ·obtain⟨a,vs,e,q,r⟩:=h
  exact⟨a,vs,e,q.same t,r⟩
abbrev dZ(Z Θ:List aa)(env:En)(σ:St)(H:Hp)(d:aj)(v:V):Prop:=yx (er (aQ Z Θ env σ) H) (er Θ H) d v
theorem rP(h:∀a,a∈Z'→a∈Z):bh (er Z H) (er Z' H):=jU (aO.refl [] H) (fun _ m=>nomatch m) fun b m=>.inl (h b m)
theorem aaW:bh (er (aQ Z Θ env σ) H) (er Θ H):=rP fun a m=>dN _ (gh _ m)
theorem Fz.sub(f:Fz env env'):∀a,a∈aQ Z Θ env' σ→a∈aQ Z Θ env σ:=fun a m=>
 (Fp (yI _) (Fp (yI _) f.own)).subset m
theorem Rf(S:Sm K Z Θ env C σ H)(k:aO Θ H H')(f:Fz env env'):bh (er (aQ Z Θ env σ) H) (er (aQ Z Θ env' σ) H'):=jU k S.pW fun a m=>.inl (f.sub a m)
theorem aam(k:aO Θ H H'):bh (er Θ H) (er Θ H'):=jU k (fun _ m=>m) fun a m=>.inl m
theorem dZ.go(h:dZ Z Θ env σ H d v)(S:Sm K Z Θ env C σ H)(k:aO Θ H H')(f:Fz env env'):dZ Z Θ env' σ H' d v:=yx.same (Rf S k f) (aam k) h
def dat:Vl→Option aj
 |.im d=>some d
 |.ow d=>some d
 |.ce _=>none
 |.sc _=>none
theorem Res.sm(h:Res K Z Θ env C σ H H' r v):Sm K Z Θ env C σ H':=by
 cases r with
 |im d=>exact h.1
 |ow d=>obtain⟨a,_,_,S,_⟩:=h;exact S.pop
 |ce n=>exact h.1
 |sc ns=>exact h.1
theorem Res.bor(h:Res K Z Θ env C σ H H' r v)(e:dat r=some d):dZ Z Θ env σ H' d v:=by
 cases r with
 |im d'=>cases e;exact RZ.bor aaW h.2
 |ow d'=>
  cases e
  obtain⟨a,rfl,_,S,r⟩:=h
  have na:a∉Θ:=fun m=>(jC.mp S.nd).1 (dN _ (gh _ m))
  have sm:bh (er (aQ (a::Z) Θ env σ) H') (er (aQ Z Θ env σ) H'):=rP fun b m=>eZ _ m
  have ha:∀o,H' a=some o→er Θ H' a=some o:=fun o ho=>by unfold er;rw[if_neg na];exact ho
  cases d<;>first|exact r.elim|skip
  ·obtain⟨vs,e,q⟩:=r
   exact⟨a,vs,rfl,ha _ e,q.same sm⟩
  ·obtain⟨vs,e,q⟩:=r
   refine⟨a,vs,rfl,?_,q.same sm⟩
   rcases e with⟨ks,k,e⟩|⟨ks,k,e⟩
   ·exact .inl ⟨ks,k,ha _ e⟩
   ·exact .inr ⟨ks,k,ha _ e⟩
 |ce n=>cases e
 |sc ns=>cases e
def still:Vl→Vl
 |.ow d=>.im d
 |r=>r
theorem Res.still(h:Res K Z Θ env C σ H H' r v):Res K Z Θ env C σ H H' (still r) v:=by
 cases r with
 |ow d=>
  obtain⟨a,rfl,hn,S,r⟩:=h
  refine⟨S.pop,jH.rz (H:=H') (fun o ho=>?_) (r.same (rP fun b m=>eZ _ m) fun _ h=>h)⟩
  unfold er;rw[if_neg (show ¬a∈aQ Z Θ env σ from(jC.mp S.nd).1)];exact ho
 |im d=>exact h
 |ce n=>exact h
 |sc ns=>exact h
theorem Res.from(h:Res K Z Θ env C σ H H' r v)(k:aO Θ H0 H):Res K Z Θ env C σ H0 H' r v:=by
 cases r with
 |ow d=>
  obtain⟨a,e,hn,S,r⟩:=h
  exact⟨a,e,k.none hn,S,r⟩
 |im d=>exact h
 |ce n=>exact h
 |sc ns=>exact h
theorem CJ(S:Sm K Z Θ env C σ H)(h:H a=some (.tup vs)):er (aQ Z Θ env σ) H a=some (.tup vs):=by
 unfold er;rw[if_neg]
 ·exact h
 ·intro m
  obtain⟨u,e,n⟩:=S.JM a m
  rw[h] at e;exact n vs (fP e).symm
def rst(r:Vl)(env env':En):En:=match r with
 |.im d=>if jr d then env else env'
 |_=>env'
theorem Res.rst(S:Sm K Z Θ env C σ H)(k:aO Θ H H')(h:Res K Z Θ env' C' σ H H' r v):Res K Z Θ (rst r env env') C' σ H H' r v:=by
 cases r with
 |im d=>
  by_cases f:L2.jr d=true
  ·have:L2.rst (.im d) env env'=env:=if_pos f;rw[this];have S':=S.go k h.1.cell
   exact⟨S',h.2.jr (fun a vs e=>CJ S' (gM e)) f⟩
  ·have:L2.rst (.im d) env env'=env':=if_neg f;rw[this];exact h
 |ow d=>exact h
 |ce n=>exact h
 |sc ns=>exact h
theorem Fz.rst(r:Vl)(f:Fz env env'):Fz env (rst r env env'):=by
 cases r with
 |im d=>
  show Fz env (if L2.jr d then env else env');split
  ·exact Fz.refl _
  ·exact f
 |ow d=>exact f
 |ce n=>exact f
 |sc ns=>exact f
theorem gA(S:Sm K Z Θ env C σ H)(f:jx d=true)(hv:v=toV d):Res K Z Θ env C σ H H (.im d) v:=⟨S,by rw[hv];exact aiA f⟩
theorem tW(S:Sm K Z Θ env C σ H)(r:bV (er (aQ Z Θ env σ) H) ds vs)(hp:H p=none):Res K Z Θ env C σ H (upd H p (.lst vs)) (.ow (.list ds)) (.ref p):=by
 refine⟨p,rfl,hp,S.push hp _ (fun _ z=>nomatch z),vs,dI,r.same (jU (aO.upd (Θ:=Θ) hp) S.pW fun b m=>?_)⟩
 rcases bL.mp m with rfl|m
 ·exact .inr hp
 ·exact .inl m
theorem aiC(S:Sm K Z Θ env C σ H)(ho:∀vs,o≠.tup vs)(d:wC (upd H p o) p kvs vs)(r:gw (er (aQ Z Θ env σ) H) kvs vs)(hp:H p=none):Res K Z Θ env C σ H (upd H p o) (.ow (.dict kvs)) (.ref p):=by
 refine⟨p,rfl,hp,S.push hp _ ho,vs,d,r.same (jU (aO.upd (Θ:=Θ) hp) S.pW fun b m=>?_)⟩
 rcases bL.mp m with rfl|m
 ·exact .inr hp
 ·exact .inl m
theorem H9(S:Sm K Z Θ env C σ H)(r:bV (er (aQ Z Θ env σ) H) ds vs)(hp:H p=none):Res K Z Θ env C σ H (upd H p (.tup vs)) (.im (.tuple ds)) (.ref p):=by
 have S':=S.xQ (bh.upd (o:=.tup vs) hp)
 refine⟨S',p,vs,rfl,?_,r.same (jU (aO.upd (Θ:=Θ) hp) S.pW fun b m=>.inl m)⟩
 unfold er;rw[if_neg (fun m=>S.yf p m hp),dI]
end
theorem hide{P:Prop}(h:∀G:Prop,(P→G)→G):P:=h P id
inductive abx{α β:Type}(o:Option α)(g:α→Option β)(y:β):Prop
 |mk (x:α) (h1:o=some x) (h2:g x=some y):abx o g y
theorem iz(h:o.bind g=some y):abx o g y:=by
 cases o with
 |none=>cases h
 |some x=>exact⟨x,rfl,h⟩
def imO:Vl→Option aj
 |.im y=>some y
 |_=>none
theorem CK(h:imO x=some y):x=.im y:=by
 cases x<;>cases h;rfl
def strD:aj→Option Str
 |.str z=>some z
 |_=>none
theorem aiD(h:strD d=some z):d=.str z:=by
 cases d<;>cases h;rfl
def intD:aj→Option Int
 |.int k=>some k
 |_=>none
theorem Ia(h:intD d=some k):d=.int k:=by
 cases d<;>cases h;rfl
abbrev FE:=En→Ce→Option (Vl×En×Ce)
abbrev FB:=En→Ce→Option (aj×En×Ce)
abbrev FT:=En→Ce→Option (Bool×Ce)
abbrev wF:=En→Ce→Option (List aj×En×Ce)
abbrev FA:=En→Ce→Option (List Vl×En×Ce)
inductive tE(K:aC)(f:FE)(σ:St)(H:Hp)(Q:VK):Prop
 |mk (Z Θ:List aa) (env:En) (C:Ce) (r:Vl) (env':En) (C':Ce) (S:Sm K Z Θ env C σ H) (hf:f env C=some (r,env',C')) (q:∀v H',aO Θ H H'→Fz env env'→Res K Z Θ env' C' σ H H' r v→Q v H'):tE K f σ H Q
inductive dm(K:aC)(f:FB)(σ:St)(H:Hp)(Q:VK):Prop
 |mk (Z Θ:List aa) (env:En) (C:Ce) (d:aj) (env':En) (C':Ce) (S:Sm K Z Θ env C σ H) (hf:f env C=some (d,env',C')) (q:∀v H',aO Θ H H'→Fz env env'→Sm K Z Θ env' C' σ H'→dZ Z Θ env' σ H' d v→Q v H'):dm K f σ H Q
inductive eU(K:aC)(f:FT)(σ:St)(H:Hp)(Q:Bool→Hp→Prop):Prop
 |mk (Z Θ:List aa) (env:En) (C:Ce) (b:Bool) (C':Ce) (S:Sm K Z Θ env C σ H) (hf:f env C=some (b,C')) (q:∀H',aO Θ H H'→Sm K Z Θ env C' σ H'→Q b H'):eU K f σ H Q
inductive yg(E T:Hp):List aj→List V→Prop
 |nil:yg E T [] []
 |cons {d:aj} {v:V} {ds:List aj} {vs:List V}:yx E T d v→yg E T ds vs→yg E T (d::ds) (v::vs)
abbrev Jh(Z Θ:List aa)(env:En)(σ:St)(H:Hp)(ds:List aj)(vs:List V):Prop:=yg (er (aQ Z Θ env σ) H) (er Θ H) ds vs
inductive uI(K:aC)(f:wF)(σ:St)(H:Hp)(Q:List V→Hp→Prop):Prop
 |mk (Z Θ:List aa) (env:En) (C:Ce) (ds:List aj) (env':En) (C':Ce) (S:Sm K Z Θ env C σ H) (hf:f env C=some (ds,env',C')) (q:∀vs H',aO Θ H H'→Fz env env'→Sm K Z Θ env' C' σ H'→Jh Z Θ env' σ H' ds vs→Q vs H'):uI K f σ H Q
theorem PE.weak(h:PE X e t)(w:∀σ H Q,t' σ H Q→t σ H Q):PE X e t':=fun pins s σ H Q I q=>h pins s σ H Q I (w σ H Q q)
theorem PT.weak(h:PT X e t)(w:∀σ H Q,t' σ H Q→t σ H Q):PT X e t':=fun pins s σ H Q I q=>h pins s σ H Q I (w σ H Q q)
theorem PA.weak(h:PA X e t)(w:∀σ H Q,t' σ H Q→t σ H Q):PA X e t':=fun p pins s σ H Q I q=>h p pins s σ H Q I (w σ H Q q)
theorem PS.weak(h:PS X e t)(w:∀D σ H,t' D σ H→t D σ H):PS X e t':=fun pins s σ H D I q=>h pins s σ H D I (w D σ H q)
theorem iD.weak(h:iD X e t)(w:∀D σ H,t' D σ H→t D σ H):iD X e t':=fun pins s σ H D I q=>h pins s σ H D I (w D σ H q)
theorem PW.weak(h:PW X e t)(w:∀σ H Q,t' σ H Q→t σ H Q):PW X e t':=fun wh pins s σ H Q I q=>h wh pins s σ H Q I (w σ H Q q)
def fVar(i:Nat):FE:=fun env C=>match env[i]? with
 |some (some (.im d))=>some (.im d,env,C)
 |some (some (.ow d))=>some (.im d,env.set i (some (.im d)),C)
 |some (some (.ce n))=>some (.ce n,env,C)
 |some (some (.sc ns))=>some (.sc ns,env,C)
 |_=>none
def az(i:Nat):FB:=fun env C=>match env[i]? with
 |some (some x)=>(dat x).map fun d=>(d,env,C)
 |_=>none
def fCst(d:aj):FE:=fun env C=>some (.im d,env,C)
def ao(f:FE):FB:=fun env C=>match f env C with
 |some (r,e',C')=>(dat r).map fun d=>(d,e',C')
 |none=>none
theorem aan:∀{env:En}{i:Nat}{d:aj},env[i]?=some (some (.ow d))→Fz env (env.set i (some (.im d)))
 |[],i,d,e=>by simp at e
 |x::r,0,d,e=>by simp at e;subst e;exact⟨.inr ⟨d,rfl,rfl⟩,Fz.refl r⟩
 |x::r,i+1,d,e=>⟨.inl rfl,aan (by simpa using e)⟩
section
variable{X:Cx}{e:Expr}{i:Nat}
theorem aP(h:PE X e (oK i)):PE X e (tE X.K (fVar i)):=h.weak fun σ H Q aJ=>by
 obtain⟨Z,Θ,env,C,r,env',C',S,hf,q⟩:=aJ
 unfold fVar at hf;split at hf;all_goals first|(rename_i d hd;cases hf)|cases hf
 ·obtain⟨v,e1,r⟩:=S.slot i _ hd
  exact⟨v,e1,q v H (aO.refl _ _) (Fz.refl _) ⟨S,r⟩⟩
 ·have f:=aan hd
  obtain⟨v,e1,r⟩:=S.slot i _ hd
  have S':=S.fz f
  refine⟨v,e1,q v H (aO.refl _ _) f ⟨S',?_⟩⟩
  have hi:i<env.length:=by
   have:=iG.mp hd;exact this.1
  obtain⟨v',e2,r'⟩:=S'.slot i (.im d) (by rw[An,if_pos rfl,if_pos hi])
  rw[e1] at e2;cases e2;exact r'
 ·obtain⟨v,e1,r⟩:=S.slot i _ hd
  exact⟨v,e1,q v H (aO.refl _ _) (Fz.refl _) ⟨S,r⟩⟩
 ·obtain⟨v,e1,r⟩:=S.slot i _ hd
  exact⟨v,e1,q v H (aO.refl _ _) (Fz.refl _) ⟨S,r⟩⟩
theorem aK(h:PE X e (oK i)):PE X e (dm X.K (az i)):=h.weak fun σ H Q aJ=>by
 obtain⟨Z,Θ,env,C,d,env',C',S,hf,q⟩:=aJ
 unfold az at hf;split at hf
 ·rename_i x hx
  obtain⟨v,e1,r⟩:=S.slot i _ hx
  have ex:dat x=some d∧env=env'∧C=C':=by
   cases hd:dat x with
   |none=>rw[hd] at hf;cases hf
   |some d'=>rw[hd] at hf;cases hf;exact⟨rfl,rfl,rfl⟩
  obtain⟨ex,rfl,rfl⟩:=ex
  refine⟨v,e1,q v H (aO.refl _ _) (Fz.refl _) S ?_⟩
  cases x with
  |im d'=>cases ex;exact RZ.bor aaW r
  |ow d'=>
   cases ex
   obtain⟨a,rfl,r⟩:=r
   have na:=(S.mG (kW.mpr ⟨i,_,hx,e1⟩)).2;have ha:∀o,H a=some o→er Θ H a=some o:=fun o ho=>by unfold er;rw[if_neg na];exact ho
   cases d<;>first|exact r.elim|skip
   ·obtain⟨vs,e,q⟩:=r
    exact⟨a,vs,rfl,ha _ e,q⟩
   ·obtain⟨vs,e,q⟩:=r
    refine⟨a,vs,rfl,?_,q⟩
    rcases e with⟨ks,k,e⟩|⟨ks,k,e⟩
    ·exact .inl ⟨ks,k,ha _ e⟩
    ·exact .inr ⟨ks,k,ha _ e⟩
  |ce n=>cases ex
  |sc ns=>cases ex
 ·cases hf
theorem aM(h:PE X e (tC v))(f:jx d=true:=by rfl)(hv:v=toV d:=by rfl):PE X e (tE X.K (fCst d)):=h.weak fun σ H Q aJ=>by
 obtain⟨Z,Θ,env,C,r,env',C',S,hf,q⟩:=aJ
 cases hf;exact q v H (aO.refl _ _) (Fz.refl _) (gA S f hv)
theorem aq(h:PE X e (tE X.K f)):PE X e (dm X.K (ao f)):=h.weak fun σ H Q aJ=>by
 obtain⟨Z,Θ,env,C,d,env',C',S,hf,q⟩:=aJ
 unfold ao at hf;split at hf
 ·rename_i r e' C1 hr;cases hd:dat r with
  |none=>rw[hd] at hf;cases hf
  |some d'=>
   rw[hd] at hf;cases hf
   exact⟨Z,Θ,env,C,r,env',C',S,hr,fun v H' k f R=>q v H' k f R.sm (R.bor hd)⟩
 ·cases hf
end
def LIM:Nat:=1000000
theorem qi(h:n≤LIM):n≤bJ:=by rw[iI];unfold LIM at h;omega
def fJ(K:aC)(r:R2)(op:aj→aj→Option Vl):Prop:=
 ∀(Z Θ:List aa)(env:En)(C:Ce)(σ:St)(H:Hp)(x y:V)(dx dy:aj)(res:Vl),Sm K Z Θ env C σ H→dZ Z Θ env σ H dx x→dZ Z Θ env σ H dy y→op dx dy=some res→
  ∀Q:VK,(∀v H',aO Θ H H'→Res K Z Θ env C σ H H' res v→Q v H')→r x y H Q
def aH(op:aj→aj→Option Vl)(fa fb:FB):FE:=fun env C=>match fa env C with
 |some (x,e1,C1)=>match fb e1 C1 with
  |some (y,e2,C2)=>match op x y with
   |some r=>some (r,rst r env e2,C2)
   |none=>none
  |none=>none
 |none=>none
theorem Hz{K:aC}{r:R2}{op:aj→aj→Option Vl}(L:fJ K r op){fa fb:FB}:∀σ H Q,tE K (aH op fa fb) σ H Q→Ed r (dm K fa) (dm K fb) σ H Q:=by
 rintro σ H Q ⟨Z,Θ,env,C,res,env',C',S,hf,q⟩;unfold aH at hf;split at hf
 ·rename_i x e1 C1 h1;split at hf
  ·rename_i y e2 C2 h2;split at hf
   ·rename_i r0 h3;cases hf
    refine⟨Z,Θ,env,C,x,e1,C1,S,h1,fun v H1 k1 f1 S1 b1=>⟨Z,Θ,e1,C1,y,e2,C',S1,h2,fun u H2 k2 f2 S2 b2=>?_⟩⟩
    refine L Z Θ e2 C' σ H2 v u x y res S2 (b1.go S1 k2 f2) b2 h3 Q fun z H3 k3 R=>?_
    have k:=(k1.trans k2).trans k3;exact q z H3 k ((f1.trans f2).rst res) ((R.from (k1.trans k2)).rst S k)
   ·cases hf
  ·cases hf
 ·cases hf
section
variable{X:Cx}{a b:Expr}{fa fb:FB}{pos:Pos}{r:R2}{op:aj→aj→Option Vl}
theorem bM(ho:cz X (mF o) r)(L:fJ X.K r op)(ha:PE X a (dm X.K fa))(hb:PE X b (dm X.K fb)):PE X (.BinOp a o b pos) (tE X.K (aH op fa fb)):=(akX ho ha hb).weak (Hz L)
theorem rQ(ho:cz X (dH o) r)(L:fJ X.K r op)(ha:PE X a (dm X.K fa))(hb:PE X b (dm X.K fb))(hm:Bc o b=false):PE X (.Compare a [o] [b] pos) (tE X.K (aH op fa fb)):=(ah8 ho ha hb hm).weak (Hz L)
theorem cR(ho:pU X r)(L:fJ X.K r op)(ha:PE X a (dm X.K fa))(hb:PE X b (dm X.K fb))(hs:HS b):PE X (.Subscript a b pos) (tE X.K (aH op fa fb)):=(Q9 ho ha hb hs).weak (Hz L)
end
theorem fJ.or{K:aC}{r r':R2}{op op':aj→aj→Option Vl}(h:fJ K r op)(h':fJ K r' op'):fJ K (fun x y H Q=>r x y H Q∨r' x y H Q) (fun x y=>match op x y with|some z=>some z|none=>op' x y):=by
 intro Z Θ env C σ H x y dx dy res S bx cL e Q q;cases h1:op dx dy with
 |some z=>
  simp only[h1] at e;cases e;exact .inl (h Z Θ env C σ H x y dx dy _ S bx cL h1 Q q)
 |none=>
  simp only[h1] at e;exact .inr (h' Z Θ env C σ H x y dx dy res S bx cL e Q q)
section
variable{K:aC}{Z Θ:List aa}{env:En}{C:Ce}{σ:St}{H:Hp}{x:V}
theorem dZ.int(h:dZ Z Θ env σ H (.int i) x):x=.int i:=h
theorem dZ.str(h:dZ Z Θ env σ H (.str i) x):x=.str i:=h
theorem dZ.tup(h:dZ Z Θ env σ H (.tuple ds) x):∃a vs,x=.ref a∧H a=some (.tup vs)∧bV (er (aQ Z Θ env σ) H) ds vs:=by
 obtain⟨a,vs,e,q,r⟩:=h
 exact⟨a,vs,e,gM q,r⟩
theorem dZ.lst(h:dZ Z Θ env σ H (.list ds) x):∃a vs,x=.ref a∧H a=some (.lst vs)∧bV (er (aQ Z Θ env σ) H) ds vs:=by
 obtain⟨a,vs,e,q,r⟩:=h
 exact⟨a,vs,e,gM q,r⟩
theorem dZ.dct(h:dZ Z Θ env σ H (.dict kvs) x):∃a vs,x=.ref a∧wC H a kvs vs∧gw (er (aQ Z Θ env σ) H) kvs vs:=by
 obtain⟨a,vs,e,q,r⟩:=h
 exact⟨a,vs,e,q.same (zR _ _),r⟩
theorem dZ.flat(f:jx d=true)(h:dZ Z Θ env σ H d x):x=toV d:=by
 cases d<;>first|exact h|cases f
theorem dZ.rx(n:m5 d=true)(h:dZ Z Θ env σ H d x):RX H d x:=by
 cases d<;>first|exact h|skip
 ·obtain⟨a,vs,e,q,r⟩:=h
  exact⟨a,vs,e,gM q,(r.same (zR _ _)).rx n⟩
 ·obtain⟨a,vs,e,q,r⟩:=h
  exact⟨a,vs,e,gM q,(r.same (zR _ _)).rx n⟩
 ·cases n
end
section
variable{X:Cx}
def bR:aj→aj→Option Vl
 |.int i,.int j=>some (.im (.int (i+j)))
 |.str x,.str y=>if x.length+y.length≤LIM then some (.im (.str (x++y))) else none
 |.list xs,.list ys=>if xs.length+ys.length≤LIM then some (.ow (.list (xs++ys))) else none
 |.tuple xs,.tuple ys=>if xs.isEmpty then some (.im (.tuple ys)) else if xs.length+ys.length≤LIM then some (.im (.tuple (xs++ys))) else none
 |_,_=>none
def aaX(K:aC):R2:=fun x y H Q=>∃a b ys,x=.ref a∧y=.ref b∧cF K H a []∧cF K H b ys∧Q (.ref b) H
theorem aiE:cz X (mF .Add) (aaX X.K):=by
 intro pins s σ H x y v u Q I rx ry h
 obtain⟨a,b,ys,rfl,rfl,ha,hb,q⟩:=h
 cases rx;cases ry
 obtain⟨its,r1,p1,_⟩:=I.tuple ha
 obtain⟨its2,r2,p2,_⟩:=I.tuple hb
 obtain⟨⟨cls,dd,data,sl⟩,ho,hc,n,hd⟩:=id p1
 obtain⟨⟨cls2,dd2,data2,sl2⟩,ho2,hc2,n2,hd2⟩:=id p2
 simp only at hc hd hc2 hd2;subst hc hd hc2 hd2;exact V3 ⟨_,ho,rfl⟩ ⟨_,ho2,rfl⟩ U3 VG Ua T9 (T5 _ _)
  (tuple_addW0 a b its.toArray its2.toArray n n2 dd dd2 sl sl2 (by cases r1;rfl)) ⟨ho,ho2,⟨.ref b,H,I,rfl,q⟩⟩
def aaY(K:aC):R2:=fun x y H Q=>(((oU fun i j=>.int (i+j)) x y H Q∨∃i j,x=.str i∧y=.str j∧i.length+j.length≤bJ∧Q (.str (i++j)) H)∨abo x y H Q)∨aaX K x y H Q∨aaT K x y H Q
theorem fD:cz X (mF .Add) (aaY X.K):=((ajF.or afh).or ajS).or (aiE.or aif)
theorem fH{K:aC}:fJ K (aaY K) bR:=by
 intro Z Θ env C σ H x y dx dy res S bx cL e Q q;unfold bR at e;split at e
 ·cases e;cases bx.int;cases cL.int;exact .inl (.inl (.inl ⟨_,_,rfl,rfl,q _ _ (aO.refl _ _) (gA S rfl rfl)⟩))
 ·split at e
  ·rename_i hl;cases e;cases bx.str;cases cL.str;exact .inl (.inl (.inr ⟨_,_,rfl,rfl,qi hl,q _ _ (aO.refl _ _) (gA S rfl rfl)⟩))
  ·cases e
 ·split at e
  ·rename_i hl;cases e
   obtain⟨a,vs,rfl,ha,r1⟩:=bx.lst
   obtain⟨b,ws,rfl,hb,r2⟩:=cL.lst
   exact .inl (.inr ⟨a,b,vs,ws,rfl,rfl,ha,hb,by rw[gm r1,gm r2];exact qi hl,fun p hp=>q _ _ (aO.upd hp) (tW S (vB r1 r2) hp)⟩)
  ·cases e
 ·split at e
  ·rename_i xs ys he;cases e;have:xs=[]:=List.isEmpty_iff.mp he;subst this;have by2:=cL
   obtain⟨a,vs,rfl,ha,r1⟩:=bx.tup
   obtain⟨b,ws,rfl,hb,r2⟩:=cL.tup
   cases(show vs=[] from r1)
   exact .inr (.inl ⟨a,b,ws,rfl,rfl,cF.of ha,cF.of hb,q _ _ (aO.refl _ _) ⟨S,by2⟩⟩)
  split at e
  ·rename_i xs ys he hl;cases e
   obtain⟨a,vs,rfl,ha,r1⟩:=bx.tup
   obtain⟨b,ws,rfl,hb,r2⟩:=cL.tup
   have l1:=gm r1;have l2:=gm r2;have hv:vs≠[]:=fun z=>by
    subst z;cases xs with
    |nil=>exact he rfl
    |cons _ _=>cases l1
   refine .inr (.inr ⟨a,b,vs,ws,rfl,rfl,cF.of ha,cF.of hb,hv,by rw[l1,l2];exact qi hl,fun z=>?_,fun _ p hp=>q _ _ (aO.upd hp) (H9 S (vB r1 r2) hp)⟩);subst z;have:ys=[]:=List.eq_nil_of_length_eq_zero l2.symm;subst this;rw[jP] at q;refine q _ _ (aO.refl _ _) ⟨S,?_⟩;exact bx
  ·cases e
 ·cases e
def vK:aj→aj→Option Vl
 |.int i,.int j=>some (.im (.int (i-j)))
 |_,_=>none
theorem Pj{K:aC}{g:Int→Int→V}{op:aj→aj→Option Vl}(h:∀dx dy res,op dx dy=some res→∃i j d,dx=.int i∧dy=.int j∧res=.im d∧jx d=true∧g i j=toV d):fJ K (oU g) op:=by
 intro Z Θ env C σ H x y dx dy res S bx cL e Q q
 obtain⟨i,j,d,rfl,rfl,rfl,f,hv⟩:=h _ _ _ e
 cases bx.int;cases cL.int
 exact⟨_,_,rfl,rfl,q _ _ (aO.refl _ _) (gA S f hv)⟩
theorem IK{K:aC}{Cn:Int→Int→Prop}{g:Int→Int→V}{op:aj→aj→Option Vl}(h:∀dx dy res,op dx dy=some res→∃i j d,dx=.int i∧dy=.int j∧res=.im d∧jx d=true∧g i j=toV d∧Cn i j):fJ K (rI Cn g) op:=by
 intro Z Θ env C σ H x y dx dy res S bx cL e Q q
 obtain⟨i,j,d,rfl,rfl,rfl,f,hv,c⟩:=h _ _ _ e
 cases bx.int;cases cL.int
 exact⟨_,_,rfl,rfl,c,q _ _ (aO.refl _ _) (gA S f hv)⟩
theorem CN{K:aC}:fJ K (oU fun i j=>.int (i-j)) vK:=Pj fun dx dy res e=>by
 unfold vK at e;split at e<;>cases e
 exact⟨_,_,_,rfl,rfl,rfl,rfl,rfl⟩
def jy:aj→aj→Option Vl
 |.int i,.int j=>if 0<j then some (.im (.int (i%j))) else none
 |_,_=>none
theorem qC{K:aC}:fJ K (rI (fun _ j=>0<j) fun i j=>.int (i%j)) jy:=IK fun dx dy res e=>by
 unfold jy at e;split at e
 ·split at e
  ·rename_i h;cases e;exact⟨_,_,_,rfl,rfl,rfl,rfl,rfl,h⟩
  ·cases e
 ·cases e
def vG:aj→aj→Option Vl
 |.int i,.int j=>if 0<j∧j<1073741824 then some (.im (.int (i / j))) else none
 |_,_=>none
theorem Pk{K:aC}:fJ K (rI abi fun i j=>.int (i / j)) vG:=IK fun dx dy res e=>by
 unfold vG at e;split at e
 ·split at e
  ·rename_i h;cases e;exact⟨_,_,_,rfl,rfl,rfl,rfl,rfl,h⟩
  ·cases e
 ·cases e
def vL:aj→aj→Option Vl
 |.int i,.int j=>if 0≤j∧j≤1000000∧i.natAbs<2^64 then some (.im (.int (i^j.toNat))) else none
 |_,_=>none
theorem Qy{K:aC}:fJ K (rI abj fun i j=>.int (i^j.toNat)) vL:=IK fun dx dy res e=>by
 unfold vL at e;split at e
 ·split at e
  ·rename_i h;cases e;exact⟨_,_,_,rfl,rfl,rfl,rfl,rfl,h⟩
  ·cases e
 ·cases e
def iM:aj→aj→Option Vl
 |.int i,.int j=>if(-(2^64)<i∧i<2^64)∨(-(2^64)<j∧j<2^64) then some (.im (.int (i*j))) else none
 |_,_=>none
theorem oA{K:aC}:fJ K (rI Dw fun i j=>.int (i*j)) iM:=IK fun dx dy res e=>by
 unfold iM at e;split at e
 ·split at e
  ·rename_i h;cases e;exact⟨_,_,_,rfl,rfl,rfl,rfl,rfl,h⟩
  ·cases e
 ·cases e
end
section
variable{X:Cx}
def yz:aj→aj→Option Bool
 |.int i,.int j=>some (i==j)
 |.str x,.str y=>some (x==y)
 |.bool a,.bool b=>some (a==b)
 |d,e=>if m5 d&&m5 e&&(lH d&&lH e) then some (G5 d e) else none
def lD(d e:aj):Option Vl:=(yz d e).map fun b=>.im (.bool b)
def lF(d e:aj):Option Vl:=(yz d e).map fun b=>.im (.bool (!b))
theorem afB(hu:X.A.units+64<dR):cz X (dH .Eq) (fun x y H Q=>∃d e,RX H d x∧RX H e y∧lH d=true∧lH e=true∧Q (.bl (G5 d e)) H):=by
 intro pins s σ H x y v u Q I rx ry h
 obtain⟨d,e,hd,he,h1,h2,q⟩:=h
 obtain⟨as,ra⟩:=RD.reads I (hd.rd (K:=X.K)) rx
 obtain⟨bs,rb⟩:=RD.reads I (he.rd (K:=X.K)) ry
 exact PySem.SeqAt.compareEq_shaped ra rb h1 h2 hu ⟨.bl _,H,I,rfl,q⟩
def aby:R2:=fun x y H Q=>rEq x y H Q∨∃d e,RX H d x∧RX H e y∧lH d=true∧lH e=true∧Q (.bl (G5 d e)) H
def abz:R2:=fun x y H Q=>rNe x y H Q∨∃d e,RX H d x∧RX H e y∧lH d=true∧lH e=true∧Q (.bl (!PyData.eqv d e)) H
theorem uc(hu:X.A.units+64<dR):cz X (dH .Eq) aby:=akY.or (afB hu)
theorem zJ(hu:X.A.units+64<dR):cz X (dH .NotEq) abz:=akZ.or (aft hu)
theorem Xl(h:yz d e=some b):(jx d=true∧jx e=true∧RG (toV d) (toV e)=true∧b=decide (toV d=toV e))∨(m5 d=true∧m5 e=true∧lH d=true∧lH e=true∧b=G5 d e):=by
 unfold yz at h;split at h
 ·cases h;exact .inl ⟨rfl,rfl,rfl,O6.symm⟩
 ·cases h;exact .inl ⟨rfl,rfl,rfl,O7.symm⟩
 ·cases h;exact .inl ⟨rfl,rfl,rfl,Qo.symm⟩
 ·split at h
  ·rename_i q;cases h;rw[gH,gH,gH] at q;exact .inr ⟨q.1.1,q.1.2,q.2.1,q.2.2,rfl⟩
  ·cases h
theorem uf{K:aC}:fJ K aby lD:=by
 intro Z Θ env C σ H x y dx dy res S bx cL e Q q;unfold lD at e;cases h:yz dx dy with
 |none=>rw[h] at e;cases e
 |some b=>
  rw[h] at e;cases e;have fin:=q (.bl b) H (aO.refl _ _) (gA S rfl rfl);rcases Xl h with⟨f1,f2,sc,eb⟩|⟨n1,n2,s1,s2,eb⟩
  ·rw[bx.flat f1,cL.flat f2];rw[eb] at fin;exact .inl ⟨sc,fin⟩
  ·rw[eb] at fin;exact .inr ⟨dx,dy,bx.rx n1,cL.rx n2,s1,s2,fin⟩
theorem zT{K:aC}:fJ K abz lF:=by
 intro Z Θ env C σ H x y dx dy res S bx cL e Q q;unfold lF at e;cases h:yz dx dy with
 |none=>rw[h] at e;cases e
 |some b=>
  rw[h] at e;cases e;have fin:=q (.bl (!b)) H (aO.refl _ _) (gA S rfl rfl);rcases Xl h with⟨f1,f2,sc,eb⟩|⟨n1,n2,s1,s2,eb⟩
  ·rw[bx.flat f1,cL.flat f2];rw[eb] at fin;exact .inl ⟨sc,fin⟩
  ·rw[eb] at fin;exact .inr ⟨dx,dy,bx.rx n1,cL.rx n2,s1,s2,fin⟩
def strLt(x y:Str):Bool:=decide (x.cps.toList<y.cps.toList)
def aaZ(xs ys:List aj):Option Bool:=match keysOf xs,keysOf ys with
 |some ks,some js=>if ks.map bI=js.map bI then some (di ks js) else none
 |_,_=>none
def uz:aj→aj→Option Vl
 |.int i,.int j=>some (.im (.bool (decide (i<j))))
 |.str x,.str y=>some (.im (.bool (strLt x y)))
 |.tuple xs,.tuple ys=>(aaZ xs ys).map fun b=>.im (.bool b)
 |_,_=>none
theorem vd:∀{ds:List aj}{ks:List Key}{vs:List V},keysOf ds=some ks→bV E ds vs→vs=ks.map kV
 |[],ks,vs,h,r=>by cases h;exact r
 |d::ds,ks,vs,h,r=>by
  unfold keysOf at h;split at h
  ·rename_i k t h1 h2;cases h
   obtain⟨u,w,e1,q,s⟩:=r
   rw[e1,vd h2 s];have:u=kV k:=by
    cases d<;>first|(cases h1;exact q)|cases h1
   rw[this];rfl
  ·cases h
def alQ:R2:=fun x y H Q=>(∃a b,x=kV a∧y=kV b∧bI a=bI b∧Q (.bl (kLt a b)) H)∨∃a b ks js,x=.ref a∧y=.ref b∧H a=some (.tup (ks.map kV))∧H b=some (.tup (js.map kV))∧ks.map bI=js.map bI∧Q (.bl (di ks js)) H
theorem Rg{K:aC}:fJ K alQ uz:=by
 intro Z Θ env C σ H x y dx dy res S bx cL e Q q;unfold uz at e;split at e
 ·cases e;cases bx.int;cases cL.int;exact .inl ⟨.inl _,.inl _,rfl,rfl,rfl,q _ _ (aO.refl _ _) (gA S rfl rfl)⟩
 ·cases e;cases bx.str;cases cL.str;exact .inl ⟨.inr _,.inr _,rfl,rfl,rfl,q _ _ (aO.refl _ _) (gA S rfl rfl)⟩
 ·rename_i xs ys;unfold aaZ at e;split at e
  ·rename_i ks js h1 h2;split at e
   ·rename_i ht;cases e
    obtain⟨a,vs,rfl,ha,r1⟩:=bx.tup
    obtain⟨b,ws,rfl,hb,r2⟩:=cL.tup
    rw[vd h1 r1] at ha;rw[vd h2 r2] at hb;exact .inr ⟨a,b,ks,js,rfl,rfl,ha,hb,ht,q _ _ (aO.refl _ _) (gA S rfl rfl)⟩
   ·cases e
  ·cases e
 ·cases e
def oM:aj→aj→Option Vl
 |.int i,.int j=>some (.im (.bool (decide (i≤j))))
 |.str x,.str y=>some (.im (.bool (!strLt y x)))
 |_,_=>none
def abA:R2:=fun x y H Q=>(oU fun i j=>.bl (decide (i≤j))) x y H Q∨∃i j,x=.str i∧y=.str j∧Q (.bl (!(decide (j.cps.toList<i.cps.toList)))) H
theorem zK:cz X (dH .LtE) abA:=ak0.or age
theorem zU{K:aC}:fJ K abA oM:=by
 intro Z Θ env C σ H x y dx dy res S bx cL e Q q;unfold oM at e;split at e
 ·cases e;cases bx.int;cases cL.int;exact .inl ⟨_,_,rfl,rfl,q _ _ (aO.refl _ _) (gA S rfl rfl)⟩
 ·cases e;cases bx.str;cases cL.str;exact .inr ⟨_,_,rfl,rfl,q _ _ (aO.refl _ _) (gA S rfl rfl)⟩
 ·cases e
def uA:aj→aj→Option Vl
 |.int i,.int j=>some (.im (.bool (decide (j<i))))
 |_,_=>none
def Jp:aj→aj→Option Vl
 |.int i,.int j=>some (.im (.bool (decide (j≤i))))
 |_,_=>none
theorem Dh{K:aC}:fJ K (oU fun i j=>.bl (decide (j<i))) uA:=Pj fun dx dy res e=>by
 unfold uA at e;split at e<;>cases e
 exact⟨_,_,_,rfl,rfl,rfl,rfl,rfl⟩
theorem alc{K:aC}:fJ K (oU fun i j=>.bl (decide (j≤i))) Jp:=Pj fun dx dy res e=>by
 unfold Jp at e;split at e<;>cases e
 exact⟨_,_,_,rfl,rfl,rfl,rfl,rfl⟩
def isNone:aj→Bool
 |.none=>true
 |_=>false
def vM(d e:aj):Option Vl:=if isNone e then some (.im (.bool (isNone d))) else none
def CP(d e:aj):Option Vl:=if isNone e then some (.im (.bool (!isNone d))) else none
theorem HB(h:dZ Z Θ env σ H d x):decide (x=V.non)=isNone d:=by
 cases d<;>first
  |(cases(show x=_ from h);rfl)
  |(obtain⟨a,vs,e,_⟩:=h;subst e;rfl)
theorem aao{K:aC}:fJ K (fun x y H Q=>y=.non∧Q (.bl (decide (x=.non))) H) vM:=by
 intro Z Θ env C σ H x y dx dy res S bx cL e Q q;unfold vM at e;split at e
 ·rename_i hn;cases e;have hy:y=.non:=of_decide_eq_true ((HB cL).trans hn)
  exact⟨hy,by rw[HB bx];exact q _ _ (aO.refl _ _) (gA S rfl rfl)⟩
 ·cases e
theorem aiF{K:aC}:fJ K (fun x y H Q=>y=.non∧Q (.bl (!decide (x=.non))) H) CP:=by
 intro Z Θ env C σ H x y dx dy res S bx cL e Q q;unfold CP at e;split at e
 ·rename_i hn;cases e;have hy:y=.non:=of_decide_eq_true ((HB cL).trans hn)
  exact⟨hy,by rw[HB bx];exact q _ _ (aO.refl _ _) (gA S rfl rfl)⟩
 ·cases e
end
section
variable{X:Cx}{pins:List (aa×Obj)}{σ:St}{H:Hp}{s:au}{a b:aa}
theorem Inv.JN(I:Inv X pins σ H s)(h:H a=some (.dK [])):Inv X pins σ (upd H a (.dT [])) s:=by
 obtain⟨z,hm,vs,r,o,es,ep,h1,h2,h3,h4,h5,h6⟩:=I.hok a _ h
 cases r;have e0:es.toList=[]:=by
  cases hh:es.toList with
  |nil=>rfl
  |cons x xs=>rw[hh] at h5;cases h5
 have:=xq (t':=s.toks) (ob:=.dT []) I (by rw[h];trivial) (UG a s.heap) ⟨_,h1⟩ ⟨lJ _,hm,[],.nil,o,es,ep,h1,h2,h3,e0,oZ⟩;exact this
theorem Inv.SJ(I:Inv X pins σ (upd H a (.dT [])) s)(h:H a=some (.dK [])):Inv X pins σ H s:=by
 obtain⟨z,hm,xs,r,o,es,ep,h1,h2,h3,h4,h5⟩:=I.hok a _ dI
 cases r;have e0:es=#[]:=by
  cases es;simp at h4;rw[h4]
 subst e0;have:=xq (t':=s.toks) (ob:=.dK []) I (by rw[dI];trivial) (UG a s.heap) ⟨_,h1⟩ (Iw (lJ _) hm .nil ⟨o,#[],ep,h1,h2,h3,fun i hi=>absurd hi (by simp),.nil,oZ⟩);rw[Y6] at this;have e:upd H a (.dK [])=H:=by
  funext b;by_cases hb:b=a
  ·subst hb;rw[dI,h]
  ·exact cG hb
 rw[e] at this;exact this
end
def nF(H:Hp)(a:aa)(y:V)(r:Option V):Prop:=lB H a y r∨(H a=some (.dK [])∧(∃(b:aa)(ks:List Key),y=.ref b∧H b=some (.tup (ks.map kV)))∧r=none)
section
variable{X:Cx}{pins:List (aa×Obj)}{σ:St}{H:Hp}{s:au}{a:aa}{y v:V}{u r:Value}{o:Option V}{A:bU}{E:Value→au→Prop}
theorem nF.re(ha:H a=some (.dK [])){b:aa}{ks:List Key}(hb:H b=some (.tup (ks.map kV))):lB (upd H a (.dT [])) a (.ref b) none:=by
 have:(upd H a (.dT [])) b=some (.tup (ks.map kV)):=by rw[cG (Q3 hb ha (fun z=>nomatch z))];exact hb
 exact lB.t (kvs:=[]) (k:=ks) dI this
theorem ald(hu:A.units+1<dR)(I:Inv X pins σ H s)(g:nF H a y o)(ry:RelV y u)(h:∀s',Inv X pins σ H s'→Q (.bool o.isSome) s'):aL (model X.prog X.w) A (dH .In u (.ref a)) Q E s:=by
 rcases g with g|⟨ha,⟨b,ks,rfl,hb⟩,rfl⟩
 ·exact abq hu I g ry h
 ·exact abq hu (I.JN ha) (nF.re ha hb) ry fun s' I'=>h s' (I'.SJ ha)
theorem ahk(hu:A.units+1<dR)(I:Inv X pins σ H s)(g:nF H a y o)(ry:RelV y u)(h:∀s',Inv X pins σ H s'→Q (.bool (!o.isSome)) s'):aL (model X.prog X.w) A (dH .NotIn u (.ref a)) Q E s:=by
 rcases g with g|⟨ha,⟨b,ks,rfl,hb⟩,rfl⟩
 ·exact Ze hu I g ry h
 ·exact Ze hu (I.JN ha) (nF.re ha hb) ry fun s' I'=>h s' (I'.SJ ha)
theorem aj9(hu:X.A.units+1<dR):cz X (dH .In) (fun y x H Q=>∃a o,x=.ref a∧nF H a y o∧Q (.bl o.isSome) H):=by
 intro pins s σ H x y v u Q I rx ry h
 obtain⟨a,o,rfl,g,q⟩:=h
 cases ry;exact ald hu I g rx fun s' I'=>⟨.bl _,H,I',rfl,q⟩
theorem agt(hu:X.A.units+1<dR):cz X (dH .NotIn) (fun y x H Q=>∃a o,x=.ref a∧nF H a y o∧Q (.bl (!o.isSome)) H):=by
 intro pins s σ H x y v u Q I rx ry h
 obtain⟨a,o,rfl,g,q⟩:=h
 cases ry;exact ahk hu I g rx fun s' I'=>⟨.bl _,H,I',rfl,q⟩
theorem aiG(hu:X.A.units+1<dR):pU X (fun x y H Q=>∃a v,x=.ref a∧lB H a y (some v)∧Q v H):=by
 intro value slice pins s σ H x y v u Q I rx ry h hs
 obtain⟨a,z,rfl,g,q⟩:=h
 cases rx;have hT:=aeZ I g;have h2:aL (model X.prog X.w) X.A (vq (.ref a) u) (EP X pins σ Q) X.xe s:=af7 hu I g ry fun w' s' I' r'=>⟨z,H,I',r',q⟩
 unfold subscriptTail;refine aD ?_;rw[getitemInPython_of_ne hT.not_modules];refine aD (wpAny_specialOf hT PySem.F.slot_dict_getitem.lookup ?_);have fin:aL (model X.prog X.w) X.A (Wl slice false (.ref a) u) (fun r s₃=>aL (model X.prog X.w) X.A (letTemporaryGo value (.ref a) r >>= fun _=>pure r) (EP X pins σ Q) X.xe s₃) X.xe s:=by
  rw[hs];exact wpAny_operating (nW h2 (fun r s₃ h₃=>aD (wpAny_letTemporaryGo (aV h₃))) fun _ _ x=>x)
 first
  |exact aV (aD fin)
  |exact aD (aV (aD fin))
  |exact aD fin
end
def pK{κ:Type}[DecidableEq κ](f:aj→Option κ)(k:κ):List (aj×aj)→Option aj
 |[]=>none
 |p::r=>if f p.1=some k then some p.2 else pK f k r
def mK(kvs:List (aj×aj))(d:aj):Option (Option aj):=match cJ d with
 |some k=>if(cD cJ kvs).isSome then some (pK cJ k kvs) else none
 |none=>match rY d with
  |some ks=>if(cD rY kvs).isSome then some (pK rY ks kvs) else none
  |none=>none
theorem N8[DecidableEq κ]:∀{kvs:List (aj×aj)}{ks:List κ}{vs:List V},cD f kvs=some ks→gw E kvs vs→
  (∃d v,pK f k kvs=some d∧lO (ks.zip vs) k=some v∧RZ E d v)∨(pK f k kvs=none∧lO (ks.zip vs) k=none)
 |[],ks,vs,h,r=>by
  cases h
  cases(show vs=[] from r)
  exact .inr ⟨rfl,rfl⟩
 |(p,d)::kvs,ks,vs,h,r=>by
  unfold cD at h;split at h
  ·rename_i k' t h1 h2;cases h
   obtain⟨v,w,rfl,q,s⟩:=r
   by_cases e:k'=k
   ·subst e;refine .inl ⟨d,v,?_,?_,q⟩
    ·unfold pK;rw[if_pos h1]
    ·exact Hs (p:=(k',v)) rfl
   ·have e1:pK f k ((p,d)::kvs)=pK f k kvs:=by
     show(if f p=some k then some d else pK f k kvs)=_
     rw[if_neg];intro z;rw[h1] at z;exact e (fP z)
    have e2:lO ((k'::t).zip (v::w)) k=lO (t.zip w) k:=Ht (p:=(k',v)) e;rw[e1,e2];exact N8 h2 s
  ·cases h
theorem vh:∀{kvs:List (aj×aj)}{ks:List κ},cD f kvs=some ks→ks.length=kvs.length
 |[],ks,h=>by cases h;rfl
 |p::kvs,ks,h=>by
  unfold cD at h;split at h
  ·rename_i k' t h1 h2;cases h;rw[cN,cN,vh h2]
  ·cases h
theorem aap(h:cJ d=some k)(r:RZ E d v):v=kV k:=by
 cases d<;>first|(cases h;exact r)|cases h
theorem aaq(h:cJ d=some k)(g:rY d=some ks):False:=by
 cases d<;>first|(cases h;done)|(cases g;done)
section
variable{K:aC}{Z Θ:List aa}{env:En}{C:Ce}{σ:St}{H:Hp}{x y:V}
theorem vm(h:cD cJ kvs=some ks)(g:cD rY kvs=some js):kvs=[]:=by
 cases kvs with
 |nil=>rfl
 |cons p r=>
  unfold cD at h g;split at h
  ·rename_i h1 h2;split at g
   ·rename_i h3 h4
    exact(aaq h1 h3).elim
   ·cases g
  ·cases h
theorem dZ.get(h:dZ Z Θ env σ H (.dict kvs) x)(hy:dZ Z Θ env σ H d y)(e:mK kvs d=some o):
  ∃a r,x=.ref a∧nF H a y r∧((∃v,r=some v∧∃d',o=some d'∧RZ (er (aQ Z Θ env σ) H) d' v∧lB H a y (some v))∨(r=none∧o=none)):=by
 obtain⟨a,vs,rfl,dt,rd⟩:=h.dct
 unfold mK at e;split at e
 ·rename_i k hk;split at e
  ·rename_i hs;cases e;have yk:y=kV k:=by
    cases d<;>first|(cases hk;exact hy)|cases hk
   have dk:∃ks,cD cJ kvs=some ks∧H a=some (.dK (ks.zip vs)):=by
    rcases dt with h|⟨ks,⟨ne,h2⟩,_⟩
    ·exact h
    ·obtain⟨ks',h1⟩:=uL.mp hs
     exact absurd (vm h1 h2) ne
   obtain⟨ks,h1,ha⟩:=dk
   have g:=lB.k (k:=k) ha;rw[←yk] at g;rcases N8 (k:=k) h1 rd with⟨d',v,e1,e2,r⟩|⟨e1,e2⟩
   ·rw[e2] at g
    exact⟨a,some v,rfl,.inl g,.inl ⟨v,rfl,d',e1,r,g⟩⟩
   ·rw[e2] at g
    exact⟨a,none,rfl,.inl g,.inr ⟨rfl,e1⟩⟩
  ·cases e
 ·split at e
  ·rename_i ks hks;split at e
   ·rename_i hs;cases e
    obtain⟨b,hb,rfl⟩:∃b,H b=some (.tup (ks.map kV))∧y=.ref b:=by
     cases d<;>first|cases hks|skip
     obtain⟨b,ws,rfl,hb,r⟩:=hy.tup
     rw[vd hks r] at hb
     exact⟨b,hb,rfl⟩
    rcases dt with⟨js,h1,ha⟩|⟨js,⟨ne,h1⟩,ha⟩
    ·obtain⟨js',h2⟩:=uL.mp hs
     have:=vm h1 h2;subst this;cases h1
     exact⟨a,none,rfl,.inr ⟨ha,⟨b,ks,rfl,hb⟩,rfl⟩,.inr ⟨rfl,rfl⟩⟩
    ·have g:=lB.t (k:=ks) ha hb;rcases N8 (k:=ks) h1 rd with⟨d',v,e1,e2,r⟩|⟨e1,e2⟩
     ·rw[e2] at g
      exact⟨a,some v,rfl,.inl g,.inl ⟨v,rfl,d',e1,r,g⟩⟩
     ·rw[e2] at g
      exact⟨a,none,rfl,.inl g,.inr ⟨rfl,e1⟩⟩
   ·cases e
  ·cases e
end
def inD(d:aj)(ds:List aj):Bool:=ds.any fun e=>qU (toV e) (toV d)
def inB(d:aj):aj→Option Bool
 |.list ds=>if jx d&&ds.all jx then some (inD d ds) else none
 |.tuple ds=>if jx d&&ds.all jx then some (inD d ds) else none
 |.dict kvs=>(mK kvs d).map (·.isSome)
 |_=>none
def jq(d e:aj):Option Vl:=(inB d e).map fun b=>.im (.bool b)
def vC(d e:aj):Option Vl:=(inB d e).map fun b=>.im (.bool (!b))
def abB(K:aC):R2:=fun x y H Q=>JG K false x y H Q∨∃a o,y=.ref a∧nF H a x o∧Q (.bl o.isSome) H
def Zu(K:aC):R2:=fun x y H Q=>JG K true x y H Q∨∃a o,y=.ref a∧nF H a x o∧Q (.bl (!o.isSome)) H
theorem rR(hu:X.A.units+1<dR):cz X (dH .In) (abB X.K):=af5.or (aj9 hu)
theorem Nh(hu:X.A.units+1<dR):cz X (dH .NotIn) (Zu X.K):=aez.or (agt hu)
theorem Ni(f:jx d=true):oE (toV d)=true:=by
 cases d<;>first|rfl|cases f
theorem aa0:inV (toV d) (ds.map toV)=inD d ds:=by
 unfold inV inD;rw[aeG];rfl
theorem Zv{ds:List aj}(f:ds.all jx=true):(ds.map toV).all oE=true:=by
 rw[List.all_map,nO];intro d hd;exact Ni (nO.mp f d hd)
theorem Yh{K:aC}{Z Θ:List aa}{env:En}{σ:St}{H:Hp}{x y:V}{dx dy:aj}{b:Bool}(bx:dZ Z Θ env σ H dx x)(cL:dZ Z Θ env σ H dy y)(e:inB dx dy=some b):
  (∃p xs,y=.ref p∧(bC K H p xs∨cF K H p xs)∧oE x=true∧xs.all oE=true∧inV x xs=b)∨∃a o,y=.ref a∧nF H a x o∧o.isSome=b:=by
 unfold inB at e;split at e
 ·split at e
  ·rename_i ds hf;rw[gH] at hf;cases e
   obtain⟨a,vs,rfl,ha,r⟩:=cL.lst
   rw[N7 hf.2 r] at ha;rw[bx.flat hf.1];exact .inl ⟨a,_,rfl,.inl (bC.of ha),Ni hf.1,Zv hf.2,aa0⟩
  ·cases e
 ·split at e
  ·rename_i ds hf;rw[gH] at hf;cases e
   obtain⟨a,vs,rfl,ha,r⟩:=cL.tup
   rw[N7 hf.2 r] at ha;rw[bx.flat hf.1];exact .inl ⟨a,_,rfl,.inr (cF.of ha),Ni hf.1,Zv hf.2,aa0⟩
  ·cases e
 ·rename_i kvs;cases hl:mK kvs dx with
  |none=>rw[hl] at e;cases e
  |some o=>
   rw[hl] at e;cases e
   obtain⟨a,r,rfl,g,q⟩:=cL.get bx hl
   refine .inr ⟨a,r,rfl,g,?_⟩;rcases q with⟨v,rfl,d',rfl,_⟩|⟨rfl,rfl⟩<;>rfl
 ·cases e
theorem rZ{K:aC}:fJ K (abB K) jq:=by
 intro Z Θ env C σ H x y dx dy res S bx cL e Q q;unfold jq at e;cases h:inB dx dy with
 |none=>rw[h] at e;cases e
 |some b=>
  rw[h] at e;cases e;have fin:=q (.bl b) H (aO.refl _ _) (gA S rfl rfl);rcases Yh (K:=K) bx cL h with⟨p,xs,e1,e2,e3,e4,e5⟩|⟨a,o,e1,e2,e3⟩
  ·rw[←e5] at fin;exact .inl ⟨p,xs,e1,e2,e3,e4,fin⟩
  ·rw[←e3] at fin;exact .inr ⟨a,o,e1,e2,fin⟩
theorem Oa{K:aC}:fJ K (Zu K) vC:=by
 intro Z Θ env C σ H x y dx dy res S bx cL e Q q;unfold vC at e;cases h:inB dx dy with
 |none=>rw[h] at e;cases e
 |some b=>
  rw[h] at e;cases e;have fin:=q (.bl (!b)) H (aO.refl _ _) (gA S rfl rfl);rcases Yh (K:=K) bx cL h with⟨p,xs,e1,e2,e3,e4,e5⟩|⟨a,o,e1,e2,e3⟩
  ·rw[←e5] at fin;exact .inl ⟨p,xs,e1,e2,e3,e4,fin⟩
  ·rw[←e3] at fin;exact .inr ⟨a,o,e1,e2,fin⟩
def sU:aj→aj→Option aj
 |.list ds,.int i=>eN ds i
 |.tuple ds,.int i=>eN ds i
 |.str z,.int i=>if z.length≤LIM then(eN z.cps.toList i).map fun c=>.str ⟨#[c]⟩ else none
 |.dict kvs,d=>match mK kvs d with
  |some (some e)=>some e
  |_=>none
 |_,_=>none
def bw(d e:aj):Option Vl:=(sU d e).map .im
def abC(K:aC):R2:=fun x y H Q=>rIx K x y H Q∨∃a v,x=.ref a∧lB H a y (some v)∧Q v H
theorem cP(hu:X.A.units+1<dR):pU X (abC X.K):=ajO.or (aiG hu)
theorem Zw(r:bV E ds vs)(e:eN ds i=some d):∃v,eN vs i=some v∧RZ E d v:=by
 unfold eN at e⊢;rw[gm r];cases h:mX ds.length i with
 |none=>rw[h] at e;cases e
 |some j=>
  rw[h] at e;exact tZ r e
theorem cU{K:aC}:fJ K (abC K) bw:=by
 intro Z Θ env C σ H x y dx dy res S bx cL e Q q;unfold bw at e;cases h:sU dx dy with
 |none=>rw[h] at e;cases e
 |some d=>
  rw[h] at e;cases e;unfold sU at h;split at h
  ·obtain⟨a,vs,rfl,ha,r⟩:=bx.lst
   cases cL.int
   obtain⟨v,e1,r1⟩:=Zw r h
   exact .inl (.inl ⟨a,vs,_,v,rfl,rfl,bC.of ha,e1,q _ _ (aO.refl _ _) ⟨S,r1⟩⟩)
  ·obtain⟨a,vs,rfl,ha,r⟩:=bx.tup
   cases cL.int
   obtain⟨v,e1,r1⟩:=Zw r h
   exact .inl (.inr (.inl ⟨a,vs,_,v,rfl,rfl,cF.of ha,e1,q _ _ (aO.refl _ _) ⟨S,r1⟩⟩))
  ·split at h
   ·rename_i z i hz;cases bx.str;cases cL.int;cases hc:eN z.cps.toList i with
    |none=>rw[hc] at h;cases h
    |some c=>
     rw[hc] at h;cases h;exact .inl (.inr (.inr ⟨z,i,c,rfl,rfl,qi hz,hc,q _ _ (aO.refl _ _) (gA S rfl rfl)⟩))
   ·cases h
  ·split at h
   ·rename_i kvs e' hl;cases h
    obtain⟨a,r,rfl,g,hq⟩:=bx.get cL hl
    rcases hq with⟨v,rfl,d',e1,r1,g1⟩|⟨_,e1⟩
    ·cases e1;exact .inr ⟨a,v,rfl,g1,q _ _ (aO.refl _ _) ⟨S,r1⟩⟩
    ·cases e1
   ·cases h
  ·cases h
def truD:aj→Option Bool
 |.none=>some false
 |.bool b=>some b
 |.int i=>some (i != 0)
 |.str x=>if x.length≤LIM then some ((x.length:Int) != 0) else none
 |.list ds=>some (!ds.isEmpty)
 |.tuple ds=>some (!ds.isEmpty)
 |.dict kvs=>if(cD cJ kvs).isSome then some (!kvs.isEmpty) else none
def fTru(f:FB):FT:=fun env C=>match f env C with
 |some (d,_,C')=>match truD d with
  |some b=>some (b,C')
  |none=>none
 |none=>none
def fTst(f:FE):FT:=fun env C=>match f env C with
 |some (.im (.bool b),_,C')=>some (b,C')
 |_=>none
def xR(f:FT):FT:=fun env C=>match f env C with
 |some (b,C')=>some (!b,C')
 |none=>none
def lN(f g:FT):FT:=fun env C=>match f env C with
 |some (true,C')=>g env C'
 |some (false,C')=>some (false,C')
 |none=>none
def qQ(f g:FT):FT:=fun env C=>match f env C with
 |some (true,C')=>some (true,C')
 |some (false,C')=>g env C'
 |none=>none
theorem aka{K:aC}{Z Θ:List aa}{env:En}{σ:St}{H:Hp}{x:V}{d:aj}{b:Bool}(h:dZ Z Θ env σ H d x)(e:truD d=some b):RJ K x H b:=by
 cases d with
 |none=>cases e;cases(show x=_ from h);rfl
 |bool c=>cases e;cases(show x=_ from h);rfl
 |int i=>cases e;cases(show x=_ from h);rfl
 |str z=>
  simp only[truD] at e;split at e
  ·rename_i hz;cases e;cases(show x=_ from h);exact⟨qi hz,rfl⟩
  ·cases e
 |list ds=>
  cases e
  obtain⟨a,vs,rfl,ha,r⟩:=h.lst
  refine .inl ⟨vs,bC.of ha,?_⟩;have:=gm r;cases ds<;>cases vs<;>first|rfl|cases this
 |tuple ds=>
  cases e
  obtain⟨a,vs,rfl,ha,r⟩:=h.tup
  refine .inr (.inl ⟨vs,cF.of ha,?_⟩);have:=gm r;cases ds<;>cases vs<;>first|rfl|cases this
 |dict kvs=>
  simp only[truD] at e;split at e
  ·rename_i hs;cases e
   obtain⟨a,vs,rfl,da,r⟩:=h.dct
   rcases da with⟨ks,h1,ha⟩|⟨ks,⟨ne,h2⟩,ha⟩
   ·refine .inr (.inr ⟨_,ha,?_⟩);have l1:=vh h1;have l2:=BX r;cases kvs<;>cases ks<;>cases vs<;>first|rfl|cases l1|cases l2
   ·obtain⟨ks',h1⟩:=uL.mp hs
    exact absurd (vm h1 h2) ne
  ·cases e
section
variable{X:Cx}{a b:Expr}{pos:Pos}
theorem rT(h:PE X a (dm X.K f))(he:∀whole,isTrue a X.env whole=(do let v ←whole;rM a.pos;pF [v] (truthy v)):=by intro _;rfl):PT X a (eU X.K (fTru f)):=
 (agZ h he).weak fun σ H Q aJ=>by
  obtain⟨Z,Θ,env,C,b,C',S,hf,q⟩:=aJ
  unfold fTru at hf;split at hf
  ·rename_i d e1 C1 h1;split at hf
   ·rename_i b' hb;cases hf
    exact⟨Z,Θ,env,C,d,e1,C',S,h1,fun v H' k f S' bo=>⟨b,aka bo hb,q H' k (S.go k S'.cell)⟩⟩
   ·cases hf
  ·cases hf
theorem Yi{K:aC}{t:TE}{f:FE}(w:∀σ H Q,tE K f σ H Q→t σ H Q):∀σ H Q,eU K (fTst f) σ H Q→Q7 t σ H Q:=by
 rintro σ H Q ⟨Z,Θ,env,C,b,C',S,hf,q⟩;unfold fTst at hf;split at hf
 ·rename_i b' e1 C1 h1;cases hf;refine w _ _ _ ⟨Z,Θ,env,C,.im (.bool b),e1,C',S,h1,fun v H' k f R=>?_⟩
  obtain⟨S',r⟩:=R
  exact⟨b,r,q H' k (S.go k S'.cell)⟩
 ·cases hf
theorem fQ(ho:cz X (dH o) r)(L:fJ X.K r op)(ha:PE X a (dm X.K fa))(hb:PE X b (dm X.K fb))(hm:Bc o b=false):
  PT X (.Compare a [o] [b] pos) (eU X.K (fTst (aH op fa fb))):=(ah9 ho ha hb hm).weak (Yi (Hz L))
theorem Qz(h:PT X a (eU X.K f)):PT X (.UnaryOp .Not a pos) (eU X.K (xR f)):=(ajw h).weak fun σ H Q aJ=>by
 obtain⟨Z,Θ,env,C,b,C',S,hf,q⟩:=aJ
 unfold xR at hf;split at hf
 ·rename_i b' C1 h1;cases hf
  exact⟨Z,Θ,env,C,b',C',S,h1,q⟩
 ·cases hf
theorem ahl{K:aC}{f g:FT}:∀σ H Q,eU K (lN f g) σ H Q→abe (eU K f) (eU K g) σ H Q:=by
 rintro σ H Q ⟨Z,Θ,env,C,b,C',S,hf,q⟩;unfold lN at hf;split at hf
 ·rename_i C1 h1
  exact⟨Z,Θ,env,C,true,C1,S,h1,fun H1 k1 S1=>vU ⟨Z,Θ,env,C1,b,C',S1,hf,fun H2 k2 S2=>q H2 (k1.trans k2) S2⟩⟩
 ·rename_i C1 h1;cases hf
  exact⟨Z,Θ,env,C,false,C',S,h1,fun H1 k1 S1=>vR (q H1 k1 S1)⟩
 ·cases hf
theorem aiH{K:aC}{f g:FT}:∀σ H Q,eU K (qQ f g) σ H Q→tOr (eU K f) (eU K g) σ H Q:=by
 rintro σ H Q ⟨Z,Θ,env,C,b,C',S,hf,q⟩;unfold qQ at hf;split at hf
 ·rename_i C1 h1;cases hf
  exact⟨Z,Θ,env,C,true,C',S,h1,fun H1 k1 S1=>vU (q H1 k1 S1)⟩
 ·rename_i C1 h1
  exact⟨Z,Θ,env,C,false,C1,S,h1,fun H1 k1 S1=>vR ⟨Z,Θ,env,C1,b,C',S1,hf,fun H2 k2 S2=>q H2 (k1.trans k2) S2⟩⟩
 ·cases hf
variable{rest:List Expr}
theorem Ca(h:PT X a (eU X.K f)):PW X (.BoolOp .And [a] pos) (eU X.K f):=pw_and1 h
theorem CQ(h:PT X a (eU X.K f)):PW X (.BoolOp .Or [a] pos) (eU X.K f):=pw_or1 h
theorem ud(h:PT X a (eU X.K f))(hb:PW X (.BoolOp .And (b::rest) pos) (eU X.K g)):PW X (.BoolOp .And (a::b::rest) pos) (eU X.K (lN f g)):=(pw_and h hb).weak ahl
theorem zV(h:PT X a (eU X.K f))(hb:PW X (.BoolOp .Or (b::rest) pos) (eU X.K g)):PW X (.BoolOp .Or (a::b::rest) pos) (eU X.K (qQ f g)):=(pw_or h hb).weak aiH
end
def vW(op op':aj→aj→Option Vl)(fa fb fc:FB):FE:=fun env C=>match fa env C with
 |some (x,e1,C1)=>match fb e1 C1 with
  |some (y,e2,C2)=>match op x y with
   |some (.im (.bool true))=>match fc e2 C2 with
    |some (z,e3,C3)=>match op' y z with
     |some (.im (.bool b))=>some (.im (.bool b),env,C3)
     |_=>none
    |none=>none
   |some (.im (.bool false))=>some (.im (.bool false),env,C2)
   |_=>none
  |none=>none
 |none=>none
theorem Yj{K:aC}{r r':R2}{op op':aj→aj→Option Vl}(L:fJ K r op)(L':fJ K r' op'){fa fb fc:FB}:∀σ H Q,tE K (vW op op' fa fb fc) σ H Q→Qp r r' (dm K fa) (dm K fb) (dm K fc) σ H Q:=by
 rintro σ H Q ⟨Z,Θ,env,C,res,env',C',S,hf,q⟩;unfold vW at hf;split at hf
 ·rename_i x e1 C1 h1;split at hf
  ·rename_i y e2 C2 h2
   refine⟨Z,Θ,env,C,x,e1,C1,S,h1,fun v H1 k1 f1 S1 b1=>⟨Z,Θ,e1,C1,y,e2,C2,S1,h2,fun u H2 k2 f2 S2 b2=>?_⟩⟩
   split at hf
   ·rename_i h3;split at hf
    ·rename_i z e3 C3 h4;split at hf
     ·rename_i b h5;cases hf;refine L Z Θ e2 C2 σ H2 v u x y _ S2 (b1.go S1 k2 f2) b2 h3 _ fun w H3 k3 R=>⟨true,R.2,vU ⟨Z,Θ,e2,C2,z,e3,C',R.1,h4,fun w2 H4 k4 f4 S4 b4=>?_⟩⟩
      refine L' Z Θ e3 C' σ H4 u w2 y z _ S4 ((b2.go S2 k3 (Fz.refl _)).go R.1 k4 f4) b4 h5 Q fun w3 H5 k5 R5=>?_
      have k:=(((k1.trans k2).trans k3).trans k4).trans k5;exact q w3 H5 k (Fz.refl _) ⟨S.go k R5.1.cell,R5.2⟩
     ·cases hf
    ·cases hf
   ·rename_i h3;cases hf;refine L Z Θ e2 C' σ H2 v u x y _ S2 (b1.go S1 k2 f2) b2 h3 _ fun w H3 k3 R=>⟨false,R.2,vR ?_⟩
    have k:=(k1.trans k2).trans k3;exact q _ H3 k (Fz.refl _) ⟨S.go k R.1.cell,rfl⟩
   ·cases hf
  ·cases hf
 ·cases hf
section
variable{X:Cx}{a b c:Expr}{pos:Pos}{r r':R2}{o o':CmpOp}{op op':aj→aj→Option Vl}{fa fb fc:FB}
theorem akb(ho:cz X (dH o) r)(L:fJ X.K r op)(ho':cz X (dH o') r')(L':fJ X.K r' op')(ha:PE X a (dm X.K fa))(hb:PE X b (dm X.K fb))(hc:PE X c (dm X.K fc))
  (hm:M5 [o,o'] [b,c]=false:=by with_unfolding_all rfl):PE X (.Compare a [o,o'] [b,c] pos) (tE X.K (vW op op' fa fb fc)):=(agX ho ho' ha hb hc hm).weak (Yj L L')
theorem akc(ho:cz X (dH o) r)(L:fJ X.K r op)(ho':cz X (dH o') r')(L':fJ X.K r' op')(ha:PE X a (dm X.K fa))(hb:PE X b (dm X.K fb))(hc:PE X c (dm X.K fc))
  (hm:M5 [o,o'] [b,c]=false:=by with_unfolding_all rfl):PT X (.Compare a [o,o'] [b,c] pos) (eU X.K (fTst (vW op op' fa fb fc))):=(agY ho ho' ha hb hc hm).weak (Yi (Yj L L'))
end
def qK(f g:FE):FE:=fun env C=>match f env C with
 |some (.im (.bool true),_,C')=>g env C'
 |some (.im (.bool false),_,C')=>some (.im (.bool false),env,C')
 |_=>none
def Ji(f:FE):FE:=fun env C=>match f env C with
 |some (.im (.bool b),_,C')=>some (.im (.bool (!b)),env,C')
 |_=>none
def yh(c:FT)(f g:FE):FE:=fun env C=>match c env C with
 |some (true,C')=>f env C'
 |some (false,C')=>g env C'
 |none=>none
def fNeg(f:FB):FE:=fun env C=>match f env C with
 |some (.int i,_,C')=>some (.im (.int (-i)),env,C')
 |_=>none
section
variable{X:Cx}{a b c:Expr}{pos:Pos}{rest:List Expr}
theorem CT{o}(h:PE X a (tE X.K f)):PE X (.BoolOp o [a] pos) (tE X.K f):=ajx h
theorem zL(ha:PE X a (tE X.K f))(hb:PE X (.BoolOp .And (b::rest) pos) (tE X.K g)):PE X (.BoolOp .And (a::b::rest) pos) (tE X.K (qK f g)):=(ajy ha hb).weak fun σ H Q aJ=>by
 obtain⟨Z,Θ,env,C,r,env',C',S,hf,q⟩:=aJ
 unfold qK at hf;split at hf
 ·rename_i e1 C1 h1
  refine⟨Z,Θ,env,C,_,e1,C1,S,h1,fun v H1 k1 f1 R1=>⟨true,R1.2,vU ⟨Z,Θ,env,C1,r,env',C',S.go k1 R1.1.cell,hf,fun w H2 k2 f2 R2=>q w H2 (k1.trans k2) f2 (R2.from k1)⟩⟩⟩
 ·rename_i e1 C1 h1;cases hf
  exact⟨Z,Θ,env,C,_,e1,C',S,h1,fun v H1 k1 f1 R1=>⟨false,R1.2,vR (q _ H1 k1 (Fz.refl _) ⟨S.go k1 R1.1.cell,rfl⟩)⟩⟩
 ·cases hf
theorem akd(ha:PE X a (tE X.K f)):PE X (.UnaryOp .Not a pos) (tE X.K (Ji f)):=(ajz ha).weak fun σ H Q aJ=>by
 obtain⟨Z,Θ,env,C,r,env',C',S,hf,q⟩:=aJ
 unfold Ji at hf;split at hf
 ·rename_i b e1 C1 h1;cases hf
  exact⟨Z,Θ,env,C,_,e1,C',S,h1,fun v H1 k1 f1 R1=>⟨b,R1.2,q _ H1 k1 (Fz.refl _) ⟨S.go k1 R1.1.cell,rfl⟩⟩⟩
 ·cases hf
theorem aa1(hc:PT X c (eU X.K t))(ha:PE X a (tE X.K f))(hb:PE X b (tE X.K g)):PE X (.IfExp c a b pos) (tE X.K (yh t f g)):=(agU hc ha hb).weak fun σ H Q aJ=>by
 obtain⟨Z,Θ,env,C,r,env',C',S,hf,q⟩:=aJ
 unfold yh at hf;split at hf
 ·rename_i C1 h1
  exact⟨Z,Θ,env,C,true,C1,S,h1,fun H1 k1 S1=>vU ⟨Z,Θ,env,C1,r,env',C',S1,hf,fun w H2 k2 f2 R2=>q w H2 (k1.trans k2) f2 (R2.from k1)⟩⟩
 ·rename_i C1 h1
  exact⟨Z,Θ,env,C,false,C1,S,h1,fun H1 k1 S1=>vR ⟨Z,Θ,env,C1,r,env',C',S1,hf,fun w H2 k2 f2 R2=>q w H2 (k1.trans k2) f2 (R2.from k1)⟩⟩
 ·cases hf
end
def ug(K:aC)(E:Hp)(Θ:List aa):Vl→V→Prop
 |.im d,v=>RZ E d v
 |.ow _,_=>False
 |.ce n,v=>∃a,v=.ref a∧Θ[n]?=some a
 |.sc ns,v=>∃a,v=.ref a∧bC K E a (ns.map V.int)
inductive pJ(K:aC)(E:Hp)(Θ:List aa):List Vl→List V→Prop
 |nil:pJ K E Θ [] []
 |cons {x:Vl} {v:V} {xs:List Vl} {vs:List V}:ug K E Θ x v→pJ K E Θ xs vs→pJ K E Θ (x::xs) (v::vs)
theorem ug.same{K:aC}{E E':Hp}{Θ:List aa}(s:bh E E'){x:Vl}{v:V}(h:ug K E Θ x v):ug K E' Θ x v:=by
 cases x with
 |im d=>exact RZ.same s h
 |ow d=>exact h
 |ce n=>exact h
 |sc ns=>obtain⟨a,e,q⟩:=h;exact⟨a,e,s.seq q⟩
theorem pJ.same{K:aC}{E E':Hp}{Θ:List aa}(s:bh E E'){xs:List Vl}{vs:List V}(h:pJ K E Θ xs vs):pJ K E' Θ xs vs:=by
 induction h with
 |nil=>exact .nil
 |cons a _ ih=>exact .cons (a.same s) ih
inductive wG(K:aC)(f:FA)(σ:St)(H:Hp)(Q:List V→Hp→Prop):Prop
 |mk (Z Θ:List aa) (env:En) (C:Ce) (xs:List Vl) (env':En) (C':Ce) (S:Sm K Z Θ env C σ H) (hf:f env C=some (xs,env',C')) (q:∀vs H',aO Θ H H'→Fz env env'→Sm K Z Θ env' C' σ H'→pJ K (er (aQ Z Θ env' σ) H') Θ xs vs→Q vs H'):wG K f σ H Q
def aNil:FA:=fun env C=>some ([],env,C)
def aCons(f:FE)(g:FA):FA:=fun env C=>match f env C with
 |some (r,e1,C1)=>match g e1 C1 with
  |some (xs,e2,C2)=>some (still r::xs,e2,C2)
  |none=>none
 |none=>none
def bNil:wF:=fun env C=>some ([],env,C)
def bCons(f:FB)(g:wF):wF:=fun env C=>match f env C with
 |some (d,e1,C1)=>match g e1 C1 with
  |some (ds,e2,C2)=>some (d::ds,e2,C2)
  |none=>none
 |none=>none
theorem Res.arg{K:aC}{Z Θ:List aa}{env:En}{C:Ce}{σ:St}{H H':Hp}{r:Vl}{v:V}(h:Res K Z Θ env C σ H H' r v):Sm K Z Θ env C σ H'∧ug K (er (aQ Z Θ env σ) H') Θ (L2.still r) v:=by
 have g:=h.still;cases r with
 |im d=>exact g
 |ow d=>exact g
 |ce n=>exact g
 |sc ns=>exact g
theorem yg.same(s:bh E E')(t:bh T T')(h:yg E T ds vs):yg E' T' ds vs:=by
 induction h with
 |nil=>exact .nil
 |cons a _ ih=>exact .cons (a.same s t) ih
section
variable{X:Cx}{e:Expr}{es:List Expr}{pos:Pos}
theorem aW:PA X [] (wG X.K aNil):=ou.weak fun σ H Q aJ=>by
 obtain⟨Z,Θ,env,C,xs,env',C',S,hf,q⟩:=aJ
 cases hf;exact q [] H (aO.refl _ _) (Fz.refl _) S .nil
theorem aG{f:FE}{g:FA}(h:PE X e (tE X.K f))(hr:PA X es (wG X.K g))(hs:aZ (e::es) X.env=(false,eval e X.env)::aZ es X.env:=by rfl):PA X (e::es) (wG X.K (aCons f g)):=(lK h hr hs).weak fun σ H Q aJ=>by
 obtain⟨Z,Θ,env,C,xs,env',C',S,hf,q⟩:=aJ
 unfold aCons at hf;split at hf
 ·rename_i r e1 C1 h1;split at hf
  ·rename_i ys e2 C2 h2;cases hf
   refine⟨Z,Θ,env,C,r,e1,C1,S,h1,fun v H1 k1 f1 R1=>?_⟩
   obtain⟨S1,a1⟩:=R1.arg
   exact⟨Z,Θ,e1,C1,ys,env',C',S1,h2,fun vs H2 k2 f2 S2 a2=>q _ H2 (k1.trans k2) (f1.trans f2) S2 (.cons (a1.same (Rf S1 k2 f2)) a2)⟩
  ·cases hf
 ·cases hf
theorem dY:PA X [] (uI X.K bNil):=ou.weak fun σ H Q aJ=>by
 obtain⟨Z,Θ,env,C,xs,env',C',S,hf,q⟩:=aJ
 cases hf;exact q [] H (aO.refl _ _) (Fz.refl _) S .nil
theorem cX(h:PE X e (dm X.K f))(hr:PA X es (uI X.K g))(hs:aZ (e::es) X.env=(false,eval e X.env)::aZ es X.env:=by rfl):PA X (e::es) (uI X.K (bCons f g)):=(lK h hr hs).weak fun σ H Q aJ=>by
 obtain⟨Z,Θ,env,C,xs,env',C',S,hf,q⟩:=aJ
 unfold bCons at hf;split at hf
 ·rename_i d e1 C1 h1;split at hf
  ·rename_i ys e2 C2 h2;cases hf
   exact⟨Z,Θ,env,C,d,e1,C1,S,h1,fun v H1 k1 f1 S1 b1=>⟨Z,Θ,e1,C1,ys,env',C',S1,h2,fun vs H2 k2 f2 S2 b2=>q _ H2 (k1.trans k2) (f1.trans f2) S2 (.cons (b1.go S1 k2 f2) b2)⟩⟩
  ·cases hf
 ·cases hf
end
def allIm:List Vl→Option (List aj)
 |[]=>some []
 |.im d::r=>match allIm r with
  |some ds=>some (d::ds)
  |none=>none
 |_=>none
theorem Oc{K:aC}{E:Hp}{Θ:List aa}:∀{xs:List Vl}{ds:List aj}{vs:List V},allIm xs=some ds→pJ K E Θ xs vs→bV E ds vs
 |[],ds,vs,h,a=>by cases h;cases a;rfl
 |.im d::r,ds,vs,h,a=>by
  unfold allIm at h;split at h
  ·rename_i t ht;cases h;cases a with
   |cons a1 a2=>exact⟨_,_,rfl,a1,Oc ht a2⟩
  ·cases h
 |.ow _::r,ds,vs,h,a=>by cases h
 |.ce _::r,ds,vs,h,a=>by cases h
 |.sc _::r,ds,vs,h,a=>by cases h
def fLst(g:FA):FE:=fun env C=>match g env C with
 |some (xs,e',C')=>match allIm xs with
  |some ds=>if ds.length≤LIM then some (.ow (.list ds),e',C') else none
  |none=>none
 |none=>none
def fTup(g:FA):FE:=fun env C=>match g env C with
 |some (xs,e',C')=>match allIm xs with
  |some ds=>if ds.length≤LIM then some (.im (.tuple ds),e',C') else none
  |none=>none
 |none=>none
section
variable{X:Cx}{e:Expr}{es:List Expr}{pos:Pos}
theorem jh{g:FA}(h:PA X es (wG X.K g)):PE X (.List es pos) (tE X.K (fLst g)):=(ajH h).weak fun σ H Q aJ=>by
 obtain⟨Z,Θ,env,C,r,env',C',S,hf,q⟩:=aJ
 unfold fLst at hf;split at hf
 ·rename_i xs e1 C1 h1;split at hf
  ·rename_i ds hd;split at hf
   ·rename_i hl;cases hf
    refine⟨Z,Θ,env,C,xs,env',C',S,h1,fun vs H1 k1 f1 S1 a1=>?_⟩
    have r:=Oc hd a1
    exact⟨by rw[gm r];exact qi hl,fun p hp=>q _ _ (k1.trans (aO.upd hp)) f1 ((tW S1 r hp).from k1)⟩
   ·cases hf
  ·cases hf
 ·cases hf
theorem mH{x1}{g:FA}(h:PA X es (wG X.K g)):PE X (.Tuple es x1 pos) (tE X.K (fTup g)):=(Qs h).weak fun σ H Q aJ=>by
 obtain⟨Z,Θ,env,C,r,env',C',S,hf,q⟩:=aJ
 unfold fTup at hf;split at hf
 ·rename_i xs e1 C1 h1;split at hf
  ·rename_i ds hd;split at hf
   ·rename_i hl;cases hf
    refine⟨Z,Θ,env,C,xs,env',C',S,h1,fun vs H1 k1 f1 S1 a1=>?_⟩
    have r:=Oc hd a1
    exact⟨by rw[gm r];exact qi hl,fun p hp=>q _ _ (k1.trans (aO.upd hp)) f1 ((H9 S1 r hp).from k1)⟩
   ·cases hf
  ·cases hf
 ·cases hf
def CV:FE:=fun env C=>some (.ow (.dict []),env,C)
theorem Yk:PE X (.Dict [] [] pos) (tE X.K CV):=ag3.weak fun σ H Q aJ=>by
 obtain⟨Z,Θ,env,C,r,env',C',S,hf,q⟩:=aJ
 cases hf;exact fun p hp=>q _ _ (aO.upd hp) (Fz.refl _) (aiC (vs:=[]) S (fun _ z=>nomatch z) (.inl ⟨[],rfl,dI⟩) rfl hp)
end
def nG(K:aC)(r:List V→Hp→VK→Prop)(op:List aj→Option Vl):Prop:=
 ∀(Z Θ:List aa)(env:En)(C:Ce)(σ:St)(H:Hp)(xs:List V)(ds:List aj)(res:Vl),Sm K Z Θ env C σ H→Jh Z Θ env σ H ds xs→op ds=some res→
  ∀Q:VK,(∀v H',aO Θ H H'→Res K Z Θ env C σ H H' res v→Q v H')→r xs H Q
def fFun(op:List aj→Option Vl)(g:wF):FE:=fun env C=>match g env C with
 |some (ds,e',C')=>match op ds with
  |some r=>some (r,rst r env e',C')
  |none=>none
 |none=>none
theorem Yl{K:aC}{r:List V→Hp→VK→Prop}{op:List aj→Option Vl}(L:nG K r op){g:wF}:∀σ H Q,tE K (fFun op g) σ H Q→Sq r (uI K g) σ H Q:=by
 rintro σ H Q ⟨Z,Θ,env,C,res,env',C',S,hf,q⟩;unfold fFun at hf;split at hf
 ·rename_i ds e1 C1 h1;split at hf
  ·rename_i r0 h2;cases hf
   refine⟨Z,Θ,env,C,ds,e1,C',S,h1,fun vs H1 k1 f1 S1 b1=>L Z Θ e1 C' σ H1 vs ds res S1 b1 h2 Q fun z H2 k2 R=>?_⟩
   exact q z H2 (k1.trans k2) (f1.rst res) ((R.from k1).rst S (k1.trans k2))
  ·cases hf
 ·cases hf
section
variable{X:Cx}{x:Str}{p pos:Pos}{e:Expr}{es:List Expr}{g:wF}{id T:String}{r:List V→Hp→VK→Prop}{op:List aj→Option Vl}
theorem gK(hc:gQ X (.builtin id) r)(L:nG X.K r op)(hg:Gl X x)(hm:X.mg x=none)(hv:rF x=some (.builtin id))(ha:PA X (e::es) (uI X.K g))(hn:x≠"__name__":=by decide)(hdb:(x==("__debug__":Str))=false:=by decide)
  (he:aZ (e::es) X.env=(false,eval e X.env)::aZ es X.env:=by rfl)(hpl:(fK pos (aZ es X.env)).any (·.1)=false:=by rfl):PE X (.Call (.Name x p) (e::es) [] pos) (tE X.K (fFun op g)):=(Hr hc hg hm hv ha hn hdb he hpl).weak (Yl L)
theorem vo(hc:gQ X (.type T) r)(L:nG X.K r op)(hg:Gl X x)(hm:X.mg x=none)(hv:rF x=some (.type T))(ha:PA X (e::es) (uI X.K g))(hn:x≠"__name__":=by decide)(hdb:(x==("__debug__":Str))=false:=by decide)
  (he:aZ (e::es) X.env=(false,eval e X.env)::aZ es X.env:=by rfl)(hpl:(fK pos (aZ es X.env)).any (·.1)=false:=by rfl):PE X (.Call (.Name x p) (e::es) [] pos) (tE X.K (fFun op g)):=(af4 hc hg hm hv ha hn hdb he hpl).weak (Yl L)
end
abbrev FN:=List Vl→Ce→Option (Vl×Ce)
def spT(K:aC)(f:FN):Sp:=fun vs H Q _=>∃Z Θ C xs r C',Sm K Z Θ [] C [] H∧pJ K (er (aQ Z Θ [] []) H) Θ xs vs∧f xs C=some (r,C')∧
 ∀v H',aO Θ H H'→Res K Z Θ [] C' [] H H' r v→Q v H'
def fCal(f:FN)(g:FA):FE:=fun env C=>match g env C with
 |some (xs,e',C1)=>match f xs C1 with
  |some (r,C2)=>some (r,rst r env e',C2)
  |none=>none
 |none=>none
theorem qD(h:∀a,a∈P↔a∈P'):er P H=er P' H:=by
 funext b;unfold er;by_cases hb:b∈P
 ·rw[if_pos hb,if_pos ((h b).mp hb)]
 ·rw[if_neg hb,if_neg (fun z=>hb ((h b).mpr z))]
theorem Pn(a:aa):a∈aQ (Z++bz env σ) Θ [] []↔a∈aQ Z Θ env σ:=by
 simp only[aQ,bz,cI,jP];constructor
 ·rintro((h|h)|h)
  ·exact .inl h
  ·exact .inr (.inr h)
  ·exact .inr (.inl h)
 ·rintro(h|h|h)
  ·exact .inl (.inl h)
  ·exact .inr h
  ·exact .inl (.inr h)
section
variable{K:aC}{Z Θ:List aa}{env:En}{C C':Ce}{σ:St}{H H':Hp}{a:aa}
theorem Sm.xT(S:Sm K Z Θ env C σ H)(ha:H a=none)(k:aO Θ H H')(h':NT (H' a))(c:nj Θ C' H'):Sm K (a::Z) Θ env C' σ H':=by
 have sm:bh (er (aQ Z Θ env σ) H) (er (aQ (a::Z) Θ env σ) H'):=jU k S.pW fun b m=>by
  rcases bL.mp m with rfl|m
  ·exact .inr ha
  ·exact .inl m
 refine⟨S.len,jC.mpr ⟨fun m=>S.yf a m ha,S.nd⟩,fun b m=>?_,fun i x e=>?_,c⟩
 ·rcases bL.mp m with rfl|m
  ·exact h'
  ·obtain⟨u,e,n⟩:=S.dom b m
   exact⟨u,k.keep _ _ e fun z=>by
    have h:=S.nd;rw[j4] at h;exact h.2.2 b m b (gh _ z) rfl,n⟩
 ·obtain⟨v,e1,r⟩:=S.slot i x e
  refine⟨v,e1,r.same sm fun d b ex ev o' ho=>k.keep _ _ ho ?_⟩
  subst ex ev
  exact(S.mG (kW.mpr ⟨i,d,e,e1⟩)).2
theorem Sm.bare(S:Sm K Z Θ env C σ H):Sm K (Z++bz env σ) Θ [] C [] H:=by
 refine⟨rfl,?_,fun b m=>?_,fun i x e=>by simp at e,S.cell⟩
 ·have h:=S.nd
  show((Z++bz env σ)++(Θ++[])).Nodup
  rw[jP,j0];have p:(Z++(Θ++bz env σ)).Perm (Z++(bz env σ++Θ)):=ac1 Z List.perm_append_comm;exact p.nodup h
 ·rcases cI.mp m with m|m
  ·exact S.dom b m
  ·exact S.JM b (dN _ (dN _ m))
theorem Res.back(S:Sm K Z Θ env C σ H)(k:aO Θ H H')(h:Res K (Z++bz env σ) Θ [] C' [] H H' r v):Res K Z Θ env C' σ H H' r v:=by
 have e1:er (aQ (Z++bz env σ) Θ [] []) H'=er (aQ Z Θ env σ) H':=qD Pn;cases r with
 |im d=>
  obtain⟨S',r⟩:=h
  rw[e1] at r
  exact⟨S.go k S'.cell,r⟩
 |ow d=>
  obtain⟨a,rfl,hn,S',r⟩:=h
  have e2:er (aQ (a::(Z++bz env σ)) Θ [] []) H'=er (aQ (a::Z) Θ env σ) H':=qD fun b=>by
   show b∈a::aQ (Z++bz env σ) Θ [] []↔b∈a::aQ Z Θ env σ;rw[bL,bL,Pn]
  rw[e2] at r
  exact⟨a,rfl,hn,S.xT hn k (S'.dom a fj) S'.cell,r⟩
 |ce n=>exact⟨S.go k h.1.cell,h.2⟩
 |sc ns=>
  obtain⟨S',a,rfl,q⟩:=h
  rw[e1] at q
  exact⟨S.go k S'.cell,a,rfl,q⟩
end
section
variable{X:Cx}{x:Str}{k:Nat}{ps:List Str}{p pos:Pos}{e:Expr}{es:List Expr}{f:FN}{g:FA}
theorem ahm{K:aC}:∀σ H Q,tE K (fCal f g) σ H Q→Q8 (spT K f) [] E0 (wG K g) σ H Q:=by
 rintro σ H Q ⟨Z,Θ,env,C,res,env',C',S,hf,q⟩;unfold fCal at hf;split at hf
 ·rename_i xs e1 C1 h1;split at hf
  ·rename_i r C2 h2;cases hf
   refine⟨Z,Θ,env,C,xs,e1,C1,S,h1,fun vs H1 k1 f1 S1 a1=>?_⟩
   show spT K f (vs++[]) H1 Q E0;rw[jP];have e2:er (aQ (Z++bz e1 σ) Θ [] []) H1=er (aQ Z Θ e1 σ) H1:=qD Pn;rw[←e2] at a1
   exact⟨Z++bz e1 σ,Θ,C1,xs,res,C',S1.bare,a1,h2,fun v H2 k2 R=>q v H2 (k1.trans k2) (f1.rst res) (((R.back S1 k2).from k1).rst S (k1.trans k2))⟩
  ·cases hf
 ·cases hf
theorem bK(F:dD X.prog X.w X.K X.mg X.base x k ps (spT X.K f))(hr:gC k X.A)(hg:Gl X x)(ha:PA X (e::es) (wG X.K g))(hdb:(x==("__debug__":Str))=false:=by decide)
  (he:aZ (e::es) X.env=(false,eval e X.env)::aZ es X.env:=by rfl)(hpl:(fK pos (aZ es X.env)).any (·.1)=false:=by rfl):PE X (.Call (.Name x p) (e::es) [] pos) (tE X.K (fCal f g)):=(ala F hr hg ha hdb he hpl).weak ahm
end
theorem Nj:∀{env:En}{σ:St},(∀(i j:Nat)(d e:aj)(a:aa),env[i]?=some (some (Vl.ow d))→σ[i]?=some (some (V.ref a))→env[j]?=some (some (Vl.ow e))→σ[j]?=some (some (V.ref a))→i=j)→(bz env σ).Nodup
 |[],σ,_=>by cases σ<;>exact oZ
 |_::_,[],_=>oZ
 |x::en,v::s,h=>by
  rw[bz,j4]
  refine⟨?_,Nj fun i j d e a h1 h2 h3 h4=>?_,fun a ha b hb e=>?_⟩
  ·unfold own1;split
   ·exact jC.mpr ⟨by simp,oZ⟩
   ·exact oZ
  ·have:=h (i+1) (j+1) d e a (by simpa using h1) (by simpa using h2) (by simpa using h3) (by simpa using h4);omega
  ·subst e;unfold own1 at ha;split at ha
   ·rw[jm] at ha;subst ha
    obtain⟨j,d,h1,h2⟩:=kW.mp hb
    have:=h 0 (j+1) _ d a rfl rfl (by simpa using h1) (by simpa using h2);omega
   ·simp at ha
theorem get_set{α:Type}{l:List α}{i j:Nat}{x y:α}(h:(l.set i x)[j]?=some y):(j=i∧y=x∧i<l.length)∨(j≠i∧l[j]?=some y):=by
 by_cases e:i=j
 ·subst e;rw[An,if_pos rfl] at h;split at h
  ·rename_i hl;cases h;exact .inl ⟨rfl,rfl,hl⟩
  ·cases h
 ·rw[uM e] at h;exact .inr ⟨fun z=>e z.symm,h⟩
theorem Zx{α:Type}{l:List α}{i:Nat}{x:α}(h:i<l.length):(l.set i x)[i]?=some x:=by
 rw[An,if_pos rfl,if_pos h]
theorem vD{env:En}{σ:St}{i:Nat}{x:Vl}{v:V}{a:aa}(h:a∈bz (env.set i (some x)) (σ.set i (some v))):a∈bz env σ∨(∃d,x=.ow d)∧v=.ref a:=by
 obtain⟨j,d,h1,h2⟩:=kW.mp h
 rcases get_set h1 with⟨rfl,e,_⟩|⟨n,h1⟩
 ·rcases get_set h2 with⟨_,e2,_⟩|⟨n,_⟩
  ·cases e;cases e2;exact .inr ⟨⟨d,rfl⟩,rfl⟩
  ·exact absurd rfl n
 ·rcases get_set h2 with⟨e,_,_⟩|⟨_,h2⟩
  ·exact absurd e n
  ·exact .inl (kW.mpr ⟨j,d,h1,h2⟩)
section
variable{K:aC}{Z Θ:List aa}{env:En}{C:Ce}{σ:St}{H:Hp}{a:aa}{i:Nat}{v:V}
theorem Sm.cW(S:Sm K Z Θ env C σ H):Z.Nodup∧Θ.Nodup∧(bz env σ).Nodup∧(∀b∈Z,b∉Θ):=by
 have h:=S.nd;rw[j4,j4] at h
 obtain⟨h1,⟨h2,h3,_⟩,h4⟩:=h
 exact⟨h1,h2,h3,fun b m m'=>h4 b m b (gh _ m') rfl⟩
theorem yC(h1:Z.Nodup)(h2:Θ.Nodup)(h3:O.Nodup)(h4:∀b∈Z,b∉Θ)(h5:∀b∈O,b∉Z∧b∉Θ):(Z++(Θ++O)).Nodup:=by
 rw[j4,j4]
 refine⟨h1,⟨h2,h3,fun b m c m' e=>?_⟩,fun b m c m' e=>?_⟩
 ·subst e;exact(h5 b m').2 m
 ·subst e;rcases cI.mp m' with m'|m'
  ·exact h4 b m m'
  ·exact(h5 b m').1 m
theorem Sm.yj(S:Sm K Z Θ env C σ H){x:Vl}(hx:∀d,x≠.ow d)(r:Aa K (er (aQ Z Θ env σ) H) H Θ x v):Sm K Z Θ (env.set i (some x)) C (σ.set i (some v)) H:=by
 have sub:∀b,b∈bz (env.set i (some x)) (σ.set i (some v))→b∈bz env σ:=fun b m=>by
  rcases vD m with m|⟨⟨d,e⟩,_⟩
  ·exact m
  ·exact absurd e (hx d)
 have cW:=S.cW;have sm:bh (er (aQ Z Θ env σ) H) (er (aQ Z Θ (env.set i (some x)) (σ.set i (some v))) H):=rP fun b m=>by
  rcases cI.mp m with m|m
  ·exact gh _ m
  ·rcases cI.mp m with m|m
   ·exact dN _ (gh _ m)
   ·exact dN _ (dN _ (sub b m))
 refine⟨by rw[uT,uT];exact S.len,?_,S.dom,fun j y e=>?_,S.cell⟩
 ·refine yC cW.1 cW.2.1 (Nj fun p q d e b h1 h2 h3 h4=>?_) cW.2.2.2 fun b m=>S.mG (sub b m)
  rcases get_set h1 with⟨rfl,e1,_⟩|⟨n1,h1⟩
  ·cases e1;exact absurd rfl (hx d)
  ·rcases get_set h3 with⟨rfl,e1,_⟩|⟨n2,h3⟩
   ·cases e1;exact absurd rfl (hx e)
   ·rcases get_set h2 with⟨e2,_,_⟩|⟨_,h2⟩
    ·exact absurd e2 n1
    ·rcases get_set h4 with⟨e4,_,_⟩|⟨_,h4⟩
     ·exact absurd e4 n2
     ·exact BZ cW.2.2.1 h1 h2 h3 h4
 ·rcases get_set e with⟨rfl,e1,hl⟩|⟨n,e⟩
  ·cases e1
   exact⟨v,Zx (by rw[S.len];exact hl),r.same sm fun d b ex _=>absurd ex (hx d)⟩
  ·obtain⟨u,e1,r1⟩:=S.slot j y e
   exact⟨u,by rw[uM (jE n)];exact e1,r1.same sm fun _ _ _ _ _ h=>h⟩
theorem Sm.abD(S:Sm K (a::Z) Θ env C σ H){d:aj}(r:jH (er (aQ (a::Z) Θ env σ) H) H a d):Sm K Z Θ (env.set i (some (.ow d))) C (σ.set i (some (.ref a))) H:=by
 have sub:∀b,b∈bz (env.set i (some (.ow d))) (σ.set i (some (.ref a)))→b∈bz env σ∨b=a:=fun b m=>by
  rcases vD m with m|⟨_,e⟩
  ·exact .inl m
  ·cases e;exact .inr rfl
 have cW:=S.cW;have Ek:=jC.mp cW.1;have sm:bh (er (aQ (a::Z) Θ env σ) H) (er (aQ Z Θ (env.set i (some (.ow d))) (σ.set i (some (.ref a)))) H):=rP fun b m=>by
  rcases cI.mp m with m|m
  ·exact gh _ (eZ _ m)
  ·rcases cI.mp m with m|m
   ·exact dN _ (gh _ m)
   ·rcases sub b m with m|rfl
    ·exact dN _ (dN _ m)
    ·exact gh _ fj
 have abE:a∉bz env σ:=fun m=>(S.mG m).1 fj
 refine⟨by rw[uT,uT];exact S.len,?_,fun b m=>S.dom b (eZ _ m),fun j y e=>?_,S.cell⟩
 ·refine yC Ek.2 cW.2.1 (Nj fun p q d1 e b h1 h2 h3 h4=>?_) (fun b m=>cW.2.2.2 b (eZ _ m)) fun b m=>?_
  ·rcases get_set h1 with⟨rfl,e1,_⟩|⟨n1,h1⟩
   ·rcases get_set h3 with⟨e3,_,_⟩|⟨n2,h3⟩
    ·exact e3.symm
    ·rcases get_set h2 with⟨_,e2,_⟩|⟨n,_⟩
     ·cases e2;rcases get_set h4 with⟨e4,_,_⟩|⟨_,h4⟩
      ·exact e4.symm
      ·exact absurd (kW.mpr ⟨q,e,h3,h4⟩) abE
     ·exact absurd rfl n
   ·rcases get_set h2 with⟨e2,_,_⟩|⟨_,h2'⟩
    ·exact absurd e2 n1
    ·have mp:=kW.mpr ⟨p,d1,h1,h2'⟩;rcases get_set h3 with⟨rfl,e3,_⟩|⟨n2,h3⟩
     ·rcases get_set h4 with⟨_,e4,_⟩|⟨n,_⟩
      ·cases e4;exact absurd mp abE
      ·exact absurd rfl n
     ·rcases get_set h4 with⟨e4,_,_⟩|⟨_,h4⟩
      ·exact absurd e4 n2
      ·exact BZ cW.2.2.1 h1 h2' h3 h4
  ·rcases sub b m with m|rfl
   ·obtain⟨p,q⟩:=S.mG m
    exact⟨fun z=>p (eZ _ z),q⟩
   ·exact⟨Ek.1,cW.2.2.2 b fj⟩
 ·rcases get_set e with⟨rfl,e1,hl⟩|⟨n,e⟩
  ·cases e1
   exact⟨_,Zx (by rw[S.len];exact hl),a,rfl,r.same sm fun _ h=>h⟩
  ·obtain⟨u,e1,r1⟩:=S.slot j y e
   exact⟨u,by rw[uM (jE n)];exact e1,r1.same sm fun _ _ _ _ _ h=>h⟩
theorem Res.set(h:Res K Z Θ env C σ H0 H r v):Sm K Z Θ (env.set i (some r)) C (σ.set i (some v)) H:=by
 cases r with
 |im d=>exact h.1.yj (fun _ e=>nomatch e) h.2
 |ow d=>obtain⟨a,rfl,_,S,r⟩:=h;exact S.abD r
 |ce n=>exact h.1.yj (fun _ e=>nomatch e) h.2
 |sc ns=>exact h.1.yj (fun _ e=>nomatch e) h.2
end
inductive Fl where
 |nx|rt (r:Vl)|bk|ct
abbrev FS:=En→Ce→Option (Fl×En×Ce)
structure jB(Θ Θ':List aa)(H:Hp):Prop where
 ex:∃Δ,Θ'=Θ++Δ∧∀a∈Δ,H a=none
theorem jB.refl(Θ:List aa)(H:Hp):jB Θ Θ H:=⟨[],by rw[jP],fun _ m=>nomatch m⟩
structure cZ(K:aC)(Z Θ:List aa)(env:En)(σ:St)(H:Hp)(Θ':List aa)(env':En)(C':Ce)(σ':St)(H':Hp):Prop where
 th:jB Θ Θ' H
 kp:aO (Θ++bz env σ) H H'
 own:∀a∈bz env' σ',a∈bz env σ∨H a=none
 sm:Sm K Z Θ' env' C' σ' H'
def Jj(K:aC)(Z Θ:List aa)(C:Ce)(own:List aa)(H H':Hp):Vl→V→Prop
 |.im d,v=>Sm K Z Θ [] C [] H'∧RZ (er (aQ Z Θ [] []) H') d v
 |.ow d,v=>∃a,v=.ref a∧(a∈own∨H a=none)∧Sm K (a::Z) Θ [] C [] H'∧jH (er (aQ (a::Z) Θ [] []) H') H' a d
 |.ce n,v=>Sm K Z Θ [] C [] H'∧∃a,v=.ref a∧Θ[n]?=some a
 |.sc ns,v=>Sm K Z Θ [] C [] H'∧∃a,v=.ref a∧bC K (er (aQ Z Θ [] []) H') a (ns.map V.int)
structure SM(K:aC)(Z Θ:List aa)(env:En)(σ:St)(H:Hp)(Θ':List aa)(C':Ce)(r:Vl)(v:V)(H':Hp):Prop where
 th:jB Θ Θ' H
 kp:aO (Θ++bz env σ) H H'
 ok:Jj K Z Θ' C' (bz env σ) H H' r v
def Jq(K:aC)(Z Θ:List aa)(env:En)(σ:St)(H:Hp)(env':En)(C':Ce)(D:Ends):Fl→Prop
 |.nx=>∀Θ' σ' H',cZ K Z Θ env σ H Θ' env' C' σ' H'→D.nx σ' H'
 |.bk=>∀Θ' σ' H',cZ K Z Θ env σ H Θ' env' C' σ' H'→D.bk σ' H'
 |.ct=>∀Θ' σ' H',cZ K Z Θ env σ H Θ' env' C' σ' H'→D.ct σ' H'
 |.rt r=>∀Θ' v H',SM K Z Θ env σ H Θ' C' r v H'→D.rt v H'
inductive tS(K:aC)(f:FS)(D:Ends)(σ:St)(H:Hp):Prop
 |mk (Z Θ:List aa) (env:En) (C:Ce) (fl:Fl) (env':En) (C':Ce) (S:Sm K Z Θ env C σ H) (hf:f env C=some (fl,env',C')) (q:Jq K Z Θ env σ H env' C' D fl):tS K f D σ H
section
variable{K:aC}{Z Θ Θ1 Θ2:List aa}{env e1 e2:En}{C C1 C2:Ce}{σ σ1 σ2:St}{H H1 H2:Hp}
theorem jB.trans(h:jB Θ Θ1 H)(k:∀a,H a≠none→H1 a≠none)(g:jB Θ1 Θ2 H1):jB Θ Θ2 H:=by
 obtain⟨Δ,e,n⟩:=h.ex
 obtain⟨Δ',e',n'⟩:=g.ex
 refine⟨Δ++Δ',by rw[e',e,j0],fun a m=>?_⟩
 rcases cI.mp m with m|m
 ·exact n a m
 ·cases h:H a with
  |none=>rfl
  |some o=>exact absurd (n' a m) (k a (by rw[h];exact uQ _))
theorem Ym(th:jB Θ Θ1 H)(k1:aO (Θ++bz env σ) H H1)(ow:∀a∈bz e1 σ1,a∈bz env σ∨H a=none)(k2:aO (Θ1++bz e1 σ1) H1 H2):aO (Θ++bz env σ) H H2:=by
 refine⟨fun a o e n=>k2.keep a o (k1.keep a o e n) fun m=>n ?_,fun a e=>k2.dom a (k1.dom a e)⟩
 have hn:H a≠none:=by rw[e];exact uQ _
 rcases cI.mp m with m|m
 ·obtain⟨Δ,e',n'⟩:=th.ex
  rw[e'] at m;rcases cI.mp m with m|m
  ·exact gh _ m
  ·exact absurd (n' a m) hn
 ·rcases ow a m with m|m
  ·exact dN _ m
  ·exact absurd m hn
theorem cZ.trans(p:cZ K Z Θ env σ H Θ1 e1 C1 σ1 H1)(q:cZ K Z Θ1 e1 σ1 H1 Θ2 e2 C2 σ2 H2):cZ K Z Θ env σ H Θ2 e2 C2 σ2 H2 where
 th:=p.th.trans p.kp.dom q.th
 kp:=Ym p.th p.kp p.own q.kp
 own:=fun a m=>by
  rcases q.own a m with m|m
  ·exact p.own a m
  ·exact .inr (p.kp.none m)
 sm:=q.sm
theorem cZ.ret(p:cZ K Z Θ env σ H Θ1 e1 C1 σ1 H1)(q:SM K Z Θ1 e1 σ1 H1 Θ2 C2 r v H2):SM K Z Θ env σ H Θ2 C2 r v H2 where
 th:=p.th.trans p.kp.dom q.th
 kp:=Ym p.th p.kp p.own q.kp
 ok:=by
  have h:=q.ok;cases r with
  |im d=>exact h
  |ow d=>
   obtain⟨a,e,m,S,r⟩:=h
   refine⟨a,e,?_,S,r⟩
   rcases m with m|m
   ·exact p.own a m
   ·exact .inr (p.kp.none m)
  |ce n=>exact h
  |sc ns=>exact h
theorem Jq.trans(p:cZ K Z Θ env σ H Θ1 e1 C1 σ1 H1)(h:Jq K Z Θ env σ H e2 C2 D fl):Jq K Z Θ1 e1 σ1 H1 e2 C2 D fl:=by
 cases fl with
 |nx=>exact fun Θ' σ' H' q=>h Θ' σ' H' (p.trans q)
 |bk=>exact fun Θ' σ' H' q=>h Θ' σ' H' (p.trans q)
 |ct=>exact fun Θ' σ' H' q=>h Θ' σ' H' (p.trans q)
 |rt r=>exact fun Θ' v H' q=>h Θ' v H' (p.ret q)
theorem tX(k:aO Θ H H1):aO (Θ++O) H H1:=⟨fun a o e n=>k.keep a o e fun m=>n (gh _ m),k.dom⟩
theorem cZ.pX(k:aO Θ H H1)(f:Fz env e1)(S:Sm K Z Θ e1 C1 σ H1):cZ K Z Θ env σ H Θ e1 C1 σ H1:=
 ⟨jB.refl _ _,tX k,fun a m=>.inl (f.own.subset m),S⟩
end
def fNext:FS:=fun env C=>some (.nx,env,C)
def fSeq(f g:FS):FS:=fun env C=>match f env C with
 |some (.nx,e1,C1)=>g e1 C1
 |r=>r
def iC(c:FT)(f g:FS):FS:=fun env C=>match c env C with
 |some (true,C1)=>f env C1
 |some (false,C1)=>g env C1
 |none=>none
def fRet(f:FE):FS:=fun env C=>match f env C with
 |some (r,e1,C1)=>some (.rt r,e1,C1)
 |none=>none
def fRetV(i:Nat):FS:=fun env C=>match env[i]? with
 |some (some x)=>some (.rt x,env,C)
 |_=>none
def fSet(i:Nat)(f:FE):FS:=fun env C=>match f env C with
 |some (r,e1,C1)=>some (.nx,e1.set i (some r),C1)
 |none=>none
section
variable{X:Cx}{st:cV}{rest:List cV}{pos:Pos}
theorem cZ.same{K:aC}{Z Θ:List aa}{env:En}{C:Ce}{σ:St}{H:Hp}(S:Sm K Z Θ env C σ H):cZ K Z Θ env σ H Θ env C σ H:=cZ.pX (aO.refl _ _) (Fz.refl _) S
theorem j6:iD X [] (tS X.K fNext):=ah5.weak fun D σ H aJ=>by
 obtain⟨Z,Θ,env,C,fl,env',C',S,hf,q⟩:=aJ
 cases hf;exact q Θ σ H (cZ.same S)
theorem cg(h:PS X st (tS X.K f)):iD X [st] (tS X.K f):=ah6 h
theorem ahn{K:aC}{f g:FS}:∀D σ H,tS K (fSeq f g) D σ H→abf (tS K f) (tS K g) D σ H:=by
 rintro D σ H ⟨Z,Θ,env,C,fl,env',C',S,hf,q⟩;unfold fSeq at hf;split at hf
 ·rename_i e1 C1 h1
  exact⟨Z,Θ,env,C,.nx,e1,C1,S,h1,fun Θ1 σ1 H1 p=>⟨Z,Θ1,e1,C1,fl,env',C',p.sm,hf,q.trans p⟩⟩
 ·rename_i hne
  refine⟨Z,Θ,env,C,fl,env',C',S,hf,?_⟩
  cases fl with
  |nx=>exact absurd hf (hne _ _)
  |bk=>exact q
  |ct=>exact q
  |rt r=>exact q
theorem bH(h:PS X st (tS X.K f))(hr:iD X rest (tS X.K g)):iD X (st::rest) (tS X.K (fSeq f g)):=(agV h hr).weak ahn
theorem j7(hc:PT X c (eU X.K t))(ha:iD X a (tS X.K f))(hb:iD X b (tS X.K g)):PS X (.If c a b pos) (tS X.K (iC t f g)):=(akT hc ha hb).weak fun D σ H aJ=>by
 obtain⟨Z,Θ,env,C,fl,env',C',S,hf,q⟩:=aJ
 unfold iC at hf;split at hf
 ·rename_i C1 h1
  exact⟨Z,Θ,env,C,true,C1,S,h1,fun H1 k1 S1=>vU ⟨Z,Θ,env,C1,fl,env',C',S1,hf,q.trans (cZ.pX k1 (Fz.refl _) S1)⟩⟩
 ·rename_i C1 h1
  exact⟨Z,Θ,env,C,false,C1,S,h1,fun H1 k1 S1=>vR ⟨Z,Θ,env,C1,fl,env',C',S1,hf,q.trans (cZ.pX k1 (Fz.refl _) S1)⟩⟩
 ·cases hf
theorem Sm.none{K:aC}{Z Θ:List aa}{env:En}{C:Ce}{σ:St}{H:Hp}(S:Sm K Z Θ env C σ H):Sm K Z Θ [] C [] H:=by
 have cW:=S.cW
 exact⟨rfl,yC cW.1 cW.2.1 oZ cW.2.2.2 (fun _ m=>nomatch m),S.dom,fun i x e=>by simp at e,S.cell⟩
theorem By:bh (er (aQ Z Θ env σ) H) (er (aQ Z Θ [] []) H):=rP fun b m=>by
 rcases cI.mp m with m|m
 ·exact gh _ m
 ·rcases cI.mp m with m|m
  ·exact dN _ (gh _ m)
  ·nomatch m
theorem Res.ret{K:aC}{Z Θ:List aa}{env:En}{C:Ce}{σ:St}{H H':Hp}{O:List aa}{r:Vl}{v:V}(h:Res K Z Θ env C σ H H' r v):Jj K Z Θ C O H H' r v:=by
 cases r with
 |im d=>exact⟨h.1.none,h.2.same By⟩
 |ow d=>obtain⟨a,e,n,S,r⟩:=h;exact⟨a,e,.inr n,S.none,r.same By fun _ h=>h⟩
 |ce n=>exact⟨h.1.none,h.2⟩
 |sc ns=>obtain⟨S,a,e,q⟩:=h;exact⟨S.none,a,e,By.seq q⟩
theorem gO(h:PE X e (tE X.K f)):PS X (.Return (some e) pos) (tS X.K (fRet f)):=(Z9 h).weak fun D σ H aJ=>by
 obtain⟨Z,Θ,env,C,fl,env',C',S,hf,q⟩:=aJ
 unfold fRet at hf;split at hf
 ·rename_i r e1 C1 h1;cases hf
  exact⟨Z,Θ,env,C,r,env',C',S,h1,fun v H1 k f R=>q Θ v H1 ⟨jB.refl _ _,tX k,R.ret⟩⟩
 ·cases hf
theorem qt(h:PE X e (oK i)):PS X (.Return (some e) pos) (tS X.K (fRetV i)):=(Z9 h).weak fun D σ H aJ=>by
 obtain⟨Z,Θ,env,C,fl,env',C',S,hf,q⟩:=aJ
 unfold fRetV at hf;split at hf
 ·rename_i x hx;cases hf
  obtain⟨v,e1,r⟩:=S.slot i x hx
  refine⟨v,e1,q Θ v H ⟨jB.refl _ _,aO.refl _ _,?_⟩⟩
  cases x with
  |im d=>exact⟨S.none,RZ.same By r⟩
  |ow d=>
   obtain⟨a,rfl,r⟩:=r
   have m:a∈bz env σ:=kW.mpr ⟨i,d,hx,e1⟩;have sm:bh (er (aQ Z Θ env σ) H) (er (aQ (a::Z) Θ [] []) H):=rP fun b mb=>by
    rcases cI.mp mb with mb|mb
    ·rcases bL.mp mb with rfl|mb
     ·exact dN _ (dN _ m)
     ·exact gh _ mb
    ·rcases cI.mp mb with mb|mb
     ·exact dN _ (gh _ mb)
     ·nomatch mb
   have cW:=S.cW
   refine⟨a,rfl,.inl m,⟨rfl,yC (jC.mpr ⟨(S.mG m).1,cW.1⟩) cW.2.1 oZ (fun b mb=>?_) (fun _ m=>nomatch m),fun b mb=>?_,fun i x e=>by simp at e,S.cell⟩,r.same sm fun _ h=>h⟩
   ·rcases bL.mp mb with rfl|mb
    ·exact(S.mG m).2
    ·exact cW.2.2.2 b mb
   ·rcases bL.mp mb with rfl|mb
    ·exact r.nt
    ·exact S.dom b mb
  |ce n=>exact⟨S.none,r⟩
  |sc ns=>obtain⟨a,e,q⟩:=r;exact⟨S.none,a,e,By.seq q⟩
 ·cases hf
theorem Yn{K:aC}{i:Nat}{t:TE}{f:FE}(w:∀σ H Q,tE K f σ H Q→t σ H Q):∀D σ H,tS K (fSet i f) D σ H→Dv t (xM i) D σ H:=by
 rintro D σ H ⟨Z,Θ,env,C,fl,env',C',S,hf,q⟩;unfold fSet at hf;split at hf
 ·rename_i r e1 C1 h1;cases hf;refine w _ _ _ ⟨Z,Θ,env,C,r,e1,C',S,h1,fun v H1 k f R=>q Θ _ H1 ⟨jB.refl _ _,tX k,fun a m=>?_,R.set⟩⟩;rcases vD m with m|⟨⟨d,e⟩,e2⟩
  ·exact .inl (f.own.subset m)
  ·subst e
   obtain⟨b,e3,n,_⟩:=R
   rw[e2] at e3;cases e3;exact .inr n
 ·cases hf
theorem dW(hN:X.N.Nodup)(hi:X.N[i]?=some x)(hx:Loc X.env.scope x)(he:PE X e (tE X.K f))(hs:u9 e (some (.Name x pos')) pos.line X.env=pure false:=by rfl)(hf:X.fn x=true∨X.env.scope.names.lookup x=some .local:=by first|exact .inl rfl|exact .inr rfl|assumption):
  PS X (.Assign [.Name x pos'] e pos) (tS X.K (fSet i f)):=(aaa hN hi hx he hs hf).weak (Yn fun _ _ _ h=>h)
end
abbrev FG:=aj→En→Option En
abbrev El:=List aj→En→Option En
def Ag(K:aC)(g:TG)(fg:FG):Prop:=∀(Z Θ:List aa)(env:En)(C:Ce)(σ:St)(H:Hp)(v:V)(d:aj)(env':En),Sm K Z Θ env C σ H→RZ (er (aQ Z Θ env σ) H) d v→fg d env=some env'→
 ∀Q:St→Hp→Prop,(∀σ',Sm K Z Θ env' C σ' H→(∀a∈bz env' σ',a∈bz env σ)→Q σ' H)→g v σ H Q
def Jr(K:aC)(g:uF)(fg:El):Prop:=∀(Z Θ:List aa)(env:En)(C:Ce)(σ:St)(H:Hp)(vs:List V)(ds:List aj)(env':En),Sm K Z Θ env C σ H→bV (er (aQ Z Θ env σ) H) ds vs→fg ds env=some env'→
 ∀Q:St→Hp→Prop,(∀σ',Sm K Z Θ env' C σ' H→(∀a∈bz env' σ',a∈bz env σ)→Q σ' H)→g vs σ H Q
def gNm(i:Nat):FG:=fun d env=>some (env.set i (some (.im d)))
def gsNil:El:=fun ds env=>match ds with
 |[]=>some env
 |_=>none
def gsCons(g:FG)(u:El):El:=fun ds env=>match ds with
 |d::r=>match g d env with
  |some e1=>u r e1
  |none=>none
 |[]=>none
def gTp(n:Nat)(u:El):FG:=fun d env=>match d with
 |.tuple ds=>if ds.length=n then u ds env else none
 |_=>none
theorem aar(h:∀a∈bz e1 σ1,a∈bz env σ):bh (er (aQ Z Θ env σ) H) (er (aQ Z Θ e1 σ1) H):=rP fun b m=>by
 rcases cI.mp m with m|m
 ·exact gh _ m
 ·rcases cI.mp m with m|m
  ·exact dN _ (gh _ m)
  ·exact dN _ (dN _ (h b m))
section
variable{K:aC}
theorem jT:Ag K (xM i) (gNm i):=by
 intro Z Θ env C σ H v d env' S r e Q q;cases e;refine q _ (S.yj (fun _ z=>nomatch z) r) fun a m=>?_
 rcases vD m with m|⟨⟨_,z⟩,_⟩
 ·exact m
 ·cases z
theorem Pq:Jr K Ry gsNil:=by
 intro Z Θ env C σ H vs ds env' S r e Q q;unfold gsNil at e;split at e
 ·cases e
  exact⟨r,q _ S fun _ m=>m⟩
 ·cases e
theorem tR(h:Ag K g fg)(hu:Jr K u fu):Jr K (Q5 g u) (gsCons fg fu):=by
 intro Z Θ env C σ H vs ds env' S r e Q q;unfold gsCons at e;split at e
 ·rename_i d r'
  obtain⟨v,ws,rfl,r1,r2⟩:=r
  split at e
  ·rename_i e1 h1
   refine⟨v,ws,rfl,h Z Θ env C σ H v d e1 S r1 h1 _ fun σ1 S1 o1=>?_⟩
   exact hu Z Θ e1 C σ1 H ws r' env' S1 (r2.same (aar o1)) e Q fun σ2 S2 o2=>q σ2 S2 fun a m=>o1 a (o2 a m)
  ·cases e
 ·cases e
theorem QB(hu:Jr K u fu):Ag K (Rz K n u) (gTp n fu):=by
 intro Z Θ env C σ H v d env' S r e Q q;unfold gTp at e;split at e
 ·rename_i ds;split at e
  ·rename_i hl
   obtain⟨a,vs,rfl,ha,r⟩:=r
   exact⟨a,vs,rfl,cF.of (gM ha),(gm r).trans hl,hu Z Θ env C σ H vs ds env' S r e Q q⟩
  ·cases e
 ·cases e
end
def fUnp(f:FE)(g:FG):FS:=fun env C=>match f env C with
 |some (r,e1,C1)=>match still r with
  |.im d=>match g d e1 with
   |some e2=>some (.nx,e2,C1)
   |none=>none
  |_=>none
 |none=>none
theorem Res.sr{K:aC}{Z Θ:List aa}{env:En}{C:Ce}{σ:St}{H H':Hp}{r:Vl}{v:V}{d:aj}(h:Res K Z Θ env C σ H H' r v)(e:L2.still r=.im d):Sm K Z Θ env C σ H'∧RZ (er (aQ Z Θ env σ) H') d v:=by
 have g:=h.still;rw[e] at g;exact g
section
variable{X:Cx}{pos:Pos}
theorem aas{tg e:Expr}{f:FE}{g:TG}{fg:FG}(he:PE X e (tE X.K f))(hg:PG X tg g)(L:Ag X.K g fg)(hs:wU [tg] e pos.line X.env=pure false:=by rfl)(hw:wV [tg] e X.env=pure none:=by rfl)(h1:(rH [tg] X.env).map (·.2)=[assign tg X.env]:=by rfl):
  PS X (.Assign [tg] e pos) (tS X.K (fUnp f fg)):=(Ql he hg hs hw h1).weak fun D σ H aJ=>by
 obtain⟨Z,Θ,env,C,fl,env',C',S,hf,q⟩:=aJ
 unfold fUnp at hf;split at hf
 ·rename_i r e1 C1 h1;split at hf
  ·rename_i d hd;split at hf
   ·rename_i e2 h2;cases hf
    refine⟨Z,Θ,env,C,r,e1,C',S,h1,fun v H1 k f R=>?_⟩
    obtain⟨S1,r1⟩:=R.sr hd
    exact L Z Θ e1 C' σ H1 v d env' S1 r1 h2 D.nx fun σ' S' o=>q Θ σ' H1 ⟨jB.refl _ _,tX k,fun a m=>.inl (f.own.subset (o a m)),S'⟩
   ·cases hf
  ·cases hf
 ·cases hf
end
inductive mL(K:aC)(E H:Hp)(Θ:List aa):List aa→List Vl→List V→Prop
 |nil:mL K E H Θ [] [] []
 |cons {as:List aa} {x:Vl} {v:V} {xs:List Vl} {vs:List V}:ug K E Θ x v→mL K E H Θ as xs vs→mL K E H Θ as (x::xs) (v::vs)
 |own {as:List aa} {a:aa} {d:aj} {xs:List Vl} {vs:List V}:jH E H a d→mL K E H Θ as xs vs→mL K E H Θ (as++[a]) (.ow d::xs) (.ref a::vs)
theorem mL.same{K:aC}{E E' H:Hp}{Θ as:List aa}{xs:List Vl}{vs:List V}(s:bh E E')(h:mL K E H Θ as xs vs):mL K E' H Θ as xs vs:=by
 induction h with
 |nil=>exact .nil
 |cons a _ ih=>exact .cons (a.same s) ih
 |own r _ ih=>exact .own (r.same s fun _ h=>h) ih
theorem mL.heap{K:aC}{E H H':Hp}{Θ as:List aa}{xs:List Vl}{vs:List V}(s:bh H H')(h:mL K E H Θ as xs vs):mL K E H' Θ as xs vs:=by
 induction h with
 |nil=>exact .nil
 |cons a _ ih=>exact .cons a ih
 |own r _ ih=>exact .own (r.same (bh.refl _) fun o ho=>s _ _ ho) ih
inductive wH(K:aC)(f:FA)(σ:St)(H:Hp)(Q:List V→Hp→Prop):Prop
 |mk (Z Θ:List aa) (env:En) (C:Ce) (xs:List Vl) (env':En) (C':Ce) (S:Sm K Z Θ env C σ H) (hf:f env C=some (xs,env',C')) (q:∀vs as H',aO Θ H H'→Fz env env'→(∀a∈as,H a=none)→Sm K (as++Z) Θ env' C' σ H'→mL K (er (aQ (as++Z) Θ env' σ) H') H' Θ as xs vs→Q vs H'):wH K f σ H Q
def oCons(f:FE)(g:FA):FA:=fun env C=>match f env C with
 |some (r,e1,C1)=>match g e1 C1 with
  |some (xs,e2,C2)=>some (r::xs,e2,C2)
  |none=>none
 |none=>none
section
variable{K:aC}{Z Z' Θ:List aa}{env:En}{C:Ce}{σ:St}{H:Hp}
theorem iJ:a∈aQ Z Θ env σ↔a∈Z∨a∈Θ∨a∈bz env σ:=by rw[cI,cI]
theorem Sm.perm(S:Sm K Z Θ env C σ H)(p:Z.Perm Z'):Sm K Z' Θ env C σ H:=by
 have e:er (aQ Z Θ env σ) H=er (aQ Z' Θ env σ) H:=qD fun a=>by rw[iJ,iJ,p.mem_iff]
 refine⟨S.len,(List.Perm.append_right _ p).nodup S.nd,fun a m=>S.dom a (p.mem_iff.mpr m),fun i x h=>?_,S.cell⟩
 rw[←e];exact S.slot i x h
end
section
variable{X:Cx}{e:Expr}{es:List Expr}{pos:Pos}
theorem rU:PA X [] (wH X.K aNil):=ou.weak fun σ H Q aJ=>by
 obtain⟨Z,Θ,env,C,xs,env',C',S,hf,q⟩:=aJ
 cases hf;exact q [] [] H (aO.refl _ _) (Fz.refl _) (fun _ m=>nomatch m) S .nil
theorem jw(h:PE X e (tE X.K f))(hr:PA X es (wH X.K g))(hs:aZ (e::es) X.env=(false,eval e X.env)::aZ es X.env:=by rfl):PA X (e::es) (wH X.K (oCons f g)):=(lK h hr hs).weak fun σ H Q aJ=>by
 obtain⟨Z,Θ,env,C,xs,env',C',S,hf,q⟩:=aJ
 unfold oCons at hf;split at hf
 ·rename_i r e1 C1 h1;split at hf
  ·rename_i ys e2 C2 h2;cases hf
   refine⟨Z,Θ,env,C,r,e1,C1,S,h1,fun v H1 k1 f1 R1=>?_⟩
   have plain:∀{x:Vl},Sm X.K Z Θ e1 C1 σ H1→ug X.K (er (aQ Z Θ e1 σ) H1) Θ x v→r=x→wH X.K g σ H1 fun xs H2=>Q (v::xs) H2:=fun{x} S1 a1 ex=>by
    subst ex
    refine⟨Z,Θ,e1,C1,ys,env',C',S1,h2,fun vs as H2 k2 f2 n2 S2 a2=>q _ as H2 (k1.trans k2) (f1.trans f2) (fun a m=>k1.none (n2 a m)) S2 (.cons (a1.same (jU k2 S1.pW fun a m=>?_)) a2)⟩
    rcases cI.mp m with m|m
    ·rcases cI.mp m with m|m
     ·exact .inr (n2 a m)
     ·exact .inl (gh _ m)
    ·exact .inl (f2.sub (Z:=Z) a (dN _ m))
   cases r with
   |im d=>exact plain (x:=.im d) R1.1 R1.2 rfl
   |ce n=>exact plain (x:=.ce n) R1.1 R1.2 rfl
   |sc ns=>exact plain (x:=.sc ns) R1.1 R1.2 rfl
   |ow d=>
    obtain⟨a,rfl,hn,S1,r1⟩:=R1
    refine⟨a::Z,Θ,e1,C1,ys,env',C',S1,h2,fun vs as H2 k2 f2 n2 S2 a2=>?_⟩
    have ez:as++a::Z=(as++[a])++Z:=by rw[j0];rfl
    rw[ez] at S2 a2;have na:a∉Θ:=fun m=>(S1.cW.2.2.2 a fj) m
    refine q _ (as++[a]) H2 (k1.trans k2) (f1.trans f2) (fun b m=>?_) S2 (.own (r1.same (jU k2 S1.pW fun b m=>?_) fun o ho=>k2.keep _ _ ho na) a2)
    ·rcases cI.mp m with m|m
     ·exact k1.none (n2 b m)
     ·rw[jm.mp m];exact hn
    ·rcases cI.mp m with m|m
     ·rcases cI.mp m with m|m
      ·rcases cI.mp m with m|m
       ·exact .inr (n2 b m)
       ·rw[jm.mp m];exact .inl fj
      ·exact .inl (gh _ (eZ _ m))
     ·exact .inl (f2.sub (Z:=a::Z) b (dN _ m))
  ·cases hf
 ·cases hf
end
def setM{α:Type}:List Nat→List α→List (Option α)→List (Option α)
 |i::is,x::xs,e=>setM is xs (e.set i (some x))
 |_,_,e=>e
theorem Pr{K:aC}{Z Θ:List aa}{C:Ce}{H:Hp}{E:Hp}:∀{as:List aa}{xs:List Vl}{vs:List V},mL K E H Θ as xs vs→∀{is:List Nat}{env:En}{σ:St},is.length=xs.length→bh E (er (aQ (as++Z) Θ env σ) H)→Sm K (as++Z) Θ env C σ H→
  Sm K Z Θ (setM is xs env) C (setM is vs σ) H∧∀a∈bz (setM is xs env) (setM is vs σ),a∈bz env σ∨a∈as:=by
 intro as xs vs h;induction h with
 |nil=>
  intro is env σ hl _ S;cases is with
  |nil=>exact⟨S,fun a m=>.inl m⟩
  |cons _ _=>cases hl
 |@cons as x v xs vs a1 _ ih=>
  intro is env σ hl sm S;cases is with
  |nil=>cases hl
  |cons i is=>
   have hx:∀d,x≠.ow d:=fun d z=>by subst z;exact a1
   have sl:Aa K (er (aQ (as++Z) Θ env σ) H) H Θ x v:=by
    have a2:=a1.same sm;cases x with
    |im d=>exact a2
    |ow d=>exact absurd rfl (hx d)
    |ce n=>exact a2
    |sc ns=>exact a2
   have S1:Sm K (as++Z) Θ (env.set i (some x)) C (σ.set i (some v)) H:=S.yj hx sl;have o1:∀b∈bz (env.set i (some x)) (σ.set i (some v)),b∈bz env σ:=fun b m=>by
    rcases vD m with m|⟨⟨d,z⟩,_⟩
    ·exact m
    ·exact absurd z (hx d)
   obtain⟨S2,o2⟩:=ih (is:=is) (by simpa using hl) (sm.trans (aar o1)) S1
   refine⟨S2,fun b m=>?_⟩
   rcases o2 b m with m|m
   ·exact .inl (o1 b m)
   ·exact .inr m
 |@own as a d xs vs r _ ih=>
  intro is env σ hl sm S;cases is with
  |nil=>cases hl
  |cons i is=>
   have pm:((as++[a])++Z).Perm (a::(as++Z)):=by
    rw[j0];exact List.perm_middle
   have S0:=S.perm pm;have ee:er (aQ ((as++[a])++Z) Θ env σ) H=er (aQ (a::(as++Z)) Θ env σ) H:=qD fun b=>by rw[iJ,iJ,pm.mem_iff]
   rw[ee] at sm;have S1:Sm K (as++Z) Θ (env.set i (some (.ow d))) C (σ.set i (some (.ref a))) H:=S0.abD (r.same sm fun _ h=>h);have o1:∀b∈bz (env.set i (some (.ow d))) (σ.set i (some (.ref a))),b∈bz env σ∨b=a:=fun b m=>by
    rcases vD m with m|⟨_,z⟩
    ·exact .inl m
    ·cases z;exact .inr rfl
   obtain⟨S2,o2⟩:=ih (is:=is) (by simpa using hl) (sm.trans (rP fun b m=>by
    rcases cI.mp m with m|m
    ·exact gh _ (eZ _ m)
    ·rcases cI.mp m with m|m
     ·exact dN _ (gh _ m)
     ·rcases o1 b m with m|rfl
      ·exact dN _ (dN _ m)
      ·exact gh _ fj)) S1
   refine⟨S2,fun b m=>?_⟩
   rcases o2 b m with m|m
   ·rcases o1 b m with m|rfl
    ·exact .inl m
    ·exact .inr (dN _ (jm.mpr rfl))
   ·exact .inr (gh _ m)
theorem Ib{K:aC}{E H:Hp}{Θ as:List aa}{xs:List Vl}{vs:List V}(h:mL K E H Θ as xs vs):vs.length=xs.length:=by
 induction h with
 |nil=>rfl
 |cons _ _ ih=>rw[cN,cN,ih]
 |own _ _ ih=>rw[cN,cN,ih]
def fPar(is:List Nat)(g:FA):FS:=fun env C=>match g env C with
 |some (xs,e1,C1)=>if is.length=xs.length∧xs.length≤LIM then some (.nx,setM is xs e1,C1) else none
 |none=>none
def SN(is:List Nat):uF:=match is with
 |[]=>Ry
 |i::r=>Q5 (xM i) (SN r)
theorem Zy:∀{is:List Nat}{vs:List V}{σ:St}{H:Hp}{Q:St→Hp→Prop},is.length=vs.length→Q (setM is vs σ) H→SN is vs σ H Q
 |[],[],σ,H,Q,_,q=>⟨rfl,q⟩
 |i::is,v::vs,σ,H,Q,h,q=>⟨v,vs,rfl,Zy (by simpa using h) q⟩
 |[],_::_,_,_,_,h,_=>by cases h
 |_::_,[],_,_,_,h,_=>by cases h
section
variable{X:Cx}{pos:Pos}
theorem xG{i j:Nat}{x y:Str}{a b:Expr}{g:FA}{px py pt:Pos}{kt k2 mW}(hc:X.calm=true)(hN:X.N.Nodup)(hi:X.N[i]?=some x)(hj:X.N[j]?=some y)(hij:i≠j)
  (hx:X.env.scope.names.lookup x=some .local)(hy:X.env.scope.names.lookup y=some .local)(ha:PA X [a,b] (wH X.K g))
  (hw:wV [.Tuple [.Name x px,.Name y py] kt pt] (.Tuple [a,b] k2 mW) X.env=pure (some [x,y]))
  (hs:wU [.Tuple [.Name x px,.Name y py] kt pt] (.Tuple [a,b] k2 mW) pos.line X.env=pure false:=by rfl):
  PS X (.Assign [.Tuple [.Name x px,.Name y py] kt pt] (.Tuple [a,b] k2 mW) pos) (tS X.K (fPar [i,j] g)):=(ajB hc hN hi hj hij hx hy ha hw hs).weak fun D σ H aJ=>by
 obtain⟨Z,Θ,env,C,fl,env',C',S,hf,q⟩:=aJ
 unfold fPar at hf;split at hf
 ·rename_i xs e1 C1 h1;split at hf
  ·rename_i hl;cases hf
   refine⟨Z,Θ,env,C,xs,e1,C',S,h1,fun vs as H1 k1 f1 n1 S1 a1=>?_⟩
   have l2:=Ib a1
   obtain⟨S2,o2⟩:=Pr a1 hl.1 (bh.refl _) S1
   have e2:∃v w,vs=[v,w]:=by
    have:vs.length=2:=by rw[l2,←hl.1];rfl
    match vs,this with
    |[v,w],_=>exact⟨v,w,rfl⟩
   obtain⟨v,w,rfl⟩:=e2
   refine⟨v,w,rfl,q Θ _ H1 ⟨jB.refl _ _,tX k1,fun b m=>?_,S2⟩⟩
   rcases o2 b m with m|m
   ·exact .inl (f1.own.subset m)
   ·exact .inr (n1 b m)
  ·cases hf
 ·cases hf
theorem Zz{tg:Expr}{es:List Expr}{g:FA}{is:List Nat}{n:Nat}{x1 pt}(ha:PA X es (wH X.K g))(hg:PG X tg (Rz X.K n (SN is)))(hn:n=is.length:=by rfl)
  (hs:wU [tg] (.Tuple es x1 pt) pos.line X.env=pure false:=by rfl)(hw:wV [tg] (.Tuple es x1 pt) X.env=pure none:=by rfl)(h1:(rH [tg] X.env).map (·.2)=[assign tg X.env]:=by rfl):
  PS X (.Assign [tg] (.Tuple es x1 pt) pos) (tS X.K (fPar is g)):=(Ql (Qs ha) hg hs hw h1).weak fun D σ H aJ=>by
 obtain⟨Z,Θ,env,C,fl,env',C',S,hf,q⟩:=aJ
 unfold fPar at hf;split at hf
 ·rename_i xs e1 C1 h1;split at hf
  ·rename_i hl;cases hf
   refine⟨Z,Θ,env,C,xs,e1,C',S,h1,fun vs as H1 k1 f1 n1 S1 a1=>⟨by rw[Ib a1];exact qi hl.2,fun p hp=>?_⟩⟩
   have l2:=Ib a1
   refine⟨p,vs,rfl,cF.of dI,by rw[l2,hn,hl.1],Zy (by rw[hl.1,l2]) ?_⟩
   have kp:aO Θ H1 (upd H1 p (.tup vs)):=aO.upd hp;have S1':=S1.xQ (bh.upd (o:=.tup vs) hp);have a1':mL X.K (er (aQ (as++Z) Θ e1 σ) H1) (upd H1 p (.tup vs)) Θ as xs vs:=a1.heap fun b o ho=>by rw[cG (pA ho hp)];exact ho
   obtain⟨S2,o2⟩:=Pr a1' hl.1 (jU kp S1.pW fun b m=>.inl m) S1'
   refine q Θ _ _ ⟨jB.refl _ _,tX (k1.trans kp),fun b m=>?_,S2⟩;rcases o2 b m with m|m
   ·exact .inl (f1.own.subset m)
   ·exact .inr (n1 b m)
  ·cases hf
 ·cases hf
end
theorem Od:∀{env:En}{σ:St}{i:Nat}{d d':aj},env[i]?=some (some (.ow d))→bz (env.set i (some (.ow d'))) σ=bz env σ
 |[],σ,i,d,d',h=>by simp at h
 |x::e,[],i,d,d',h=>by cases i<;>rfl
 |x::e,v::s,0,d,d',h=>by
  simp at h;subst h;show own1 (some (.ow d')) v++bz e s=own1 (some (.ow d)) v++bz e s;rcases v with _|v
  ·rfl
  ·cases v<;>rfl
 |x::e,v::s,i+1,d,d',h=>by
  show own1 x v++bz (e.set i (some (.ow d'))) s=own1 x v++bz e s;rw[Od (by simpa using h)]
section
variable{K:aC}{Z Θ:List aa}{env:En}{C:Ce}{σ:St}{H:Hp}{a:aa}{i:Nat}{d d':aj}{o:HO}
theorem IV(h:a∈P):er P (upd H a o)=er P H:=by
 funext b;unfold er;by_cases hb:b=a
 ·subst hb;rw[if_pos h,if_pos h]
 ·rw[cG hb]
theorem Sm.write(S:Sm K Z Θ env C σ H)(e1:env[i]?=some (some (.ow d)))(e2:σ[i]?=some (some (.ref a)))(r:jH (er (aQ Z Θ env σ) H) (upd H a o) a d'):cZ K Z Θ env σ H Θ (env.set i (some (.ow d'))) C σ (upd H a o):=by
 have m:a∈bz env σ:=kW.mpr ⟨i,d,e1,e2⟩;have no:=S.mG m;have eo:bz (env.set i (some (.ow d'))) σ=bz env σ:=Od e1;have mp:a∈aQ Z Θ env σ:=dN _ (dN _ m);have ep:aQ Z Θ (env.set i (some (.ow d'))) σ=aQ Z Θ env σ:=by show _++(_++_)=_;rw[eo]
 refine⟨jB.refl _ _,⟨fun b u hb n=>?_,fun b hb=>?_⟩,fun b mb=>.inl (by rw[eo] at mb;exact mb),⟨by rw[uT];exact S.len,by rw[ep];exact S.nd,fun b mb=>?_,fun j y ej=>?_,⟨S.cell.len,fun n b ns h1 h2=>?_⟩⟩⟩
 ·rw[cG (fun z=>n (dN _ (by rw[z];exact m)))];exact hb
 ·by_cases z:b=a
  ·subst z;rw[dI];exact uQ _
  ·rw[cG z];exact hb
 ·rw[cG (fun z=>no.1 (by rw[←z];exact mb))];exact S.dom b mb
 ·rw[ep,IV mp];rcases get_set ej with⟨rfl,ex,hl⟩|⟨n,ej⟩
  ·cases ex
   exact⟨_,e2,a,rfl,r⟩
  ·obtain⟨v,e3,r3⟩:=S.slot j y ej
   refine⟨v,e3,r3.same (bh.refl _) fun d2 b ex ev u hu=>?_⟩
   subst ex ev;rw[cG]
   ·exact hu
   ·intro z;subst z;exact n (BZ S.cW.2.2.1 ej e3 e1 e2)
 ·rw[cG (fun z=>no.2 (by rw[←z];exact lV h1))];exact S.cell.at_ n b ns h1 h2
end
def nu:Option (Option Vl)→Bool
 |some (some (.ow (.list _)))=>true
 |_=>false
def jX(i:Nat)(f:FE):FS:=fun env C=>if nu env[i]? then match f env C with
  |some (r,e1,C1)=>match still r,e1[i]? with
   |.im d,some (some (.ow (.list ds)))=>if ds.length<LIM then some (.nx,e1.set i (some (.ow (.list (ds++[d])))),C1) else none
   |_,_=>none
  |none=>none
 else none
theorem Yo(h:nu x=true):∃ds,x=some (some (.ow (.list ds))):=by
 unfold nu at h;split at h
 ·exact⟨_,rfl⟩
 ·cases h
section
variable{X:Cx}{pos:Pos}
theorem xH(ho:PE X o (oK i))(he:PE X e (tE X.K f))
  (hs0:u9 (.Call (.Attribute o "append" apos) [e] [] cpos) none pos.line X.env=pure false:=by rfl)
  (hbase:tK o "append" X.env (eval o X.env)=eval o X.env:=by rfl)
  (hfew:((fK cpos (aZ [e] X.env)).all (fun x=>!x.1)&&(xj cpos (wX [] X.env)).all (fun x=>x.1.isSome)
   &&decide (([e]:List Expr).length+([]:List lM).length+(if([]:List lM).isEmpty then 0 else 1)<30))=true:=by rfl)
  (hline:(apos.endLine==cpos.line)=true:=by rfl)(hs:aZ [e] X.env=(false,eval e X.env)::aZ [] X.env:=by rfl)(hplain:(fK cpos (aZ [] X.env)).any (·.1)=false:=by rfl):
  PS X (.Expr (.Call (.Attribute o "append" apos) [e] [] cpos) pos) (tS X.K (jX i f)):=
 (O3 (Dg J7 Uo acK (qW.r M8) ho (lK he ou hs) hbase hfew hline hs hplain) hs0).weak fun D σ H aJ=>by
  obtain⟨Z,Θ,env,C,fl,env',C',S,hf,q⟩:=aJ
  unfold jX at hf;split at hf
  ·rename_i h0
   obtain⟨ds0,h0⟩:=Yo h0
   obtain⟨v0,pY,a,rfl,Ae,ha0,r0⟩:=S.slot i _ h0
   split at hf
   ·rename_i r e1 C1 h1;split at hf
    ·rename_i d ds hd hi;split at hf
     ·rename_i hl;cases hf
      refine⟨_,pY,.inl ⟨rfl,Ae,bC.of ha0⟩,Z,Θ,env,C,r,e1,C',S,h1,fun v H1 k f R=>?_⟩
      obtain⟨S1,r1⟩:=R.sr hd
      obtain⟨v1,ev1,a1,SQ,vs,ha1,r2⟩:=S1.slot i _ hi
      subst SQ;rw[pY] at ev1;cases ev1
      refine⟨a,vs,v,rfl,rfl,ha1,by rw[gm r2,iI];unfold LIM at hl;omega,?_⟩
      have w:cZ X.K Z Θ e1 σ H1 Θ (e1.set i (some (.ow (.list (ds++[d]))))) C' σ (upd H1 a (.lst (vs++[v]))):=S1.write hi pY ⟨_,dI,vB r2 ⟨v,[],rfl,r1,rfl⟩⟩;exact q Θ σ _ ((cZ.pX k f S1).trans w)
     ·cases hf
    ·cases hf
   ·cases hf
  ·cases hf
def mU{κ:Type}[DecidableEq κ](f:aj→Option κ)(k:κ)(dk d:aj)(kvs:List (aj×aj)):List (aj×aj):=
 if(kvs.any fun p=>decide (f p.1=some k))=true then kvs.map (fun p=>if f p.1=some k then(p.1,d) else p) else kvs++[(dk,d)]
def putD(kvs:List (aj×aj))(dk d:aj):Option (List (aj×aj)):=match cJ dk with
 |some k=>if(cD cJ kvs).isSome then some (mU cJ k dk d kvs) else none
 |none=>match rY dk with
  |some ks=>if(cD rY kvs).isSome then some (mU rY ks dk d kvs) else none
  |none=>none
theorem ZC[DecidableEq κ]:∀{kvs:List (aj×aj)}{ks:List κ}{vs:List V},cD f kvs=some ks→gw E kvs vs→(kvs.any fun p=>decide (f p.1=some k))=((ks.zip vs).any fun kv=>decide (kv.1=k))
 |[],ks,vs,h,r=>by
  cases h
  cases(show vs=[] from r)
  rfl
 |(p,d)::kvs,ks,vs,h,r=>by
  unfold cD at h;split at h
  ·rename_i k' t h1 h2;cases h
   obtain⟨v,w,rfl,q,s⟩:=r
   show(decide (f p=some k)||_)=(decide (k'=k)||_)
   rw[ZC h2 s,h1];congr 1;rw[p7,decide_eq_true_iff,decide_eq_true_iff]
   exact⟨fun e=>fP e,fun e=>by rw[e]⟩
  ·cases h
theorem ZD[DecidableEq κ](hv:RZ E d v):∀{kvs:List (aj×aj)}{ks:List κ}{vs:List V},cD f kvs=some ks→gw E kvs vs→
  ∃vs',cD f (kvs.map fun p=>if f p.1=some k then(p.1,d) else p)=some ks∧gw E (kvs.map fun p=>if f p.1=some k then(p.1,d) else p) vs'∧ks.zip vs'=(ks.zip vs).map fun kv=>if kv.1=k then(kv.1,v) else kv
 |[],ks,vs,h,r=>by
  cases h
  exact⟨[],rfl,rfl,rfl⟩
 |(p,e)::kvs,ks,vs,h,r=>by
  unfold cD at h;split at h
  ·rename_i k' t h1 h2;cases h
   obtain⟨u,w,rfl,q,s⟩:=r
   obtain⟨vs',g1,g2,g3⟩:=ZD (k:=k) hv h2 s
   have h1':f p=some k':=h1;by_cases ek:k'=k
   ·subst ek
    refine⟨v::vs',?_,?_,?_⟩
    ·rw[cj];show cD f ((if f p=some k' then(p,d) else(p,e))::_)=_;rw[if_pos h1'];unfold cD;rw[g1];simp only[h1']
    ·rw[cj];show gw E ((if f p=some k' then(p,d) else(p,e))::_) _;rw[if_pos h1']
     exact⟨v,vs',rfl,hv,g2⟩
    ·show(k',v)::t.zip vs'=(if k'=k' then(k',v) else(k',u))::_
     rw[if_pos rfl,g3];rfl
   ·have ne:¬f p=some k:=fun z=>ek (fP (h1'.symm.trans z))
    refine⟨u::vs',?_,?_,?_⟩
    ·rw[cj];show cD f ((if f p=some k then(p,d) else(p,e))::_)=_;rw[if_neg ne];unfold cD;rw[g1];simp only[h1']
    ·rw[cj];show gw E ((if f p=some k then(p,d) else(p,e))::_) _;rw[if_neg ne]
     exact⟨u,vs',rfl,q,g2⟩
    ·show(k',u)::t.zip vs'=(if k'=k then(k',v) else(k',u))::_
     rw[if_neg ek,g3];rfl
  ·cases h
theorem Yp{κ:Type}{f:aj→Option κ}{k:κ}{E:Hp}{dk d:aj}{v:V}(hk:f dk=some k)(hv:RZ E d v):∀{kvs:List (aj×aj)}{ks:List κ}{vs:List V},cD f kvs=some ks→gw E kvs vs→
  cD f (kvs++[(dk,d)])=some (ks++[k])∧gw E (kvs++[(dk,d)]) (vs++[v])∧(ks++[k]).zip (vs++[v])=ks.zip vs++[(k,v)]
 |[],ks,vs,h,r=>by
  cases h
  cases(show vs=[] from r)
  refine⟨?_,⟨v,[],rfl,hv,rfl⟩,rfl⟩
  show cD f [(dk,d)]=_;unfold cD cD;simp only[hk];rfl
 |(p,e)::kvs,ks,vs,h,r=>by
  unfold cD at h;split at h
  ·rename_i k' t h1 h2;cases h
   obtain⟨u,w,rfl,q,s⟩:=r
   obtain⟨g1,g2,g3⟩:=Yp hk hv h2 s
   refine⟨?_,⟨u,_,rfl,q,g2⟩,?_⟩
   ·show cD f ((p,e)::(kvs++[(dk,d)]))=_;unfold cD;rw[g1];simp only[show f p=some k' from h1];rfl
   ·show(k',u)::(t++[k]).zip (w++[v])=_
    rw[g3];rfl
  ·cases h
theorem Ie{κ:Type}[DecidableEq κ]{f:aj→Option κ}{k:κ}{E:Hp}{dk d:aj}{v:V}(hk:f dk=some k)(hv:RZ E d v){kvs:List (aj×aj)}{ks:List κ}{vs:List V}(h:cD f kvs=some ks)(r:gw E kvs vs):
  ∃ks' vs',cD f (mU f k dk d kvs)=some ks'∧gw E (mU f k dk d kvs) vs'∧ks'.zip vs'=putK (ks.zip vs) k v:=by
 unfold mU putK;rw[ZC h r];split
 ·obtain⟨vs',g1,g2,g3⟩:=ZD (k:=k) hv h r
  exact⟨ks,vs',g1,g2,g3⟩
 ·obtain⟨g1,g2,g3⟩:=Yp hk hv h r
  exact⟨_,_,g1,g2,g3⟩
theorem set_dict(hu:X.A.units+1<dR):uw X (fun o i v H Q=>∃a H',o=.ref a∧qO H a i v H'∧Q H'):=by
 intro pins s σ H o i v ov iv u Q I ro ri rv h
 obtain⟨a,H',rfl,g,q⟩:=h
 cases ro;exact Xf hu I g ri rv fun s' I'=>⟨H',I',q⟩
theorem agu(hu:X.A.units+1<dR):uw X (fun o i v H Q=>∃(a b:aa)(ks:List Key),o=.ref a∧H a=some (.dK [])∧i=.ref b∧H b=some (.tup (ks.map kV))∧Q (upd H a (.dT [(ks,v)]))):=by
 intro pins s σ H o i v ov iv u Q I ro ri rv h
 obtain⟨a,b,ks,rfl,ha,rfl,hb,q⟩:=h
 cases ro;have hb':(upd H a (.dT [])) b=some (.tup (ks.map kV)):=by rw[cG (Q3 hb ha (fun z=>nomatch z))];exact hb
 refine Xf hu (I.JN ha) (qO.t (kvs:=[]) (k:=ks) (v:=v) dI hb' (by rw[iI];decide)) ri rv fun s' I'=>⟨_,I',?_⟩
 rw[Y6];exact q
theorem uw.or(h:uw X t)(h':uw X t'):uw X (fun o i v H Q=>t o i v H Q∨t' o i v H Q):=by
 intro pins s σ H o i v ov iv u Q I ro ri rv q;rcases q with q|q
 ·exact h pins s σ H o i v ov iv u Q I ro ri rv q
 ·exact h' pins s σ H o i v ov iv u Q I ro ri rv q
theorem aiI(hu:X.A.units+1<dR):uw X (fun o i v H Q=>(Ra o i v H Q∨∃a H',o=.ref a∧qO H a i v H'∧Q H')∨∃(a b:aa)(ks:List Key),o=.ref a∧H a=some (.dK [])∧i=.ref b∧H b=some (.tup (ks.map kV))∧Q (upd H a (.dT [(ks,v)]))):=
 (set_list.or (set_dict hu)).or (agu hu)
def qL:Option (Option Vl)→Bool
 |some (some _)=>true
 |_=>false
theorem aiJ(h:qL x=true):∃y,x=some (some y):=by
 unfold qL at h;split at h
 ·exact⟨_,rfl⟩
 ·cases h
def putO(i:Nat)(d dk:aj)(e:En)(C:Ce):Option Vl→Option (Fl×En×Ce)
 |some (.ow (.list ds))=>(intD dk).bind fun z=>(mX ds.length z).bind fun j=>some (.nx,e.set i (some (.ow (.list (ds.set j d)))),C)
 |some (.ow (.dict kvs))=>(putD kvs dk d).bind fun kvs'=>bif decide (kvs.length<LIM) then some (.nx,e.set i (some (.ow (.dict kvs'))),C) else none
 |some (.ce n)=>(intD dk).bind fun z=>(intD d).bind fun y=>(C[n]?).bind fun ns=>(mX ns.length z).bind fun j=>some (.nx,e,C.set n (ns.set j y))
 |_=>none
def oN(i:Nat)(fk:FB)(fe:FE):FS:=fun env C=>(fe env C).bind fun p=>(imO (still p.1)).bind fun d=>(fk p.2.1 p.2.2).bind fun k=>bif qL p.2.1[i]? then(k.2.1[i]?).bind (putO i d k.1 k.2.1 k.2.2) else none
def Di(o i v:V)(H:Hp)(Q:Hp→Prop):Prop:=(Ra o i v H Q∨∃a H',o=.ref a∧qO H a i v H'∧Q H')∨∃(a b:aa)(ks:List Key),o=.ref a∧H a=some (.dK [])∧i=.ref b∧H b=some (.tup (ks.map kV))∧Q (upd H a (.dT [(ks,v)]))
section
variable{K:aC}{Z Θ:List aa}{e2:En}{C2:Ce}{σ:St}{H2:Hp}{i:Nat}{d dk:aj}{v w:V}{a:aa}{R:Hp→Prop}{p:Fl×En×Ce}
theorem aho(S2:Sm K Z Θ e2 C2 σ H2)(eu:σ[i]?=some (some (.ref a)))(hi:e2[i]?=some (some (.ow (.list ds))))(rt:jH (er (aQ Z Θ e2 σ) H2) H2 a (.list ds))(r2:RZ (er (aQ Z Θ e2 σ) H2) d v)(b2:dZ Z Θ e2 σ H2 dk w)(hf:putO i d dk e2 C2 (some (.ow (.list ds)))=some p):
  p.1=.nx∧((∀Hx,cZ K Z Θ e2 σ H2 Θ p.2.1 p.2.2 σ Hx→R Hx)→Di (.ref a) w v H2 R):=by
 obtain⟨z,hz,hf⟩:=iz hf
 obtain⟨j,hj,hf⟩:=iz hf
 cases hf;have hz:=Ia hz;subst hz
 obtain⟨vs,ha,r3⟩:=rt
 have b2:w=.int z:=b2;subst b2
 exact⟨rfl,fun q=>.inl (.inl ⟨a,vs,z,j,rfl,rfl,ha,by rw[gm r3];exact hj,q _ (S2.write hi eu ⟨_,dI,Zt r2 j r3⟩)⟩)⟩
theorem ZF(kvs:List (aj×aj)):mU rY SX dk d kvs≠[]:=fun z=>by
 unfold mU at z;split at z
 ·rename_i hz;cases kvs with
  |nil=>cases hz
  |cons _ _=>cases z
 ·cases kvs<;>cases z
theorem ahp{kvs:List (aj×aj)}(S2:Sm K Z Θ e2 C2 σ H2)(eu:σ[i]?=some (some (.ref a)))(hi:e2[i]?=some (some (.ow (.dict kvs))))(rt:jH (er (aQ Z Θ e2 σ) H2) H2 a (.dict kvs))(r2:RZ (er (aQ Z Θ e2 σ) H2) d v)(b2:dZ Z Θ e2 σ H2 dk w)(hf:putO i d dk e2 C2 (some (.ow (.dict kvs)))=some p):
  p.1=.nx∧((∀Hx,cZ K Z Θ e2 σ H2 Θ p.2.1 p.2.2 σ Hx→R Hx)→Di (.ref a) w v H2 R):=by
 refine hide fun GG gg=>?_
 obtain⟨kvs',hp,hf⟩:=iz hf
 cases hl:decide (kvs.length<LIM) with
 |false=>rw[hl] at hf;cases hf
 |true=>
 rw[hl] at hf;cases hf;have hl:=of_decide_eq_true hl;have hl':∀{κ:Type}(ks:List κ)(vs:List V),ks.length=kvs.length→(ks.zip vs).length<bJ:=fun ks vs e=>by
  rw[Vf,iI,e];unfold LIM at hl;omega
 obtain⟨vs,da,r3⟩:=rt
 unfold putD at hp;split at hp
 ·rename_i k hk;split at hp
  case isFalse=>cases hp
  rename_i hs';cases hp;have wk:w=kV k:=by
   cases dk<;>first|(cases hk;exact b2)|cases hk
  rcases da with⟨ks,g1,ha⟩|⟨ks,⟨ne,g2⟩,ha⟩
  ·obtain⟨ks',vs',g3,g4,g5⟩:=Ie hk r2 g1 r3
   subst wk;exact gg ⟨rfl,fun q=>.inl (.inr ⟨a,_,rfl,qO.k (k:=k) (v:=v) ha (hl' ks vs (vh g1)),q _ (S2.write hi eu ⟨vs',.inl ⟨ks',g3,by rw[g5];exact dI⟩,g4⟩)⟩)⟩
  ·obtain⟨alR,g1⟩:=uL.mp hs'
   exact absurd (vm g1 g2) ne
 ·split at hp
  case h_2=>cases hp
  rename_i SX hks;split at hp
  case isFalse=>cases hp
  rename_i hs';cases hp
  obtain⟨b,hb,rfl⟩:∃b,H2 b=some (.tup (SX.map kV))∧w=.ref b:=by
   cases dk<;>first|cases hks|skip
   obtain⟨b,ws,rfl,hb,rr⟩:=b2.tup
   rw[vd hks rr] at hb
   exact⟨b,hb,rfl⟩
  rcases da with⟨ks,g1,ha⟩|⟨ks,⟨ne,g1⟩,ha⟩
  ·obtain⟨alR,g2⟩:=uL.mp hs'
   have e0:=vm g1 g2;subst e0;cases g1;have e0:vs=[]:=r3;subst e0
   obtain⟨ks',vs',g3,g4,g5⟩:=Ie (kvs:=[]) (vs:=[]) (ks:=[]) hks r2 rfl rfl
   exact gg ⟨rfl,fun q=>.inr ⟨a,b,SX,rfl,ha,rfl,hb,q _ (S2.write hi eu ⟨vs',.inr ⟨ks',⟨ZF [],g3⟩,by rw[g5];exact dI⟩,g4⟩)⟩⟩
  ·obtain⟨ks',vs',g3,g4,g5⟩:=Ie hks r2 g1 r3
   exact gg ⟨rfl,fun q=>.inl (.inr ⟨a,_,rfl,qO.t ha hb (hl' ks vs (vh g1)),q _ (S2.write hi eu ⟨vs',.inr ⟨ks',⟨ZF kvs,g3⟩,by rw[g5];exact dI⟩,g4⟩)⟩)⟩
theorem ahq(S2:Sm K Z Θ e2 C2 σ H2)(hth:Θ[n]?=some a)(r2:RZ (er (aQ Z Θ e2 σ) H2) d v)(b2:dZ Z Θ e2 σ H2 dk w)(hf:putO i d dk e2 C2 (some (.ce n))=some p):
  p.1=.nx∧((∀Hx,cZ K Z Θ e2 σ H2 Θ p.2.1 p.2.2 σ Hx→R Hx)→Di (.ref a) w v H2 R):=by
 refine hide fun GG gg=>?_
 obtain⟨z,hz,hf⟩:=iz hf
 obtain⟨y,hy,hf⟩:=iz hf
 obtain⟨ns,hns,hf⟩:=iz hf
 obtain⟨j,hj,hf⟩:=iz hf
 cases hf;have hz:=Ia hz;have hy:=Ia hy;subst hz hy;have b2:w=.int z:=b2;have ev:v=.int y:=r2;subst ev b2;have ha:=S2.cell.at_ n a ns hth hns;have am:a∈Θ:=lV hth;refine gg ⟨rfl,fun q=>.inl (.inl ⟨a,_,z,j,rfl,rfl,ha,by rw[aX];exact hj,q _ ?_⟩)⟩;have kc:aO Θ H2 (upd H2 a (.lst ((ns.map V.int).set j (.int y)))):=⟨fun b o hb nb=>by rw[cG (fun zz=>nb (by rw[zz];exact am))];exact hb,fun b hb=>by
  by_cases zz:b=a
  ·subst zz;rw[dI];exact uQ _
  ·rw[cG zz];exact hb⟩
 refine cZ.pX kc (Fz.refl _) (S2.go kc ⟨by rw[uT];exact S2.cell.len,fun m b ms h5 h6=>?_⟩);rcases get_set h6 with⟨rfl,e6,_⟩|⟨nm,h6⟩
 ·rw[hth] at h5;cases h5;cases e6;rw[dI,List.map_set]
 ·rw[cG]
  ·exact S2.cell.at_ m b ms h5 h6
  ·intro zz;subst zz
   obtain⟨l1,l1'⟩:=iG.mp h5
   obtain⟨l2,l2'⟩:=iG.mp hth
   rcases adE m n with hlt|heq|hgt
   ·exact Fd.mp S2.cW.2.1 m n l1 l2 hlt (l1'.trans l2'.symm)
   ·exact nm heq
   ·exact Fd.mp S2.cW.2.1 n m l2 l1 hgt (l2'.trans l1'.symm)
theorem aiK(S2:Sm K Z Θ e2 C2 σ H2)(eu:σ[i]?=some (some u))(hi:e2[i]?=some s)(r2:RZ (er (aQ Z Θ e2 σ) H2) d v)(b2:dZ Z Θ e2 σ H2 dk w)(hf:putO i d dk e2 C2 s=some p):
  p.1=.nx∧((∀Hx,cZ K Z Θ e2 σ H2 Θ p.2.1 p.2.2 σ Hx→R Hx)→Di u w v H2 R):=by
 cases s with
 |none=>cases hf
 |some s=>
 obtain⟨u',eu',sl⟩:=S2.slot i _ hi
 rw[eu] at eu';cases eu';cases s with
 |im _=>cases hf
 |sc _=>cases hf
 |ce n=>
  obtain⟨a,rfl,hth⟩:=sl
  exact ahq S2 hth r2 b2 hf
 |ow x=>
  obtain⟨a,rfl,rt⟩:=sl
  cases x<;>first|exact aho S2 eu hi rt r2 b2 hf|exact ahp S2 eu hi rt r2 b2 hf|cases hf
end
theorem CW(hu:X.A.units+1<dR)(ho:PE X o (oK i))(hk:PE X k (dm X.K fk))(he:PE X e (tE X.K fe))
  (ha:∀v,assign (.Subscript o k p) X.env v=(do
   let ov ←pF [v] (eval o X.env)
   let iv ←pF [v,ov] (eval k X.env)
   rM p
   pF [v,ov,iv] (setItem ov iv v)
   release [v,ov,iv] []):=by intro _;rfl)
  (hs:wU [.Subscript o k p] e pos.line X.env=pure false:=by rfl)(hw:wV [.Subscript o k p] e X.env=pure none:=by rfl)(h1:(rH [.Subscript o k p] X.env).map (·.2)=[assign (.Subscript o k p) X.env]:=by rfl):
  PS X (.Assign [.Subscript o k p] e pos) (tS X.K (oN i fk fe)):=(Ql he (ajA (t:=Di) ho hk (aiI hu) ha) hs hw h1).weak fun D σ H aJ=>by
 obtain⟨Z,Θ,env,C,fl,env',C',S,hf,q⟩:=aJ
 obtain⟨p,h1,hf⟩:=iz hf
 obtain⟨d,hd,hf⟩:=iz hf
 obtain⟨kp,h2,hf⟩:=iz hf
 cases h3:qL p.2.1[i]? with
 |false=>rw[h3] at hf;cases hf
 |true=>
 rw[h3] at hf
 obtain⟨s,hi,hf⟩:=iz hf
 obtain⟨y3,h3⟩:=aiJ h3
 refine⟨Z,Θ,env,C,p.1,p.2.1,p.2.2,S,h1,fun v H1 k1 f1 R1=>?_⟩
 obtain⟨S1,r1⟩:=R1.sr (CK hd)
 obtain⟨u,eu,_⟩:=S1.slot i _ h3
 refine⟨u,eu,Z,Θ,p.2.1,p.2.2,kp.1,kp.2.1,kp.2.2,S1,h2,fun w H2 k2 f2 S2 b2=>?_⟩
 obtain⟨e0,go⟩:=aiK (R:=fun Hx=>D.nx σ Hx) S2 eu hi (r1.same (Rf S1 k2 f2)) b2 hf
 have e0:fl=.nx:=e0;subst e0;exact go fun Hx st=>q Θ σ _ ((cZ.pX (k1.trans k2) (f1.trans f2) S2).trans st)
end
def intsOf:List aj→Option (List Int)
 |[]=>some []
 |.int i::r=>match intsOf r with
  |some t=>some (i::t)
  |none=>none
 |_=>none
theorem Yq:∀{ds:List aj}{ns:List Int}{vs:List V},intsOf ds=some ns→bV E ds vs→vs=ns.map V.int
 |[],ns,vs,h,r=>by cases h;exact r
 |.int i::ds,ns,vs,h,r=>by
  unfold intsOf at h;split at h
  ·rename_i t ht;cases h
   obtain⟨u,w,rfl,q,s⟩:=r
   rw[Yq ht s];have:u=.int i:=q;rw[this];rfl
  ·cases h
 |.none::_,_,_,h,_=>by cases h
 |.bool _::_,_,_,h,_=>by cases h
 |.str _::_,_,_,h,_=>by cases h
 |.list _::_,_,_,h,_=>by cases h
 |.tuple _::_,_,_,h,_=>by cases h
 |.dict _::_,_,_,h,_=>by cases h
def Dz(i:Nat)(f:FE):FS:=fun env C=>match f env C with
 |some (.ow (.list ds),e1,C1)=>match intsOf ds with
  |some ns=>some (.nx,e1.set i (some (.ce C1.length)),C1++[ns])
  |none=>none
 |_=>none
section
variable{X:Cx}{pos:Pos}
theorem ahr{K:aC}{i:Nat}{f:FE}:∀D σ H,tS K (Dz i f) D σ H→Dv (tE K f) (xM i) D σ H:=by
 rintro D σ H ⟨Z,Θ,env,C,fl,env',C',S,hf,q⟩;unfold Dz at hf;split at hf
 ·rename_i ds e1 C1 h1;split at hf
  ·rename_i ns hns;cases hf
   refine⟨Z,Θ,env,C,_,e1,C1,S,h1,fun v H1 k f R=>?_⟩
   obtain⟨a,rfl,hn,S1,vs,ha,r⟩:=R
   have ev:=Yq hns r;subst ev;have cW:=S1.cW;have Ek:=jC.mp cW.1;have cl:=S1.cell.len;have c':nj (Θ++[a]) (C1++[ns]) H1:=by
    refine⟨by rw[fO,fO,cl];rfl,fun m b ms h5 h6=>?_⟩
    by_cases hm:m<Θ.length
    ·rw[nM hm] at h5;rw[nM (by rw[cl];exact hm)] at h6;exact S1.cell.at_ m b ms h5 h6
    ·rw[nJ (by omega)] at h5;rw[nJ (by omega)] at h6;rw[cl] at h6;cases hm0:m-Θ.length with
     |zero=>rw[hm0] at h5 h6;cases h5;cases h6;exact ha
     |succ j=>rw[hm0] at h5;simp at h5
   have o1:∀b∈bz (e1.set i (some (.ce C1.length))) (σ.set i (some (.ref a))),b∈bz e1 σ:=fun b m=>by
    rcases vD m with m|⟨⟨_,z⟩,_⟩
    ·exact m
    ·cases z
   have S2:Sm K Z (Θ++[a]) e1 (C1++[ns]) σ H1:=by
    have mm:∀b,b∈aQ Z (Θ++[a]) e1 σ↔b∈aQ (a::Z) Θ e1 σ:=fun b=>by
     rw[iJ,iJ,cI,jm,bL];constructor
     ·rintro(h|(h|h)|h)
      ·exact .inl (.inr h)
      ·exact .inr (.inl h)
      ·exact .inl (.inl h)
      ·exact .inr (.inr h)
     ·rintro((h|h)|h|h)
      ·exact .inr (.inl (.inr h))
      ·exact .inl h
      ·exact .inr (.inl (.inl h))
      ·exact .inr (.inr h)
    refine⟨S1.len,yC Ek.2 ?_ cW.2.2.1 (fun b m=>?_) fun b m=>?_,fun b m=>S1.dom b (eZ _ m),fun j x e=>?_,c'⟩
    ·rw[j4]
     exact⟨cW.2.1,jC.mpr ⟨by simp,oZ⟩,fun b m c m' e=>by
      rw[jm] at m';subst e m';exact cW.2.2.2 b fj m⟩
    ·intro m';rcases cI.mp m' with m'|m'
     ·exact cW.2.2.2 b (eZ _ m) m'
     ·rw[jm.mp m'] at m;exact Ek.1 m
    ·obtain⟨p1,p2⟩:=S1.mG m
     refine⟨fun z=>p1 (eZ _ z),fun m'=>?_⟩
     rcases cI.mp m' with m'|m'
     ·exact p2 m'
     ·rw[jm.mp m'] at p1;exact p1 fj
    ·obtain⟨v,e3,r3⟩:=S1.slot j x e
     rw[qD mm]
     refine⟨v,e3,?_⟩
     cases x with
     |im d=>exact r3
     |ow d=>exact r3
     |ce n=>
      obtain⟨b,e5,e6⟩:=r3
      exact⟨b,e5,by rw[nM (iG.mp e6).1];exact e6⟩
     |sc ns=>exact r3
   have S3:Sm K Z (Θ++[a]) (e1.set i (some (.ce C1.length))) (C1++[ns]) (σ.set i (some (.ref a))) H1:=
    S2.yj (fun _ z=>nomatch z) ⟨a,rfl,by rw[cl,nJ (bD _),V7];rfl⟩
   exact q (Θ++[a]) _ H1 ⟨⟨[a],rfl,fun b m=>by rw[jm.mp m];exact hn⟩,tX k,fun b m=>.inl (f.own.subset (o1 b m)),S3⟩
  ·cases hf
 ·cases hf
theorem ake(hN:X.N.Nodup)(hi:X.N[i]?=some x)(hx:Loc X.env.scope x)(he:PE X e (tE X.K f))(hs:u9 e (some (.Name x pos')) pos.line X.env=pure false:=by rfl)(hf:X.fn x=true∨X.env.scope.names.lookup x=some .local:=by first|exact .inl rfl|exact .inr rfl|assumption):
  PS X (.Assign [.Name x pos'] e pos) (tS X.K (Dz i f)):=(aaa hN hi hx he hs hf).weak ahr
def Js(i:Nat)(f:FB):FS:=fun env C=>match env[i]? with
 |some (some (.im (.int x)))=>match f env C with
  |some (.int y,_,C1)=>some (.nx,env.set i (some (.im (.int (x+y)))),C1)
  |_=>none
 |_=>none
theorem akf(hN:X.N.Nodup)(hi:X.N[i]?=some x)(hx:Loc X.env.scope x)(he:PE X e (dm X.K f))(hf:X.fn x=true∨X.env.scope.names.lookup x=some .local:=by first|exact .inl rfl|exact .inr rfl|assumption):
  PS X (.AugAssign (.Name x pos') .Add e pos) (tS X.K (Js i f)):=(ajC hN hi hx he ajD hf).weak fun D σ H aJ=>by
 obtain⟨Z,Θ,env,C,fl,env',C',S,hf,q⟩:=aJ
 unfold Js at hf;split at hf
 ·rename_i z h0;split at hf
  ·rename_i y e1 C1 h1;cases hf
   obtain⟨v,ev,r⟩:=S.slot i _ h0
   refine⟨v,ev,Z,Θ,env,C,_,e1,C',S,h1,fun w H1 k f S1 b1=>⟨z,y,r,b1,?_⟩⟩
   have S2:=S.go k S1.cell;refine q Θ _ H1 ⟨jB.refl _ _,tX k,fun a m=>?_,S2.yj (fun _ z=>nomatch z) (rfl:RZ _ (.int (z+y)) _)⟩;rcases vD m with m|⟨⟨_,z⟩,_⟩
   ·exact .inl m
   ·cases z
  ·cases hf
 ·cases hf
end
def ji(c:FT)(body:FS):Nat→FS
 |0=>fun _ _=>none
 |n+1=>fun env C=>match c env C with
  |some (false,C1)=>some (.nx,env,C1)
  |some (true,C1)=>match body env C1 with
   |some (.nx,e2,C2)=>ji c body n e2 C2
   |some (.ct,e2,C2)=>ji c body n e2 C2
   |some (.bk,e2,C2)=>some (.nx,e2,C2)
   |some (.rt r,e2,C2)=>some (.rt r,e2,C2)
   |none=>none
  |none=>none
def zW:Nat:=100000
def qY(c:FT)(body:FS):FS:=ji c body zW
theorem afC{K:aC}{c:FT}{body:FS}{n:Nat}:∀D σ H,tS K (ji c body n) D σ H→aab (eU K c) (tS K body) D σ H:=by
 rintro D σ H ⟨Z,Θ,env,C,fl,env',C',S,hf,q⟩
 refine⟨fun m σ1 H1=>∃Θ1 e1 C1,cZ K Z Θ env σ H Θ1 e1 C1 σ1 H1∧ji c body m e1 C1=some (fl,env',C'),⟨n,Θ,env,C,cZ.same S,hf⟩,?_⟩
 rintro m σ1 H1 ⟨Θ1,e1,C1,p,hf⟩;cases m with
 |zero=>cases hf
 |succ m=>
  unfold ji at hf;split at hf
  ·rename_i C2 h1;cases hf
   exact⟨Z,Θ1,env',C1,false,C',p.sm,h1,fun H2 k2 S2=>vR (q Θ1 σ1 H2 (p.trans (cZ.pX k2 (Fz.refl _) S2)))⟩
  ·rename_i C2 h1
   refine⟨Z,Θ1,e1,C1,true,C2,p.sm,h1,fun H2 k2 S2=>vU ⟨fun σ' H'=>∃Θ1 e1 C1,cZ K Z Θ env σ H Θ1 e1 C1 σ' H'∧ji c body m e1 C1=some (fl,env',C'),fun σ' H' h=>⟨m,U8 m,h⟩,?_⟩⟩
   have p2:=p.trans (cZ.pX k2 (Fz.refl _) S2);split at hf
   ·rename_i e3 C3 h2
    exact⟨Z,Θ1,e1,C2,.nx,e3,C3,S2,h2,fun Θ3 σ3 H3 p3=>⟨Θ3,e3,C3,p2.trans p3,hf⟩⟩
   ·rename_i e3 C3 h2
    exact⟨Z,Θ1,e1,C2,.ct,e3,C3,S2,h2,fun Θ3 σ3 H3 p3=>⟨Θ3,e3,C3,p2.trans p3,hf⟩⟩
   ·rename_i e3 C3 h2;cases hf
    exact⟨Z,Θ1,e1,C2,.bk,env',C',S2,h2,fun Θ3 σ3 H3 p3=>q Θ3 σ3 H3 (p2.trans p3)⟩
   ·rename_i r e3 C3 h2;cases hf
    exact⟨Z,Θ1,e1,C2,.rt r,env',C',S2,h2,fun Θ3 v H3 p3=>q Θ3 v H3 (p2.ret p3)⟩
   ·cases hf
  ·cases hf
theorem BJ(hp:M4 (model X.prog X.w) X.A X.env X.xe)(hc:PT X c (eU X.K t))(hb:iD X body (tS X.K f)):PS X (.While c body [] pos) (tS X.K (qY t f)):=(agW hp hc hb).weak afC
abbrev FI:=En→Ce→Option (List aj×En×Ce)
def vX(P T:List aa)(H:Hp)(J:It)(its:List aj):Prop:=∀(i:Nat)(H2:Hp)(P2:List aa),bh (er P H) (er P2 H2)→bh (er T H) (er T H2)→(∀a∈P2,H2 a≠none)→
 (∀d,its[i]?=some d→J.go i H2∧∀x H3,J.wg i H2 x H3→bh H2 H3∧RZ (er P2 H3) d x)∧(i=its.length→J.stop i H2)
inductive tI(K:aC)(b:Bool)(f:FI)(σ:St)(H:Hp)(R:It→Hp→Prop):Prop
 |mk (Z Θ:List aa) (env:En) (C:Ce) (its:List aj) (env':En) (C':Ce) (S:Sm K Z Θ env C σ H) (hf:f env C=some (its,env',C')) (q:∀J H',aO Θ H H'→Fz env env'→Sm K Z Θ env' C' σ H'→vX (aQ Z Θ env' σ) (if b then Θ else aQ Z Θ env' σ) H' J its→R J H'):tI K b f σ H R
theorem PI.weak(h:PI X tg e t)(w:∀σ H Q,t' σ H Q→t σ H Q):PI X tg e t':=fun pins s σ H Q I q=>h pins s σ H Q I (w σ H Q q)
theorem PI.or(h:PI X tg e t)(h':PI X tg e t'):PI X tg e (fun σ H R=>t σ H R∨t' σ H R):=fun pins s σ H R I q=>q.elim (h pins s σ H R I) (h' pins s σ H R I)
section
variable{K:aC}{P T:List aa}{H:Hp}{a:aa}{ds:List aj}{vs:List V}
theorem Pu(ha:er T H a=some (.lst vs))(r:bV (er P H) ds vs):vX P T H (R8 K a) ds:=fun i H2 P2 s1 s2 n=>by
 have h2:bC K H2 a vs:=bC.of (gM (s2 _ _ ha))
 refine⟨fun d hd=>?_,fun hi=>⟨vs,h2,by rw[gm r,hi];exact bD _⟩⟩
 obtain⟨v,ev,rv⟩:=tZ r hd
 refine⟨⟨vs,v,h2,ev⟩,fun x H3 y=>?_⟩
 obtain⟨rfl,y⟩:=y
 have:=y vs h2;rw[ev] at this;cases this
 exact⟨bh.refl _,rv.same s1⟩
theorem QC(ha:er P H a=some (.tup vs))(r:bV (er P H) ds vs):vX P T H (R9 K a) ds:=fun i H2 P2 s1 s2 n=>by
 have h2:cF K H2 a vs:=cF.of (gM (s1 _ _ ha))
 refine⟨fun d hd=>?_,fun hi=>⟨vs,h2,by rw[gm r,hi];exact bD _⟩⟩
 obtain⟨v,ev,rv⟩:=tZ r hd
 refine⟨⟨vs,v,h2,ev⟩,fun x H3 y=>?_⟩
 obtain⟨rfl,y⟩:=y
 have:=y vs h2;rw[ev] at this;cases this
 exact⟨bh.refl _,rv.same s1⟩
def chars(z:Str):List aj:=z.cps.toList.map fun c=>.str ⟨#[c]⟩
theorem aat(z:Str):vX P T H (Su z) (chars z):=fun i H2 P2 s1 s2 n=>by
 refine⟨fun d hd=>?_,fun hi=>?_⟩
 ·unfold chars at hd;rw[fY] at hd;cases hc:z.cps.toList[i]? with
  |none=>rw[hc] at hd;cases hd
  |some c=>
   rw[hc] at hd;cases hd;have hc':z.cps[i]?=some c:=by rw[←J9];exact hc
   have hlt:i<z.cps.size:=by
    obtain⟨h,_⟩:=Array.getElem?_eq_some_iff.mp hc'
    exact h
   refine⟨hlt,fun x H3 y=>?_⟩
   obtain⟨rfl,c',ec,rfl⟩:=y
   rw[hc'] at ec;cases ec
   exact⟨bh.refl _,rfl⟩
 ·show z.cps.size≤i;rw[hi];unfold chars;rw[aX,ju];exact bD _
def gR(lo:Int)(n:Nat):List aj:=(dz n).map fun(k:Nat)=>.int (lo+(k:Int))
theorem Yr(lo:Int)(n:Nat):vX P T H (Eb lo n) (gR lo n):=fun i H2 P2 s1 s2 nn=>by
 refine⟨fun d hd=>?_,fun hi=>?_⟩
 ·unfold gR at hd;rw[fY] at hd;by_cases hlt:i<n
  ·rw[Ul hlt] at hd;cases hd
   refine⟨hlt,fun x H3 y=>?_⟩
   obtain⟨rfl,rfl⟩:=y
   exact⟨bh.refl _,rfl⟩
  ·rw[Ff (by rw[kE];omega)] at hd;cases hd
 ·show n≤i;rw[hi];unfold gR;rw[aX,kE];exact bD _
end
def itD:aj→Option (List aj)
 |.list ds=>some ds
 |.tuple ds=>some ds
 |.str z=>some (chars z)
 |_=>none
def iB(f:FB):FI:=fun env C=>match f env C with
 |some (d,e1,C1)=>match itD d with
  |some its=>some (its,e1,C1)
  |none=>none
 |none=>none
def iV(f:FE):FI:=fun env C=>match f env C with
 |some (r,e1,C1)=>match still r with
  |.im d=>match itD d with
   |some its=>some (its,e1,C1)
   |none=>none
  |_=>none
 |none=>none
def gW(f:FB):FI:=fun env C=>match f env C with
 |some (.int j,_,C1)=>if -(2^62)≤j∧j<2^62 then some (gR 0 j.toNat,env,C1) else none
 |_=>none
section
variable{X:Cx}{tg e:Expr}
theorem alS(h:PE X e (dm X.K f))(hgo:∀i u,wN tg i u=pure ():=by intro _ _;rfl):PI X tg e (tI X.K true (iB f)):=(((O4 h).or (Qm h)).or (aah h hgo)).weak fun σ H R aJ=>by
 obtain⟨Z,Θ,env,C,its,env',C',S,hf,q⟩:=aJ
 unfold iB at hf;split at hf
 ·rename_i d e1 C1 h1;split at hf
  ·rename_i ys hi;cases hf;cases d<;>first|cases hi|skip
   ·refine .inr ⟨Z,Θ,env,C,_,env',C',S,h1,fun v H1 k f S1 b=>⟨_,b,q _ H1 k f S1 (aat _)⟩⟩
   ·refine .inl (.inl ⟨Z,Θ,env,C,_,env',C',S,h1,fun v H1 k f S1 b=>?_⟩)
    obtain⟨a,vs,rfl,ha,r⟩:=b
    exact⟨a,rfl,⟨vs,bC.of (gM ha)⟩,q _ H1 k f S1 (Pu ha r)⟩
   ·refine .inl (.inr ⟨Z,Θ,env,C,_,env',C',S,h1,fun v H1 k f S1 b=>?_⟩)
    obtain⟨a,vs,rfl,ha,r⟩:=b
    exact⟨a,rfl,⟨vs,cF.of (gM ha)⟩,q _ H1 k f S1 (QC ha r)⟩
  ·cases hf
 ·cases hf
theorem DG(h:PE X e (tE X.K f))(hgo:∀i u,wN tg i u=pure ():=by intro _ _;rfl):PI X tg e (tI X.K false (iV f)):=(((O4 h).or (Qm h)).or (aah h hgo)).weak fun σ H R aJ=>by
 obtain⟨Z,Θ,env,C,its,env',C',S,hf,q⟩:=aJ
 unfold iV at hf;split at hf
 ·rename_i r e1 C1 h1;split at hf
  ·rename_i d hd;split at hf
   ·rename_i ys hi;cases hf;cases d<;>first|cases hi|skip
    ·refine .inr ⟨Z,Θ,env,C,_,env',C',S,h1,fun v H1 k f R=>?_⟩
     obtain⟨S1,b⟩:=R.sr hd
     exact⟨_,b,q _ H1 k f S1 (aat _)⟩
    ·refine .inl (.inl ⟨Z,Θ,env,C,_,env',C',S,h1,fun v H1 k f R=>?_⟩)
     obtain⟨S1,a,vs,rfl,ha,r⟩:=R.sr hd
     exact⟨a,rfl,⟨vs,bC.of (gM ha)⟩,q _ H1 k f S1 (Pu ha r)⟩
    ·refine .inl (.inr ⟨Z,Θ,env,C,_,env',C',S,h1,fun v H1 k f R=>?_⟩)
     obtain⟨S1,a,vs,rfl,ha,r⟩:=R.sr hd
     exact⟨a,rfl,⟨vs,cF.of (gM ha)⟩,q _ H1 k f S1 (QC ha r)⟩
   ·cases hf
  ·cases hf
 ·cases hf
theorem tU(hg:Gl X "range")(hm:X.mg "range"=none)(ha:PE X a (dm X.K f))(hs:aZ [a] X.env=(false,eval a X.env)::aZ [] X.env:=by rfl)(hs':aZ [a] X.env=[(false,eval a X.env)]:=by rfl):PI X tg (.Call (.Name "range" p) [a] [] pos) (tI X.K b (gW f)):=
 (afX hg hm (cX ha dY hs) hs').weak fun σ H R aJ=>by
  obtain⟨Z,Θ,env,C,its,env',C',S,hf,q⟩:=aJ
  unfold gW at hf;split at hf
  ·rename_i j e1 C1 h1;split at hf
   ·rename_i hj;cases hf
    refine⟨Z,Θ,env,C,[.int j],e1,C',S,by unfold bCons bNil;rw[h1],fun vs H1 k f S1 b1=>?_⟩
    cases b1 with
    |cons b1 b2=>
     cases b2
     exact⟨j,by rw[show _=V.int j from b1],hj.1,hj.2,q _ H1 k (Fz.refl _) (S.go k S1.cell) (Yr 0 j.toNat)⟩
   ·cases hf
  ·cases hf
end
def jn(g:FG)(body:FS):List aj→FS
 |[]=>fun env C=>some (.nx,env,C)
 |d::r=>fun env C=>match g d env with
  |some e1=>match body e1 C with
   |some (.nx,e2,C2)=>jn g body r e2 C2
   |some (.ct,e2,C2)=>jn g body r e2 C2
   |some (.bk,e2,C2)=>some (.nx,e2,C2)
   |some (.rt v,e2,C2)=>some (.rt v,e2,C2)
   |none=>none
  |none=>none
def gb(fi:FI)(g:FG)(body:FS):FS:=fun env C=>match fi env C with
 |some (its,e1,C1)=>jn g body its e1 C1
 |none=>none
theorem cZ.er{K:aC}{Z Θ Θ1:List aa}{env e1:En}{C1:Ce}{σ σ1:St}{H H1:Hp}(p:cZ K Z Θ env σ H Θ1 e1 C1 σ1 H1):bh (er (aQ Z Θ env σ) H) (er (aQ Z Θ1 e1 σ1) H1):=fun b o h=>by
 unfold L2.er at h⊢;split at h
 ·cases h
 ·rename_i n;have hb:H b≠none:=by rw[h];exact uQ _
  rw[if_neg]
  ·refine p.kp.keep b o h fun m=>n ?_
   rcases cI.mp m with m|m
   ·exact iJ.mpr (.inr (.inl m))
   ·exact iJ.mpr (.inr (.inr m))
  ·intro m;rcases iJ.mp m with m|m|m
   ·exact n (iJ.mpr (.inl m))
   ·obtain⟨Δ,e,hn⟩:=p.th.ex
    rw[e] at m;rcases cI.mp m with m|m
    ·exact n (iJ.mpr (.inr (.inl m)))
    ·exact hb (hn b m)
   ·rcases p.own b m with m|m
    ·exact n (iJ.mpr (.inr (.inr m)))
    ·exact hb m
theorem aiL(s:bh (er P H) (er P2 H2)):bh (er P H) (er P H2):=fun b o h=>by
 have h2:=gM (s b o h);unfold er at h⊢;split at h
 ·cases h
 ·rename_i n;rw[if_neg n];exact h2
theorem ahs{K:aC}{fi:FI}{g:TG}{fg:FG}{body:FS}(L:Ag K g fg):∀D σ H,tS K (gb fi fg body) D σ H→abg (tI K false fi) g (tS K body) D σ H:=by
 rintro D σ H ⟨Z,Θ,env,C,fl,env',C',S,hf,q⟩;unfold gb at hf;split at hf
 ·rename_i its e1 C1 h1
  refine⟨Z,Θ,env,C,its,e1,C1,S,h1,fun J H1 k1 f1 S1 it=>?_⟩
  have p1:=cZ.pX k1 f1 S1
  refine⟨fun i m σ2 H2=>m=its.length-i∧i≤its.length∧∃Θ2 e2 C2,cZ K Z Θ e1 σ H1 Θ2 e2 C2 σ2 H2∧jn fg body (its.drop i) e2 C2=some (fl,env',C'),⟨its.length,rfl,lJ _,Θ,e1,C1,cZ.same S1,hf⟩,?_⟩
  rintro i m σ2 H2 ⟨rfl,hi,Θ2,e2,C2,p2,hl⟩
  obtain⟨S7,S8⟩:=it i H2 (aQ Z Θ2 e2 σ2) p2.er (aiL p2.er) p2.sm.yf
  cases hd:its[i]? with
  |none=>
   have hi2:i=its.length:=by
    have:=T3.mp hd;omega
   rw[hi2,adS] at hl;cases hl;exact .inl ⟨S8 hi2,q Θ2 σ2 H2 (p1.trans p2)⟩
  |some d=>
   have hlt:i<its.length:=(iG.mp hd).1;have ed:its.drop i=d::its.drop (i+1):=by
    rw[acH hlt]
    obtain⟨_,e⟩:=iG.mp hd
    rw[e]
   rw[ed] at hl;unfold jn at hl
   obtain⟨go,yl⟩:=S7 d hd
   refine .inr ⟨go,fun σ' H'=>∃Θ2 e2 C2,cZ K Z Θ e1 σ H1 Θ2 e2 C2 σ' H'∧jn fg body (its.drop (i+1)) e2 C2=some (fl,env',C'),fun σ' H' h=>⟨its.length-(i+1),by omega,rfl,hlt,h⟩,fun x H3 y=>?_⟩
   obtain⟨s3,r3⟩:=yl x H3 y
   have S3:=p2.sm.xQ s3;have p3:=p2.trans (cZ.pX (aO.of s3) (Fz.refl _) S3);split at hl
   ·rename_i e4 h4;refine L Z Θ2 e2 C2 σ2 H3 x d e4 S3 r3 h4 _ fun σ4 S4 o4=>?_
    have p4:cZ K Z Θ e1 σ H1 Θ2 e4 C2 σ4 H3:=p3.trans ⟨jB.refl _ _,aO.refl _ _,fun a m=>.inl (o4 a m),S4⟩;split at hl
    ·rename_i e5 C5 h5
     exact⟨Z,Θ2,e4,C2,.nx,e5,C5,S4,h5,fun Θ5 σ5 H5 p5=>⟨Θ5,e5,C5,p4.trans p5,hl⟩⟩
    ·rename_i e5 C5 h5
     exact⟨Z,Θ2,e4,C2,.ct,e5,C5,S4,h5,fun Θ5 σ5 H5 p5=>⟨Θ5,e5,C5,p4.trans p5,hl⟩⟩
    ·rename_i e5 C5 h5;cases hl
     exact⟨Z,Θ2,e4,C2,.bk,env',C',S4,h5,fun Θ5 σ5 H5 p5=>q Θ5 σ5 H5 (p1.trans (p4.trans p5))⟩
    ·rename_i r e5 C5 h5;cases hl
     exact⟨Z,Θ2,e4,C2,.rt r,env',C',S4,h5,fun Θ5 v H5 p5=>q Θ5 v H5 (p1.ret (p4.ret p5))⟩
    ·cases hl
   ·cases hl
 ·cases hf
theorem qF(hp:M4 (model X.prog X.w) X.A X.env X.xe)(hc:X.calm=true)(hi:PI X tg iter (tI X.K false fi))(hg:PG X tg g)(L:Ag X.K g fg)(hb:iD X body (tS X.K f))
  (hs:∀x,wJ iter X.env x=pure x:=by intro _;rfl):PS X (.For tg iter body [] pos) (tS X.K (gb fi fg f)):=(ajE hp hc hi hg hb hs).weak (ahs L)
def wI:fU→aj→Option (List aj)
 |.one,d=>some [d]
 |.many n,.tuple ds=>if ds.length=n then some ds else none
 |_,_=>none
def frB(js:List Nat)(env:En):En:=js.map fun j=>((env[j]?).join).map still
def dM(ds:List aj):En:=ds.map fun d=>some (.im d)
def jG(T:fU)(ft:FT)(fe:FE)(fs:En):List aj→Ce→Option (List aj×Ce)
 |[],C=>some ([],C)
 |d::r,C=>match wI T d with
  |some ts=>match ft (dM ts++fs) C with
   |some (false,C1)=>jG T ft fe fs r C1
   |some (true,C1)=>match fe (dM ts++fs) C1 with
    |some (x,_,C2)=>match still x with
     |.im y=>match jG T ft fe fs r C2 with
      |some (ys,C3)=>some (y::ys,C3)
      |none=>none
     |_=>none
    |none=>none
   |none=>none
  |none=>none
def fV(js:List Nat)(env:En):En:=env.mapIdx fun i x=>if i∈js then x.map still else x
def fLC(fi:FI)(T:fU)(ft:FT)(fe:FE)(js:List Nat):FE:=fun env C=>match fi env C with
 |some (its,e1,C1)=>match jG T ft fe (frB js e1) its C1 with
  |some (ys,C2)=>if ys.length≤LIM then some (.ow (.list ys),if fL ys then e1 else fV js e1,C2) else none
  |none=>none
 |none=>none
theorem aa2:∀{a b:En},a.length=b.length→(∀(i:Nat)(x y:Option Vl),a[i]?=some x→b[i]?=some y→Sy x y)→Fz a b
 |[],[],_,_=>trivial
 |x::r,y::t,hl,h=>⟨h 0 x y rfl rfl,aa2 (by simpa using hl) fun i u v h1 h2=>h (i+1) u v (by simpa using h1) (by simpa using h2)⟩
 |[],_::_,hl,_=>by cases hl
 |_::_,[],hl,_=>by cases hl
theorem zM(js:List Nat)(env:En):Fz env (fV js env):=aa2 (by unfold fV;rw[List.length_mapIdx]) fun i x y h1 h2=>by
 unfold fV at h2;rw[ac6,h1] at h2;have h2:(if i∈js then WN still x else x)=y:=fP h2;rw[←h2];split
 ·cases x with
  |none=>exact .inl rfl
  |some x=>
   cases x with
   |ow d=>exact .inr ⟨d,rfl,rfl⟩
   |im d=>exact .inl rfl
   |ce n=>exact .inl rfl
   |sc ns=>exact .inl rfl
 ·exact .inl rfl
theorem aau{js:List Nat}{env:En}{k:Nat}{x:Vl}(h:(frB js env)[k]?=some (some x)):∃j:Nat,js[k]?=some j∧(fV js env)[j]?=some (some x)∧∀d,x≠.ow d:=by
 unfold frB at h;rw[fY] at h;cases hj:js[k]? with
 |none=>rw[hj] at h;cases h
 |some j=>
  rw[hj] at h;have h':((env[j]?).join).map still=some x:=fP h
  refine⟨j,rfl,?_,?_⟩
  ·unfold fV;rw[ac6];cases hv:env[j]? with
   |none=>rw[hv] at h';cases h'
   |some y=>
    rw[hv] at h';show some (if j∈js then WN still y else y)=_;rw[if_pos (lV hj)];exact congrArg some h'
  ·cases hv:(env[j]?).join with
   |none=>rw[hv] at h';cases h'
   |some y=>
    rw[hv] at h';have e:still y=x:=fP h';rw[←e];intro d z;cases y<;>cases z
theorem zN:∀{env:En}{σ:St},(∀(i:Nat)(d:aj),env[i]?≠some (some (.ow d)))→bz env σ=[]
 |[],σ,_=>by cases σ<;>rfl
 |_::_,[],_=>rfl
 |x::e,v::s,h=>by
  rw[bz,zN (env:=e) (σ:=s) fun i d z=>h (i+1) d (by simpa using z)];have h0:=h 0;simp at h0;unfold own1;split
  ·rename_i d a;exact absurd rfl (h0 d)
  ·rfl
section
variable{K:aC}{Z Θ:List aa}{env:En}{C C2:Ce}{σ:St}{H H2:Hp}{D:aa}
abbrev jJ(D:aa)(Z:List aa)(env:En)(σ:St):List aa:=D::(Z++bz env σ)
theorem m9{js:List Nat}{a:aa}{eB:En}{sB:St}(h:bz eB sB=[]):a∈aQ (jJ D Z env σ) Θ eB sB↔a=D∨a∈aQ Z Θ env σ:=by
 rw[iJ,iJ,h,bL,cI];constructor
 ·rintro((h|h|h)|h|h)
  ·exact .inl h
  ·exact .inr (.inl h)
  ·exact .inr (.inr (.inr h))
  ·exact .inr (.inr (.inl h))
  ·nomatch h
 ·rintro(h|h|h|h)
  ·exact .inl (.inl h)
  ·exact .inl (.inr (.inl h))
  ·exact .inr (.inl h)
  ·exact .inl (.inr (.inr h))
theorem IW{js:List Nat}{ts:List aj}:∀(i:Nat)(d:aj),(dM ts++frB js env)[i]?≠some (some (.ow d)):=fun i d z=>by
 by_cases hi:i<(dM ts).length
 ·rw[nM hi] at z;unfold dM at z;rw[fY] at z;cases h:ts[i]? with
  |none=>rw[h] at z;cases z
  |some t=>rw[h] at z;cases z
 ·rw[nJ (by omega)] at z
  obtain⟨j,_,_,h⟩:=aau z
  exact h d rfl
theorem Sm.blk{js:List Nat}{ts:List aj}{vs:List V}(S:Sm K Z Θ (fV js env) C σ H)(hD:H D=mC)(k:aO Θ H H2)(nt:NT (H2 D))(c:nj Θ C2 H2)(r:bV (er (aQ (jJ D Z (fV js env) σ) Θ [] []) H2) ts vs):
  Sm K (jJ D Z (fV js env) σ) Θ (dM ts++frB js env) C2 (vs.map some++frees js σ) H2:=by
 have no:=zN (env:=dM ts++frB js env) (σ:=vs.map some++frees js σ) IW;have cW:=S.cW;have lv:=gm r;have JP:(dM ts).length=ts.length:=by unfold dM;rw[aX]
 have ee:er (aQ (jJ D Z (fV js env) σ) Θ (dM ts++frB js env) (vs.map some++frees js σ)) H2=er (aQ (jJ D Z (fV js env) σ) Θ [] []) H2:=qD fun a=>by rw[m9 (js:=js) no,m9 (js:=js) rfl]
 have sm:bh (er (aQ Z Θ (fV js env) σ) H) (er (aQ (jJ D Z (fV js env) σ) Θ [] []) H2):=jU k S.pW fun b m=>by
  rcases(m9 (js:=js) rfl).mp m with rfl|m
  ·exact .inr hD
  ·exact .inl m
 refine⟨?_,?_,fun b m=>?_,fun i x e=>?_,c⟩
 ·rw[fO,fO,aX,lv,JP];unfold frees frB;rw[aX,aX]
 ·show(jJ D Z (fV js env) σ++(Θ++bz (dM ts++frB js env) (vs.map some++frees js σ))).Nodup
  rw[no];refine yC (jC.mpr ⟨fun m=>?_,?_⟩) cW.2.1 oZ (fun b m m'=>?_) (fun _ m=>nomatch m)
  ·rcases cI.mp m with m|m
   ·exact(S.dom D m).ne hD
   ·exact S.yf D (iJ.mpr (.inr (.inr m))) hD
  ·rw[j4]
   exact⟨cW.1,cW.2.2.1,fun b m c' m' e=>by subst e;exact(S.mG m').1 m⟩
  ·rcases bL.mp m with rfl|m
   ·exact S.yf b (iJ.mpr (.inr (.inl m'))) hD
   ·rcases cI.mp m with m|m
    ·exact cW.2.2.2 b m m'
    ·exact(S.mG m).2 m'
 ·rcases bL.mp m with rfl|m
  ·exact nt
  ·have:NT (H b)∧b∉Θ:=by
    rcases cI.mp m with m|m
    ·exact⟨S.dom b m,cW.2.2.2 b m⟩
    ·exact⟨S.JM b (iJ.mpr (.inr (.inr m))),(S.mG m).2⟩
   obtain⟨⟨u,e,n⟩,nb⟩:=this
   exact⟨u,k.keep _ _ e nb,n⟩
 ·rw[ee];by_cases hi:i<ts.length
  ·rw[nM (by rw[JP];exact hi)] at e;unfold dM at e;rw[fY] at e;cases ht:ts[i]? with
   |none=>rw[ht] at e;cases e
   |some t=>
    rw[ht] at e;cases e
    obtain⟨v,ev,rv⟩:=tZ r ht
    exact⟨v,by rw[nM (by rw[aX,lv];exact hi),fY,ev];rfl,rv⟩
  ·rw[nJ (by rw[JP];omega),JP] at e
   obtain⟨j,hj,hx,nx⟩:=aau e
   obtain⟨v,ev,rv⟩:=S.slot j x hx
   refine⟨v,?_,rv.same sm fun d _ z=>absurd z (nx d)⟩
   rw[nJ (by rw[aX,lv];omega),aX,lv];unfold frees;rw[fY,hj];show some ((σ[j]?).join)=_;rw[ev];rfl
end
def gU:FT:=fun _ C=>some (true,C)
theorem xr{X:Cx}:nD X [] (eU X.K gU):=fun pins s σ H Q I aJ=>by
 obtain⟨Z,Θ,env,C,b,C',S,hf,q⟩:=aJ
 cases hf;exact aio pins s σ H Q I (q H (aO.refl _ _) S)
theorem Ig{X:Cx}{c:Expr}{f:FT}(h:PT X c (eU X.K f)):nD X [c] (eU X.K f):=aip h
theorem ale{K:aC}{T:fU}{E H:Hp}{d:aj}{x:V}{ts:List aj}(h:wI T d=some ts)(r:RZ E d x)(s:bh E H):∃vs,wu K T x H vs∧bV E ts vs:=by
 cases T with
 |one=>cases h;exact⟨[x],rfl,x,[],rfl,r,rfl⟩
 |many n=>
  cases d<;>first|cases h|skip
  rename_i ds;have h:(if ds.length=n then some ds else none)=some ts:=h;split at h
  ·rename_i hl;cases h
   obtain⟨a,vs,rfl,ha,r⟩:=r
   exact⟨vs,⟨a,rfl,cF.of (s _ _ ha),(gm r).trans hl⟩,r⟩
  ·cases h
def su{α:Type}(T:fU)(ft:FT)(st:En→α→Ce→Option (α×Ce))(fs:En):List aj→α→Ce→Option (α×Ce)
 |[],a,C=>some (a,C)
 |d::r,a,C=>(wI T d).bind fun ts=>(ft (dM ts++fs) C).bind fun p=>bif p.1 then(st (dM ts++fs) a p.2).bind fun q=>su T ft st fs r q.1 q.2 else su T ft st fs r a p.2
inductive abF{α:Type}(Θ:List aa)(H1:Hp)(n:Nat)(Ob:α→Hp→Prop)(run:Nat→α→Ce→Prop)(i m:Nat)(H2:Hp):Prop
 |mk (a:α) (Ci:Ce) (hm:m=n-i) (hi:i≤n) (ki:aO Θ H1 H2) (ci:nj Θ Ci H2) (ob:Ob a H2) (hc:run i a Ci):abF Θ H1 n Ob run i m H2
section
variable{K:aC}{α:Type}{T:fU}{ft:FT}{st:En→α→Ce→Option (α×Ce)}{js:List Nat}{Z Θ:List aa}{e1:En}{C1 C':Ce}{σ:St}{H1:Hp}{J:It}{its:List aj}{D:aa}{o0:HO}{a0 aE:α}
theorem QD{Hx Hy:Hp}{u:HO}(hD:H1 D=mC)(kk:aO Θ H1 Hx):aO Θ H1 (upd Hx D u):=by
 refine⟨fun a o ha na=>?_,fun a ha=>?_⟩
 ·rw[cG (pA ha hD)];exact kk.keep _ _ ha na
 ·by_cases z:a=D
  ·subst z;rw[dI];exact uQ _
  ·rw[cG z];exact kk.dom a ha
theorem HD{Hx:Hp}{u:HO}(hD:D∉Θ)(c:nj Θ C1 Hx):nj Θ C1 (upd Hx D u):=by
 refine⟨c.len,fun n b ns e2 e3=>?_⟩
 rw[cG]
 ·exact c.at_ n b ns e2 e3
 ·intro z;subst z;exact hD (lV e2)
theorem Oe{em:TM}{Ob:α→Hp→Prop}{done:Hp→Prop}(S1:Sm K Z Θ e1 C1 σ H1)(it:vX (aQ Z Θ e1 σ) Θ H1 J its)(hD:H1 D=mC)(ob0:Ob a0 (upd H1 D o0))(Ah:∀a Hx Hy,aO Θ Hx Hy→Ob a Hx→Ob a Hy)(obn:∀a Hx,Ob a Hx→NT (Hx D))
  (hem:∀(ts:List aj)(a:α)(C2:Ce)(p:α×Ce)(vs:List V)(H4:Hp)(Q:Hp→Prop),st (dM ts++frB js e1) a C2=some p→Sm K (jJ D Z (fV js e1) σ) Θ (dM ts++frB js e1) C2 (vs.map some++frees js σ) H4→aO Θ H1 H4→Ob a H4→(∀H6,aO Θ H1 H6→nj Θ p.2 H6→Ob p.1 H6→Q H6)→em (vs.map some++frees js σ) H4 Q)
  (hc:su T ft st (frB js e1) its a0 C1=some (aE,C'))(hq:∀H2,aO Θ H1 H2→nj Θ C' H2→Ob aE H2→done H2):vV K T (eU K ft) em (frees js σ) J (upd H1 D o0) done:=by
 have pR:D∉Θ:=fun m=>(S1.cell.dom D m).ne hD
 have S1f:=S1.fz (zM js e1)
 refine⟨abF Θ H1 its.length Ob (fun i a Ci=>su T ft st (frB js e1) (its.drop i) a Ci=some (aE,C')),⟨its.length,⟨a0,C1,rfl,lJ _,aO.upd hD,HD pR S1.cell,ob0,hc⟩⟩,fun i m H2 hh=>?_⟩
 cases hh with
 |mk a Ci hm hi ki ci ob hc=>
 subst hm;have nt:=obn a H2 ob;have smP:bh (er (aQ Z Θ e1 σ) H1) (er (aQ (jJ D Z (fV js e1) σ) Θ [] []) H2):=jU ki S1.pW fun b m=>by
  rcases(m9 (js:=js) rfl).mp m with rfl|m
  ·exact .inr hD
  ·exact .inl ((zM js e1).sub b m)
 have alT:∀a∈aQ (jJ D Z (fV js e1) σ) Θ [] [],H2 a≠mC:=fun a m=>(S1f.blk hD ki nt ci (show bV _ [] [] from rfl)).yf a ((m9 (js:=js) (zN (env:=dM []++frB js e1) IW)).mpr ((m9 (js:=js) rfl).mp m))
 obtain⟨S7,S8⟩:=it i H2 _ smP (aam ki) alT
 cases hd:its[i]? with
 |none=>
  have hi2:i=its.length:=Nat.le_antisymm hi (T3.mp hd);rw[hi2,adS] at hc;cases hc;exact .inl ⟨S8 hi2,hq H2 ki ci ob⟩
 |some d=>
  obtain⟨hlt,ed⟩:=iG.mp hd
  rw[acH hlt,ed] at hc
  obtain⟨go,yl⟩:=S7 d hd
  refine .inr ⟨go,fun x H3 y=>?_⟩
  obtain⟨s3,r3⟩:=yl x H3 y
  obtain⟨ts,ht,hc⟩:=iz hc
  obtain⟨p,hft,hc⟩:=iz hc
  obtain⟨vs,tv,rvs⟩:=ale (K:=K) ht r3 (zR _ _)
  refine⟨vs,tv,?_⟩
  have k3:aO Θ H1 H3:=ki.trans (aO.of s3);have S9:=Ah a _ _ (aO.of s3) ob;have SB:=S1f.blk (js:=js) hD k3 (obn a H3 S9) ⟨ci.len,fun n b ns e2 e3=>s3 _ _ (ci.at_ n b ns e2 e3)⟩ rvs;have lt:its.length-(i+1)<its.length-i:=by omega
  refine⟨_,Θ,_,Ci,p.1,p.2,SB,hft,fun H4 k4 S4=>?_⟩
  cases hp:p.1 with
  |false=>
   rw[hp] at hc;exact vR ⟨_,lt,⟨a,p.2,rfl,hlt,k3.trans k4,S4.cell,Ah a _ _ k4 S9,hc⟩⟩
  |true=>
   rw[hp] at hc
   obtain⟨q,hs,hc⟩:=iz hc
   exact vU (hem ts a p.2 q vs H4 _ hs S4 (k3.trans k4) (Ah a _ _ k4 S9) fun H6 k6 c6 o6=>⟨_,lt,⟨q.1,q.2,rfl,hlt,k6,c6,o6,hc⟩⟩)
end
def RN(fe:FE):En→List aj→Ce→Option (List aj×Ce):=fun env acc C=>(fe env C).bind fun q=>(imO (still q.1)).bind fun y=>bif decide (acc.length<LIM) then some (acc++[y],q.2.2) else none
theorem Px{T:fU}{ft:FT}{fe:FE}{fs:En}{C':Ce}:∀{its:List aj}{ys acc:List aj}{C:Ce},jG T ft fe fs its C=some (ys,C')→acc.length+ys.length≤LIM→su T ft (RN fe) fs its acc C=some (acc++ys,C')
 |[],ys,acc,C,h,_=>by
  cases h;rw[jP];rfl
 |d::r,ys,acc,C,h,hl=>by
  unfold jG at h;unfold su;split at h
  case h_2=>cases h
  rename_i ts ht;rw[ht,ir];split at h
  case h_3=>cases h
  ·rename_i C1 hf;rw[hf,ir];exact Px h hl
  ·rename_i C1 hf;rw[hf,ir];split at h
   case h_2=>cases h
   rename_i x e2 C2 hx;split at h
   case h_2=>cases h
   rename_i y hy;split at h
   case h_2=>cases h
   rename_i zs C3 hz;cases h;rw[cN] at hl
   show(RN fe (dM ts++fs) acc C1).bind _=_
   unfold RN;rw[hx,ir,hy,show imO (.im y)=some y from rfl,ir,decide_eq_true (by omega),show acc++y::zs=(acc++[y])++zs by rw[j0];rfl];exact Px hz (by rw[fO];show acc.length+1+_≤_;omega)
theorem aiM{K:aC}{fi:FI}{T:fU}{ft:FT}{fe:FE}{js:List Nat}:∀σ H Q,tE K (fLC fi T ft fe js) σ H Q→tLC K (tI K true fi) T (fun _=>eU K ft) (fun _=>tE K fe) js σ H Q:=by
 rintro σ H Q ⟨Z,Θ,env,C,res,env',C',S,hf,q⟩;unfold fLC at hf;split at hf
 case h_2=>cases hf
 rename_i its e1 C1 h1;split at hf
 case h_2=>cases hf
 rename_i ys C2 h2;split at hf
 case isFalse=>cases hf
 rename_i hl;cases hf
 refine⟨Z,Θ,env,C,its,e1,C1,S,h1,fun J H1 k1 f1 S1 it D hD b=>?_⟩
 have pR:D∉Θ:=fun m=>(S1.cell.dom D m).ne hD
 have Tc:D∈aQ (jJ D Z (fV js e1) σ) Θ [] []:=(m9 (js:=js) rfl).mpr (.inl rfl);refine Oe (a0:=[]) (Ob:=fun acc Hx=>jH (er (aQ (jJ D Z (fV js e1) σ) Θ [] []) Hx) Hx D (.list acc)) S1 it hD ⟨[],dI,rfl⟩ (fun a Hx Hy kk r=>r.same (jU kk (fun a m=>iJ.mpr (.inr (.inl m))) fun a m=>.inl m) fun o h=>kk.keep _ _ h pR)
  (fun a Hx r=>by obtain⟨vs,e,_⟩:=r;exact⟨_,e,fun _ z=>nomatch z⟩) ?_ (Px (acc:=[]) h2 (by rw[Aw,Gu];exact hl)) fun H2 ki ci r=>?_
 ·intro ts acc C2 p vs H4 Q hs S4 k4 r4 hQ
  obtain⟨w,hfe,hs⟩:=iz hs
  obtain⟨yd,qZ,hs⟩:=iz hs
  have qZ:=CK qZ;cases hlt:decide (acc.length<LIM) with
  |false=>rw[hlt] at hs;cases hs
  |true=>
  rw[hlt] at hs;cases hs
  refine⟨_,Θ,_,C2,w.1,w.2.1,w.2.2,S4,hfe,fun y H5 k5 f5 R5=>?_⟩
  obtain⟨S5,r5⟩:=R5.sr qZ
  obtain⟨uB,hD5,rr⟩:=r4.same (jU k5 (fun a m=>iJ.mpr (.inr (.inl m))) fun a m=>.inl m) fun o h=>k5.keep _ _ h pR
  have Td:bz w.2.1 (vs.map some++frees js σ)=[]:=by
   have:=(Fz.own (σ:=vs.map some++frees js σ) f5)
   rw[zN IW] at this;exact adT.mp this
  have e5:er (aQ (jJ D Z (fV js e1) σ) Θ w.2.1 (vs.map some++frees js σ)) H5=er (aQ (jJ D Z (fV js e1) σ) Θ [] []) H5:=qD fun a=>by rw[m9 (js:=js) Td,m9 (js:=js) rfl]
  rw[e5] at r5;have lt:=of_decide_eq_true hlt
  refine⟨uB,hD5,by rw[gm rr,iI];unfold LIM at lt;omega,hQ _ (QD (Hy:=H5) hD (k4.trans k5)) (HD pR S5.cell) ⟨_,dI,?_⟩⟩
  rw[IV Tc];exact vB rr ⟨y,[],rfl,r5,rfl⟩
 ·obtain⟨uB,hDi,ri⟩:=r
  refine q _ H2 (k1.trans ki) ?_ ?_
  ·split
   ·exact f1
   ·exact f1.trans (zM js e1)
  ·refine⟨D,rfl,k1.none hD,?_⟩
   split
   ·rename_i hn;have SD:=S1.xT hD ki ⟨_,hDi,fun _ z=>nomatch z⟩ ci
    exact⟨SD,uB,hDi,ri.jr (fun a vs e=>CJ SD (gM e)) hn⟩
   ·refine⟨(S1.fz (zM js e1)).xT hD ki ⟨_,hDi,fun _ z=>nomatch z⟩ ci,uB,hDi,?_⟩
    rw[qD (P':=aQ (D::Z) Θ (fV js e1) σ) fun a=>by rw[m9 (js:=js) rfl];show _↔a∈D::aQ Z Θ (fV js e1) σ;rw[bL]] at ri;exact ri
section
variable{X:Cx}{NT NF:List Str}{js:List Nat}{elt tg iter:Expr}{ifs:List Expr}{T:fU}{fi:FI}{ft:FT}{fe:FE}{scope:iK}{pos:Pos}
theorem uh(B:qI X NT NF js scope)(tk:pP tg NT T)(hc:X.calm=true)(hi:PI X tg iter (tI X.K true fi))
  (hin:∀b,nD (X.bk (NT++NF) scope b) ifs (eU X.K ft)∧PE (X.bk (NT++NF) scope b) elt (tE X.K fe))
  (hs:∀x,wJ iter X.env x=pure x:=by intro _;rfl):PE X (.ListComp elt [⟨tg,iter,ifs,0⟩] scope pos) (tE X.K (fLC fi T ft fe js)):=(ak9 B tk hc hi hin hs).weak aiM
end
def zX(n:Nat):Vl→Bool
 |.ce m=>decide (m<n)
 |_=>true
def fN(k n:Nat)(body:FS):FN:=fun xs C=>if xs.length=k then match body (xs.map some++cH (n-xs.length) none) C with
  |some (.rt r,_,C')=>if zX C.length r then some (r,C'.take C.length) else none
  |some (.nx,_,C')=>some (.im .none,C'.take C.length)
  |_=>none
 else none
section
variable{K:aC}{Z Θ:List aa}{C:Ce}{H:Hp}{xs:List Vl}{vs:List V}
theorem Og(a:pJ K E Θ xs vs):vs.length=xs.length:=by
 induction a with
 |nil=>rfl
 |cons _ _ ih=>rw[cN,cN,ih]
theorem aiN(a:pJ K E Θ xs vs):∀{i:Nat}{x:Vl},xs[i]?=some x→∃v,vs[i]?=some v∧ug K E Θ x v:=by
 induction a with
 |nil=>intro i x e;simp at e
 |cons h _ ih=>
  intro i x e;cases i with
  |zero=>simp at e;subst e;exact⟨_,rfl,h⟩
  |succ i=>
   obtain⟨v,e2,h2⟩:=ih (i:=i) (by simpa using e)
   exact⟨v,by simpa using e2,h2⟩
theorem Sm.start(S:Sm K Z Θ [] C [] H)(a:pJ K (er (aQ Z Θ [] []) H) Θ xs vs):Sm K Z Θ (xs.map some++cH n mC) C (vs.map some++cH n mC) H∧bz (xs.map some++cH n mC) (vs.map some++cH n mC)=[]:=by
 have lv:=Og a;have at':∀{i:Nat}{x:Vl},(xs.map some++cH n mC)[i]?=some (some x)→∃v,vs[i]?=some v∧ug K (er (aQ Z Θ [] []) H) Θ x v∧i<vs.length:=fun{i x} e=>by
  by_cases hi:i<xs.length
  ·rw[nM (by rw[aX];exact hi),fY] at e;cases hx:xs[i]? with
   |none=>rw[hx] at e;cases e
   |some y=>
    rw[hx] at e;cases e
    obtain⟨v,e1,h⟩:=aiN a hx
    exact⟨v,e1,h,by rw[lv];exact hi⟩
  ·rw[nJ (by rw[aX];omega)] at e;have:=lV e;exact nomatch(List.eq_of_mem_replicate this)
 have no:bz (xs.map some++cH n mC) (vs.map some++cH n mC)=[]:=zN fun i d e=>by
  obtain⟨v,_,h,_⟩:=at' e
  exact h
 refine⟨⟨by simp[lv],?_,S.dom,fun i x e=>?_,S.cell⟩,no⟩
 ·show(Z++(Θ++bz _ _)).Nodup
  rw[no];exact S.nd
 ·obtain⟨v,e1,h,hl⟩:=at' e
  refine⟨v,by rw[nM (by rw[aX];exact hl),fY,e1];rfl,?_⟩
  have ee:er (aQ Z Θ (xs.map some++cH n mC) (vs.map some++cH n mC)) H=er (aQ Z Θ [] []) H:=by
   show er (Z++(Θ++bz _ _)) H=_;rw[no];rfl
  rw[ee];cases x with
  |im d=>exact h
  |ow d=>exact h.elim
  |ce m=>exact h
  |sc ns=>exact h
theorem Sm.cut(S:Sm K Z (Θ++Δ) [] C [] H):Sm K Z Θ [] (C.take Θ.length) [] H:=by
 have cW:=S.cW;have cl:=S.cell.len;rw[fO] at cl
 refine⟨rfl,yC cW.1 (j4.mp cW.2.1).1 oZ (fun b m m'=>cW.2.2.2 b m (gh _ m')) (fun _ m=>nomatch m),S.dom,fun i x e=>by simp at e,⟨by rw[m7];omega,fun n a ns e1 e2=>?_⟩⟩
 have hn:n<Θ.length:=(iG.mp e1).1;rw[Uq,if_pos hn] at e2;exact S.cell.at_ n a ns (by rw[nM hn];exact e1) e2
theorem Jj.cut(t:jB Θ Θ' H)(ok:zX Θ.length r=true)(no:O=[])(h:Jj K Z Θ' C' O H H' r v):Res K Z Θ [] (C'.take Θ.length) [] H H' r v:=by
 obtain⟨Δ,rfl,hn⟩:=t.ex
 have sm:∀{Y:List aa},bh (er (aQ Y (Θ++Δ) [] []) H') (er (aQ Y Θ [] []) H'):=fun{Y}=>rP fun a m=>by
  rcases iJ.mp m with m|m|m
  ·exact iJ.mpr (.inl m)
  ·exact iJ.mpr (.inr (.inl (gh _ m)))
  ·nomatch m
 cases r with
 |im d=>exact⟨h.1.cut,h.2.same sm⟩
 |ow d=>
  obtain⟨a,e,m,S,r⟩:=h
  refine⟨a,e,?_,S.cut,r.same sm fun _ h=>h⟩
  rcases m with m|m
  ·rw[no] at m;nomatch m
  ·exact m
 |ce n=>
  obtain⟨S,a,e,e2⟩:=h
  refine⟨S.cut,a,e,?_⟩
  rw[nM (of_decide_eq_true ok)] at e2;exact e2
 |sc ns=>
  obtain⟨S,a,e,q⟩:=h
  exact⟨S.cut,a,e,sm.seq q⟩
end
section
variable{P:bf}{w:aY}{K:aC}{mg:Str→Option Value}{base:aU}
theorem iQ{x qual:Str}{st:cV}{f:aa}{fd:dg}{N ps:List Str}{k:Nat}{body:FS}{k1 k2:Nat}(F:fM K x qual st f fd)(S:gk N ps (cO st))
  (hb:∀(cdv:Value)(A:bU)(outer:List Env)(s:au)(H:Hp)(E:XK),gC k (A.deeper (envOfC qual (cO st) s.heap.objs.size f cdv))→iD (yc eO P w K mg base N qual (cO st) f cdv A outer s H E).uE (vA st) (tS K body))
  (e1:k1=ps.length:=by rfl)(e2:k2=N.length:=by rfl):cY P w K mg base eO (k+1) f fd ps (spT K (fN k1 k2 body)):=by
 subst e1 e2;refine F.ok S (fun vs H Q E h=>?_) (fun cdv A outer s H vs Q E hr h=>⟨_,hb cdv A outer s H E hr,?_⟩)
 ·obtain⟨Z,Θ,C,xs,r,C',S0,a,hf,_⟩:=h
  unfold fN at hf;split at hf
  ·rename_i hl;rw[Og a,hl]
  ·cases hf
 ·obtain⟨Z,Θ,C,xs,r,C',S0,a,hf,q⟩:=h
  unfold fN at hf;split at hf
  case isFalse=>cases hf
  rename_i hl;have lv:=Og a
  obtain⟨S1,no⟩:=S0.start (n:=N.length-vs.length) a
  rw[lv] at S1 no;have hs:start N vs=vs.map some++cH (N.length-xs.length) none:=by unfold start;rw[lv]
  rw[hs];have cl:=S0.cell.len;split at hf
  ·rename_i r0 e' C1 hb';split at hf
   ·rename_i hok;cases hf
    refine⟨Z,Θ,_,C,.rt r,e',C1,S1,hb',fun Θ' v H' R=>?_⟩
    have kp:=R.kp;rw[no,jP] at kp;rw[cl] at q hok;exact q v H' kp (R.ok.cut R.th hok no)
   ·cases hf
  ·rename_i e' C1 hb';cases hf
   refine⟨Z,Θ,_,C,.nx,e',C1,S1,hb',fun Θ' σ' H' R=>?_⟩
   have kp:=R.kp;rw[no,jP] at kp
   obtain⟨Δ,e,hn⟩:=R.th.ex
   have S2:=R.sm.none;rw[e] at S2;rw[cl] at q;exact q .non H' kp ⟨S2.cut,rfl⟩
  ·cases hf
theorem akg(hS:bC K H a (ns.map V.int))(h:f [.sc ns] []=some (.im (.bool true),C')):spT K f [.ref a] H (fun v _=>v=.bl true) E:=by
 refine⟨[],[],[],[.sc ns],_,C',⟨rfl,oZ,(fun _ m=>nomatch m),fun i x e=>by simp at e,⟨rfl,fun n b ms e _=>by simp at e⟩⟩,.cons ⟨a,rfl,?_⟩ .nil,h,fun v H' _ R=>R.2⟩
 show bC K (er [] H) a _;rw[Cy];exact hS
end
def vN(i:Nat):FE:=fun env C=>match env[i]? with
 |some (some (.sc ns))=>some (.im (.int ns.length),env,C)
 |_=>none
def DK(i:Nat)(f:FB):FE:=fun env C=>match env[i]? with
 |some (some (.sc ns))=>match f env C with
  |some (.int k,_,C1)=>match eN ns k with
   |some z=>some (.im (.int z),env,C1)
   |none=>none
  |_=>none
 |_=>none
section
variable{X:Cx}{o k:Expr}{i:Nat}{p pos:Pos}
theorem ZG(ho:PE X o (oK i))(hg:Gl X "len")(hm:X.mg "len"=none)(hv:rF "len"=some (.builtin "len"))
  (he:aZ [o] X.env=(false,eval o X.env)::aZ [] X.env:=by rfl)(hpl:(fK pos (aZ [] X.env)).any (·.1)=false:=by rfl):PE X (.Call (.Name "len" p) [o] [] pos) (tE X.K (vN i)):=
 (Hr V5 hg hm hv (lK ho ou he) (by decide) (by decide) he hpl).weak fun σ H Q aJ=>by
  obtain⟨Z,Θ,env,C,r,env',C',S,hf,q⟩:=aJ
  unfold vN at hf;split at hf
  ·rename_i ns h0;cases hf
   obtain⟨v,ev,a,rfl,sq⟩:=S.slot i _ h0
   have:=q (.int ns.length) H (aO.refl _ _) (Fz.refl _) ⟨S,rfl⟩
   exact⟨_,ev,a,_,rfl,.inl ((zR _ _).seq sq),by rw[aX];exact this⟩
  ·cases hf
theorem akh(ho:PE X o (oK i))(hk:PE X k (dm X.K f))(hs:HS k):PE X (.Subscript o k pos) (tE X.K (DK i f)):=(Q9 Pa ho hk hs).weak fun σ H Q aJ=>by
 obtain⟨Z,Θ,env,C,r,env',C',S,hf,q⟩:=aJ
 unfold DK at hf;split at hf
 case h_2=>cases hf
 rename_i ns h0;split at hf
 case h_2=>cases hf
 rename_i z e1 C1 h1;split at hf
 case h_2=>cases hf
 rename_i y hy;cases hf
 obtain⟨v,ev,a,rfl,sq⟩:=S.slot i _ h0
 refine⟨_,ev,Z,Θ,env,C,_,e1,C',S,h1,fun w H1 k1 f1 S1 b1=>?_⟩
 have S2:=S.go k1 S1.cell
 obtain⟨v2,ev2,a2,ea2,sq2⟩:=S2.slot i _ h0
 rw[ev] at ev2;cases ev2;cases ea2
 refine⟨a,_,z,.int y,rfl,b1,(zR _ _).seq sq2,?_,q _ H1 k1 (Fz.refl _) ⟨S2,rfl⟩⟩
 unfold eN at hy⊢;rw[aX];cases hj:mX ns.length z with
 |none=>rw[hj] at hy;cases hy
 |some j=>
  rw[hj] at hy
  show(ns.map V.int)[j]?=_
  rw[fY,show ns[j]?=some y from hy];rfl
end
section
variable{K:aC}{X:Cx}
theorem oF(h:Jh Z Θ env σ H [d] vs):∃v,vs=[v]∧dZ Z Θ env σ H d v:=by
 cases h with
 |cons a b=>cases b;exact⟨_,rfl,a⟩
theorem aa3(h:Jh Z Θ env σ H [d,e] vs):∃v w,vs=[v,w]∧dZ Z Θ env σ H d v∧dZ Z Θ env σ H e w:=by
 cases h with
 |cons a b=>
  cases b with
  |cons b c=>cases c;exact⟨_,_,rfl,a,b⟩
def DN:aj→Option Nat
 |.list ds=>some ds.length
 |.tuple ds=>some ds.length
 |.str z=>if z.length≤LIM then some z.length else none
 |.dict kvs=>if(cD cJ kvs).isSome then some kvs.length else none
 |_=>none
def jz:List aj→Option Vl
 |[d]=>(DN d).map fun n=>.im (.int n)
 |_=>none
def aa4(K:aC):List V→Hp→VK→Prop:=fun xs H Q=>((∃p ys,xs=[.ref p]∧(bC K H p ys∨cF K H p ys)∧Q (.int ys.length) H)∨∃z,xs=[.str z]∧z.length≤bJ∧Q (.int z.length) H)∨∃a kvs,xs=[V.ref a]∧H a=some (.dK kvs)∧Q (.int kvs.length) H
theorem mD:gQ X (.builtin "len") (aa4 X.K):=(V5.or aeA).or aga
theorem mJ:nG K (aa4 K) jz:=by
 intro Z Θ env C σ H xs ds res S b e Q q;unfold jz at e;split at e
 case h_2=>cases e
 rename_i d
 obtain⟨v,rfl,bb⟩:=oF b
 cases hn:DN d with
 |none=>rw[hn] at e;cases e
 |some n=>
  rw[hn] at e;cases e;have fin:=q (.int n) H (aO.refl _ _) (gA S rfl rfl);cases d<;>first|cases hn|skip
  ·rename_i z;simp only[DN] at hn;split at hn
   ·rename_i hl;cases hn;cases bb.str;exact .inl (.inr ⟨z,rfl,qi hl,fin⟩)
   ·cases hn
  ·obtain⟨a,vs,rfl,ha,r⟩:=bb.lst
   exact .inl (.inl ⟨a,vs,rfl,.inl (bC.of ha),by rw[gm r];exact fin⟩)
  ·obtain⟨a,vs,rfl,ha,r⟩:=bb.tup
   exact .inl (.inl ⟨a,vs,rfl,.inr (cF.of ha),by rw[gm r];exact fin⟩)
  ·rename_i kvs;simp only[DN] at hn;split at hn
   ·rename_i hs;cases hn
    obtain⟨a,vs,rfl,da,r⟩:=bb.dct
    rcases da with⟨ks,h1,ha⟩|⟨ks,⟨ne,h2⟩,ha⟩
    ·refine .inr ⟨a,_,rfl,ha,?_⟩;rw[Vf,vh h1,BX r,Nat.min_self];exact fin
    ·obtain⟨ks',h1⟩:=uL.mp hs
     exact absurd (vm h1 h2) ne
   ·cases hn
def Dj:List aj→Option Vl
 |[.int i]=>some (.im (.int (if i<0 then -i else i)))
 |_=>none
theorem aav:nG K (fun xs H Q=>∃i,xs=[.int i]∧Q (.int (if i<0 then -i else i)) H) Dj:=by
 intro Z Θ env C σ H xs ds res S b e Q q;unfold Dj at e;split at e
 case h_2=>cases e
 cases e
 obtain⟨v,rfl,bb⟩:=oF b
 cases bb.int
 exact⟨_,rfl,q _ H (aO.refl _ _) (gA S rfl rfl)⟩
def vO:List aj→Option Vl
 |[.int i]=>some (.im (.int i))
 |[.bool k]=>some (.im (.int (if k then 1 else 0)))
 |_=>none
theorem QF:nG K (fun xs H Q=>(∃i,xs=[.int i]∧Q (.int i) H)∨∃k,xs=[.bl k]∧Q (.int (if k then 1 else 0)) H) vO:=by
 intro Z Θ env C σ H xs ds res S b e Q q;unfold vO at e;split at e
 case h_3=>cases e
 ·cases e
  obtain⟨v,rfl,bb⟩:=oF b
  cases bb.int;exact .inl ⟨_,rfl,q _ H (aO.refl _ _) (gA S rfl rfl)⟩
 ·cases e
  obtain⟨v,rfl,bb⟩:=oF b
  cases(show v=.bl _ from bb)
  exact .inr ⟨_,rfl,q _ H (aO.refl _ _) (gA S rfl rfl)⟩
def zO:List aj→Option Vl
 |[.int i,.int j]=>some (.im (.int (if j>i then j else i)))
 |_=>none
def rW:List aj→Option Vl
 |[.int i,.int j]=>some (.im (.int (if j<i then j else i)))
 |_=>none
theorem aiO:nG K (fun xs H Q=>∃i j,xs=[.int i,.int j]∧Q (.int (if j>i then j else i)) H) zO:=by
 intro Z Θ env C σ H xs ds res S b e Q q;unfold zO at e;split at e
 case h_2=>cases e
 cases e
 obtain⟨v,w,rfl,b1,b2⟩:=aa3 b
 cases b1.int;cases b2.int
 exact⟨_,_,rfl,q _ H (aO.refl _ _) (gA S rfl rfl)⟩
theorem Ih:nG K (fun xs H Q=>∃i j,xs=[.int i,.int j]∧Q (.int (if j<i then j else i)) H) rW:=by
 intro Z Θ env C σ H xs ds res S b e Q q;unfold rW at e;split at e
 case h_2=>cases e
 cases e
 obtain⟨v,w,rfl,b1,b2⟩:=aa3 b
 cases b1.int;cases b2.int
 exact⟨_,_,rfl,q _ H (aO.refl _ _) (gA S rfl rfl)⟩
def boolsOf:List aj→Option (List Bool)
 |[]=>some []
 |.bool b::r=>match boolsOf r with
  |some t=>some (b::t)
  |none=>none
 |_=>none
theorem Xm:∀{ds:List aj}{ns:List Bool}{vs:List V},boolsOf ds=some ns→bV E ds vs→vs=ns.map V.bl
 |[],ns,vs,h,r=>by cases h;exact r
 |.bool i::ds,ns,vs,h,r=>by
  unfold boolsOf at h;split at h
  ·rename_i t ht;cases h
   obtain⟨u,w,rfl,q,s⟩:=r
   rw[Xm ht s];have:u=.bl i:=q;rw[this];rfl
  ·cases h
 |.none::_,_,_,h,_=>by cases h
 |.int _::_,_,_,h,_=>by cases h
 |.str _::_,_,_,h,_=>by cases h
 |.list _::_,_,_,h,_=>by cases h
 |.tuple _::_,_,_,h,_=>by cases h
 |.dict _::_,_,_,h,_=>by cases h
def Dk:List aj→Option Vl
 |[.list ds]=>(boolsOf ds).map fun bs=>.im (.bool (bs.all id))
 |_=>none
theorem aki:nG K (fun xs H Q=>∃(p:aa)(bs:List Bool),xs=[.ref p]∧bC K H p (bs.map V.bl)∧Q (.bl (bs.all id)) H) Dk:=by
 intro Z Θ env C σ H xs ds res S b e Q q;unfold Dk at e;split at e
 case h_2=>cases e
 rename_i ds;cases hb:boolsOf ds with
 |none=>rw[hb] at e;cases e
 |some bs=>
  rw[hb] at e;cases e
  obtain⟨v,rfl,bb⟩:=oF b
  obtain⟨a,vs,rfl,ha,r⟩:=bb.lst
  rw[Xm hb r] at ha
  exact⟨a,bs,rfl,bC.of ha,q _ H (aO.refl _ _) (gA S rfl rfl)⟩
def aaw:List aj→Option Vl
 |[d]=>if m5 d&&d.showable&&decide (d.depth≤60)&&decide (d.shown.length≤LIM) then some (.im (.str d.shown)) else none
 |_=>none
def Cd:List aj→Option Vl
 |[.list ds]=>some (.im (.tuple ds))
 |[.tuple ds]=>some (.im (.tuple ds))
 |_=>none
theorem Ys:nG K (fun xs H Q=>∃p ys,xs=[.ref p]∧((bC K H p ys∧∀l,H l=none→Q (.ref l) (upd H l (.tup ys)))∨(cF K H p ys∧Q (.ref p) H))) Cd:=by
 intro Z Θ env C σ H xs ds res S b e Q q;unfold Cd at e;split at e
 case h_3=>cases e
 ·cases e
  obtain⟨v,rfl,bb⟩:=oF b
  obtain⟨a,vs,rfl,ha,r⟩:=bb.lst
  exact⟨a,vs,rfl,.inl ⟨bC.of ha,fun l hl=>q _ _ (aO.upd hl) (H9 S r hl)⟩⟩
 ·cases e
  obtain⟨v,rfl,bb⟩:=oF b
  obtain⟨a,vs,rfl,ha,r⟩:=bb.tup
  exact⟨a,vs,rfl,.inr ⟨cF.of ha,q _ H (aO.refl _ _) ⟨S,bb⟩⟩⟩
end
def ym(n:String):aj→Option Bool
 |.none=>some false
 |.bool _=>some (n=="bool"||n=="int")
 |.int _=>some (n=="int")
 |.str _=>some (n=="str")
 |.list _=>some (n=="list")
 |.tuple _=>some (n=="tuple")
 |.dict _=>none
def DP(n:String):Bool:=n=="bool"||n=="int"||n=="str"||n=="list"||n=="tuple"
theorem QG{K:aC}{n:String}{d:aj}{b:Bool}(hn:DP n=true)(e:ym n d=some b):yQ K (Ej d) (.type n)=some b:=by
 unfold DP at hn;simp only[Bool.or_eq_true,beq_iff_eq] at hn;rcases hn with(((rfl|rfl)|rfl)|rfl)|rfl<;>cases d<;>cases e<;>rfl
theorem Yt(e:ym n d=some b):∀kvs,d≠.dict kvs:=fun kvs z=>by subst z;cases e
theorem dZ.ty{K:aC}{Z Θ:List aa}{env:En}{σ:St}{H:Hp}{d:aj}{v:V}(h:dZ Z Θ env σ H d v)(hd:∀kvs,d≠.dict kvs):lA K H v (Ej d):=by
 cases d with
 |none=>exact RX.ty (d:=.none) h
 |bool b=>exact RX.ty (d:=.bool b) h
 |int i=>exact RX.ty (d:=.int i) h
 |str z=>exact RX.ty (d:=.str z) h
 |list ds=>
  obtain⟨a,vs,rfl,ha,r⟩:=h.lst
  exact .lst ha
 |tuple ds=>
  obtain⟨a,vs,rfl,ha,r⟩:=h.tup
  exact .tup ha
 |dict kvs=>exact absurd rfl (hd kvs)
def mV(n:String)(f:FB):FE:=fun env C=>match f env C with
 |some (d,_,C1)=>match ym n d with
  |some b=>some (.im (.bool b),env,C1)
  |none=>none
 |none=>none
def Dl(m n:String)(f:FB):FE:=fun env C=>match f env C with
 |some (d,_,C1)=>match ym m d,ym n d with
  |some p,some q=>some (.im (.bool (p||q)),env,C1)
  |_,_=>none
 |none=>none
section
variable{X:Cx}{a t t':Expr}{p pos tp:Pos}{x1:Nat}
theorem qG(hn:DP n=true)(ha:PE X a (dm X.K f))(ht:PE X t (tC (.ty n)))(hg:Gl X "isinstance")(hm:X.mg "isinstance"=none)(hv:rF "isinstance"=some (.builtin "isinstance"))
  (he:aZ [a,t] X.env=(false,eval a X.env)::aZ [t] X.env:=by rfl)(he2:aZ [t] X.env=(false,eval t X.env)::aZ [] X.env:=by rfl)(hpl:(fK pos (aZ [t] X.env)).any (·.1)=false:=by rfl):
  PE X (.Call (.Name "isinstance" p) [a,t] [] pos) (tE X.K (mV n f)):=
 (Hr ae1 hg hm hv (lK ha (lK ht ou he2) he) (by decide) (by decide) he hpl).weak fun σ H Q aJ=>by
  obtain⟨Z,Θ,env,C,r,env',C',S,hf,q⟩:=aJ
  unfold mV at hf;split at hf
  case h_2=>cases hf
  rename_i d e1 C1 h1;split at hf
  case h_2=>cases hf
  rename_i b hb;cases hf
  refine⟨Z,Θ,env,C,d,e1,C',S,h1,fun v H1 k f S1 b1=>⟨v,n,Ej d,b,rfl,b1.ty (Yt hb),QG hn hb,q _ H1 k (Fz.refl _) ⟨S.go k S1.cell,rfl⟩⟩⟩
theorem aiP(hm':DP m=true)(hn:DP n=true)(ha:PE X a (dm X.K f))(ht:PE X t (tC (.ty m)))(ht':PE X t' (tC (.ty n)))(hg:Gl X "isinstance")(hm:X.mg "isinstance"=none)(hv:rF "isinstance"=some (.builtin "isinstance"))
  (he:aZ [a,.Tuple [t,t'] x1 tp] X.env=(false,eval a X.env)::aZ [.Tuple [t,t'] x1 tp] X.env:=by rfl)(he2:aZ [.Tuple [t,t'] x1 tp] X.env=(false,eval (.Tuple [t,t'] x1 tp) X.env)::aZ [] X.env:=by rfl)
  (h3:aZ [t,t'] X.env=(false,eval t X.env)::aZ [t'] X.env:=by rfl)(h4:aZ [t'] X.env=(false,eval t' X.env)::aZ [] X.env:=by rfl)
  (hpl:(fK pos (aZ [.Tuple [t,t'] x1 tp] X.env)).any (·.1)=false:=by rfl):
  PE X (.Call (.Name "isinstance" p) [a,.Tuple [t,t'] x1 tp] [] pos) (tE X.K (Dl m n f)):=
 (Hr aeD hg hm hv (lK ha (lK (Qs (lK ht (lK ht' ou h4) h3)) ou he2) he) (by decide) (by decide) he hpl).weak fun σ H Q aJ=>by
  obtain⟨Z,Θ,env,C,r,env',C',S,hf,q⟩:=aJ
  unfold Dl at hf;split at hf
  case h_2=>cases hf
  rename_i d e1 C1 h1;split at hf
  case h_2=>cases hf
  rename_i b b' hb hb';cases hf
  refine⟨Z,Θ,env,C,d,e1,C',S,h1,fun v H1 k f S1 b1=>⟨by show 2≤bJ;rw[iI];decide,fun c hc=>?_⟩⟩
  have kc:aO Θ H1 (upd H1 c (.tup [.ty m,.ty n])):=aO.upd hc;have s2:=S1.xQ (bh.upd (o:=.tup [.ty m,.ty n]) hc);have b2:=b1.go S1 kc (Fz.refl _)
  refine⟨v,c,m,n,Ej d,b,b',rfl,dI,b2.ty (Yt hb),QG hm' hb,QG hn hb',q _ _ (k.trans kc) (Fz.refl _) ⟨S.go (k.trans kc) s2.cell,rfl⟩⟩
end
def ins{α:Type}(lt:α→α→Bool)(x:α):List α→List α
 |[]=>[x]
 |y::r=>if lt y x then y::ins lt x r else x::y::r
def sy{α:Type}(lt:α→α→Bool):List α→List α
 |[]=>[]
 |x::r=>ins lt x (sy lt r)
section
variable{α:Type}{lt:α→α→Bool}
theorem Oh(x:α):∀l:List α,(ins lt x l).Perm (x::l)
 |[]=>yR _
 |y::r=>by
  unfold ins;split
  ·exact((Oh x r).cons y).trans (KR x y r)
  ·exact yR _
theorem zm:∀l:List α,(sy lt l).Perm l
 |[]=>yR _
 |x::r=>(Oh x _).trans ((zm r).cons x)
structure Dm(lt:α→α→Bool)(P:α→Prop):Prop where
 abv:∀a b,P a→P b→lt a b=true→lt b a=false
 neg:∀a b c,P a→P b→P c→lt a c=true→lt a b=true∨lt b c=true
 tot:∀a b,P a→P b→lt a b=false→lt b a=false→a=b
theorem aax(O:Dm lt P)(hx:P x):∀{l:List α},(∀y∈l,P y)→l.Pairwise (fun a b=>lt b a=false)→(ins lt x l).Pairwise (fun a b=>lt b a=false)
 |[],_,_=>tD.mpr ⟨fun _ m=>(nomatch m),yH⟩
 |y::r,hp,h=>by
  rw[tD] at h;have py:=hp y fj;unfold ins;split
  ·rename_i hl;rw[tD]
   refine⟨fun z m=>?_,aax O hx (fun z m=>hp z (eZ _ m)) h.2⟩
   rcases bL.mp ((Oh x r).mem_iff.mp m) with rfl|m
   ·exact O.abv _ _ py hx hl
   ·exact h.1 z m
  ·rename_i hl;have hl:lt y x=false:=by simpa using hl
   rw[tD,tD]
   refine⟨fun z m=>?_,h.1,h.2⟩
   rcases bL.mp m with rfl|m
   ·exact hl
   ·have pz:=hp z (eZ _ m);cases hz:lt z x with
    |false=>rfl
    |true=>
     rcases O.neg z y x pz py hx hz with h1|h1
     ·rw[h.1 z m] at h1;cases h1
     ·rw[hl] at h1;cases h1
theorem Yu(O:Dm lt P):∀{l:List α},(∀y∈l,P y)→(sy lt l).Pairwise (fun a b=>lt b a=false)
 |[],_=>yH
 |x::r,hp=>aax O (hp x fj) (fun y m=>hp y (eZ _ ((zm r).mem_iff.mp m))) (Yu O fun y m=>hp y (eZ _ m))
theorem aay(O:Dm lt P):∀{l m:List α},(∀y∈l,P y)→l.Perm m→l.Pairwise (fun a b=>lt b a=false)→m.Pairwise (fun a b=>lt b a=false)→l=m
 |[],m,_,p,_,_=>(List.nil_perm.mp p).symm
 |x::r,[],_,p,_,_=>absurd p.length_eq (by simp)
 |x::r,y::t,hp,p,h1,h2=>by
  have pm:∀z∈y::t,P z:=fun z m=>hp z (p.mem_iff.mpr m)
  rw[tD] at h1 h2;have e:x=y:=by
   have m1:x∈y::t:=p.mem_iff.mp fj;have m2:y∈x::r:=p.mem_iff.mpr fj;rcases bL.mp m1 with e|m1
   ·exact e
   ·rcases bL.mp m2 with e|m2
    ·exact e.symm
    ·exact O.tot x y (hp x fj) (pm y fj) (h2.1 x m1) (h1.1 y m2)
  subst e;rw[aay O (fun z m=>hp z (eZ _ m)) ((List.perm_cons x).mp p) h1.2 h2.2]
theorem aiQ(O:Dm lt P)(hp:∀y∈l,P y)(p:m.Perm l)(h:m.Pairwise (fun a b=>lt b a=false)):m=sy lt l:=
 aay O (fun y hy=>hp y (p.mem_iff.mp hy)) (p.trans (zm l).symm) h (Yu O hp)
end
theorem abG:Dm strLt (fun _=>True):=by
 refine⟨fun a b _ _ h=>?_,fun a b c _ _ _ h=>?_,fun a b _ _ h1 h2=>?_⟩
 ·exact aiu (a:=.inr a) (b:=.inr b) h
 ·exact aj4 (a:=.inr a) (b:=.inr b) (c:=.inr c) rfl rfl h
 ·exact aeW (aj5 (a:=.inr a) (b:=.inr b) rfl h1 h2)
def strsOf:List aj→Option (List Str)
 |[]=>some []
 |.str i::r=>match strsOf r with
  |some t=>some (i::t)
  |none=>none
 |_=>none
theorem Yv:∀{ds:List aj}{ns:List Str}{vs:List V},strsOf ds=some ns→bV E ds vs→vs=ns.map V.str
 |[],ns,vs,h,r=>by cases h;exact r
 |.str i::ds,ns,vs,h,r=>by
  unfold strsOf at h;split at h
  ·rename_i t ht;cases h
   obtain⟨u,w,rfl,q,s⟩:=r
   rw[Yv ht s];have:u=.str i:=q;rw[this];rfl
  ·cases h
 |.none::_,_,_,h,_=>by cases h
 |.bool _::_,_,_,h,_=>by cases h
 |.int _::_,_,_,h,_=>by cases h
 |.list _::_,_,_,h,_=>by cases h
 |.tuple _::_,_,_,h,_=>by cases h
 |.dict _::_,_,_,h,_=>by cases h
def Jt:aj→Option (List Bool)
 |.tuple xs=>(keysOf xs).map fun ks=>ks.map bI
 |_=>none
def jM:Key→aj
 |.inl i=>.int i
 |.inr x=>.str x
def zY:aj→List Key
 |.tuple xs=>(keysOf xs).getD []
 |_=>[]
def Ju(ds:List aj):List aj:=(Dy (ds.map zY)).map fun k=>.tuple (k.map jM)
theorem aaz:∀{x:Str}{r:List Str},risingS x r=true→(x::r).Pairwise (fun a b=>strLt b a=false)
 |x,[],_=>tD.mpr ⟨fun _ m=>(nomatch m),yH⟩
 |x,y::r,h=>by
  unfold risingS at h;rw[gH,UL] at h;have ih:=aaz h.2;have hxy:strLt y x=false:=by
   have:=h.1;unfold strLt;rw[lt_meets];exact this
  rw[tD]
  refine⟨fun z m=>?_,ih⟩
  rcases bL.mp m with rfl|m
  ·exact hxy
  ·rw[tD] at ih;cases hz:strLt z x with
   |false=>rfl
   |true=>
    rcases abG.neg z y x trivial trivial trivial hz with h1|h1
    ·rw[ih.1 z m] at h1;cases h1
    ·rw[hxy] at h1;cases h1
theorem aaA(p:ns'.Perm ns)(h:sortedS ns'=true):ns'=sy strLt ns:=aiQ abG (fun _ _=>trivial) p (by
 cases ns' with
 |nil=>exact yH
 |cons x r=>exact aaz h)
theorem Oi:∀{xs:List aj}{ks:List Key},keysOf xs=some ks→xs=ks.map jM
 |[],ks,h=>by cases h;rfl
 |x::xs,ks,h=>by
  unfold keysOf at h;split at h
  ·rename_i k t h1 h2;cases h;rw[Oi h2];have:x=jM k:=by
    cases x<;>first|(cases h1;rfl)|cases h1
   rw[this];rfl
  ·cases h
theorem Oj:∀ks:List Key,keysOf (ks.map jM)=some ks
 |[]=>rfl
 |k::ks=>by
  show(match cJ (jM k),keysOf (ks.map jM) with|some k,some t=>some (k::t)|_,_=>none)=_
  rw[Oj ks];cases k<;>rfl
theorem agv(h:∀d∈ds,(Jt d).isSome=true):(Ju ds).Perm ds:=by
 have:=(agk (ds.map zY)).map fun k=>u5 (k.map jM)
 refine this.trans (ad5 ?_);rw[dX]
 refine(yG fun d hd=>?_).trans (LQ ds)
 have hs:=h d hd;cases d with
 |tuple xs=>
  show u5 (((keysOf xs).getD []).map jM)=.tuple xs;cases hk:keysOf xs with
  |none=>
   have hs:((keysOf xs).map fun ks=>ks.map bI).isSome=true:=hs;rw[hk] at hs;cases hs
  |some ks=>rw[Oi hk];rfl
 |_=>cases hs
theorem Yw:∀{ds:List aj}{vs:List V},(∀d∈ds,Jt d=some sh)→bV E ds vs→∃rows:List Row,vs=rows.map (fun r=>V.ref r.1)∧ds=rows.map (fun r=>.tuple (r.2.map jM))∧∀r∈rows,E r.1=some (.tup (r.2.map kV))∧r.2.map bI=sh
 |[],vs,_,r=>⟨[],r,rfl,fun _ m=>(nomatch m)⟩
 |d::ds,vs,h,r=>by
  obtain⟨u,w,rfl,q,s⟩:=r
  obtain⟨rows,e1,e2,e3⟩:=Yw (fun d m=>h d (eZ _ m)) s
  have hd:=h d fj;cases d<;>first|cases hd|skip
  rename_i xs;have hd:(keysOf xs).map (fun ks=>ks.map bI)=some sh:=hd;cases hk:keysOf xs with
  |none=>rw[hk] at hd;cases hd
  |some ks=>
   rw[hk] at hd
   obtain⟨a,vs',rfl,ha,rr⟩:=q
   rw[vd hk rr] at ha
   refine⟨(a,ks)::rows,by rw[e1];rfl,by rw[e2,Oi hk];rfl,fun r m=>?_⟩
   rcases bL.mp m with rfl|m
   ·exact⟨ha,fP hd⟩
   ·exact e3 r m
theorem Ol:∀{rows:List Row},(∀r∈rows,E r.1=some (.tup (r.2.map kV)))→bV E (rows.map fun r=>.tuple (r.2.map jM)) (rows.map fun r=>V.ref r.1)
 |[],_=>rfl
 |r::rows,h=>by
  refine⟨_,_,rfl,⟨r.1,r.2.map kV,rfl,h r fj,?_⟩,Ol fun r m=>h r (eZ _ m)⟩
  generalize r.2=ks;induction ks with
  |nil=>rfl
  |cons k ks ih=>exact⟨_,_,rfl,by cases k<;>rfl,ih⟩
theorem Yx:∀{ds:List aj}{ns:List Str},strsOf ds=some ns→ds=ns.map .str
 |[],ns,h=>by cases h;rfl
 |.str i::ds,ns,h=>by
  unfold strsOf at h;split at h
  ·rename_i t ht;cases h;rw[Yx ht];rfl
  ·cases h
 |.none::_,_,h=>by cases h
 |.bool _::_,_,h=>by cases h
 |.int _::_,_,h=>by cases h
 |.list _::_,_,h=>by cases h
 |.tuple _::_,_,h=>by cases h
 |.dict _::_,_,h=>by cases h
def HF(ds:List aj):Option (List aj):=if ds.length<64 then match strsOf ds with
  |some ns=>some ((sy strLt (dedup ns)).map .str)
  |none=>none
 else none
section
variable{X:Cx}{l:Expr}{f:FB}{p1 p2 pos1 pos2:Pos}
end
theorem aiR(hu:A.units+1<dR)(I:Inv X pins σ H s)(g:nF H a y o)(ry:RelV y u)(rd:RelV d r)(h:∀w' s',Inv X pins σ H s'→RelV (o.getD d) w'→Q w' s'):
  aL (model X.prog X.w) A (call (.builtin "dict.get") [.ref a,u,r]) Q E s:=by
 rcases g with g|⟨ha,⟨b,ks,rfl,hb⟩,rfl⟩
 ·exact aaf hu I g ry rd h
 ·exact aaf hu (I.JN ha) (nF.re ha hb) ry rd fun w' s' I'=>h w' s' (I'.SJ ha)
def alf(td ty tx:TE):TE:=fun σ H Q=>td σ H fun x H1=>∃a,x=.ref a∧IsD H1 a∧ty σ H1 fun y H2=>tx σ H2 fun z H3=>∃o,nF H3 a y o∧Q (o.getD z) H3
theorem aiS(hu:X.A.units+1<dR)(ho:PE X o td)(he:PE X e ty)(hf:PE X f tx)(m:M2 X o "get" apos e f cpos):PE X (.Call (.Attribute o "get" apos) [e,f] [] cpos) (alf td ty tx):=by
 intro pins s σ H Q I h;refine adF m.base m.few m.line acO Ue PySem.F.type_dict_get (bu (ho pins s σ H _ I h) fun u s1 aJ=>?_)
 obtain⟨x,H1,I1,rx,a,ex,d,q1⟩:=aJ
 subst ex;obtain rfl:u=dB a:=rx
 obtain⟨t1,t2,_⟩:=ajW I1 d
 refine⟨t1,t2,?_⟩
 rw[m.trees];refine acS rfl (ac4 (Fq (bu (he pins s1 σ H1 _ I1 q1) fun iv s2 ⟨y,H2,I2,ry,q2⟩=>
  Fq (bu (hf pins s2 σ H2 _ I2 q2) fun fv s3 ⟨z,H3,I3,rz,ov,g,q3⟩=>Kg ?_))))
 exact aiR hu I3 g ry rz fun w' s4 I4 rw'=>⟨_,H3,I4,rw',q3⟩
def uC(fd fk:FB)(fx:FE):FE:=fun env C=>match fd env C with
 |some (.dict kvs,e1,C1)=>match fk e1 C1 with
  |some (dk,e2,C2)=>match fx e2 C2 with
   |some (r,e3,C3)=>match mK kvs dk with
    |some (some d)=>some (.im d,rst (.im d) env e3,C3)
    |some none=>some (still r,rst (still r) env e3,C3)
    |none=>none
   |none=>none
  |none=>none
 |_=>none
theorem aaB(hu:X.A.units+1<dR)(ho:PE X o (dm X.K fd))(he:PE X e (dm X.K fk))(hf:PE X f (tE X.K fx))(m:M2 X o "get" apos e f cpos):PE X (.Call (.Attribute o "get" apos) [e,f] [] cpos) (tE X.K (uC fd fk fx)):=(aiS hu ho he hf m).weak fun σ H Q aJ=>by
 obtain⟨Z,Θ,env,C,r,env',C',S,hf,q⟩:=aJ
 unfold uC at hf;split at hf
 case h_2=>cases hf
 rename_i kvs e1 C1 h1;split at hf
 case h_2=>cases hf
 rename_i dk e2 C2 h2;split at hf
 case h_2=>cases hf
 rename_i r0 e3 C3 h3
 refine⟨Z,Θ,env,C,_,e1,C1,S,h1,fun v H1 k1 f1 S1 b1=>?_⟩
 obtain⟨a,vs,rfl,da,rr⟩:=b1.dct
 refine⟨a,rfl,?_,Z,Θ,e1,C1,dk,e2,C2,S1,h2,fun w H2 k2 f2 S2 b2=>⟨Z,Θ,e2,C2,r0,e3,C3,S2,h3,fun z H3 k3 f3 R3=>?_⟩⟩
 ·rcases da with⟨ks,_,h⟩|⟨ks,_,h⟩
  ·exact .inl ⟨_,.inl h⟩
  ·exact .inr ⟨_,.inl h⟩
 have Em:=(b1.go S1 k2 f2).go S2 k3 f3;have b2':=b2.go S2 k3 f3
 obtain⟨S3,a3⟩:=R3.arg
 have kk:=(k1.trans k2).trans k3;have ff:=(f1.trans f2).trans f3;split at hf
 ·rename_i d hl;cases hf
  obtain⟨a',o',e',g,hq⟩:=Em.get b2' hl
  cases e';rcases hq with⟨v',rfl,d',e1',r1,_⟩|⟨_,e1'⟩
  ·cases e1'
   exact⟨some v',g,q v' H3 kk (ff.rst _) (Res.rst S kk ⟨S3,r1⟩)⟩
  ·cases e1'
 ·rename_i hl;cases hf
  obtain⟨a',o',e',g,hq⟩:=Em.get b2' hl
  cases e';rcases hq with⟨v',rfl,d',e1',_⟩|⟨rfl,_⟩
  ·cases e1'
  ·exact⟨none,g,q z H3 kk (ff.rst _) (((R3.still).from (k1.trans k2)).rst S kk)⟩
 ·cases hf
def I9:aj→aj→Option Vl
 |.str z,.list ds=>match strsOf ds with
  |some ys=>if(ys.map (·.length)).sum+ys.length*z.length≤LIM then some (.im (.str (Txt.join z ys))) else none
  |none=>none
 |_,_=>none
def qM(f g:FB):FE:=aH I9 f g
theorem Py(ho:PE X o (dm X.K f))(he:PE X e (dm X.K g))
  (hbase:tK o "join" X.env (eval o X.env)=eval o X.env:=by rfl)
  (hfew:((fK cpos (aZ [e] X.env)).all (fun x=>!x.1)&&(xj cpos (wX [] X.env)).all (fun x=>x.1.isSome)
   &&decide (([e]:List Expr).length+([]:List lM).length+(if([]:List lM).isEmpty then 0 else 1)<30))=true:=by rfl)
  (hline:(apos.endLine==cpos.line)=true:=by rfl)(hs:aZ [e] X.env=(false,eval e X.env)::aZ [] X.env:=by rfl)(hplain:(fK cpos (aZ [] X.env)).any (·.1)=false:=by rfl):
  PE X (.Call (.Attribute o "join" apos) [e] [] cpos) (tE X.K (qM f g)):=
 (Dg PySem.F.plainAttrs_str PySem.F.slot_str_join PySem.F.type_str_join (qW.r aiq) ho (lK he ou hs) hbase hfew hline hs hplain).weak fun σ H Q aJ=>by
  obtain⟨Z,Θ,env,C,r,env',C',S,hf,q⟩:=aJ
  unfold qM aH at hf;split at hf
  case h_2=>cases hf
  rename_i x e1 C1 h1;split at hf
  case h_2=>cases hf
  rename_i y e2 C2 h2;split at hf
  case h_2=>cases hf
  rename_i r0 h3;cases hf
  refine⟨Z,Θ,env,C,x,e1,C1,S,h1,fun v H1 k1 f1 S1 b1=>?_⟩
  unfold I9 at h3;split at h3
  case h_2=>cases h3
  rename_i z ds;split at h3
  case h_2=>cases h3
  rename_i ys hys;split at h3
  case isFalse=>cases h3
  rename_i hl;cases h3;cases b1.str
  refine⟨rfl,Z,Θ,e1,C1,_,e2,C',S1,h2,fun w H2 k2 f2 S2 b2=>?_⟩
  obtain⟨a,vs,rfl,ha,rr⟩:=b2.lst
  rw[Yv hys rr] at ha;have kk:=k1.trans k2
  refine⟨z,a,ys,rfl,rfl,bC.of ha,by unfold LIM at hl;omega,?_⟩
  exact q _ H2 kk ((f1.trans f2).rst _) (Res.rst S kk ⟨S2,rfl⟩)
abbrev FO:=En→Ce→Option (Option Int×Ce)
inductive Eo(K:aC)(f:FO)(σ:St)(H:Hp)(Q:Option Int→Hp→Prop):Prop
 |mk (Z Θ:List aa) (env:En) (C:Ce) (o:Option Int) (C':Ce) (S:Sm K Z Θ env C σ H) (hf:f env C=some (o,C')) (q:∀H',aO Θ H H'→Sm K Z Θ env C' σ H'→Q o H'):Eo K f σ H Q
def iT:FO:=fun _ C=>some (none,C)
def eV(f:FB):FO:=fun env C=>match f env C with
 |some (.int i,_,C1)=>some (some i,C1)
 |_=>none
def j9{α:Type}(xs:List α)(lo hi:Option Int):List α:=(xs.drop (HT.bQ xs.length 0 lo)).take (HT.bQ xs.length xs.length hi-HT.bQ xs.length 0 lo)
def lQ(lo hi:Option Int):aj→Option Vl
 |.str z=>if z.length≤LIM then some (.im (.str (Txt.slice z lo hi))) else none
 |.list ds=>some (.ow (.list (j9 ds lo hi)))
 |.tuple ds=>some (.im (.tuple (j9 ds lo hi)))
 |_=>none
def fW(f:FB)(lo hi:FO):FE:=fun env C=>match f env C with
 |some (d,e1,C1)=>match lo e1 C1 with
  |some (l,C2)=>match hi e1 C2 with
   |some (h,C3)=>match lQ l h d with
    |some r=>some (r,rst r env e1,C3)
    |none=>none
   |none=>none
  |none=>none
 |none=>none
theorem Pz{E:Hp}{ds:List aj}{vs:List V}{lo hi:Option Int}(r:bV E ds vs):bV E (j9 ds lo hi) (qN vs lo hi):=by
 unfold j9 qN;rw[gm r];exact Yd _ (Ye _ r)
section
variable{X:Cx}{e:Expr}{lo hi:Option Expr}{pos p2:Pos}
theorem PO.weak(h:PO X o t)(w:∀σ H Q,t' σ H Q→t σ H Q):PO X o t':=fun pins s σ H Q I q=>h pins s σ H Q I (w σ H Q q)
theorem vP:PO X none (Eo X.K iT):=aid.weak fun σ H Q aJ=>by
 obtain⟨Z,Θ,env,C,o,C',S,hf,q⟩:=aJ
 cases hf;exact q H (aO.refl _ _) S
theorem j8(h:PE X e (dm X.K f)):PO X (some e) (Eo X.K (eV f)):=(aie h).weak fun σ H Q aJ=>by
 obtain⟨Z,Θ,env,C,o,C',S,hf,q⟩:=aJ
 unfold eV at hf;split at hf
 ·rename_i i e1 C1 h1;cases hf
  exact⟨Z,Θ,env,C,_,e1,C',S,h1,fun v H1 k f S1 b1=>⟨i,b1,q H1 k (S.go k S1.cell)⟩⟩
 ·cases hf
theorem oG{f:FB}{flo fhi:FO}(he:PE X e (dm X.K f))(hl:PO X lo (Eo X.K flo))(hh:PO X hi (Eo X.K fhi)):PE X (.Subscript e (.Slice lo hi none p2) pos) (tE X.K (fW f flo fhi)):=(ag1 ((aj0.or aih).or aiw) he hl hh).weak fun σ H Q aJ=>by
 obtain⟨Z,Θ,env,C,r,env',C',S,hf,q⟩:=aJ
 unfold fW at hf;split at hf
 case h_2=>cases hf
 rename_i d e1 C1 h1;split at hf
 case h_2=>cases hf
 rename_i l C2 h2;split at hf
 case h_2=>cases hf
 rename_i h C3 h3;split at hf
 case h_2=>cases hf
 rename_i r0 h4;cases hf
 refine⟨Z,Θ,env,C,d,e1,C1,S,h1,fun v H1 k1 f1 S1 b1=>⟨Z,Θ,e1,C1,l,C2,S1,h2,fun H2 k2 S2=>⟨Z,Θ,e1,C2,h,C',S2,h3,fun H3 k3 S3=>?_⟩⟩⟩
 have kk:=(k1.trans k2).trans k3;have b3:=b1.go S1 (k2.trans k3) (Fz.refl _);have fin:∀{w:V}{H4:Hp},aO Θ H3 H4→Res X.K Z Θ e1 C' σ H3 H4 r w→Q w H4:=fun{w H4} k4 R=>q w H4 (kk.trans k4) (f1.rst _) ((R.from kk).rst S (kk.trans k4))
 cases d<;>first|cases h4|skip
 ·rename_i z;simp only[lQ] at h4;split at h4
  ·rename_i hz;cases h4;cases b3.str;exact .inl (.inl ⟨z,rfl,qi hz,fin (aO.refl _ _) (gA S3 rfl rfl)⟩)
  ·cases h4
 ·obtain⟨a,vs,rfl,ha,rr⟩:=b3.lst
  exact .inl (.inr ⟨a,vs,rfl,bC.of ha,fun p hp=>fin (aO.upd hp) (tW S3 (Pz rr) hp)⟩)
 ·rename_i ds;have b3':=b3
  obtain⟨a,vs,rfl,ha,rr⟩:=b3.tup
  refine .inr ⟨a,vs,rfl,cF.of ha,fun ec=>?_,fun p hp=>fin (aO.upd hp) (H9 S3 (Pz rr) hp)⟩;have rc:=Pz (lo:=l) (hi:=h) rr;rw[ec] at rc;refine fin (aO.refl _ _) ⟨S3,a,vs,rfl,CJ S3 ha,rc⟩
end
def vQ(T:fU)(ft:FT)(fk fv:FE)(fs:En):List aj→List (aj×aj)→Ce→Option (List (aj×aj)×Ce)
 |[],acc,C=>some (acc,C)
 |d::r,acc,C=>match wI T d with
  |some ts=>match ft (dM ts++fs) C with
   |some (false,C1)=>vQ T ft fk fv fs r acc C1
   |some (true,C1)=>match fk (dM ts++fs) C1 with
    |some (.im k,_,C2)=>match fv (dM ts++fs) C2 with
     |some (x,_,C3)=>match still x,cJ k with
      |.im y,some kk=>if acc.length<LIM then vQ T ft fk fv fs r (mU cJ kk k y acc) C3 else none
      |_,_=>none
     |none=>none
    |_=>none
   |none=>none
  |none=>none
def yo:List (aj×aj)→Bool
 |[]=>true
 |p::r=>jr p.2&&yo r
def Ep(fi:FI)(T:fU)(ft:FT)(fk fv:FE)(js:List Nat):FE:=fun env C=>match fi env C with
 |some (its,e1,C1)=>match vQ T ft fk fv (frB js e1) its [] C1 with
  |some (kvs,C2)=>some (.ow (.dict kvs),if yo kvs then e1 else fV js e1,C2)
  |none=>none
 |none=>none
theorem gw.jr(t:∀a vs,H a=some (.tup vs)→H' a=some (.tup vs)):∀{ds:List (aj×aj)}{vs:List V},yo ds=true→gw H ds vs→gw H' ds vs
 |[],_,_,h=>h
 |(k,d)::ds,vs,n,h=>by
  obtain⟨v,r,e,q,w⟩:=h
  have n':L2.jr d=true∧yo ds=true:=by rw[yo,gH] at n;exact n
  exact⟨v,r,e,RZ.jr t n'.1 q,gw.jr t n'.2 w⟩
def RP(fk fv:FE):En→List (aj×aj)→Ce→Option (List (aj×aj)×Ce):=fun env acc C=>(fk env C).bind fun p=>(imO p.1).bind fun k=>(fv env p.2.2).bind fun q=>(imO (still q.1)).bind fun y=>(cJ k).bind fun kk=>bif decide (acc.length<LIM) then some (mU cJ kk k y acc,q.2.2) else none
theorem PB:∀{its:List aj}{acc:List (aj×aj)}{C:Ce},vQ T ft fk fv fs its acc C=some p→su T ft (RP fk fv) fs its acc C=some p
 |[],acc,C,h=>h
 |d::r,acc,C,h=>by
  unfold vQ at h;unfold su;split at h
  case h_2=>cases h
  rename_i ts ht;rw[ht,ir];split at h
  case h_3=>cases h
  ·rename_i C1 hf;rw[hf,ir];exact PB h
  ·rename_i C1 hf;rw[hf,ir]
   show(RP fk fv (dM ts++fs) acc C1).bind _=_
   unfold RP;split at h
   case h_2=>cases h
   rename_i k e2 C2 hk;rw[hk,ir,show imO (.im k)=some k from rfl,ir];split at h
   case h_2=>cases h
   rename_i x e3 C3 hx;rw[hx,ir];split at h
   case h_2=>cases h
   rename_i y kk hy hkk;rw[hy,show imO (.im y)=some y from rfl,ir,hkk,ir];split at h
   case isFalse=>cases h
   rename_i hl;rw[decide_eq_true hl];exact PB h
inductive JQ(P:List aa)(D:aa)(acc:List (aj×aj))(H:Hp):Prop
 |mk (ks:List Key) (vs:List V) (hk:cD cJ acc=some ks) (hD:H D=some (.dK (ks.zip vs))) (r:gw (er P H) acc vs):JQ P D acc H
theorem aiT{K:aC}{fi:FI}{T:fU}{ft:FT}{fk fv:FE}{js:List Nat}:∀σ H Q,tE K (Ep fi T ft fk fv js) σ H Q→tDC K (tI K true fi) T (fun _=>eU K ft) (fun _=>tE K fk) (fun _=>tE K fv) js σ H Q:=by
 rintro σ H Q ⟨Z,Θ,env,C,res,env',C',S,hf,q⟩;unfold Ep at hf;split at hf
 case h_2=>cases hf
 rename_i its e1 C1 h1;split at hf
 case h_2=>cases hf
 rename_i kvs C2 h2;cases hf
 refine⟨Z,Θ,env,C,its,e1,C1,S,h1,fun J H1 k1 f1 S1 it D hD b=>?_⟩
 have pR:D∉Θ:=fun m=>(S1.cell.dom D m).ne hD
 have Tc:D∈aQ (jJ D Z (fV js e1) σ) Θ [] []:=(m9 (js:=js) rfl).mpr (.inl rfl);have Ah:∀a Hx Hy,aO Θ Hx Hy→JQ (aQ (jJ D Z (fV js e1) σ) Θ [] []) D a Hx→JQ (aQ (jJ D Z (fV js e1) σ) Θ [] []) D a Hy:=fun a Hx Hy kk r=>by
  obtain⟨ks,vs,g1,g2,g3⟩:=r
  exact⟨ks,vs,g1,kk.keep _ _ g2 pR,g3.same (jU kk (fun a m=>iJ.mpr (.inr (.inl m))) fun a m=>.inl m)⟩
 refine Oe (a0:=[]) (Ob:=JQ (aQ (jJ D Z (fV js e1) σ) Θ [] []) D) S1 it hD ⟨[],[],rfl,dI,rfl⟩ Ah (fun a Hx r=>by obtain⟨ks,vs,_,e,_⟩:=r;exact⟨_,e,fun _ z=>nomatch z⟩) ?_ (PB h2) fun H2 ki ci r=>?_
 ·intro ts acc C2 p vs H4 Q hs S4 k4 r4 hQ
  obtain⟨w,hfk,hs⟩:=iz hs
  obtain⟨kd,RQ,hs⟩:=iz hs
  obtain⟨w2,hfv,hs⟩:=iz hs
  obtain⟨yd,qZ,hs⟩:=iz hs
  obtain⟨kk,hkd,hs⟩:=iz hs
  have RQ:=CK RQ;have qZ:=CK qZ;cases hlt:decide (acc.length<LIM) with
  |false=>rw[hlt] at hs;cases hs
  |true=>
  rw[hlt] at hs;cases hs
  refine⟨_,Θ,_,C2,w.1,w.2.1,w.2.2,S4,hfk,fun y H5 k5 f5 R5=>?_⟩
  rw[RQ] at R5;have S5:=S4.go k5 R5.1.cell
  refine⟨_,Θ,_,w.2.2,w2.1,w2.2.1,w2.2.2,S5,hfv,fun z H6 k6 f6 R6=>?_⟩
  obtain⟨S6,r6⟩:=R6.sr qZ
  obtain⟨ks,uB,hks,hD6,r6'⟩:=Ah _ _ _ (k5.trans k6) r4
  have Td:bz w2.2.1 (vs.map some++frees js σ)=[]:=by
   have:=(Fz.own (σ:=vs.map some++frees js σ) f6)
   rw[zN IW] at this;exact adT.mp this
  have e6:er (aQ (jJ D Z (fV js e1) σ) Θ w2.2.1 (vs.map some++frees js σ)) H6=er (aQ (jJ D Z (fV js e1) σ) Θ [] []) H6:=qD fun a=>by rw[m9 (js:=js) Td,m9 (js:=js) rfl]
  rw[e6] at r6
  obtain⟨ks',vs',g3,g4,g5⟩:=Ie hkd r6 hks r6'
  have lt:=of_decide_eq_true hlt
  refine⟨ks.zip uB,kk,hD6,aap hkd R5.2,?_,hQ _ (QD (Hy:=H6) hD ((k4.trans k5).trans k6)) (HD pR S6.cell) ⟨ks',vs',g3,by rw[g5];exact dI,?_⟩⟩
  ·rw[Vf,iI,vh hks];unfold LIM at lt;omega
  ·rw[IV Tc];exact g4
 ·obtain⟨ks,uB,hks,hDi,ri⟩:=r
  refine q _ H2 (k1.trans ki) ?_ ?_
  ·split
   ·exact f1
   ·exact f1.trans (zM js e1)
  ·refine⟨D,rfl,k1.none hD,?_⟩
   split
   ·rename_i hn;have SD:=S1.xT hD ki ⟨_,hDi,fun _ z=>nomatch z⟩ ci
    exact⟨SD,uB,.inl ⟨ks,hks,hDi⟩,ri.jr (fun a vs e=>CJ SD (gM e)) hn⟩
   ·refine⟨(S1.fz (zM js e1)).xT hD ki ⟨_,hDi,fun _ z=>nomatch z⟩ ci,uB,.inl ⟨ks,hks,hDi⟩,?_⟩
    rw[qD (P':=aQ (D::Z) Θ (fV js e1) σ) fun a=>by rw[m9 (js:=js) rfl];show _↔a∈D::aQ Z Θ (fV js e1) σ;rw[bL]] at ri;exact ri
section
variable{X:Cx}{NT NF:List Str}{js:List Nat}{kx vx tg iter:Expr}{ifs:List Expr}{T:fU}{fi:FI}{ft:FT}{fk fv:FE}{scope:iK}{pos:Pos}
theorem aht(B:qI X NT NF js scope)(tk:pP tg NT T)(hc:X.calm=true)(hu:X.A.units+1<dR)(hi:PI X tg iter (tI X.K true fi))
  (hin:∀b,nD (X.bk (NT++NF) scope b) ifs (eU X.K ft)∧PE (X.bk (NT++NF) scope b) kx (tE X.K fk)∧PE (X.bk (NT++NF) scope b) vx (tE X.K fv))
  (hsw:u9 (.DictComp kx vx [⟨tg,iter,ifs,0⟩] scope pos) (some (.Name y pos')) spos.line X.env=pure true)(hN:X.N.Nodup)(hI:X.N[i]?=some y)(hy:X.env.scope.names.lookup y=some .local)
  (hs:∀x,wJ iter X.env x=pure x:=by intro _;rfl):PS X (.Assign [.Name y pos'] (.DictComp kx vx [⟨tg,iter,ifs,0⟩] scope pos) spos) (tS X.K (fSet i (Ep fi T ft fk fv js))):=(ag9 B tk hc hu hi hin hsw hN hI hy hs).weak (Yn aiT)
end
section
variable{X:Cx}
theorem aeH(hc:X.calm=true):gQ X (.type "list") (fun xs H Q=>∃(d:aa)(kvs:List (Key×V)),xs=[.ref d]∧H d=some (.dK kvs)∧∀l,H l=none→Q (.ref l) (upd H l (.lst (kvs.map fun kv=>kV kv.1)))):=by
 intro pins s σ H xs us Q I r h
 obtain⟨d,kvs,rfl,hd,q⟩:=h
 obtain⟨u,rfl,ru⟩:=vals1 r
 cases ru
 obtain⟨z,lo,vs,rel,dd⟩:=I.hok d _ hd
 obtain⟨ep,da⟩:=dd.dictAt
 have lv:vs.length=kvs.length:=(Paired.length rel).symm;refine kdl_call (kdl_dict (knd:=iu X.prog X.w) (ep:=ep) lo) (I.ok.hd hc) da (by rw[lv];exact z) fun h' tk acc' c' kp e hacc=>?_
 have hl:Vals (kvs.map fun kv=>kV kv.1) acc'.toList:=by
  have h2:acc'.toList.length=vs.length:=by rw[ju];exact hacc.1
  have h3:∀i v,acc'.toList[i]?=some v→∃k x,vs[i]?=some (k,x)∧(iu X.prog X.w).is k v=true:=fun i v e=>hacc.2 i v (by rw[←J9];exact e)
  clear e hacc dd da;generalize acc'.toList=us at h2 h3;clear hd q z lv;induction rel generalizing us with
  |nil=>
   cases us with
   |nil=>exact .nil
   |cons _ _=>cases h2
  |@cons p w ps ws hp _ ih=>
   cases us with
   |nil=>cases h2
   |cons u us=>
    refine .cons ?_ (ih us (by simpa using h2) fun i v e=>by simpa using h3 (i+1) v (by simpa using e))
    obtain⟨k,x,e1,e2⟩:=h3 0 u rfl
    simp at e1;have ek:k=p.1:=by rw[hp.1,e1]
    subst ek;rcases qb e2 with⟨i,t,e3,e4⟩|⟨y,t,e3,e4⟩
    ·show RelV (kV p.1) u;rw[e3,e4];exact⟨t,rfl⟩
    ·show RelV (kV p.1) u;rw[e3,e4];exact⟨t,rfl⟩
 refine⟨.ref s.heap.objs.size,_,I.laid (t':=tk) kp (bD _) (show dO X.prog X.w _ h' _ (.lst (kvs.map fun kv=>kV kv.1)) from⟨by rw[aX];exact z,acc'.toList,c',hl,by simpa using e⟩),rfl,q _ (I.hok.fresh (bD _))⟩
def Ii:List aj→Option Vl
 |[.list ds]=>some (.ow (.list ds))
 |[.tuple ds]=>some (.ow (.list ds))
 |[.dict kvs]=>if(cD cJ kvs).isSome then some (.ow (.list (kvs.map (·.1)))) else none
 |_=>none
def aaC(K:aC):List V→Hp→VK→Prop:=fun xs H Q=>(∃p ys,xs=[.ref p]∧(bC K H p ys∨cF K H p ys)∧∀l,H l=none→Q (.ref l) (upd H l (.lst ys)))∨∃(d:aa)(kvs:List (Key×V)),xs=[.ref d]∧H d=some (.dK kvs)∧∀l,H l=none→Q (.ref l) (upd H l (.lst (kvs.map fun kv=>kV kv.1)))
theorem afD(hc:X.calm=true):gQ X (.type "list") (aaC X.K):=aeB.or (aeH hc)
theorem Yy:∀{kvs:List (aj×aj)}{ks:List Key}{vs:List V},cD cJ kvs=some ks→ks.length=vs.length→bV E (kvs.map (·.1)) ((ks.zip vs).map fun kv=>kV kv.1)
 |[],ks,vs,h,_=>by cases h;rfl
 |(p,d)::kvs,ks,vs,h,hl=>by
  unfold cD at h;split at h
  ·rename_i k t h1 h2;cases h;cases vs with
   |nil=>cases hl
   |cons v vs=>
    refine⟨_,_,rfl,?_,Yy h2 (by simpa using hl)⟩
    cases p<;>first|(cases h1;rfl)|cases h1
  ·cases h
theorem ahu{K:aC}:nG K (aaC K) Ii:=by
 intro Z Θ env C σ H xs ds res S b e Q q;unfold Ii at e;split at e
 case h_4=>cases e
 ·cases e
  obtain⟨v,rfl,bb⟩:=oF b
  obtain⟨a,vs,rfl,ha,r⟩:=bb.lst
  exact .inl ⟨a,vs,rfl,.inl (bC.of ha),fun l hl=>q _ _ (aO.upd hl) (tW S r hl)⟩
 ·cases e
  obtain⟨v,rfl,bb⟩:=oF b
  obtain⟨a,vs,rfl,ha,r⟩:=bb.tup
  exact .inl ⟨a,vs,rfl,.inr (cF.of ha),fun l hl=>q _ _ (aO.upd hl) (tW S r hl)⟩
 ·split at e
  case isFalse=>cases e
  rename_i kvs hs;cases e
  obtain⟨v,rfl,bb⟩:=oF b
  obtain⟨a,vs,rfl,da,r⟩:=bb.dct
  rcases da with⟨ks,h1,ha⟩|⟨ks,⟨ne,h2⟩,ha⟩
  ·exact .inr ⟨a,_,rfl,ha,fun l hl=>q _ _ (aO.upd hl) (tW S (Yy h1 (by rw[vh h1,BX r])) hl)⟩
  ·obtain⟨ks',h1⟩:=uL.mp hs
   exact absurd (vm h1 h2) ne
end
def nC:List aj→List aj→List aj
 |x::xs,y::ys=>.tuple [x,y]::nC xs ys
 |_,_=>[]
theorem ZJ:∀{xs ys:List aj}{i:Nat}{d:aj},(nC xs ys)[i]?=some d→∃x y,xs[i]?=some x∧ys[i]?=some y∧d=.tuple [x,y]
 |[],_,i,d,h=>by simp[nC] at h
 |_::_,[],i,d,h=>by simp[nC] at h
 |x::xs,y::ys,0,d,h=>by
  simp[nC] at h
  exact⟨x,y,rfl,rfl,h.symm⟩
 |x::xs,y::ys,i+1,d,h=>by
  obtain⟨a,b,h1,h2,h3⟩:=ZJ (i:=i) (by simpa[nC] using h)
  exact⟨a,b,by simpa using h1,by simpa using h2,h3⟩
theorem Yz:∀{xs ys:List aj},(nC xs ys).length=min xs.length ys.length
 |[],_=>by simp[nC]
 |_::_,[]=>by simp[nC]
 |x::xs,y::ys=>by simp[nC,Yz,Nat.succ_min_succ]
theorem akj{K:aC}{P T:List aa}{H:Hp}{a b:aa}{ds es:List aj}{vs ws:List V}(ha:er T H a=some (.lst vs))(hb:er T H b=some (.lst ws))(r1:bV (er P H) ds vs)(r2:bV (er P H) es ws):vX P T H (Sv K a b) (nC ds es):=fun i H2 P2 s1 s2 n=>by
 have h2:bC K H2 a vs:=bC.of (gM (s2 _ _ ha));have h3:bC K H2 b ws:=bC.of (gM (s2 _ _ hb))
 refine⟨fun d hd=>?_,fun hi=>⟨vs,ws,h2,h3,by rw[hi,Yz,gm r1,gm r2]⟩⟩
 obtain⟨x,y,e1,e2,rfl⟩:=ZJ hd
 obtain⟨v,ev,rv⟩:=tZ r1 e1
 obtain⟨w,ew,rw'⟩:=tZ r2 e2
 refine⟨⟨vs,ws,h2,h3,?_⟩,fun z H3 yl=>?_⟩
 ·have l1:=(iG.mp ev).1;have l2:=(iG.mp ew).1;omega
 ·obtain⟨p,v',w',hp,rfl,rfl,hh⟩:=yl
  obtain⟨g1,g2⟩:=hh vs ws h2 h3
  rw[ev] at g1;rw[ew] at g2;cases g1;cases g2;have sp:bh H2 (upd H2 p (.tup [v,w])):=bh.upd hp
  refine⟨sp,p,[v,w],rfl,?_,v,[w],rfl,rv.same (s1.trans (Pg sp)),w,[],rfl,rw'.same (s1.trans (Pg sp)),rfl⟩
  unfold er;rw[if_neg (fun m=>n p m hp),dI]
def JR(f:wF):FI:=fun env C=>match f env C with
 |some ([.list xs,.list ys],e1,C1)=>some (nC xs ys,e1,C1)
 |_=>none
theorem akk(hg:Gl X "zip")(hm:X.mg "zip"=none)(ha:PA X [x,y] (uI X.K f))(hs:aZ [x,y] X.env=[(false,eval x X.env),(false,eval y X.env)]:=by rfl)(hs2:aZ [y] X.env=[(false,eval y X.env)]:=by rfl):
  PI X (.Tuple es k ps) (.Call (.Name "zip" p) [x,y] [] pos) (tI X.K true (JR f)):=(aj3 hg hm ha hs hs2).weak fun σ H R aJ=>by
 obtain⟨Z,Θ,env,C,its,env',C',S,hf,q⟩:=aJ
 unfold JR at hf;split at hf
 case h_2=>cases hf
 rename_i xs ys e1 C1 h1;cases hf
 refine⟨Z,Θ,env,C,_,env',C',S,h1,fun vs H1 k f S1 b1=>?_⟩
 cases b1 with
 |cons b1 b2=>
  cases b2 with
  |cons b2 b3=>
   cases b3
   obtain⟨a,vs1,rfl,ha,r1⟩:=b1
   obtain⟨b,vs2,rfl,hb,r2⟩:=b2
   exact⟨a,b,vs1,vs2,rfl,bC.of (gM ha),bC.of (gM hb),q _ H1 k f S1 (akj ha hb r1 r2)⟩
section
variable{X:Cx}{tg e:Expr}
def itD2:aj→Option (List aj)
 |.list ds=>some ds
 |.tuple ds=>some ds
 |_=>none
def iB2(f:FB):FI:=fun env C=>match f env C with
 |some (d,e1,C1)=>match itD2 d with
  |some its=>some (its,e1,C1)
  |none=>none
 |none=>none
def iV2(f:FE):FI:=fun env C=>match f env C with
 |some (r,e1,C1)=>match still r with
  |.im d=>match itD2 d with
   |some its=>some (its,e1,C1)
   |none=>none
  |_=>none
 |none=>none
theorem Jk(h:PE X e (dm X.K f)):PI X tg e (tI X.K true (iB2 f)):=((O4 h).or (Qm h)).weak fun σ H R aJ=>by
 obtain⟨Z,Θ,env,C,its,env',C',S,hf,q⟩:=aJ
 unfold iB2 at hf;split at hf
 ·rename_i d e1 C1 h1;split at hf
  ·rename_i ys hi;cases hf;cases d<;>first|cases hi|skip
   ·refine .inl ⟨Z,Θ,env,C,_,env',C',S,h1,fun v H1 k f S1 b=>?_⟩
    obtain⟨a,vs,rfl,ha,r⟩:=b
    exact⟨a,rfl,⟨vs,bC.of (gM ha)⟩,q _ H1 k f S1 (Pu ha r)⟩
   ·refine .inr ⟨Z,Θ,env,C,_,env',C',S,h1,fun v H1 k f S1 b=>?_⟩
    obtain⟨a,vs,rfl,ha,r⟩:=b
    exact⟨a,rfl,⟨vs,cF.of (gM ha)⟩,q _ H1 k f S1 (QC ha r)⟩
  ·cases hf
 ·cases hf
end
def Rh:FN:=fun _ _=>none
theorem aiU{P:bf}{w:aY}{K:aC}{mg:Str→Option Value}{base:aU}{f:aa}{fd:dg}{ps:List Str}:cY P w K mg base eO 0 f fd ps (spT K Rh):=by
 have no:∀vs H Q E,¬spT K Rh vs H Q E:=fun vs H Q E ⟨_,_,_,_,_,_,_,_,h,_⟩=>nomatch h
 exact⟨fun _ _ _ _ h=>(no _ _ _ _ h).elim,fun _ _ _ _ _ _ _ _ _ _ _ _ _ h=>(no _ _ _ _ h).elim⟩
def qR(i:Nat)(f:FB):FE:=fun env C=>match env[i]? with
 |some (some (.ce n))=>match f env C with
  |some (.int k,_,C1)=>match C1[n]? with
   |some ns=>match eN ns k with
    |some z=>some (.im (.int z),env,C1)
    |none=>none
   |none=>none
  |_=>none
 |_=>none
theorem xJ(ho:PE X o (oK i))(hk:PE X k (dm X.K f))(hs:HS k):PE X (.Subscript o k pos) (tE X.K (qR i f)):=(Q9 Pa ho hk hs).weak fun σ H Q aJ=>by
 obtain⟨Z,Θ,env,C,r,env',C',S,hf,q⟩:=aJ
 unfold qR at hf;split at hf
 case h_2=>cases hf
 rename_i n h0;split at hf
 case h_2=>cases hf
 rename_i z e1 C1 h1;split at hf
 case h_2=>cases hf
 rename_i ns hns;split at hf
 case h_2=>cases hf
 rename_i y hy;cases hf
 obtain⟨v,ev,a,rfl,hth⟩:=S.slot i _ h0
 refine⟨_,ev,Z,Θ,env,C,_,e1,C',S,h1,fun w H1 k1 f1 S1 b1=>?_⟩
 have S2:=S.go k1 S1.cell;have ha:=S1.cell.at_ n a ns hth hns
 refine⟨a,_,z,.int y,rfl,b1,bC.of ha,?_,q _ H1 k1 (Fz.refl _) ⟨S2,rfl⟩⟩
 unfold eN at hy⊢;rw[aX];cases hj:mX ns.length z with
 |none=>rw[hj] at hy;cases hy
 |some j=>
  rw[hj] at hy
  show(ns.map V.int)[j]?=_
  rw[fY,show ns[j]?=some y from hy];rfl
def Bx(C:Ce)(b:Nat)(n:Int):Prop:=∃x y z:Int,C[b]?=some [x,y,z]∧0≤x∧0≤y∧y≤3000000000∧0≤z∧z≤n
theorem Bx.mono(h:Bx C b n)(hm:n≤m):Bx C b m:=by
 obtain⟨x,y,z,h1,h2,h3,h4,h5,h6⟩:=h
 exact⟨x,y,z,h1,h2,h3,h4,h5,by omega⟩
theorem aaD{C:Ce}{b:Nat}{l l':List Int}(h:C[b]?=some l):(C.set b l')[b]?=some l':=by
 rw[An,if_pos rfl,if_pos (iG.mp h).1]
theorem YB{C C':Ce}(h:C'.length=C.length):C'.take C.length=C':=List.take_of_length_le (by omega)
theorem mul_eq(h:(-18446744073709551616<i∧i<18446744073709551616)∨(-18446744073709551616<j∧j<18446744073709551616)):iM (.int i) (.int j)=some (.im (.int (i*j))):=by
 unfold iM;exact if_pos h
theorem mod_eq(h:0<j):jy (.int i) (.int j)=some (.im (.int (i%j))):=by
 unfold jy;exact if_pos h
theorem fdiv_eq(h:0<j)(h1:j<1073741824):vG (.int i) (.int j)=some (.im (.int (i / j))):=by
 unfold vG;exact if_pos ⟨h,h1⟩
theorem YC(I:Nat→En→Ce→Prop):∀{its:List aj}{env:En}{C:Ce}{k:Nat},I k env C→
  (∀i d env C,its[i]?=some d→I (k+i) env C→∃e1 fl env' C',g d env=some e1∧body e1 C=some (fl,env',C')∧(fl=.nx∨fl=.ct)∧I (k+i+1) env' C')→
  ∃env' C',jn g body its env C=some (.nx,env',C')∧I (k+its.length) env' C'
 |[],env,C,k,h,_=>⟨env,C,rfl,h⟩
 |d::r,env,C,k,h,st=>by
  obtain⟨e1,fl,alU,C1,h1,h2,h3,h4⟩:=st 0 d env C rfl h
  obtain⟨alV,C2,h5,h6⟩:=YC I (its:=r) (env:=alU) (C:=C1) (k:=k+1) h4 fun i d' env C hd hi=>by
   have:=st (i+1) d' env C (by simpa using hd) (by rw[show k+(i+1)=k+1+i by omega];exact hi);rw[show k+(i+1)+1=k+1+i+1 by omega] at this;exact this
  refine⟨alV,C2,?_,by rw[cN,show k+(r.length+1)=k+1+r.length by omega];exact h6⟩
  unfold jn;rw[h1];simp only;rw[h2];rcases h3 with rfl|rfl<;>exact h5
theorem zp(I:Nat→En→Ce→Prop)(h:I 0 env C)
  (st:∀i d env C,its[i]?=some d→I i env C→∃e1 fl env' C',g d env=some e1∧body e1 C=some (fl,env',C')∧(fl=.nx∨fl=.ct)∧I (i+1) env' C'):
  ∃env' C',jn g body its env C=some (.nx,env',C')∧I its.length env' C':=by
 have:=YC I (k:=0) h fun i d env C hd hi=>by
  rw[Gu] at hi⊢;exact st i d env C hd hi
 rw[Gu] at this;exact this
theorem HH(lo:Int)(n:Nat):(gR lo n).length=n:=by unfold gR;rw[aX,kE]
theorem Cg{lo:Int}{n i:Nat}{d:aj}(h:(gR lo n)[i]?=some d):d=.int (lo+i)∧i<n:=by
 unfold gR at h;rw[fY] at h;by_cases hi:i<n
 ·rw[Ul hi] at h
  exact⟨(fP h).symm,hi⟩
 ·rw[Ff (by rw[kE];omega)] at h;cases h
theorem Xn(I:Nat→Ce→Prop)(R:Nat→aj→Prop):∀{its:List aj}{C:Ce}{k:Nat},I k C→(∀i d C,its[i]?=some d→I (k+i) C→∃ts x e C' y,wI T d=some ts∧fe (dM ts++fs) C=some (x,e,C')∧still x=.im y∧R (k+i) y∧I (k+i+1) C')→
  ∃ys C',jG T gU fe fs its C=some (ys,C')∧I (k+its.length) C'∧ys.length=its.length∧∀i y,ys[i]?=some y→R (k+i) y
 |[],C,k,h,_=>⟨[],C,rfl,h,rfl,fun i y e=>by simp at e⟩
 |d::r,C,k,h,st=>by
  obtain⟨ts,x,e,C1,y,h1,h2,h3,h4,h5⟩:=st 0 d C rfl h
  obtain⟨ys,C2,h6,h7,h8,h9⟩:=Xn I R (its:=r) (C:=C1) (k:=k+1) h5 fun i d' C hd hi=>by
   have:=st (i+1) d' C (by simpa using hd) (by rw[show k+(i+1)=k+1+i by omega];exact hi);rw[show k+(i+1)+1=k+1+i+1 by omega,show k+(i+1)=k+1+i by omega] at this;exact this
  refine⟨y::ys,C2,?_,by rw[cN,show k+(r.length+1)=k+1+r.length by omega];exact h7,by simp[h8],fun i z hz=>?_⟩
  ·unfold jG;simp only[h1,gU,h2,h3];rw[h6]
  ·cases i with
   |zero=>simp at hz;subst hz;exact h4
   |succ i=>
    have:=h9 i z (by simpa using hz);rw[show k+(i+1)=k+1+i by omega];exact this
theorem aaE(h0:0≤k)(h1:k<xs.length):∃x,eN xs k=some x∧xs[k.toNat]?=some x:=by
 have hk:k.toNat<xs.length:=by omega
 refine⟨xs[k.toNat],?_,ie hk⟩
 unfold eN mX;rw[if_pos h0,if_pos h1];exact ie hk
def JS(z:Str):Bool:=z.cps.toList.all fun c=>decide (97≤c)&&decide (c≤122)
def nameB(z:Str):Bool:=decide (1≤z.length)&&decide (z.length≤8)&&JS z
abbrev abc:Str:=dU "abcdefghijklmnopqrstuvwxyz"
theorem akl(r0:0≤r)(r1:r<26):eN abc.cps.toList r=some (97+r.toNat):=by
 have h:∀k:Nat,k<26→eN abc.cps.toList (k:Int)=some (97+k):=by decide +kernel
 have:=h r.toNat (by omega)
 rwa [Int.toNat_of_nonneg r0] at this
theorem WQ:∀(l:List Nat)(a:Array Nat),((l.map fun c=>(⟨#[c]⟩:Str)).foldl (fun acc p=>acc++(dU "").cps++p.cps) a).toList=a.toList++l
 |[],a=>by simp
 |c::r,a=>by
  simp only[cj,Av];rw[WQ r];have e:(dU "").cps=#[]:=by decide +kernel
  rw[e];simp
theorem WR:∀(l:List Nat),(Txt.join (dU "") (l.map fun c=>(⟨#[c]⟩:Str))).cps.toList=l
 |[]=>by decide +kernel
 |c::r=>by
  show(((r.map fun c=>(⟨#[c]⟩:Str))).foldl (fun acc p=>acc++(dU "").cps++p.cps) #[c]).toList=c::r
  rw[WQ r];rfl
theorem ZK:∀ys:List Nat,(ys.map ((fun x:Str=>x.length) ∘ fun c=>(⟨#[c]⟩:Str))).sum=ys.length
 |[]=>rfl
 |c::r=>by
  rw[cj,VL,ZK r,cN];show 1+r.length=r.length+1;omega
theorem aiV(hc:c∈(Txt.slice z l u).cps.toList):c∈z.cps.toList:=by
 unfold Txt.slice at hc;split at hc
 ·exact hc
 ·have hc':c∈((acB l u 1 z.length).filterMap (z.cps[·]?)):=by simpa using hc
  obtain⟨i,_,e⟩:=Kc.mp hc'
  have:=ac2 e;simpa using this
def Names(zs:List Str):Prop:=zs.Nodup∧∀z∈zs,nameB z=true
theorem HJ(z:Str)(zs:List Str):inD (.str z) (zs.map .str)=decide (z∈zs):=by
 unfold inD;rw[p7,aeG];simp[adU,qU,toV]
theorem ahv(h:nameB z=true):1≤z.length∧z.length≤8∧∀c∈z.cps.toList,97≤c∧c≤122:=by
 unfold nameB JS at h;simp only[gH,decide_eq_true_eq,nO] at h
 exact⟨h.1.1,h.1.2,h.2⟩
def Asc(z:Str):Prop:=∀c∈z.cps.toList,c<128
def jt(n:Nat)(z:Str):Prop:=Asc z∧z.length≤n
theorem jt.mono(h:jt n z)(hm:n≤m):jt m z:=⟨h.1,jd h.2 hm⟩
theorem jt.line(h:jt n z)(hn:n≤100000:=by omega):z.length≤bJ:=air (m:=100000) (jd h.2 hn)
theorem jt.slice(h:jt n z)(l u:Option Int):jt n (Txt.slice z l u):=by
 refine⟨fun c hc=>?_,jd (Txt.slice_le z l u) h.2⟩
 unfold Txt.slice at hc;split at hc
 ·exact h.1 c hc
 ·have hc':c∈((acB l u 1 z.length).filterMap (z.cps[·]?)):=by simpa using hc
  obtain⟨i,_,e⟩:=Kc.mp hc'
  refine h.1 c ?_;have:=ac2 e;simpa using this
theorem jt.add(h:jt n x)(g:jt m y):jt (n+m) (x++y):=by
 have e:(x++y).cps=x.cps++y.cps:=rfl
 refine⟨fun c hc=>?_,?_⟩
 ·rw[e] at hc;have:c∈x.cps.toList∨c∈y.cps.toList:=by simpa using hc
  exact this.elim (h.1 c) (g.1 c)
 ·show(x++y).cps.size≤_
  rw[e,UT];exact Nat.add_le_add h.2 g.2
theorem jt.name(h:nameB z=true):jt 8 z:=by
 unfold nameB JS at h;simp only[gH,decide_eq_true_eq,nO] at h
 exact⟨fun c hc=>by have:=h.2 c hc;omega,h.1.2⟩
def gn(zs:List Str)(ps:List (Str×Str)):Prop:=∀(i:Nat)(x:Str×Str),ps[i]?=some x→zs[i]?=some x.1∧(x.2=dU ""∨∃j,j<i∧zs[j]?=some x.2)
theorem gn.snoc(h:gn zs ps)(ha:zs[ps.length]?=some a)(hb:b=dU ""∨∃j,j<ps.length∧zs[j]?=some b):gn zs (ps++[(a,b)]):=by
 intro i x e;by_cases hi:i<ps.length
 ·rw[nM hi] at e;exact h i x e
 ·rw[nJ (by omega)] at e;by_cases h0:i-ps.length=0
  ·rw[h0] at e;cases e;have:i=ps.length:=by omega
   subst this
   exact⟨ha,hb⟩
  ·rw[Ff (by simp;omega)] at e;cases e
def gB(ps:List (Str×Str))(z:Str):Option Str:=(ps.find? fun p=>decide (p.1=z)).map (·.2)
inductive Over(f:Str→Option Str):Str→List Str→Prop
 |stop {z:Str}:f z=none→Over f z []
 |step {z y:Str} {r:List Str}:f z=some y→Over f y r→Over f z (z::r)
structure jN(e B:Nat)(d:aj):Prop where
 RT:d.showable=true
 deep:d.depth≤e
 len:d.shown.length≤B
theorem ZL(h0:0≤i)(h1:i<10^12):jN 0 12 (.int i):=by
 refine⟨?_,by simp[Bg],?_⟩
 ·have:i.natAbs<2^40:=by omega
  have h2:i.natAbs.log2<1920:=by
   by_cases h:i.natAbs=0
   ·rw[h];decide
   ·have:=(Nat.log2_lt h).mpr this;omega
  simpa[Kz] using h2
 ·rw[PyData.shown_int];exact ani h0 (by decide) h1
theorem qu(h:jt 8 z):jN 0 82 (.str z):=by
 refine⟨by simp[Kz],by simp[Bg],?_⟩
 rw[PyData.shown_str];refine jd (StrLaws.reprText_len z fun c hc=>lW (h.1 c hc) (by decide)) ?_;have:=h.2;omega
theorem PJ:∀{ds:List aj},(∀d∈ds,jN e B d)→Ur ds=true∧Ax ds≤e∧((yO ds).map (·.length)).sum≤ds.length*B
 |[],_=>⟨by simp[Ur],by simp[Ax],by simp[yO]⟩
 |d::ds,h=>by
  obtain⟨h1,h2,h3⟩:=PJ fun x hx=>h x (eZ _ hx)
  have g:=h d fj
  refine⟨by simp[Ur,g.RT,h1],?_,?_⟩
  ·simp only[Ax];have:=g.deep;omega
  ·simp only[yO,cj,VL,cN];have:=g.len;rw[aeC];omega
theorem pG(h:∀d∈ds,jN e B d)(hc:ds.length≤C):jN (e+1) (C*(B+2)+3) (.tuple ds):=by
 obtain⟨h1,h2,h3⟩:=PJ h
 refine⟨by simpa[Kz] using h1,by simp[Bg];omega,?_⟩
 simp only[aeI];have:=tupleText_len_le (yO ds);have hl:(yO ds).length=ds.length:=acW ds;rw[hl] at this;have hm:ds.length*B≤C*B:=ac7 B hc;rw[Wn];omega
theorem jN.mono(h:jN e B d)(he:e≤e')(hB:B≤B'):jN e' B' d:=⟨h.RT,jd h.deep he,jd h.len hB⟩
abbrev pL:=Int×Str×Int×Str×Int×Int
abbrev cQ:=Int×Str×Str×Str×Int×Int×Int
abbrev zZ:=Int×Str
abbrev Dp:=Str×Int×List zZ
def mO(r:pL):aj:=.tuple [.int r.1,.str r.2.1,.int r.2.2.1,.str r.2.2.2.1,.int r.2.2.2.2.1,.int r.2.2.2.2.2]
def cu(r:cQ):aj:=.tuple [.int r.1,.str r.2.1,.str r.2.2.1,.str r.2.2.2.1,.int r.2.2.2.2.1,.int r.2.2.2.2.2.1,.int r.2.2.2.2.2.2]
def xU(s:zZ):aj:=.tuple [.int s.1,.str s.2]
def QH(ss:List zZ):aj:=.tuple (ss.map xU)
def sE(r:Dp):aj:=.tuple [.str r.1,.int r.2.1,QH r.2.2]
def mQ(p:Str×Str):aj:=.tuple [.str p.1,.str p.2]
structure jF where
 ps:List (Str×Str)
 pM:List pL
 leaves:List cQ
 rules:List Dp
def gP(h:jF):aj:=.tuple [.tuple (h.ps.map mQ),.tuple (h.pM.map mO),.tuple (h.leaves.map cu),.tuple (h.rules.map sE)]
structure akm(zs own:List Str)(r:pL):Prop where
 num:0≤r.1∧r.1≤2000
 who:r.2.1∈zs
 rank:1≤r.2.2.1∧r.2.2.1≤9
 part:r.2.2.2.1∈own
 days:0≤r.2.2.2.2.1∧r.2.2.2.2.1≤r.2.2.2.2.2∧r.2.2.2.2.2≤99999
structure zB(zs own:List Str)(r:cQ):Prop where
 num:0≤r.1∧r.1≤2000
 giver:r.2.1∈zs
 taker:r.2.2.1∈zs
 ne:r.2.1≠r.2.2.1
 part:r.2.2.2.1∈own
 days:0≤r.2.2.2.2.1∧r.2.2.2.2.1≤r.2.2.2.2.2.1∧r.2.2.2.2.2.1≤99999
 most:0≤r.2.2.2.2.2.2∧r.2.2.2.2.2.2≤1000000000
def akn(own:List Str)(s:zZ):Prop:=1≤s.1∧s.1≤9∧(s.2=dU ""∨s.2∈own)
structure ako(own:List Str)(r:Dp):Prop where
 part:r.1∈own
 sum:0≤r.2.1∧r.2.1≤1000000000
 many:r.2.2.length≤6
 alg:∀s∈r.2.2,akn own s
structure qj(zs:List Str)(ps:List (Str×Str))(h:jF):Prop where
 parts:h.ps.Perm ps
 p8:ps.length≤8
 r20:h.pM.length≤20
 lR:h.leaves.length≤16
 u10:h.rules.length≤10
 pM:∀r∈h.pM,akm zs (ps.map (·.1)) r
 rup:(h.pM.map (·.1)).Pairwise (·<·)
 leaves:∀r∈h.leaves,zB zs (ps.map (·.1)) r
 lnd:(h.leaves.map (·.1)).Nodup
 rules:∀r∈h.rules,ako (ps.map (·.1)) r
 unlike:(h.rules.map fun r=>(r.1,r.2.1)).Nodup
theorem aa5:jt 8 (dU ""):=by
 have e:(dU "").cps.toList=[]:=by decide +kernel
 refine⟨fun c hc=>?_,by decide +kernel⟩
 rw[e] at hc;exact absurd hc (by simp)
theorem agw(hz:∀z∈zs,nameB z=true)(hp:gn zs ps)(g:qj zs ps h):jN 5 200000 (gP h):=by
 have sz:∀z∈zs,jt 8 z:=fun z hm=>jt.name (hz z hm)
 have pz:∀x∈ps,jt 8 x.1∧jt 8 x.2:=fun x hx=>by
  obtain⟨i,hi,rfl⟩:=sY hx
  obtain⟨e1,e2⟩:=hp i ps[i] (ie hi)
  refine⟨sz _ (lV e1),?_⟩
  rcases e2 with e2|⟨j,_,e2⟩
  ·rw[e2];exact aa5
  ·exact sz _ (lV e2)
 have oz:∀z∈ps.map (·.1),jt 8 z:=fun z hm=>by
  obtain⟨x,hx,rfl⟩:=dG.mp hm
  exact(pz x hx).1
 have int':∀{i:Int},0≤i→i<10^12→jN 0 82 (.int i):=fun a b=>(ZL a b).mono (bD _) (by decide)
 have s1:jN 2 (8*(171+2)+3) (.tuple (h.ps.map mQ)):=by
  refine pG (e:=1) (B:=171) (fun d hd=>?_) (by rw[aX,g.parts.length_eq];exact g.p8)
  obtain⟨x,hx,rfl⟩:=dG.mp hd
  have:=pz x (g.parts.mem_iff.mp hx);refine pG (e:=0) (B:=82) (C:=2) (fun d hd=>?_) (bD _);simp only[bL,jb,or_false] at hd;rcases hd with rfl|rfl
  ·exact qu this.1
  ·exact qu this.2
 have s2:jN 2 (20*(507+2)+3) (.tuple (h.pM.map mO)):=by
  refine pG (e:=1) (B:=507) (fun d hd=>?_) (by rw[aX];exact g.r20)
  obtain⟨x,hx,rfl⟩:=dG.mp hd
  have k:=g.pM x hx;refine pG (e:=0) (B:=82) (C:=6) (fun d hd=>?_) (bD _);have k1:=k.num;have k3:=k.rank;have k5:=k.days;simp only[bL,jb,or_false] at hd;rcases hd with rfl|rfl|rfl|rfl|rfl|rfl
  ·exact int' (by omega) (by omega)
  ·exact qu (sz _ k.who)
  ·exact int' (by omega) (by omega)
  ·exact qu (oz _ k.part)
  ·exact int' (by omega) (by omega)
  ·exact int' (by omega) (by omega)
 have s3:jN 2 (16*(591+2)+3) (.tuple (h.leaves.map cu)):=by
  refine pG (e:=1) (B:=591) (fun d hd=>?_) (by rw[aX];exact g.lR)
  obtain⟨x,hx,rfl⟩:=dG.mp hd
  have k:=g.leaves x hx;refine pG (e:=0) (B:=82) (C:=7) (fun d hd=>?_) (bD _);have k1:=k.num;have k3:=k.most;have k5:=k.days;simp only[bL,jb,or_false] at hd;rcases hd with rfl|rfl|rfl|rfl|rfl|rfl|rfl
  ·exact int' (by omega) (by omega)
  ·exact qu (sz _ k.giver)
  ·exact qu (sz _ k.taker)
  ·exact qu (oz _ k.part)
  ·exact int' (by omega) (by omega)
  ·exact int' (by omega) (by omega)
  ·exact int' (by omega) (by omega)
 have s4:jN 4 (10*(3132+2)+3) (.tuple (h.rules.map sE)):=by
  refine pG (e:=3) (B:=3132) (fun d hd=>?_) (by rw[aX];exact g.u10)
  obtain⟨x,hx,rfl⟩:=dG.mp hd
  have k:=g.rules x hx;have k2:=k.sum;have st:jN 2 (6*(171+2)+3) (QH x.2.2):=by
   refine pG (e:=1) (B:=171) (fun d hd=>?_) (by rw[aX];exact k.many)
   obtain⟨y,hy,rfl⟩:=dG.mp hd
   obtain⟨y1,y2,y3⟩:=k.alg y hy
   refine pG (e:=0) (B:=82) (C:=2) (fun d hd=>?_) (bD _);simp only[bL,jb,or_false] at hd;rcases hd with rfl|rfl
   ·exact int' (by omega) (by omega)
   ·rcases y3 with y3|y3
    ·rw[y3];exact qu aa5
    ·exact qu (oz _ y3)
  refine(pG (e:=2) (B:=1041) (C:=3) (ds:=[.str x.1,.int x.2.1,QH x.2.2]) (fun d hd=>?_) (bD _)).mono (by decide) (by decide)
  simp only[bL,jb,or_false] at hd;rcases hd with rfl|rfl|rfl
  ·exact(qu (oz _ k.part)).mono (by decide) (by decide)
  ·exact(int' (by omega) (by omega)).mono (by decide) (by decide)
  ·exact st.mono (by decide) (by decide)
 refine(pG (e:=4) (B:=32000) (C:=4) (ds:=[.tuple (h.ps.map mQ),.tuple (h.pM.map mO),.tuple (h.leaves.map cu),.tuple (h.rules.map sE)]) (fun d hd=>?_) (bD _)).mono (by decide) (by decide)
 simp only[bL,jb,or_false] at hd;rcases hd with rfl|rfl|rfl|rfl
 ·exact s1.mono (by decide) (by decide)
 ·exact s2.mono (by decide) (by decide)
 ·exact s3.mono (by decide) (by decide)
 ·exact s4.mono (by decide) (by decide)
theorem WT(h:nameB z=true):Lq z=true:=by
 unfold Lq;rw[Array.all_eq_true'];intro c hc;have:=(ahv h).2.2 c (by simpa using hc);exact decide_eq_true (by omega)
theorem Om:∀{zs:List Str},(∀z∈zs,Lq z=true)→UW (zs.map c7)=true∧Ax (zs.map c7)=0∧jk (zs.map c7)=true
 |[],_=>⟨by simp[UW],by simp[Ax],rfl⟩
 |z::zs,h=>by
  obtain⟨h1,h2,h3⟩:=Om fun x hx=>h x (eZ _ hx)
  refine⟨by simp[UW,aee,h z fj];simpa using h1,by simp only[cj,Ax,Bg,h2];rfl,?_⟩
  show(true&&jk (zs.map c7))=true
  rw[h3];rfl
theorem ae6{zs:List Str}(h:∀z∈zs,Lq z=true):lH (.list (zs.map c7))=true:=by
 obtain⟨h1,h2,_⟩:=Om h
 unfold lH;simp only[aee,h1,Bg,h2];decide
theorem aeJ:∀{l:List α}{m:List β},m.Perm (l.map f)→∃l':List α,l'.Perm l∧m=l'.map f:=fun{l m} p=>by
 generalize e:l.map f=k at p;induction p generalizing l with
 |nil=>
  cases l with
  |nil=>exact⟨[],yR _,rfl⟩
  |cons _ _=>cases e
 |@cons x m k _ ih=>
  cases l with
  |nil=>cases e
  |cons a l=>
   rw[cj,Vg] at e
   obtain⟨l',p',rfl⟩:=ih e.2
   exact⟨a::l',p'.cons a,by rw[cj,e.1]⟩
 |swap x y m=>
  cases l with
  |nil=>cases e
  |cons a l=>
   cases l with
   |nil=>cases e
   |cons b l=>
    rw[cj,cj,Vg,Vg] at e
    obtain⟨e1,e2,e3⟩:=e
    exact⟨b::a::l,KR a b l,by rw[cj,cj,e1,e2,e3]⟩
 |trans _ _ ih1 ih2=>
  obtain⟨l2,p2,e2⟩:=ih2 e
  obtain⟨l1,p1,e1⟩:=ih1 e2.symm
  exact⟨l1,p1.trans p2,e1⟩
theorem afE(x:Str×Str)(ps:List (Str×Str))(z:Str):gB (x::ps) z=if x.1=z then some x.2 else gB ps z:=by
 unfold gB;rw[nP];by_cases h:x.1=z
 ·rw[decide_eq_true h,if_pos h];rfl
 ·rw[decide_eq_false h,if_neg h]
theorem tM:∀{ps:List (Str×Str)}{z w:Str},(ps.map (·.1)).Nodup→(gB ps z=some w↔(z,w)∈ps)
 |[],z,w,_=>by simp[gB]
 |x::ps,z,w,h=>by
  rw[cj,jC] at h;rw[afE];by_cases hz:x.1=z
  ·rw[if_pos hz,bL];constructor
   ·intro e;left;rw[←hz,←fP e]
   ·rintro(e|e)
    ·rw[←e]
    ·exact absurd (dG.mpr ⟨(z,w),e,hz.symm⟩) h.1
  ·rw[if_neg hz,tM h.2,bL];constructor
   ·exact .inr
   ·rintro(e|e)
    ·exact absurd (by rw[←e]) hz
    ·exact e
theorem afF(p:ps'.Perm ps)(h:(ps.map (·.1)).Nodup)(z:Str):gB ps' z=gB ps z:=by
 have h':(ps'.map (·.1)).Nodup:=(p.map (·.1)).nodup_iff.mpr h;cases e:gB ps z with
 |some w=>exact(tM h').mpr (p.mem_iff.mpr ((tM h).mp e))
 |none=>
  cases e':gB ps' z with
  |none=>rfl
  |some w=>
   have:=(tM h).mpr (p.mem_iff.mp ((tM h').mp e'));rw[e] at this;cases this
theorem MJ(h:gn zs ps):ps.map (·.1)=zs.take ps.length:=by
 apply adG;intro i;rw[fY,Uq];cases e:ps[i]? with
 |none=>
  rw[if_neg (by have:=T3.mp e;omega)];rfl
 |some x=>
  rw[if_pos (iG.mp e).1,(h i x e).1];rfl
theorem Bp(hN:Names zs)(h:gn zs ps):(ps.map (·.1)).Nodup:=by
 rw[MJ h];exact hN.1.sublist (FJ _ _)
theorem aeK:nameB (dU "")=false:=by decide +kernel
theorem WW(hN:Names zs)(h:gn zs ps)(hz:z∈ps.map (·.1)):nameB z=true:=by
 rw[MJ h] at hz;exact hN.2 z (uO hz)
theorem WX(hN:Names zs)(h:gn zs ps):gB ps (dU "")=none:=by
 cases e:gB ps (dU "") with
 |none=>rfl
 |some w=>
  have:=(tM (Bp hN h)).mp e;have:=WW hN h (dG.mpr ⟨_,this,rfl⟩);rw[aeK] at this;cases this
def uJ(f:Str→Option Str):Nat→Str→List Str
 |0,_=>[]
 |n+1,z=>match f z with
  |none=>[]
  |some y=>z::uJ f n y
def up(ps:List (Str×Str))(z:Str):List Str:=uJ (gB ps) (ps.length+1) z
theorem Oo(h:f z=none):∀n,uJ f n z=[]
 |0=>rfl
 |n+1=>by unfold uJ;rw[h]
theorem YD(h:f z=some y)(n:Nat):uJ f (n+1) z=z::uJ f n y:=by
 rw[uJ,h]
theorem ZM:∀n z,(uJ f n z).length≤n
 |0,_=>bD 0
 |n+1,z=>by
  cases h:f z with
  |none=>rw[Oo h];exact lJ _
  |some y=>
   rw[YD h,cN];exact U5 (ZM n y)
theorem ZP(hN:Names zs)(hP:gn zs ps):∀(n i:Nat),i<n→∀x,ps[i]?=some x→Over (gB ps) x.1 (uJ (gB ps) n x.1)
 |0,_,h,_,_=>absurd h (wO _)
 |n+1,i,h,x,hx=>by
  have e:gB ps x.1=some x.2:=(tM (Bp hN hP)).mpr (lV hx);rw[YD e];refine .step e ?_
  rcases(hP i x hx).2 with h2|⟨j,hj,h2⟩
  ·rw[h2,Oo (WX hN hP)];exact .stop (WX hN hP)
  ·have hi:=(iG.mp hx).1;have hjl:j<ps.length:=by omega
   have g:=hP j ps[j] (ie hjl);have e2:ps[j].1=x.2:=by
    have:=g.1;rw[h2] at this
    exact(fP this).symm
   rw[←e2];exact ZP hN hP n j (by omega) ps[j] (ie hjl)
theorem PK(hN:Names zs)(hP:gn zs ps)(z:Str):Over (gB ps) z (up ps z):=by
 unfold up;cases e:gB ps z with
 |none=>
  rw[Oo e];exact .stop e
 |some w=>
  obtain⟨i,hi,hx⟩:=sY ((tM (Bp hN hP)).mp e)
  have:=ZP hN hP (ps.length+1) i (by omega) _ (ie hi);rw[hx] at this;exact this
theorem QJ(ps:List (Str×Str))(z:Str):(up ps z).length≤ps.length+1:=ZM _ _
def aR(l:List (Str×aj)):List (aj×aj):=l.map fun p=>(.str p.1,p.2)
theorem BK:∀l:List (Str×aj),cD cJ (aR l)=some (l.map fun p=>.inr p.1)
 |[]=>rfl
 |p::l=>by
  rw[show aR (p::l)=(.str p.1,p.2)::aR l from rfl];unfold cD;rw[BK l];simp only[cJ];rfl
theorem zE(x z:Str):(cJ (.str x)=some (.inr z))↔x=z:=by
 simp[cJ]
theorem Xo(z:Str):∀l:List (Str×aj),pK cJ (.inr z) (aR l)=(l.find? fun p=>decide (p.1=z)).map (·.2)
 |[]=>rfl
 |p::l=>by
  show(if cJ (.str p.1)=some (.inr z) then some p.2 else pK cJ (.inr z) (aR l))=_
  rw[nP];by_cases h:p.1=z
  ·rw[if_pos ((zE _ _).mpr h),decide_eq_true h];rfl
  ·rw[if_neg (fun e=>h ((zE _ _).mp e)),decide_eq_false h,Xo z l]
theorem Nk(l:List (Str×aj))(z:Str):mK (aR l) (.str z)=some ((l.find? fun p=>decide (p.1=z)).map (·.2)):=by
 show(if(cD cJ (aR l)).isSome then some (pK cJ (.inr z) (aR l)) else none)=_
 rw[BK,Xo];rfl
theorem YF(h:z∉l.map (·.1)):mU cJ (.inr z) (.str z) d (aR l)=aR (l++[(z,d)]):=by
 unfold mU;rw[if_neg,aR,aR,gJ]
 ·rfl
 ·rw[U6,adq];intro p hp
  obtain⟨q,hq,rfl⟩:=dG.mp hp
  have:¬(cJ (.str q.1)=some (.inr z)):=fun e=>h (dG.mpr ⟨q,hq,(zE _ _).mp e⟩)
  simpa using this
theorem Oq(h:z∉l.map (·.1)):putD (aR l) (.str z) d=some (aR (l++[(z,d)])):=by
 show(if(cD cJ (aR l)).isSome then some (mU cJ (.inr z) (.str z) d (aR l)) else none)=_
 rw[BK,YF h];rfl
theorem ahw(ps:List (Str×Str))(g:Str×Str→α)(z:Str):((ps.map fun p=>(p.1,g p)).find? fun p=>decide (p.1=z)).map (·.2)=(ps.find? fun p=>decide (p.1=z)).map g:=by
 rw[Vu,Ba];rfl
theorem u6(D:α→aj)(p:α→Bool)(g:α→aj):∀{l:List α},(∀a∈l,∃ts,wI T (D a)=some ts∧ft (dM ts++fs) C=some (p a,C)∧(p a=true→∃x e,fe (dM ts++fs) C=some (x,e,C)∧still x=.im (g a)))→
  jG T ft fe fs (l.map D) C=some ((l.filter p).map g,C)
 |[],_=>rfl
 |d::r,h=>by
  obtain⟨ts,h1,h2,h3⟩:=h d fj
  have ih:=u6 D p g (l:=r) fun d m=>h d (eZ _ m)
  rw[cj];unfold jG;simp only[h1];rw[h2];cases hp:p d with
  |true=>
   obtain⟨x,e,h4,h5⟩:=h3 hp
   simp only[h4,h5,ih,Ko,hp,if_true,cj]
  |false=>
   simp only[ih,Ko,hp];rfl
section
variable{prog:bf}{w:aY}{A:bU}{E:Value→au→Prop}{R:qx→au→Prop}{s:au}
theorem agx(h:Q (.ref s.heap.objs.size) {s with heap:=s.heap.push (pQ w)}):aL (model prog w) A (newSet (.type "set")) Q E s:=by
 unfold newSet WL
 obtain⟨h0,g0,d0,t0,o0⟩:=s
 refine aD (aD (Kq (aV ?_)));dsimp only;simp only[newObj];exact aD (wpAny_alloc (aV h))
theorem agy{elt target iter:Expr}{ifs:List Expr}{rest:List Comprehension}{scope:iK}{pos:Pos}{it acc:Value}{env:Env}(h0:jR (model prog w) A (.compLoop (.SetComp elt (⟨target,iter,ifs,0⟩::rest) scope pos) 0 it acc env) R s)
  (h:aL (model prog w) A (Cr it) (fun it' s'=>jR (model prog w) A (.compLoop (.SetComp elt (⟨target,iter,ifs,0⟩::rest) scope pos) 0 it' acc env) R s') (notedBy (model prog w) A env fun x s'=>R (.error x) s') s):
  jR (model prog w) A (.compStart (.SetComp elt (⟨target,iter,ifs,0⟩::rest) scope pos) 0 it acc env) R s:=by
 refine codeAny_of_tree (show aL _ A ((compStart (.SetComp elt (⟨target,iter,ifs,0⟩::rest) scope pos) 0 it acc env).onRaise (fun x=>do noteFrame x env;rM theWindowsPlace)) _ _ s from wpAny_notedAt ?_);unfold compStart
 refine(show aL _ A (ask >>= _) _ _ s from aD (Kq (wpAny_ite ?_)))
 split
 ·first
   |exact aD (aV (aV ⟨rfl,h0⟩))
   |exact aV ⟨rfl,h0⟩
 ·first
   |exact aD (wZ (aD (uX (aD (nW h (fun it' s' h'=>aV ⟨rfl,h'⟩) fun _ _ x=>x)))))
   |exact aD (wZ (show aL _ _ (rM iter.pos >>= _) _ _ s from aD (uX (aD (nW h (fun it' s' h'=>aV ⟨rfl,h'⟩) fun _ _ x=>x)))))
variable{T:Type}[DecidableEq T]{knd:wR prog w T}
theorem ae7(hk:knd.is k key=true)(hsc:key.scannable=true)(hS:mR knd s.heap a ks)(room:ks.length+1<pC)
  (h:∀h',yX a s.heap h'→mR knd h' a (jW ks k)→Q .none {s with heap:=h',toks:=s.toks+1}):aL (model prog w) A (call (.builtin "set.add") [.ref a,key]) Q E s:=by
 refine p6 F.slot_set_add hS.ty F.entry_set_add ?_ (F.args_set_add_2 _ _);unfold j5.«set.add» ano;simp only[U9,bind_assoc];unfold anR setAdd;refine aD (aV ?_)
 try dsimp only
 refine aD (aV ?_)
 try dsimp only
 refine aD (mj (aD (knd.pyHash hk ?_)));refine aix (knd:=knd) (s:={s with toks:=s.toks+1}) hk hsc hS room fun _ h' hsb hS'=>?_
 exact(show aL _ _ (ret o8) _ _ _ from aV ⟨_,rfl,h h' hsb hS'⟩)
end
theorem aeL(elt gens scope pos):eval (.SetComp elt gens scope pos) env=comprehension (.SetComp elt gens scope pos) scope env (firstIterPos gens pos) (newSet (.type "set")) (firstAsync gens) (firstIter gens env):=rfl
section
variable{P:bf}{w:aY}{T0:Type}[DecidableEq T0](knd:wR P w T0)(mk:T0→V)
abbrev SO(a:aa)(ks:List T0):HO:=.ext fun h=>mR knd h a ks
def Ri(D:aa)(te:TE):TM:=fun σ H Q=>te σ H fun y H1=>∃ks k,H1 D=some (SO knd D ks)∧y=mk k∧ks.length+1<pC∧Q (upd H1 D (SO knd D (jW ks k)))
theorem aa6(x:mR knd h a ks):dO P w H h a (SO knd a ks):=
 ⟨x,let ⟨o,_,_,_,e,_⟩:=x;⟨o,e⟩,fun _ _ y e=>y.at e⟩
def tSC(K:aC)(wi:TI)(T:fU)(ts:Bk→TT)(te:Bk→TE)(js:List Nat):TE:=fun σ H Q=>wi σ H fun J H1=>∀D,H1 D=none→∀b,vV K T (ts b) (Ri knd mk D (te b)) (frees js σ) J (upd H1 D (SO knd D [])) (Q (.ref D))
end
section
variable{X:Cx}{T0:Type}[DecidableEq T0]{knd:wR X.prog X.w T0}{mk:T0→V}{NT NF:List Str}{js:List Nat}{elt tg iter:Expr}{ifs:List Expr}{T:fU}{wi:TI}{ts:Bk→TT}{te:Bk→TE}{scope:iK}{pos:Pos}
theorem akp(hk:∀k v,RelV (mk k) v→knd.is k v=true∧v.scannable=true)(he:PE X elt t):PM X (do let v ←eval elt X.env;rM elt.pos;let _ ←call (.builtin "set.add") [.ref D,v]) (Ri knd mk D t):=by
 intro pins s σ H Q I h;refine aD (bu (he pins s σ H _ I h) fun v s1 aJ=>?_)
 obtain⟨y,H1,I1,r1,ks,k,hD,ey,hz,q⟩:=aJ
 subst ey
 obtain⟨hS,_,_⟩:=I1.hok D _ hD
 obtain⟨k1,k2⟩:=hk _ _ r1
 refine aD (uX (aD (ae7 k1 k2 hS hz fun h' same hS'=>?_)));refine aV ⟨_,?_,q⟩;exact xq I1 (by rw[hD];exact kJ) same (let ⟨o,_,_,_,e,_⟩:=hS';⟨o,e⟩) (aa6 knd hS')
theorem akq{pins:List (aa×Obj)}{σ:St}{s2:au}{H2:Hp}{cl:List (Str×aa)}{it:aa}{fp:List aa}{tn:Nat→aU→Prop}{J:It}{Q:Hp→Prop}{RR:Value→aa→qx→au→Prop}{E:Value→au→Prop}
  (hk:∀k v,RelV (mk k) v→knd.is k v=true∧v.scannable=true)(B:qI X NT NF js scope)(tk:pP tg NT T)(hc:X.calm=true)
  (hin:∀b,nD (X.bk (NT++NF) scope b) ifs (ts b)∧PE (X.bk (NT++NF) scope b) elt (te b))
  (q2:∀n c,cl.lookup n=some c→X.env.cells.lookup n=some c)(q3:∀y∈scope.names,y.2=.free→∃c,cl.lookup y.1=some c)
  (I2:Inv X pins σ H2 s2)(TT:Turn X.prog X.w X.K tg J fp it tn)(st2:tn 0 s2.heap)(f2:∀b∈fp,jo X pins H2 b)
  (q:∀b,vV X.K T (ts b) (Ri knd mk s2.heap.objs.size (te b)) (frees js σ) J (upd H2 s2.heap.objs.size (SO knd s2.heap.objs.size [])) Q)
  (hR:∀C H' s' m,Inv X pins σ H' s'→jo X pins H' C→s'.heap.Ns C m→Q H'→RR (.ref s2.heap.objs.size) C (.ok .next) s'):
  aL (model X.prog X.w) X.A (newSet (.type "set")) (fun acc s₃=>aL (model X.prog X.w) X.A (Vq scope X.env.globals cl [] X.env.qual none .none (some X.env)) (fun cenv s₄=>
   jR (model X.prog X.w) X.A (.compStart (.SetComp elt [⟨tg,iter,ifs,0⟩] scope pos) 0 (.ref it) acc {cenv with scope:=relabel scope X.env}) (RR acc cenv.locals) s₄) E s₃) E s2:=by
 refine agx ?_;have hD:H2 s2.heap.objs.size=none:=I2.hok.fresh (bD _);have I3:Inv X pins σ (upd H2 s2.heap.objs.size (SO knd s2.heap.objs.size [])) {s2 with heap:=s2.heap.push (pQ X.w)}:=
  I2.laid (t':=s2.toks) (fun b o e=>cB _ e) (bD _) (aa6 knd (aj7 (gF _ rfl)))
 have hsz:(s2.heap.push (pQ X.w)).objs.size=s2.heap.objs.size+1:=wQ ..;refine Ug B.cell (by intro y hy;simp at hy) (fun h₁ hns₁ hsb₁=>?_) B.kind;have sO:∀b∈fp,b<s2.heap.objs.size:=fun b hb=>by
  obtain⟨o,e,_⟩:=TT.obj 0 _ st2 b hb
  exact bT e
 have f3:∀b∈fp,jo X pins (upd H2 s2.heap.objs.size (SO knd s2.heap.objs.size [])) b:=fun b hb=>⟨by rw[cG (dF (sO b hb))];exact(f2 b hb).1,(f2 b hb).2⟩
 have keep:∀b o,(s2.heap.push (pQ X.w)).get? b=some o→h₁.get? b=some o:=fun b o e=>hsb₁.extBut b o (dF (bT e)) (cB _ e)
 have wz:∀b∈fp,b<(s2.heap.push (pQ X.w)).objs.size:=fun b hb=>by have:=sO b hb;rw[hsz];exact wK this
 have I4:=I3.blk (s1:={s2 with heap:=h₁,toks:=s2.toks+([]:List (Str×Value)).length}) B q2 q3 f3 wz hns₁ keep rfl I2.bare;have wA:tn 0 h₁:=TT.keep 0 _ _ st2 fun b _ o e=>keep b o (cB _ e)
 obtain⟨i1,i2⟩:=hin ⟨cl,(s2.heap.push (pQ X.w)).objs.size,{s2 with heap:=s2.heap.push (pQ X.w)},upd H2 s2.heap.objs.size (SO knd s2.heap.objs.size []),fp⟩
 have loop:jR (model X.prog X.w) X.A (.compLoop (.SetComp elt [⟨tg,iter,ifs,0⟩] scope pos) 0 (.ref it) (.ref s2.heap.objs.size) (NB scope cl (s2.heap.push (pQ X.w)).objs.size X.env))
   (RR (.ref s2.heap.objs.size) (s2.heap.push (pQ X.w)).objs.size) {s2 with heap:=h₁,toks:=s2.toks+([]:List (Str×Value)).length}:=by
  refine NK (X:=X.blk (NT++NF) scope cl (s2.heap.push (pQ X.w)).objs.size {s2 with heap:=s2.heap.push (pQ X.w)} (upd H2 s2.heap.objs.size (SO knd s2.heap.objs.size [])) fp)
   (T:=T) (fs:=frees js σ) (done:=Q) rfl (agc elt tg iter ifs scope pos _ _ _) rfl rfl rfl tk rfl B.nd hc (fun x hx=>Uh (B.tg x hx)) i1 (akp (X:=X.bk (NT++NF) scope _) (knd:=knd) hk i2) TT (fun b hb=>?_) I4 wA (q _) fun H' s' σ' J' qd=>?_
  ·exact⟨(f3 b hb).1,dF (wz b hb),fun hb2=>by
    rcases bL.mp (I3.zG b hb2) with z|z
    ·exact(f3 b hb).2.1 z
    ·exact(f3 b hb).2.2.1 z,.inl hb,fun x c e=>(f3 b hb).2.2.2.2.1 x c (q2 x c e),fun p hp=>(nomatch(show p∈([]:List (aa×Obj)) from hp))⟩
  ·obtain⟨m,hn,_⟩:=J'.loc
   exact hR _ H' s' m (I3.Rc f3 J') (I3.ux (bD _) J'.free) hn qd
 exact agy loop (TT.self _ 0 _ _ _ wA loop)
theorem alh(hk:∀k v,RelV (mk k) v→knd.is k v=true∧v.scannable=true)(B:qI X NT NF js scope)(tk:pP tg NT T)(hc:X.calm=true)(hi:PI X tg iter wi)
  (hin:∀b,nD (X.bk (NT++NF) scope b) ifs (ts b)∧PE (X.bk (NT++NF) scope b) elt (te b))
  (hs:∀x,wJ iter X.env x=pure x:=by intro _;rfl):PE X (.SetComp elt [⟨tg,iter,ifs,0⟩] scope pos) (tSC knd mk X.K wi T ts te js):=by
 intro pins s σ H Q I h
 obtain⟨cl,hclos,q2,q3⟩:=Mv (env:=X.env) (scope:=scope) fun y hy e=>I.ok.has y.1 (B.free y hy e)
 rw[aeL];refine T6 (use:=none) rfl hs hclos B.kind B.names (bu (hi pins s σ H _ I h) fun v s1 h1=>bu h1 fun itv s2 aJ=>?_)
 obtain⟨it,fp,tn,J,H2,e,I2,TT,st2,f2,q⟩:=aJ
 subst e;refine akq (Q:=fun H'=>Q (.ref s2.heap.objs.size) H') (RR:=fun acc C=>compPost (model X.prog X.w) X.A X.xe none (EP X pins σ Q) acc C) hk B tk hc hin q2 q3 I2 TT st2 f2 (q _ (I2.hok.fresh (bD _))) fun C H' s' m I' fC hn qd=>?_
 refine⟨m,hn,fun h' sb=>⟨.ref s2.heap.objs.size,H',?_,rfl,qd⟩⟩
 exact I'.turned (t':=s'.toks) (fun b o hb e=>(sb.2 b hb).trans e) fC.1 fC.2.1 fC.2.2.2.1 fC.2.2.2.2.1 fC.2.2.2.2.2
end
def aaF{P:bf}{w:aY}(t:TE):TE:=fun σ H Q=>t σ H fun x H2=>∃D ks,x=.ref D∧H2 D=some (SO (Gj P w) D ks)∧ks.length<64∧∀(D':aa)(ns':List Str),H2 D'=none→ns'.Perm ks→sortedS ns'=true→Q (.ref D') (upd H2 D' (.lst (ns'.map V.str)))
theorem ahx(hc:X.calm=true)(hl:PE X e t)(g1:Gl X "sorted")(m1:X.mg "sorted"=none)
  (he:aZ [e] X.env=(false,eval e X.env)::aZ [] X.env:=by rfl)(hpl:(fK pos1 (aZ [] X.env)).any (·.1)=false:=by rfl):PE X (.Call (.Name "sorted" p1) [e] [] pos1) (aaF (P:=X.prog) (w:=X.w) t):=by
 intro pins s σ H Q I h;refine Ft (tY I g1 m1 (u:=.builtin "sorted") rfl (TQ ?_ he hpl));rw[he];show aL _ _ (spliced ((false,eval e X.env)::fK pos1 (aZ [] X.env))) _ _ s;refine Fq (bu (hl pins s σ H _ I h) fun v s1 ⟨y,H1,I1,r1,D,ks,ey,hD,h64,q⟩=>Kg ?_);subst ey;cases r1
 obtain⟨⟨o,es,ep,t,ho,ex,hd,⟨ks',ek,pk⟩,hb,hf,tb⟩,_,_⟩:=I1.hok D _ hD
 obtain⟨e1,e2⟩:=ahj ek
 have few:es.size<64:=by
  rw[←ju,ek.len,pk.length_eq];omega
 refine afA (Ok:=fun out=>∃ns',StrsAre out ns'∧ns'.Perm ks∧sortedS ns'=true) (I1.ok.hd hc) ⟨o,ho,ex,hd,hf,tb⟩ few (fun us pm B s2 a n P E' ho' hp=>?_) fun D h' d tk c out ok ge kk gD=>?_
 ·have hS:StrsAre us (us.map strOf):=strsAre_map us fun v hv=>e2 v (pm.mem_iff.mp hv)
  refine list_sort_treeK strKind_oneLt ho' hS.keysOf (fun v1 v2 rest e=>keyKind_strs (by rw[←e];exact hS)) (by rw[pm.length_eq,aX,ju];exact few) fun st hp1 hp2=>?_
  obtain⟨ss',b1,b2,b3⟩:=sorted_out_str hS hp1 hp2
  exact hp _ ⟨ss',b1,b2.trans ((pm.map strOf).trans (by rw[e1];exact pk)),b3⟩
 ·obtain⟨ns',a1,a2,a3⟩:=ok
  have hz:ns'.length≤bJ:=by
   rw[a2.length_eq,iI];omega
  exact⟨.ref D,_,(I1.laid (o:=.lst (ns'.map V.str)) (t':=tk) kk ge ⟨by rw[aX];exact hz,out.toList,c,M9 a1,by simpa[seqObj] using gD⟩).drew d,rfl,q D ns' (I1.hok.fresh ge) a2 a3⟩
def Er(fi:FI)(T:fU)(ft:FT)(fe:FE)(js:List Nat):FE:=fun env C=>match fi env C with
 |some (its,e1,C1)=>match jG T ft fe (frB js e1) its C1 with
  |some (ys,C2)=>match HF ys with
   |some l=>some (.ow (.list l),env,C2)
   |none=>none
  |none=>none
 |none=>none
def RV(fe:FE):En→List Str→Ce→Option (List Str×Ce):=fun env acc C=>(fe env C).bind fun q=>(imO (still q.1)).bind fun y=>(strD y).bind fun z=>bif decide (acc.length<64) then some (acc++[z],q.2.2) else none
theorem PL:∀{its:List aj}{ys acc:List Str}{C:Ce},jG T ft fe fs its C=some (ys.map .str,C')→acc.length+ys.length≤64→su T ft (RV fe) fs its acc C=some (acc++ys,C')
 |[],ys,acc,C,h,_=>by
  cases ys with
  |cons _ _=>cases h
  |nil=>
  cases h;rw[jP];rfl
 |d::r,ys,acc,C,h,hl=>by
  unfold jG at h;unfold su;split at h
  case h_2=>cases h
  rename_i ts ht;rw[ht,ir];split at h
  case h_3=>cases h
  ·rename_i C1 hf;rw[hf,ir];exact PL h hl
  ·rename_i C1 hf;rw[hf,ir];split at h
   case h_2=>cases h
   rename_i x e2 C2 hx;split at h
   case h_2=>cases h
   rename_i y hy;split at h
   case h_2=>cases h
   rename_i zs C3 hz;cases ys with
   |nil=>cases h
   |cons w ys=>
   injection h with h
   injection h with h1 h2
   injection h1 with h1 h3
   subst h1 h2 h3;rw[cN] at hl
   show(RV fe (dM ts++fs) acc C1).bind _=_
   unfold RV;rw[hx,ir,hy,show imO (.im (.str w))=some (.str w) from rfl,ir,show strD (.str w)=some w from rfl,ir,decide_eq_true (by omega),show acc++w::ys=(acc++[w])++ys by rw[j0];rfl];exact PL hz (by rw[fO];show acc.length+1+_≤_;omega)
theorem aiW{P:bf}{w:aY}{K:aC}{fi:FI}{T:fU}{ft:FT}{fe:FE}{js:List Nat}:∀σ H Q,tE K (Er fi T ft fe js) σ H Q→aaF (P:=P) (w:=w) (tSC (Gj P w) V.str K (tI K true fi) T (fun _=>eU K ft) (fun _=>tE K fe) js) σ H Q:=by
 rintro σ H Q ⟨Z,Θ,env,C,res,env',C',S,hf,q⟩;unfold Er at hf;split at hf
 case h_2=>cases hf
 rename_i its e1 C1 h1;split at hf
 case h_2=>cases hf
 rename_i ys C2 h2;split at hf
 case h_2=>cases hf
 rename_i l hs;cases hf;unfold HF at hs;split at hs
 case isFalse=>cases hs
 rename_i hl;split at hs
 case h_2=>cases hs
 rename_i ns hns;cases hs;have hys:=Yx hns;subst hys;rw[aX] at hl
 refine⟨Z,Θ,env,C,its,e1,C1,S,h1,fun J H1 k1 f1 S1 it D hD b=>?_⟩
 have pR:D∉Θ:=fun m=>(S1.cell.dom D m).ne hD
 refine Oe (a0:=[]) (Ob:=fun acc Hx=>Hx D=some (SO (Gj P w) D (dedup acc))) S1 it hD dI (fun a Hx Hy kk r=>kk.keep _ _ r pR) (fun a Hx r=>⟨_,r,fun _ z=>nomatch z⟩) ?_ (PL (acc:=[]) h2 (by rw[Aw];omega)) fun H2 ki ci r=>?_
 ·intro ts acc C2 p vs H4 Q hs S4 k4 r4 hQ
  obtain⟨w,hfe,hs⟩:=iz hs
  obtain⟨yd,qZ,hs⟩:=iz hs
  obtain⟨z,hz,hs⟩:=iz hs
  have qZ:=CK qZ;have hz:=aiD hz;subst hz;cases hlt:decide (acc.length<64) with
  |false=>rw[hlt] at hs;cases hs
  |true=>
  rw[hlt] at hs;cases hs
  refine⟨_,Θ,_,C2,w.1,w.2.1,w.2.2,S4,hfe,fun y H5 k5 f5 R5=>?_⟩
  obtain⟨S5,r5⟩:=R5.sr qZ
  have lt:=of_decide_eq_true hlt;have ld:=Xi acc
  exact⟨dedup acc,z,k5.keep _ _ r4 pR,r5,by unfold pC;omega,hQ _ (QD (Hy:=H5) hD (k4.trans k5)) (HD pR S5.cell) (by rw[afv];exact dI)⟩
 ·have kk:=k1.trans ki;have ld:=Xi ns
  refine⟨D,dedup ns,rfl,r,by omega,fun D' ns' hn p hp=>?_⟩
  rw[aaA p hp];exact q _ _ (kk.trans (aO.upd hn)) (Fz.refl _) ((tW (S.go kk ci) (Yg _) hn).from kk)
theorem ali{X:Cx}{NT NF:List Str}{js:List Nat}{elt tg iter:Expr}{ifs:List Expr}{T:fU}{fi:FI}{ft:FT}{fe:FE}{scope:iK}{pos p1 pos1:Pos}(B:qI X NT NF js scope)(tk:pP tg NT T)(hc:X.calm=true)(g1:Gl X "sorted")(m1:X.mg "sorted"=none)(hi:PI X tg iter (tI X.K true fi))
  (hin:∀b,nD (X.bk (NT++NF) scope b) ifs (eU X.K ft)∧PE (X.bk (NT++NF) scope b) elt (tE X.K fe))
  (hs:∀x,wJ iter X.env x=pure x:=by intro _;rfl)
  (he:aZ [.SetComp elt [⟨tg,iter,ifs,0⟩] scope pos] X.env=(false,eval (.SetComp elt [⟨tg,iter,ifs,0⟩] scope pos) X.env)::aZ [] X.env:=by rfl)(hpl:(fK pos1 (aZ [] X.env)).any (·.1)=false:=by rfl):
  PE X (.Call (.Name "sorted" p1) [.SetComp elt [⟨tg,iter,ifs,0⟩] scope pos] [] pos1) (tE X.K (Er fi T ft fe js)):=
 (ahx hc (alh (knd:=Gj X.prog X.w) (mk:=V.str) (fun k v r=>by obtain⟨t,rfl⟩:=r;exact⟨PySem.strKind_is _ _ _ _,rfl⟩) B tk hc hi hin hs) g1 m1 he hpl).weak aiW
section
variable{X:Cx}{tg:Expr}
def DQ(f g:FB):FI:=fun env C=>match bCons f (bCons g bNil) env C with
 |some ([.int i,.int j],_,C1)=>if -(2^62)≤i∧i<2^62∧-(2^62)≤j∧j<2^62 then some (gR i (j-i).toNat,env,C1) else none
 |_=>none
theorem agz(hg:Gl X "range")(hm:X.mg "range"=none)(ha:PA X [a,b] (uI X.K (bCons f (bCons g bNil))))(hs:aZ [a,b] X.env=[(false,eval a X.env),(false,eval b X.env)]:=by rfl)(hs2:aZ [b] X.env=[(false,eval b X.env)]:=by rfl):PI X tg (.Call (.Name "range" p) [a,b] [] pos) (tI X.K bb (DQ f g)):=
 (afY hg hm ha hs hs2).weak fun σ H R aJ=>by
  obtain⟨Z,Θ,env,C,its,env',C',S,hf,q⟩:=aJ
  unfold DQ at hf;split at hf
  ·rename_i i j e1 C1 h1;split at hf
   ·rename_i hj;cases hf
    refine⟨Z,Θ,env,C,[.int i,.int j],e1,C',S,h1,fun vs H1 k f S1 b1=>?_⟩
    cases b1 with
    |cons b1 b2=>
     cases b2 with
     |cons b2 b3=>
      cases b3
      exact⟨i,j,by rw[show _=V.int i from b1,show _=V.int j from b2],hj,q _ H1 k (Fz.refl _) (S.go k S1.cell) (Yr i (j-i).toNat)⟩
   ·cases hf
  ·cases hf
end
theorem a_t0(x:α)(r:List α):eN (x::r) 0=some x:=vz (j:=0) rfl
theorem a_t1(a x:α)(r:List α):eN (a::x::r) 1=some x:=vz (j:=1) rfl
theorem a_t2(a b x:α)(r:List α):eN (a::b::x::r) 2=some x:=vz (j:=2) rfl
theorem a_t3(a b c x:α)(r:List α):eN (a::b::c::x::r) 3=some x:=vz (j:=3) rfl
theorem a_t4(a b c d x:α)(r:List α):eN (a::b::c::d::x::r) 4=some x:=vz (j:=4) rfl
theorem a_t5(a b c d e x:α)(r:List α):eN (a::b::c::d::e::x::r) 5=some x:=vz (j:=5) rfl
theorem a_t6(a b c d e f x:α)(r:List α):eN (a::b::c::d::e::f::x::r) 6=some x:=vz (j:=6) rfl
theorem e_bin(op:aj→aj→Option Vl)(fa fb:FB)(env:En)(C:Ce):aH op fa fb env C=(fa env C).bind fun p=>(fb p.2.1 p.2.2).bind fun q=>(op p.1 q.1).bind fun r=>some (r,rst r env q.2.1,q.2.2):=by
 unfold aH;rcases h:fa env C with _|⟨x,e1,C1⟩
 ·rfl
 ·rcases h2:fb e1 C1 with _|⟨y,e2,C2⟩
  ·simp only[ir,h2];rfl
  ·simp only[ir,h2];cases op x y<;>rfl
theorem e_dat(f:FE)(env:En)(C:Ce):ao f env C=(f env C).bind fun p=>(dat p.1).map fun d=>(d,p.2.1,p.2.2):=by
 unfold ao;rcases h:f env C with _|⟨x,e1,C1⟩<;>rfl
theorem e_bv(i:Nat)(env:En)(C:Ce):az i env C=(env[i]?).bind fun o=>o.bind fun x=>(dat x).map fun d=>(d,env,C):=by
 unfold az;rcases env[i]? with _|(_|x)<;>rfl
theorem e_and(f g:FT)(env:En)(C:Ce):lN f g env C=(f env C).bind fun p=>if p.1 then g env p.2 else some (false,p.2):=by
 unfold lN;rcases h:f env C with _|⟨_|_,D⟩<;>rfl
theorem e_or(f g:FT)(env:En)(C:Ce):qQ f g env C=(f env C).bind fun p=>if p.1 then some (true,p.2) else g env p.2:=by
 unfold qQ;rcases h:f env C with _|⟨_|_,D⟩<;>rfl
theorem e_not(f:FT)(env:En)(C:Ce):xR f env C=(f env C).map fun p=>(!p.1,p.2):=by
 unfold xR;rcases h:f env C with _|⟨b,D⟩<;>rfl
theorem e_if(c:FT)(f g:FS)(env:En)(C:Ce):iC c f g env C=(c env C).bind fun p=>if p.1 then f env p.2 else g env p.2:=by
 unfold iC;rcases h:c env C with _|⟨_|_,D⟩<;>rfl
theorem e_ifv(c:FT)(f g:FE)(env:En)(C:Ce):yh c f g env C=(c env C).bind fun p=>if p.1 then f env p.2 else g env p.2:=by
 unfold yh;rcases h:c env C with _|⟨_|_,D⟩<;>rfl
theorem aa7(op op':aj→aj→Option Vl)(fa fb fc:FB)(h1:fa env C=some (x,e1,C1))(h2:fb e1 C1=some (y,e2,C2))(h3:op x y=some (.im (.bool a)))(h4:fc e2 C2=some (z,e3,C2))(h5:op' y z=some (.im (.bool b))):vW op op' fa fb fc env C=some (.im (.bool (a&&b)),env,C2):=by
 unfold vW;simp only[h1,h2,h3];cases a with
 |false=>rfl
 |true=>simp only[h4,h5];rfl
theorem r_ow(d:aj)(e f:En):rst (.ow d) e f=f:=rfl
theorem r_bool(b:Bool)(e f:En):rst (.im (.bool b)) e f=e:=rfl
theorem r_int(i:Int)(e f:En):rst (.im (.int i)) e f=e:=rfl
theorem r_str(z:Str)(e f:En):rst (.im (.str z)) e f=e:=rfl
theorem r_tl(l r:List aj)(e f:En):rst (.im (.tuple (.list l::r))) e f=f:=rfl
theorem add_int(i j:Int):bR (.int i) (.int j)=some (.im (.int (i+j))):=rfl
theorem sub_int(i j:Int):vK (.int i) (.int j)=some (.im (.int (i-j))):=rfl
theorem le_int(i j:Int):oM (.int i) (.int j)=some (.im (.bool (decide (i≤j)))):=rfl
theorem lt_int(i j:Int):uz (.int i) (.int j)=some (.im (.bool (decide (i<j)))):=rfl
theorem ge_int(i j:Int):Jp (.int i) (.int j)=some (.im (.bool (decide (j≤i)))):=rfl
theorem gt_int(i j:Int):uA (.int i) (.int j)=some (.im (.bool (decide (j<i)))):=rfl
theorem eq_int(i j:Int):lD (.int i) (.int j)=some (.im (.bool (i==j))):=rfl
theorem eq_bool(a b:Bool):lD (.bool a) (.bool b)=some (.im (.bool (a==b))):=rfl
theorem ne_bool(a b:Bool):lF (.bool a) (.bool b)=some (.im (.bool (!(a==b)))):=rfl
theorem ne_int(i j:Int):lF (.int i) (.int j)=some (.im (.bool (!(i==j)))):=rfl
theorem len_l(ds:List aj):jz [.list ds]=some (.im (.int ds.length)):=rfl
theorem len_t(ds:List aj):jz [.tuple ds]=some (.im (.int ds.length)):=rfl
theorem ix_t(ds:List aj)(i:Int):bw (.tuple ds) (.int i)=(eN ds i).map .im:=rfl
theorem ix_l(ds:List aj)(i:Int):bw (.list ds) (.int i)=(eN ds i).map .im:=rfl
theorem add_l(h:xs.length+ys.length≤1000000):bR (.list xs) (.list ys)=some (.ow (.list (xs++ys))):=if_pos h
theorem Rj(h:xs.length+ys.length≤1000000):bR (.tuple xs) (.tuple ys)=some (.im (.tuple (xs++ys))):=by
 unfold bR;cases xs with
 |nil=>rfl
 |cons x xs=>exact if_pos h
theorem sG{ds:List aj}{i:Nat}{d:aj}(h:ds[i]?=some d):bw (.tuple ds) (.int i)=some (.im d):=by
 simp only[bw,sU,vz h,jD]
theorem h_ix0(h:jF):bw (gP h) (.int 0)=some (.im (.tuple (h.ps.map mQ))):=sG (i:=0) rfl
theorem h_ix1(h:jF):bw (gP h) (.int 1)=some (.im (.tuple (h.pM.map mO))):=sG (i:=1) rfl
theorem h_ix2(h:jF):bw (gP h) (.int 2)=some (.im (.tuple (h.leaves.map cu))):=sG (i:=2) rfl
theorem h_ix3(h:jF):bw (gP h) (.int 3)=some (.im (.tuple (h.rules.map sE))):=sG (i:=3) rfl
theorem k_ix0(r:pL):bw (mO r) (.int 0)=some (.im (.int r.1)):=sG (i:=0) rfl
theorem k_ix1(r:pL):bw (mO r) (.int 1)=some (.im (.str r.2.1)):=sG (i:=1) rfl
theorem k_ix2(r:pL):bw (mO r) (.int 2)=some (.im (.int r.2.2.1)):=sG (i:=2) rfl
theorem k_ix3(r:pL):bw (mO r) (.int 3)=some (.im (.str r.2.2.2.1)):=sG (i:=3) rfl
theorem k_ix4(r:pL):bw (mO r) (.int 4)=some (.im (.int r.2.2.2.2.1)):=sG (i:=4) rfl
theorem k_ix5(r:pL):bw (mO r) (.int 5)=some (.im (.int r.2.2.2.2.2)):=sG (i:=5) rfl
theorem vY(h0:-1000000≤m)(h1:m≤1000000)(a b:α):(if -(2^62)≤m∧m<2^62 then a else b)=a:=if_pos (by omega)
theorem gj(en:En)(hk:xs.length=k)(he:xs.map some++cH (n-xs.length) none=en)(h:(body en C).map (fun p=>(p.1,p.2.2))=some (.rt r,C1))(hr:zX C.length r=true)(hC:C1.length=C.length):fN k n body xs C=some (r,C1):=by
 unfold fN;rw[if_pos hk,he];cases hb:body en C with
 |none=>rw[hb] at h;cases h
 |some p=>
  rw[hb] at h
  obtain⟨fl,e1,C2⟩:=p
  have h:(fl,C2)=(Fl.rt r,C1):=fP h;injection h with h1 h2
  subst h1 h2;simp only[hr,if_true,YB hC]
theorem letters(k:Int)(h0:0≤k)(h1:k<26):sU (.str abc) (.int k)=some (.str ⟨#[97+k.toNat]⟩):=by
 have e:=akl h0 h1;have hl:abc.length≤LIM:=by decide +kernel
 simp only[sU];rw[if_pos hl,e];rfl
theorem MK:∀zs:List Str,strsOf (zs.map c7)=some zs
 |[]=>rfl
 |z::zs=>by
  show(match strsOf (zs.map c7) with|some t=>some (z::t)|none=>none)=_
  rw[MK zs]
theorem noLs_strs:∀zs:List Str,fL (zs.map c7)=true
 |[]=>rfl
 |z::zs=>by
  show(true&&fL (zs.map c7))=true
  rw[noLs_strs zs];rfl
theorem MN:∀cs:List Nat,fL (cs.map fun c=>c7 ⟨#[c]⟩)=true
 |[]=>rfl
 |c::cs=>by
  show(true&&fL (cs.map fun c=>c7 ⟨#[c]⟩))=true
  rw[MN cs];rfl
theorem Wb:∀cs:List Nat,strsOf (cs.map fun c=>c7 ⟨#[c]⟩)=some (cs.map fun c=>(⟨#[c]⟩:Str))
 |[]=>rfl
 |c::cs=>by
  show(match strsOf (cs.map fun c=>c7 ⟨#[c]⟩) with|some t=>some (_::t)|none=>none)=_
  rw[Wb cs];rfl
theorem agA:(dU "").length=0:=by decide +kernel
theorem ne_nil(zs:List Str)(hz:∀z∈zs,nameB z=true):lF (.list (zs.map .str)) (.list [])=some (.im (.bool (!zs.isEmpty))):=by
 have s1:lH (.list (zs.map c7))=true:=ae6 fun z m=>WT (hz z m)
 have n1:m5 (.list (zs.map c7))=true:=(Om fun z m=>WT (hz z m)).2.2;have e:yz (.list (zs.map .str)) (.list [])=some zs.isEmpty:=by
  show(if m5 (.list (zs.map c7))&&m5 (.list [])&&(lH (.list (zs.map c7))&&lH (.list [])) then some (G5 (.list (zs.map .str)) (.list [])) else none)=_
  rw[n1,s1];cases zs<;>rfl
 simp only[lF,e,jD]
abbrev hEn(b:Nat)(zs:List Str)(ps:List (Str×Str))(own:List Str)(rk:List pL)(lv:List cQ)(ru:List (aj×aj))(v7 v8 v9 v10 v11 cA gY iU Te Tf Tg Th:Option Vl):En:=
 [some (.ce b),some (.im (.list (zs.map .str))),some (.ow (.list (ps.map mQ))),some (.ow (.list (own.map .str))),some (.ow (.list (rk.map mO))),some (.ow (.list (lv.map cu))),some (.ow (.dict ru)),v7,v8,v9,v10,v11,cA,gY,iU,Te,Tf,Tg,Th]
theorem rst_same(r:Vl)(e:En):rst r e e=e:=by
 cases r<;>simp[rst]
theorem aiX{ns:List Int}{i:Nat}{d:aj}(h:(ns.map pB)[i]?=some d):∃x,d=.int x∧ns[i]?=some x∧x∈ns∧i<ns.length:=by
 rw[fY] at h;cases hx:ns[i]? with
 |none=>rw[hx] at h;cases h
 |some x=>
  rw[hx] at h
  exact⟨x,(fP h).symm,rfl,lV hx,(iG.mp hx).1⟩
theorem take_snoc{ns:List Int}{i:Nat}{x:Int}(h:ns[i]?=some x):ns.take (i+1)=ns.take i++[x]:=by
 rw[List.take_add_one,h];rfl
theorem Xp:∀ss:List zZ,fL (ss.map xU)=true
 |[]=>rfl
 |s::ss=>by
  show(true&&fL (ss.map xU))=true
  rw[Xp ss];rfl
theorem Xq:∀rs:List Dp,fL (rs.map sE)=true
 |[]=>rfl
 |r::rs=>by
  show((true&&(true&&(fL (r.2.2.map xU)&&true)))&&fL (rs.map sE))=true
  rw[Xq rs,Xp];rfl
theorem Rk(hk:xs.length=k)(he:xs.map some++cH (n-xs.length) none=en)(h:body en C=some (.rt r,e1,C1))(hr:zX C.length r=true)(hC:C1.length=C.length):fN k n body xs C=some (r,C1):=by
 unfold fN;rw[if_pos hk,he,h];simp only[hr,if_true,YB hC]
theorem Nm:∀zs:List Str,(zs.map c7).all jx=true
 |[]=>rfl
 |z::zs=>by
  rw[cj,K9,Nm zs];rfl
theorem in_strs(z:Str)(zs:List Str):jq (.str z) (.list (zs.map .str))=some (.im (.bool (decide (z∈zs)))):=by
 have:inB (.str z) (.list (zs.map .str))=some (inD (.str z) (zs.map .str)):=if_pos (by rw[Nm];rfl);unfold jq;rw[this,HJ];rfl
theorem eq_strs(x z:Str):lD (.str x) (.str z)=some (.im (.bool (decide (x=z)))):=by
 have:(x==z)=decide (x=z):=by rw[p7];simp
 show some (Vl.im (.bool (x==z)))=_;rw[this]
theorem ne_strs(x z:Str):lF (.str x) (.str z)=some (.im (.bool (!decide (x=z)))):=by
 have:(x==z)=decide (x=z):=by rw[p7];simp
 show some (Vl.im (.bool (!(x==z))))=_;rw[this]
def bG(q:List (Str×Str)):List (Str×aj):=q.map fun p=>(p.1,.str p.2)
theorem YG:∀q,yo (aR (bG q))=true
 |[]=>rfl
 |x::q=>by
  show(true&&yo (aR (bG q)))=true
  rw[YG q];rfl
theorem HN(q:List (Str×Str))(z:Str):mK (aR (bG q)) (.str z)=some ((gB q z).map .str):=by
 rw[Nk];unfold bG gB;rw[ahw,Ba];rfl
theorem noLs_ints:∀l:List Int,fL (l.map pB)=true
 |[]=>rfl
 |x::l=>by
  show(true&&fL (l.map pB))=true
  rw[noLs_ints l];rfl
theorem afG:∀(n:Nat),Dk [.list (cH n (.bool true))]=some (.im (.bool true))∧fL (cH n (.bool true))=true:=by
 intro n;have h:boolsOf (cH n (.bool true))=some (cH n true)∧fL (cH n (.bool true))=true:=by
  induction n with
  |zero=>exact⟨rfl,rfl⟩
  |succ n ih=>
   rw[sX,sX]
   refine⟨?_,?_⟩
   ·unfold boolsOf;rw[ih.1]
   ·show(true&&fL (cH n (.bool true)))=true
    rw[ih.2];rfl
 refine⟨?_,h.2⟩
 unfold Dk;simp only[h.1,jD];congr 3;rw[nO];intro b hb
 exact(List.mem_replicate.mp hb).2
theorem Xr:∀ps:List (Str×Str),jk (ps.map mQ)=true
 |[]=>rfl
 |p::ps=>by show(true&&jk (ps.map mQ))=true;rw[Xr ps];rfl
theorem Xu:∀ps:List pL,jk (ps.map mO)=true
 |[]=>rfl
 |p::ps=>by show(true&&jk (ps.map mO))=true;rw[Xu ps];rfl
theorem WY:∀ps:List cQ,jk (ps.map cu)=true
 |[]=>rfl
 |p::ps=>by show(true&&jk (ps.map cu))=true;rw[WY ps];rfl
theorem Xv:∀ps:List zZ,jk (ps.map xU)=true
 |[]=>rfl
 |p::ps=>by show(true&&jk (ps.map xU))=true;rw[Xv ps];rfl
theorem Xw:∀rs:List Dp,jk (rs.map sE)=true
 |[]=>rfl
 |r::rs=>by
  show((true&&(true&&(jk (r.2.2.map xU)&&true)))&&jk (rs.map sE))=true
  rw[Xw rs,Xv];rfl
theorem agB(h:jF):m5 (gP h)=true:=by
 show(jk (h.ps.map mQ)&&(jk (h.pM.map mO)&&(jk (h.leaves.map cu)&&(jk (h.rules.map sE)&&true))))=true
 rw[Xr,Xu,WY,Xw];rfl
theorem rK{zs:List Str}{k:Int}(h0:0≤k)(h1:k<zs.length):∃z,z∈zs∧zs[k.toNat]?=some z∧eN (zs.map c7) k=some (.str z):=by
 obtain⟨x,e1,e2⟩:=aaE (xs:=zs.map c7) h0 (by rw[aX];exact h1)
 rw[fY] at e2;cases hz:zs[k.toNat]? with
 |none=>rw[hz] at e2;cases e2
 |some z=>
  rw[hz] at e2;cases e2
  exact⟨z,lV hz,rfl,e1⟩
theorem akr{α:Type}{f:α→aj}{l:List α}{i:Nat}{d:aj}(h:(l.map f)[i]?=some d):∃x,l[i]?=some x∧d=f x:=by
 rw[fY] at h;cases hx:l[i]? with
 |none=>rw[hx] at h;cases h
 |some x=>rw[hx] at h;exact⟨x,rfl,(fP h).symm⟩
def Bf(L:Nat)(C:Ce)(b k:Nat):Prop:=C.length=L∧∃x y z:Int,C[b]?=some [x,y,z]∧0≤x∧0≤y∧y≤3000000000∧0≤z∧z+k≤900000
theorem Bf.mono(h:Bf L C b k)(hj:j≤k):Bf L C b j:=by
 obtain⟨l,x,y,z,h1,h2,h3,h4,h5,h6⟩:=h
 exact⟨l,x,y,z,h1,h2,h3,h4,h5,by omega⟩
theorem Bf.dec(h:Bf L C b (k+1)):Bf L C b k:=h.mono (Bm k)
theorem Bf.eq(h:Bf L C b k)(h':Bf L C' b' k'):C'.length=C.length:=h'.1.trans h.1.symm
inductive HE(b:Nat)(zs:List Str)(ps:List (Str×Str))(own:List Str)(rk:List pL)(lv:List cQ)(ru:List (aj×aj)):En→Prop
 |mk (v7 v8 v9 v10 v11 cA gY iU Te Tf Tg Th:Option Vl):HE b zs ps own rk lv ru (hEn b zs ps own rk lv ru v7 v8 v9 v10 v11 cA gY iU Te Tf Tg Th)
theorem Rm(a c:Nat)(h:i<n):a+c*(n-i)=a+c*(n-(i+1))+c:=by
 rw[show n-i=(n-(i+1))+1 by omega,Wn,Nat.mul_one,Nat.add_assoc]
theorem aks(a:Nat)(h:i<n):a+(n-i)=a+(n-(i+1))+1:=by omega
section
variable{prog:bf}{w:aY}{A:bU}{E:Value→au→Prop}{s:au}
end
section
variable{prog:bf}{w:aY}{A:bU}{E:Value→au→Prop}{s:au}{z TI TO i1 i2 l1 l2:aa}{f1 f2:List aa}{n:Nat}{P1 P2:Nat→Value→Prop}{S1 S2:Nat→aU→Prop}
end
def Ja:aj→aj→Option Vl
 |.list xs,.int n=>if 0≤n∧n≤1000∧xs.length≤1000 then some (.ow (.list (cH n.toNat xs).flatten)) else none
 |a,b=>iM a b
def aa8:R2:=fun x y H Q=>(rI Dw fun i j=>.int (i*j)) x y H Q∨abp x y H Q
theorem aiY:cz X (mF .Mult) aa8:=oh.or ajT
theorem ZQ(h:bV H ds vs):∀n,bV H (cH n ds).flatten (cH n vs).flatten
 |0=>rfl
 |n+1=>by
  rw[sX,sX,Am,Am];exact vB h (ZQ h n)
theorem aiZ{K:aC}:fJ K aa8 Ja:=by
 intro Z Θ env C σ H x y dx dy res S bx cL e Q q;unfold Ja at e;split at e
 ·rename_i xs n;split at e
  case isFalse=>cases e
  rename_i hn;cases e
  obtain⟨a,vs,rfl,ha,r1⟩:=bx.lst
  cases cL.int;have l1:=gm r1;refine .inr ⟨a,n,vs,rfl,rfl,ha,by omega,by omega,?_,fun p hp=>q _ _ (aO.upd hp) (tW S (ZQ r1 _) hp)⟩;rw[iI,l1];have:xs.length*n.toNat≤1000*1000:=Nat.mul_le_mul hn.2.2 (by omega);omega
 ·exact .inl (oA Z Θ env C σ H x y dx dy res S bx cL e Q q)
section
variable{X:Cx}
end
def z6(fk:FB)(fv:FE):FE:=fun env C=>match fk env C with
 |some (dk,e1,C1)=>match fv e1 C1 with
  |some (r,e2,C2)=>match cJ dk with
   |some _=>match still r with
    |.im d=>some (.ow (.dict [(dk,d)]),e2,C2)
    |_=>none
   |none=>none
  |none=>none
 |none=>none
theorem YH(hk:PE X k (dm X.K fk))(hv:PE X v (tE X.K fv)):PE X (.Dict [some k] [v] pos) (tE X.K (z6 fk fv)):=
 (ail (ag4 hk hv aik) rfl rfl (fun z=>nomatch z) (Fg rfl)).weak fun σ H Q aJ=>by
 obtain⟨Z,Θ,env,C,r,env',C',S,hf,q⟩:=aJ
 unfold z6 at hf;split at hf
 case h_2=>cases hf
 rename_i dk e1 C1 h1;split at hf
 case h_2=>cases hf
 rename_i rv e2 C2 h2;split at hf
 case h_2=>cases hf
 rename_i kk hkk;split at hf
 case h_2=>cases hf
 rename_i d hs;cases hf;intro p hp
 refine⟨p::Z,Θ,env,C,dk,e1,C1,S.push hp _ (fun _ z=>nomatch z),h1,fun x H1 k1 f1 S1 bx=>?_⟩
 refine⟨p::Z,Θ,e1,C1,rv,env',C',S1,h2,fun y H2 k2 f2 r2=>?_⟩
 have R:=r2.still;rw[hs] at R
 obtain⟨S2,rz⟩:=R
 have ex:x=kV kk:=by
  cases dk<;>first|(cases hkk;exact bx)|cases hkk
 have qX:aO Θ H H2:=((aO.upd hp).trans k1).trans k2;have np:p∉Θ:=fun m=>by
  have:=(jC.mp S2.nd).1;exact this (dN _ (gh _ m))
 have e2p:H2 p=some (.dK []):=(k1.trans k2).keep _ _ dI np
 refine⟨e2p,[(kk,y)],by rw[ex];rfl,Fg rfl,?_⟩
 have kf:aO Θ H (upd H2 p (.dK [(kk,y)])):=⟨fun a o ha na=>by
  rw[cG (pA ha hp)];exact qX.keep _ _ ha na,fun a ha=>by
  by_cases z:a=p
  ·exact absurd (z▸hp) ha
  ·rw[cG z];exact qX.2 a ha⟩
 have c2:nj Θ C' (upd H2 p (.dK [(kk,y)])):=⟨S2.cell.len,fun n b ns h3 h4=>by
  have:=S2.cell.at_ n b ns h3 h4;rw[cG (show b≠p from fun z=>np (by rw[←z];exact lV h3))];exact this⟩
 refine q _ _ kf (f1.trans f2) ⟨p,rfl,hp,(S.fz (f1.trans f2)).xT hp kf ⟨_,dI,fun _ z=>nomatch z⟩ c2,[y],.inl ⟨[kk],?_,dI⟩,y,[],rfl,?_,rfl⟩
 ·unfold cD;rw[hkk];rfl
 ·refine rz.same fun a u e=>?_
  unfold er at e⊢;split at e
  ·cases e
  ·rename_i n;rw[if_neg n,cG (show a≠p from fun z=>n (by rw[z];exact fj))];exact e
def Jv(i:Nat)(f:FB):FS:=fun env C=>if nu env[i]? then match f env C with
  |some (.list ys,e1,C1)=>match e1[i]? with
   |some (some (.ow (.list ds)))=>if ds.length+ys.length≤LIM then some (.nx,e1.set i (some (.ow (.list (ds++ys)))),C1) else none
   |_=>none
  |_=>none
 else none
theorem akt(ho:PE X o (oK i))(he:PE X e (dm X.K f))
  (hs0:u9 (.Call (.Attribute o "extend" apos) [e] [] cpos) none pos.line X.env=pure false:=by rfl)
  (hbase:tK o "extend" X.env (eval o X.env)=eval o X.env:=by rfl)
  (hfew:((fK cpos (aZ [e] X.env)).all (fun x=>!x.1)&&(xj cpos (wX [] X.env)).all (fun x=>x.1.isSome)
   &&decide (([e]:List Expr).length+([]:List lM).length+(if([]:List lM).isEmpty then 0 else 1)<30))=true:=by rfl)
  (hline:(apos.endLine==cpos.line)=true:=by rfl)(hs:aZ [e] X.env=(false,eval e X.env)::aZ [] X.env:=by rfl)(hplain:(fK cpos (aZ [] X.env)).any (·.1)=false:=by rfl):
  PS X (.Expr (.Call (.Attribute o "extend" apos) [e] [] cpos) pos) (tS X.K (Jv i f)):=
 (O3 (Dg J7 adm PySem.F.type_list_extend (qW.r af6) ho (lK he ou hs) hbase hfew hline hs hplain) hs0).weak fun D σ H aJ=>by
  obtain⟨Z,Θ,env,C,fl,env',C',S,hf,q⟩:=aJ
  unfold Jv at hf;split at hf
  ·rename_i h0
   obtain⟨ds0,h0⟩:=Yo h0
   obtain⟨v0,pY,a,rfl,Ae,ha0,r0⟩:=S.slot i _ h0
   split at hf
   ·rename_i ys e1 C1 h1;split at hf
    ·rename_i ds hi;split at hf
     ·rename_i hl;cases hf
      refine⟨_,pY,.inl ⟨rfl,Ae,bC.of ha0⟩,Z,Θ,env,C,.list ys,e1,C',S,h1,fun v H1 k f S1 bo=>?_⟩
      obtain⟨b,ws,rfl,hb,r1⟩:=bo
      obtain⟨v1,ev1,a1,SQ,vs,ha1,r2⟩:=S1.slot i _ hi
      subst SQ;rw[pY] at ev1;cases ev1
      refine⟨a,b,vs,ws,rfl,rfl,ha1,gM hb,by rw[gm r2,gm r1,iI];unfold LIM at hl;omega,?_⟩
      have w:cZ X.K Z Θ e1 σ H1 Θ (e1.set i (some (.ow (.list (ds++ys))))) C' σ (upd H1 a (.lst (vs++ws))):=S1.write hi pY ⟨_,dI,vB r2 r1⟩;exact q Θ σ _ ((cZ.pX k f S1).trans w)
     ·cases hf
    ·cases hf
   ·cases hf
  ·cases hf
section
variable{prog:bf}{w:aY}{A:bU}{E:Value→au→Prop}{s:au}{R:qx→au→Prop}{I S:aa}{fp wr:List aa}{n:Nat}{Pv:Nat→Value→Prop}{St:Nat→aU→Prop}{bt:Nat→Nat→Bool}{HK:aU→Prop}
theorem ai0(W:Walks prog w A.in1 I fp wr n Pv St)(cmp:∀(i j:Nat)(vi vj:Value)(s:au)(Q:Value→au→Prop)(E:Value→au→Prop),HK s.heap→Pv i vi→Pv j vj→Q (.bool (bt i j)) s→aL (model prog w) A.in1 (Bo .Lt vi vj) Q E s)
  (hk:∀h h',HK h→(∀b o,b∉wr→b≠S→h.get? b=some o→h'.get? b=some o)→HK h')(out:S∉fp):∀(m j:Nat)(s:au)(vb:Value)(c:Nat),n-(j+1)=m→j+1≤n→St (j+1) s.heap→HK s.heap→Pv (kY bt j) vb→s.heap.get? S=some (alb vb c)→
  (∀v h' tk,Pv (kY bt (n-1)) v→(∀b o,b∉wr→b≠S→s.heap.get? b=some o→h'.get? b=some o)→R (.ok (.ret v)) {s with heap:=h',toks:=tk})→jR (model prog w) A (.builtin "min.loop" ⟨[.ref I,.none,.ref S],[]⟩) R s:=by
 have Jw:S∉wr:=fun z=>out (W.sub _ z)
 have nm:(toString "min"++toString ".loop":String)="min.loop":=by decide
 intro m;induction m with
 |zero=>
  intro j s vb c hm hj st kp pb hS hR;have last:j+1=n:=by omega
  refine uU Uc ?_;rw[uN yE _];show aL _ A.in1 (seqItems? (.ref S) >>= _) _ _ s;refine aD (Gf hS rfl ?_);show aL _ A.in1 (tryCatch (n6 (.ref I)) _ >>= _) _ _ s;refine aD (KY (W.done s _ _ (last▸st) fun h' tk kk=>?_));have g:=kk S _ Jw hS;show aL _ A.in1 (Ng S (fun _=>#[]) >>= _) _ _ _;refine aD (Gb g rfl (aD (LR (aV ?_))));exact hR vb _ tk (by rw[←last];exact pb) fun b o hb hbS e=>(rB _ _ (jE hbS)).trans (kk b o hb e)
 |succ m ih=>
  intro j s vb c hm hj st kp pb hS hR;have lt:j+1<n:=by omega
  refine uU Uc ?_;rw[uN yE _];show aL _ A.in1 (seqItems? (.ref S) >>= _) _ _ s;refine aD (Gf hS rfl ?_);show aL _ A.in1 (tryCatch (n6 (.ref I)) _ >>= _) _ _ s;refine aD (KY (W.item (j+1) s _ _ lt st fun v h' tk pv st' kk=>?_));have g:=kk S _ Jw hS;have Es:HK h':=hk _ _ kp fun b o hb _ e=>kk b o hb e
  show aL _ A.in1 (tryCatch (pF [v,v] (Bo .Lt v vb >>= _)) _ >>= _) _ _ _;refine aD (KY (mj (aD (cmp (j+1) (kY bt j) v vb _ _ _ Es pv pb ?_))));refine aD (mj (uR (aD (LR (aV ?_)))));cases hb:bt (j+1) (kY bt j) with
  |true=>
   simp only[if_true];refine aD (Gb g rfl (aD (LR ?_)));rw[nm];refine aV ⟨tL yE _,ih (j+1) _ v _ (by omega) lt (W.frame _ _ _ st' fun b hbf o e=>(rB _ _ fun z:S=b=>out (z▸hbf)).trans e) (hk _ _ Es fun b o _ hbS e=>(rB _ _ (jE hbS)).trans e) (by simp only[kY,hb,if_true];exact pv) (yF _ g rfl) fun v' h2 tk2 Et qX=>?_⟩;exact hR v' h2 tk2 Et fun b o hb' hbS e=>qX b o hb' hbS ((rB _ _ (jE hbS)).trans (kk b o hb' e))
  |false=>
   simp only[oX,if_false];refine aD (LR ?_);rw[nm];refine aV ⟨tL yE _,ih (j+1) _ vb c (by omega) lt st' Es (by simp only[kY,hb,oX,if_false];exact pb) g fun v' h2 tk2 Et qX=>?_⟩;exact hR v' h2 tk2 Et fun b o hb' hbS e=>qX b o hb' hbS (kk b o hb' e)
theorem ai1(W:Walks prog w A.in1 I fp wr n Pv St)(cmp:∀(i j:Nat)(vi vj:Value)(s:au)(Q:Value→au→Prop)(E:Value→au→Prop),HK s.heap→Pv i vi→Pv j vj→Q (.bool (bt i j)) s→aL (model prog w) A.in1 (Bo .Lt vi vj) Q E s)
  (hk:∀h h',HK h→(∀b o,b∉wr→b≠S→h.get? b=some o→h'.get? b=some o)→HK h')(out:S∉fp)(pos:0<n)(st:St 0 s.heap)(kp:HK s.heap)(hS:s.heap.get? S=some {cls:=.type "list",dict:=none,data:=.seq #[] c,slots:=#[]})
  (hR:∀v h' tk,Pv (kY bt (n-1)) v→(∀b o,b∉wr→b≠S→s.heap.get? b=some o→h'.get? b=some o)→R (.ok (.ret v)) {s with heap:=h',toks:=tk}):jR (model prog w) A (.builtin "min.loop" ⟨[.ref I,.none,.ref S],[]⟩) R s:=by
 have Jw:S∉wr:=fun z=>out (W.sub _ z)
 have nm:(toString "min"++toString ".loop":String)="min.loop":=by decide
 refine uU Uc ?_;rw[uN yE _];show aL _ A.in1 (seqItems? (.ref S) >>= _) _ _ s;refine aD (Gf hS rfl ?_);show aL _ A.in1 (tryCatch (n6 (.ref I)) _ >>= _) _ _ s;refine aD (KY (W.item 0 s _ _ pos st fun v h' tk pv st' kk=>?_));have g:=kk S _ Jw hS;have Es:HK h':=hk _ _ kp fun b o hb _ e=>kk b o hb e
 show aL _ A.in1 (Ng S (fun _=>#[v,v]) >>= _) _ _ _;refine aD (Gb g rfl ?_);rw[nm];refine aV ⟨tL yE _,ai0 W cmp hk out _ 0 _ v _ rfl pos (W.frame _ _ _ st' fun b hbf o e=>(rB _ _ fun z:S=b=>out (z▸hbf)).trans e) (hk _ _ Es fun b o _ hbS e=>(rB _ _ (jE hbS)).trans e) pv (yF _ g rfl) fun v' h2 tk2 Et qX=>?_⟩;exact hR v' h2 tk2 Et fun b o hb' hbS e=>qX b o hb' hbS ((rB _ _ (jE hbS)).trans (kk b o hb' e))
theorem ai2(hh:A.handled=none)(hl:s.heap.IsList l items)(pos:0<items.size)
  (cmp:∀(i j:Nat)(vi vj:Value)(s':au)(Q:Value→au→Prop)(E:Value→au→Prop),(∀b o,s.heap.get? b=some o→s'.heap.get? b=some o)→items[i]?=some vi→items[j]?=some vj→Q (.bool (bt i j)) s'→aL (model prog w) A.in1 (Bo .Lt vi vj) Q E s')
  (h:∀(v:Value)(h':aU)(tk:Nat),items[kY bt (items.size-1)]?=some v→(∀b o,s.heap.get? b=some o→h'.get? b=some o)→Q v {s with heap:=h',toks:=tk}):aL (model prog w) A (call (.builtin "min") [.ref l]) Q E s:=by
 have nm:(toString "min"++toString ".loop":String)="min.loop":=by decide
 have ltl:l<s.heap.objs.size:=by obtain⟨o,ho,_⟩:=hl;exact bT ho
 refine aeF PySem.F.kind_min PySem.F.plain_min PySem.F.entry_min (PySem.F.args_min1 _) ?_;show aL _ A.in1 (acC "min" ["key","default"] 0 ⟨[],[]⟩ >>= _) _ _ s;refine aD (wpAny_of_eq (show acC "min" ["key","default"] 0 ⟨[],[]⟩=pure [none,none] from rfl) ?_);refine aD (aV ?_);refine aD (Ux hl (aD (lX ?_)));rw[nm];have wB:(s.heap.push {cls:=.type "list_iterator",data:=.fields #[.ref l,.int 0 0]}).objs.size=s.heap.objs.size+1:=wQ ..;have W:=afn (prog:=prog) (w:=w) (A:=A.in1) (by simp[hh]) s.heap.objs.size l (dF ltl) items;refine aV ⟨tL yE _,?_⟩;show jR (model prog w) A (.builtin "min.loop" ⟨[.ref s.heap.objs.size,.none,.ref (s.heap.push {cls:=.type "list_iterator",data:=.fields #[.ref l,.int 0 0]}).objs.size],[]⟩) _ {s with heap:=(s.heap.push {cls:=.type "list_iterator",data:=.fields #[.ref l,.int 0 0]}).push {cls:=.type "list",data:=.seq #[]}};have ol:∀b o,s.heap.get? b=some o→b∉[s.heap.objs.size]:=fun b o e=>by
  simp only[bL,jb,or_false];exact dF (bT e)
 have ol2:∀b o,s.heap.get? b=some o→b≠(s.heap.push {cls:=.type "list_iterator",data:=.fields #[.ref l,.int 0 0]}).objs.size:=fun b o e=>by
  rw[wB];exact dF (wK (bT e))
 refine ai1 (HK:=fun h=>∀b o,s.heap.get? b=some o→h.get? b=some o) W cmp (fun h h' k kk b o e=>kk b o (ol b o e) (ol2 b o e) (k b o e)) ?_ pos ⟨⟨_,cB _ (gF _ rfl),rfl,rfl⟩,(hl.push _).push _⟩ (fun b o e=>cB _ (cB _ e)) (gF _ rfl) fun v h' tk hv kk=>?_
 ·rw[wB];simp only[bL,jb,or_false,not_or]
  exact⟨yZ (U8 _),yZ (wK ltl)⟩
 ·exact h v h' tk hv fun b o e=>kk b o (ol b o e) (ol2 b o e) (cB _ (cB _ e))
end
section
variable{X:Cx}
theorem aep(hc:X.calm=true)(hu:X.A.units+1<dR):gQ X (.builtin "min") (fun xs H Q=>∃(p:aa)(rows:List Row)(sh:List Bool),xs=[.ref p]∧bC X.K H p (rows.map fun r=>V.ref r.1)∧0<rows.length∧(∀r∈rows,H r.1=some (.tup (r.2.map kV))∧r.2.map bI=sh)∧
  ∀r,rows[kY (kZ rows) (rows.length-1)]?=some r→Q (.ref r.1) H):=by
 intro pins s σ H xs us Q I r h
 obtain⟨p,rows,sh,rfl,hp,pos,ha,q⟩:=h
 obtain⟨u,rfl,ru⟩:=vals1 r
 cases ru
 obtain⟨its,r',pl,hz⟩:=I.list hp
 have ei:its=rows.map fun r=>dB r.1:=by
  clear pos ha q pl hz hp;induction rows generalizing its with
  |nil=>cases r';rfl
  |cons a rows ih=>
   cases r' with
   |cons h t=>
    cases h;rw[ih _ t];rfl
 subst ei;have tu:∀r∈rows,TupAt s.heap r∧r.2.map bI=sh:=fun r hr=>by
  obtain⟨_,its,v,t⟩:=(show dO X.prog X.w H s.heap r.1 (.tup (r.2.map kV)) from I.hok r.1 _ (ha r hr).1)
  exact⟨⟨its,v,t⟩,(ha r hr).2⟩
 refine ai2 (bt:=kZ rows) (I.ok.hd hc) pl.isList (by simpa using pos) (fun i j vi vj s' Q E k hi hj q=>?_) fun v h' tk hv k=>?_
 ·have hi':(rows.map fun r=>dB r.1)[i]?=some vi:=by simpa using hi
  have hj':(rows.map fun r=>dB r.1)[j]?=some vj:=by simpa using hj
  rw[fY] at hi' hj';cases ri:rows[i]? with
  |none=>rw[ri] at hi';cases hi'
  |some a=>
   cases rj:rows[j]? with
   |none=>rw[rj] at hj';cases hj'
   |some b=>
    rw[ri] at hi';rw[rj] at hj';cases hi';cases hj'
    obtain⟨⟨its,v,t⟩,sa⟩:=tu a (lV ri)
    obtain⟨⟨its2,v2,t2⟩,sb⟩:=tu b (lV rj)
    have ta:=(TupAt.keep (r:=a) ⟨its,v,t⟩ k)
    have tb:=(TupAt.keep (r:=b) ⟨its2,v2,t2⟩ k)
    obtain⟨its,v,t⟩:=ta
    obtain⟨its2,v2,t2⟩:=tb
    refine Wz t t2 (by simpa using v) (by simpa using v2) (sa.trans sb.symm) hu ?_;have e:kZ rows i j=di a.2 b.2:=by
     unfold kZ ue;simp[ri,rj]
    rw[←e];exact q
 ·have hv':(rows.map fun r=>dB r.1)[kY (kZ rows) (rows.length-1)]?=some v:=by simpa using hv
  rw[fY] at hv';cases rv:rows[kY (kZ rows) (rows.length-1)]? with
  |none=>rw[rv] at hv';cases hv'
  |some a=>
   rw[rv] at hv';cases hv'
   exact⟨.ref a.1,H,I.kept (t':=tk) k,rfl,q a rv⟩
end
def Ti(K:aC)(a:aa):It:=⟨fun i H=>∃xs,bC K H a xs∧i<xs.length,
 fun i H v H'=>∃p x,H p=none∧v=.ref p∧H'=upd H p (.tup [.int i,x])∧∀xs,bC K H a xs→xs[i]?=some x,
 fun i H=>∃xs,bC K H a xs∧i=xs.length⟩
theorem agC{P:bf}{w:aY}{K:aC}{es:List Expr}{k:Nat}{ps:Pos}{a z j:aa}(hzj:z≠j):
  Turn P w K (.Tuple es k ps) (Ti K a) [z,j] z (fun i h=>(∃old,IsEnum h z j i old)∧h.IsListIter j a i) where
 mem:=by simp
 obj:=fun i h st c hc=>by
  obtain⟨⟨_,h1⟩,⟨o4,e4,_,d4⟩⟩:=st
  simp only[bL,jb,or_false] at hc;rcases hc with rfl|rfl
  ·exact⟨_,h1,fun v q=>by cases q⟩
  ·exact⟨_,e4,fun v q=>by rw[d4] at q;cases q⟩
 keep:=fun i h h' st kk=>by
  obtain⟨⟨old,h1⟩,⟨o4,e4,r4⟩⟩:=st
  exact⟨⟨old,kk z (by simp) _ h1⟩,⟨o4,kk j (by simp) _ e4,r4⟩⟩
 item:=by
  intro X hP hw hK hc i pins s σ H E I hf st hg;subst hP hw hK
  obtain⟨xs,ha,hi⟩:=hg
  obtain⟨its,r1,p1,_⟩:=I.list ha
  obtain⟨⟨old,s1⟩,s2⟩:=st
  have ex:xs[i]?=some (xs.getD i .non):=by simp[qg,hi]
  obtain⟨u,hu,q1⟩:=r1.get ex
  have hx:its.toArray[i]?=some u:=by simpa using hu
  refine wpAny_pyNext_enum_item s1 s2 p1.isList hx hzj fun h' a1 a2 a3 a4 kk=>⟨_,rfl,wpAny_letOwnedTupleGo_enum a1 fun h2 z2 m2=>?_⟩
  have ltz:z<s.heap.objs.size:=bT s1;have Eg:H s.heap.objs.size=none:=I.hok.fresh (bD _);have kT:h2.get? s.heap.objs.size=some {cls:=.type "tuple",data:=.seq #[.int i s.toks,u]}:=m2.extBut _ _ (yZ ltz) a3
  refine⟨.ref s.heap.objs.size,upd H s.heap.objs.size (.tup [.int i,xs.getD i .non]),Inv.BV (s:=s) (h':=h2) (t':=s.toks+1) (ch:=[z,j]) I (fun c o hc e=>?_) hf (bh.upd Eg) (fun c o e n=>?_) (fun c v e=>?_),rfl,⟨_,_,Eg,rfl,rfl,fun xs' h1=>?_⟩,⟨⟨_,z2⟩,a2.extBut m2.extBut (jE hzj)⟩,fun c hc=>?_⟩
  ·simp only[bL,jb,or_false,not_or] at hc;exact m2.extBut _ _ hc.1 (kk c o hc.1 hc.2 e)
  ·rw[cG (dF (bT e))];exact n
  ·by_cases Eh:c=s.heap.objs.size
   ·subst Eh;rw[dI] at e;cases e;exact .inr ⟨by show 2≤bJ;decide,[.int i s.toks,u],.cons ⟨_,rfl⟩ (.cons q1 .nil),_,kT,rfl,_,rfl⟩
   ·rw[cG Eh] at e;exact .inl e
  ·rw[I.Ho h1 ha];exact ex
  ·rw[cG]
   ·exact(hf c hc).1
   ·simp only[bL,jb,or_false] at hc
    obtain⟨o4,e4,_⟩:=s2
    rcases hc with rfl|rfl
    ·exact dF ltz
    ·exact dF (bT e4)
 done:=by
  intro X hP hw hK hc i pins s σ H E I hf st hg;subst hP hw hK
  obtain⟨xs,ha,hi⟩:=hg
  obtain⟨its,r1,p1,_⟩:=I.list ha
  obtain⟨⟨old,s1⟩,s2⟩:=st
  have l1:=r1.length;refine wpAny_pyNext_enum_end (I.ok.hd hc) s1 s2 p1.isList (by simp;omega) fun h' kk=>⟨rfl,I.BV (t':=s.toks) (ch:=[z,j]) (fun c o hc e=>?_) hf (bh.refl H) (fun _ _ _ n=>n) fun _ _ e=>.inl e⟩
  simp only[bL,jb,or_false,not_or] at hc;exact kk _ _ hc.2 e
 self:=fun _ _ _ _ _ st h=>by
  obtain⟨⟨_,h1⟩,_⟩:=st
  exact adH h1 h
def alW(K:aC)(t:TA):TI:=fun σ H R=>t σ H fun vs H1=>∃a xs,vs=[.ref a]∧bC K H1 a xs∧R (Ti K a) H1
theorem aku{X:Cx}{es:List Expr}{k:Nat}{ps:Pos}{x:Expr}{t:TA}{p pos:Pos}(hg:Gl X "enumerate")(hm:X.mg "enumerate"=none)(ha:PA X [x] t)(hs:aZ [x] X.env=[(false,eval x X.env)]:=by rfl)(hs2:aZ ([]:List Expr) X.env=[]:=by rfl):
  PI X (.Tuple es k ps) (.Call (.Name "enumerate" p) [x] [] pos) (alW X.K t):=by
 intro pins s σ H R I h;refine Call_ (tY I hg hm anl (Fb (bu (ha pos pins s σ H _ I h) fun us s1 aJ=>?_) (by rw[hs,hs2]) (by rw[hs2];rfl)))
 obtain⟨vs,H1,I1,r1,a,xs,e,h1,q⟩:=aJ
 subst e
 obtain⟨u,rfl,r⟩:=vals1 r1
 cases r
 obtain⟨its,v1,p1,_⟩:=I1.list h1
 refine call_enumerate_list p1.isList fun h' g1 g2 _ kk=>adH g1 ?_
 have I2:Inv X pins σ H1 {s1 with heap:=h'}:=I1.kept (t':=s1.toks) kk
 refine⟨s1.heap.objs.size+1,[s1.heap.objs.size+1,s1.heap.objs.size],_,_,H1,rfl,I2,agC (Nat.succ_ne_self _),⟨⟨_,g1⟩,g2⟩,fun c hc=>?_,q⟩
 refine I1.ux ?_ (I1.hok.fresh ?_)
 all_goals
  simp only[bL,jb,or_false] at hc;rcases hc with rfl|rfl<;>omega
def xV(ds:List aj):List aj:=ds.zipIdx.map fun p=>.tuple [.int (p.2:Nat),p.1]
theorem YJ{ds:List aj}{i:Nat}{d:aj}(h:(xV ds)[i]?=some d):∃x,ds[i]?=some x∧d=.tuple [.int i,x]:=by
 unfold xV at h;rw[fY,List.getElem?_zipIdx] at h;cases hx:ds[i]? with
 |none=>rw[hx] at h;cases h
 |some x=>
  rw[hx] at h
  refine⟨x,rfl,?_⟩
  have:=fP h;rw[←this,Gu]
theorem Xx(ds:List aj):(xV ds).length=ds.length:=by
 unfold xV;rw[aX,List.length_zipIdx]
theorem ai3{K:aC}{P:List aa}{H:Hp}{a:aa}{ds:List aj}{vs:List V}(ha:er P H a=some (.lst vs))(r:bV (er P H) ds vs):vX P P H (Ti K a) (xV ds):=fun i H2 P2 s1 s2 n=>by
 have h2:bC K H2 a vs:=bC.of (gM (s1 _ _ ha));have l1:=gm r
 refine⟨fun d hd=>?_,fun hi=>⟨vs,h2,by rw[hi,Xx];exact l1.symm⟩⟩
 obtain⟨x,e1,rfl⟩:=YJ hd
 obtain⟨v,ev,rv⟩:=tZ r e1
 refine⟨⟨vs,h2,(iG.mp ev).1⟩,fun y H3 yl=>?_⟩
 obtain⟨p,v',hp,rfl,rfl,hh⟩:=yl
 have g1:=hh vs h2;rw[ev] at g1;cases g1;have sp:bh H2 (upd H2 p (.tup [.int i,v])):=bh.upd hp
 refine⟨sp,p,[.int i,v],rfl,?_,.int i,[v],rfl,rfl,v,[],rfl,rv.same (s1.trans (Pg sp)),rfl⟩
 unfold er;rw[if_neg (fun m=>n p m hp),dI]
def JT(f:FE):FI:=fun env C=>match f env C with
 |some (r,e1,C1)=>match still r with
  |.im (.list ds)=>some (xV ds,e1,C1)
  |_=>none
 |none=>none
theorem ai4(hg:Gl X "enumerate")(hm:X.mg "enumerate"=none)(ha:PE X x (tE X.K f))(hs:aZ [x] X.env=(false,eval x X.env)::aZ [] X.env:=by rfl)(hs1:aZ [x] X.env=[(false,eval x X.env)]:=by rfl)(hs2:aZ ([]:List Expr) X.env=[]:=by rfl):
  PI X (.Tuple es k ps) (.Call (.Name "enumerate" p) [x] [] pos) (tI X.K false (JT f)):=(aku hg hm (lK ha ou hs) hs1 hs2).weak fun σ H R aJ=>by
 obtain⟨Z,Θ,env,C,its,env',C',S,hf,q⟩:=aJ
 unfold JT at hf;split at hf
 case h_2=>cases hf
 rename_i r e1 C1 h1;split at hf
 case h_2=>cases hf
 rename_i ds hd;cases hf
 refine⟨Z,Θ,env,C,_,env',C',S,h1,fun v H1 k f R=>?_⟩
 obtain⟨S1,a,vs,rfl,ha,r⟩:=R.sr hd
 exact⟨a,vs,rfl,bC.of (gM ha),q _ H1 k f S1 (ai3 ha r)⟩
theorem Xy(h:(iu P w).is k u=true):RelV (kV k) u:=by
 rcases qb h with⟨i,t,rfl,rfl⟩|⟨x,t,rfl,rfl⟩<;>exact⟨t,rfl⟩
section
variable{prog:bf}{w:aY}{A:bU}{E:Value→au→Prop}{s:au}{r d:aa}{kvs:List (Key×Value)}{ep:Nat}{b c:Bool}{Q:Value→au→Prop}
def lg(as:List aa)(bW:List (Key×Key)):List Row:=as.zipWith (fun a p=>(a,[p.1,p.2])) bW
theorem adV(hh:A.handled=none)(hv:s.heap.IsItemsView r d)(hm:s.heap.DictAt (iu prog w) d kvs ep)(h64:bW.length<64)(hne:0<bW.length)(hk:kvs.map (·.1)=bW.map (·.1))(hx:Vals (bW.map fun p=>kV p.2) (kvs.map (·.2)))(hty:∀p∈bW,bI p.1=b∧bI p.2=c)
  (h:∀(as:List aa)(p:List Nat)(D:aa)(h':aU)(n tk:Nat),as.length=bW.length→as.Pairwise (·<·)→(∀a∈as,s.heap.objs.size≤a∧a≠D)→(∀r∈lg as bW,TupAt h' r)→p.Perm (dz (lg as bW).length)→p=sH ((lg as bW).map (·.2))→s.heap.objs.size≤D→(∀b o,s.heap.get? b=some o→h'.get? b=some o)→
   h'.get? D=some (seqObj "list" ((p.map fun i=>(lg as bW).getD i (0,[])).map fun r=>dB r.1).toArray n)→Q (.ref D) {s with heap:=h',toks:=tk}):
  aL (model prog w) A (call (.builtin "sorted") [.ref r]) Q E s:=by
 have hlk:kvs.length=bW.length:=by have:=congrArg o7 hk;simpa using this
 refine TY kind_sorted plain_sorted entry_sorted (args_sorted1 _) ?_;unfold j5.«sorted»;refine aD (m:=WM "sorted" 1 1 _) (aV (aD (kdx_collect (A:=A.in1) (by simp[hh]) hv hm (by rw[iI];omega) fun h1 tk as kk hlen G=>?_)));have hla:as.length=bW.length:=by omega
 have hlr:(lg as bW).length=bW.length:=by unfold lg;rw[List.length_zipWith];omega
 have tu:∀r∈lg as bW,TupAt h1 r∧r.2.map bI=b::[c]:=fun r hr=>by
  obtain⟨j,hj,rfl⟩:=sY hr
  rw[hlr] at hj;have ea:as[j]?=some as[j]:=ie (by omega);have ek:bW[j]?=some bW[j]:=ie hj
  obtain⟨key,k,x,e1,e2,e3⟩:=G.pairs j _ ea
  have er:(lg as bW)[j]'(by omega)=(as[j],[bW[j].1,bW[j].2]):=by simp[lg]
  rw[er];have kk1:k=bW[j].1:=by
   have:=congrArg (·[j]?) hk;simp only[fY,e1,ek,jD] at this;exact fP this
  have kx:RelV (kV bW[j].2) x:=by
   have q1:(bW.map fun p=>kV p.2)[j]?=some (kV bW[j].2):=by rw[fY,ek];rfl
   obtain⟨u,g1,g2⟩:=hx.get q1
   rw[fY,e1] at g1;cases g1;exact g2
  refine⟨⟨[key,x],.cons (kk1▸Xy e2) (.cons kx .nil),_,e3,rfl,_,rfl⟩,?_⟩
  have:=hty bW[j] (wM hj)
  show[bI bW[j].1,bI bW[j].2]=_
  rw[this.1,this.2]
 have eu:as.map dB=(lg as bW).map fun r=>dB r.1:=by
  refine yK (by rw[aX,aX];omega) fun i h1 h2=>?_
  rw[adW,adW];simp[lg]
 rw[eu];have hsz:s.heap.objs.size≤h1.objs.size:=by
  have m:as[0]'(by omega)∈as:=wM _;exact uZ (Gs (G.above _ m) (G.there m))
 generalize hR:lg as bW=rows at *;refine aD (Lb ?_ (by rw[aX,iI];omega));have hoL:(h1.push (seqObj "list" (rows.map fun r=>dB r.1).toArray 0)).get? h1.objs.size=some (seqObj "list" (rows.map fun r=>dB r.1).toArray 0):=gF _ rfl;have up:∀s':au,Kp h1.objs.size (h1.push (seqObj "list" (rows.map fun r=>dB r.1).toArray 0)) s'.heap→∀b o,h1.get? b=some o→s'.heap.get? b=some o:=fun s' k b o e=>k b o (dF (bT e)) (cB _ e)
 refine aD (mj (p6 slot_list_sort ⟨_,hoL,rfl⟩ entry_list_sort (afq (κ:=tuples' true) (lt:=kZ rows) (Rl:=fun p=>p=sH (rows.map (·.2))) (vs:=rows.map fun r=>dB r.1) (s:={s with heap:=h1.push (seqObj "list" (rows.map fun r=>dB r.1).toArray 0),toks:=tk}) hoL (by rw[aX];omega) (fun h2=>agl (by rw[aX]) h2) (fun h2=>afs (by rw[aX]) h2)
  (fun h2 s' k Q' q'=>agg (fun r hr=>⟨(tu r hr).1.keep (up s' k),(tu r hr).2⟩) (by rw[aX] at h2;omega) Q' q') (fun h2 s' k i j hi hj C q'=>ahd (sh:=b::[c]) (fun r hr=>⟨(tu r hr).1.keep (up s' k),(tu r hr).2⟩) (by simpa using hi) (by simpa using hj) C q') fun p h' n hp hrl k e=>⟨_,rfl,?_⟩) (args_list_sort _)))
 rw[aX] at hp;rw[agi hp] at e;have kh:=up {s with heap:=h'} k;subst hR;exact aV ⟨_,rfl,h as p h1.objs.size h' n tk hla G.rise (fun a ha=>⟨uZ (G.above a ha),dF (G.there ha)⟩) (fun r hr=>(tu r hr).1.keep kh) hp hrl hsz (fun b o e=>kh b o (kk b o e)) e⟩
end
def layR(H:Hp)(rows:List Row):Hp:=fun a=>match rows.find? (fun r=>decide (r.1=a)) with
 |some r=>some (.tup (r.2.map kV))
 |none=>H a
theorem ahy(h:∀r∈rows,r.1≠a):layR H rows a=H a:=by
 unfold layR;rw[Us.mpr fun r hr=>by rw[decide_eq_false (h r hr)];exact gG]
theorem ZR:∀{rows:List Row},(rows.map (·.1)).Nodup→∀r∈rows,layR H rows r.1=some (.tup (r.2.map kV))
 |q::rows,nd,r,hr=>by
  rw[cj,jC] at nd;unfold layR;rcases bL.mp hr with rfl|hr
  ·rw[List.find?_cons_of_pos (by simp)]
  ·have ne:¬decide (q.1=r.1)=true:=fun e=>nd.1 (dG.mpr ⟨r,hr,(of_decide_eq_true e).symm⟩)
   rw[List.find?_cons_of_neg (p:=fun r1:Row=>decide (r1.1=r.1)) ne];exact ZR nd.2 r hr
theorem agD(h:layR H rows a=some u):H a=some u∨∃r∈rows,r.1=a∧u=.tup (r.2.map kV):=by
 unfold layR at h;cases hf:rows.find? (fun r=>decide (r.1=a)) with
 |none=>rw[hf] at h;exact .inl h
 |some r=>
  rw[hf] at h;exact .inr ⟨r,List.mem_of_find?_eq_some hf,of_decide_eq_true (List.find?_some (p:=fun r:Row=>decide (r.1=a)) hf),(fP h).symm⟩
theorem YK:∀{bW:List (Key×Key)}{vs:List (Key×Value)},KV (bW.map fun p=>(p.1,kV p.2)) vs→vs.map (·.1)=bW.map (·.1)∧Vals (bW.map fun p=>kV p.2) (vs.map (·.2))
 |[],vs,h=>by cases h;exact⟨rfl,.nil⟩
 |p::bW,vs,h=>by
  cases h with
  |cons h t=>
   obtain⟨a,b⟩:=YK t
   exact⟨by rw[cj,cj,a,←h.1],.cons h.2 b⟩
def ai5(td:TE):TE:=fun σ H Q=>td σ H fun x H1=>∃(d:aa)(bW:List (Key×Key))(b c:Bool),x=.ref d∧H1 d=some (.dK (bW.map fun p=>(p.1,kV p.2)))∧bW.length<64∧0<bW.length∧(∀p∈bW,bI p.1=b∧bI p.2=c)∧
 ∀(l:aa)(rows:List Row)(H2:Hp),bh H1 H2→H1 l=none→H2 l=some (.lst (rows.map fun r=>V.ref r.1))→rows.map (·.2)=Dy (bW.map fun p=>[p.1,p.2])→(∀r∈rows,H2 r.1=some (.tup (r.2.map kV)))→Q (.ref l) H2
theorem agE(hc:X.calm=true)(ho:PE X o td)(g1:Gl X "sorted")(m1:X.mg "sorted"=none)
  (he:aZ [.Call (.Attribute o "items" apos) [] [] cpos] X.env=(false,eval (.Call (.Attribute o "items" apos) [] [] cpos) X.env)::aZ [] X.env:=by rfl)(hpl:(fK pos1 (aZ [] X.env)).any (·.1)=false:=by rfl)
  (hbase:tK o "items" X.env (eval o X.env)=eval o X.env:=by rfl)(hline:(apos.endLine==cpos.line)=true:=by rfl):
  PE X (.Call (.Name "sorted" p1) [.Call (.Attribute o "items" apos) [] [] cpos] [] pos1) (ai5 td):=by
 intro pins s σ H Q I h;refine Ft (tY I g1 m1 (u:=.builtin "sorted") rfl ?_);refine TQ ?_ he hpl;rw[he];show aL _ _ (spliced ((false,eval (.Call (.Attribute o "items" apos) [] [] cpos) X.env)::fK pos1 (aZ [] X.env))) _ _ s;refine Fq (adF (T:="dict") (id:="dict.items") hbase rfl hline acO acP PySem.F.type_dict_items (bu (ho pins s σ H _ I h) fun u s1 aJ=>?_))
 obtain⟨x,H1,I1,rx,d,bW,b,c,ex,hd,h64,hne,hty,q⟩:=aJ
 subst ex;obtain rfl:u=dB d:=rx
 obtain⟨z,lo,vs,rel,dd⟩:=Jg I1.hok hd
 obtain⟨hk,hx⟩:=YK rel
 refine⟨dd.typeIs,dd.mapOf.noDict,?_⟩
 show aL _ _ (callWith cpos (.builtin "dict.items") [.ref d] [] []) _ _ s1;refine method_meetsIn acP PySem.F.entry_dict_items rfl (anp ⟨rfl,dd.typeIs,PySem.F.args_dict_items_1 _,_,meets_dict_items (iu X.prog X.w) d lo,⟨vs,dd⟩,Kg ?_⟩)
 obtain⟨od,es,ep,hod,hdr⟩:=dd
 have sz:(s1.heap.push {cls:=.type "dict_items",data:=.fields #[.ref d]}).objs.size=s1.heap.objs.size+1:=wQ ..;refine adV (I1.ok.hd hc) (d:=d) ⟨_,gF _ rfl,rfl,rfl⟩ (ep:=ep) ⟨od,es,cB _ hod,hdr⟩ h64 hne hk hx hty fun as p D h' n tk hla hup hfr tu hp hrl hD kk e=>?_
 have nda:as.Nodup:=hup.imp fun h=>dF h
 obtain⟨rows,hR⟩:∃rows,rows=lg as bW:=⟨_,rfl⟩
 rw[←hR] at tu hp hrl e;have r1:rows.map (·.1)=as:=by
  rw[hR];refine yK (by simp[lg,hla]) fun i h1 h2=>?_
  simp[lg]
 have r2:rows.map (·.2)=bW.map fun p=>[p.1,p.2]:=by
  rw[hR];refine yK (by simp[lg,hla]) fun i h1 h2=>?_
  simp[lg]
 have ra:∀r∈rows,s1.heap.objs.size≤r.1∧r.1≠D:=fun r hr=>by
  have m:r.1∈as:=by rw[←r1];exact dG.mpr ⟨r,hr,rfl⟩
  have:=hfr _ m;rw[sz] at this
  exact⟨by omega,this.2⟩
 rw[sz] at hD;have hnD:H1 D=none:=I1.hok.fresh (by omega);have old:∀a,a<s1.heap.objs.size→upd (layR H1 rows) D (.lst ((p.map fun i=>rows.getD i (0,[])).map fun r=>V.ref r.1)) a=H1 a:=fun a ha=>by
  rw[cG (show a≠D by omega),ahy fun r hr z=>by have:=(ra r hr).1;rw[z] at this;omega]
 have hin:∀r∈rows,upd (layR H1 rows) D (.lst ((p.map fun i=>rows.getD i (0,[])).map fun r=>V.ref r.1)) r.1=some (.tup (r.2.map kV)):=fun r hr=>by
  rw[cG (ra r hr).2];exact ZR (by rw[r1];exact nda) r hr
 have sm:bh H1 (upd (layR H1 rows) D (.lst ((p.map fun i=>rows.getD i (0,[])).map fun r=>V.ref r.1))):=fun a u ha=>by
  have lt:a<s1.heap.objs.size:=by
   rcases Nat.lt_or_ge a s1.heap.objs.size with h|h
   ·exact h
   ·rw[I1.hok.fresh h] at ha;cases ha
  rw[old a lt];exact ha
 refine⟨.ref D,_,Inv.BV (s:=s1) (h':=h') (t':=tk) (ch:=[]) I1 (fun a o _ q=>kk a o (cB _ q)) (fun _ m=>nomatch m) sm (fun a o q n=>by rw[old a (bT q)];exact n) (fun a u ha=>?_),rfl,q D (p.map fun i=>rows.getD i (0,[])) _ sm hnD dI ((aiv hp hrl).trans (by rw[r2])) fun r hr=>hin r ((agh hp).mem_iff.mp hr)⟩
 by_cases hz:a=D
 ·subst hz;rw[dI] at ha;cases ha;refine .inr ⟨?_,_,n,Xh _,by simpa[seqObj] using e⟩;rw[aX,aX,hp.length_eq,kE,iI];have:=congrArg o7 r2;rw[aX,aX] at this;omega
 ·rw[cG hz] at ha;rcases agD ha with h|⟨r,hr,rfl,rfl⟩
  ·exact .inl h
  ·obtain⟨its,v,t⟩:=tu r hr
   refine .inr ⟨?_,its,v,t⟩;have m:r.2∈bW.map fun p=>[p.1,p.2]:=by rw[←r2];exact dG.mpr ⟨r,hr,rfl⟩
   obtain⟨pp,_,e2⟩:=dG.mp m
   rw[←e2,iI];show 2≤_;omega
def DR:List (aj×aj)→Option (List (Key×Key))
 |[]=>some []
 |p::r=>(cJ p.1).bind fun k=>(cJ p.2).bind fun v=>(DR r).map fun t=>(k,v)::t
theorem YL:∀{kvs:List (aj×aj)}{bW:List (Key×Key)}{ks:List Key}{vs:List V},DR kvs=some bW→cD cJ kvs=some ks→gw E kvs vs→ks.zip vs=bW.map (fun p=>(p.1,kV p.2))∧kvs.map (fun p=>u5 [p.1,p.2])=bW.map (fun p=>.tuple [jM p.1,jM p.2])
 |[],bW,ks,vs,h,h1,_=>by cases h;cases h1;exact⟨rfl,rfl⟩
 |p::r,bW,ks,vs,h,h1,h2=>by
  obtain⟨k,e1,h⟩:=jZ.mp h
  obtain⟨v,e2,h⟩:=jZ.mp h
  obtain⟨t,e3,h⟩:=Fe.mp h
  subst h;unfold cD at h1;rw[e1] at h1;cases ha:cD cJ r with
  |none=>rw[ha] at h1;cases h1
  |some t1=>
   rw[ha] at h1;cases h1
   obtain⟨u,w,rfl,q,h2⟩:=h2
   obtain⟨a,b⟩:=YL e3 ha h2
   obtain⟨p1,p2⟩:=p
   have hv:u=kV v:=aap e2 q;have d1:p1=jM k:=by cases p1<;>first|(cases e1;rfl)|cases e1
   have d2:p2=jM v:=by cases p2<;>first|(cases e2;rfl)|cases e2
   refine⟨?_,?_⟩
   ·rw[Fw,cj,a,hv]
   ·rw[cj,cj,b,d1,d2]
def QK(kvs:List (aj×aj)):Option (List aj):=(DR kvs).bind fun bW=>bW.head?.bind fun p=>if bW.length<64∧∀q∈bW,bI q.1=bI p.1∧bI q.2=bI p.2 then some (Ju (kvs.map fun p=>.tuple [p.1,p.2])) else none
def Rn:aj→Option (List (aj×aj))
 |.dict kvs=>some kvs
 |_=>none
theorem ahz(h:Rn d=some kvs):d=.dict kvs:=by
 cases d<;>first|(cases h;rfl)|cases h
def PN(f:FB):FE:=fun env C=>(f env C).bind fun p=>(Rn p.1).bind fun kvs=>(QK kvs).map fun l=>(.ow (.list l),env,p.2.2)
theorem agF(hc:X.calm=true)(ho:PE X o (dm X.K f))(g1:Gl X "sorted")(m1:X.mg "sorted"=none)
  (he:aZ [.Call (.Attribute o "items" apos) [] [] cpos] X.env=(false,eval (.Call (.Attribute o "items" apos) [] [] cpos) X.env)::aZ [] X.env:=by rfl)(hpl:(fK pos1 (aZ [] X.env)).any (·.1)=false:=by rfl)
  (hbase:tK o "items" X.env (eval o X.env)=eval o X.env:=by rfl)(hline:(apos.endLine==cpos.line)=true:=by rfl):
  PE X (.Call (.Name "sorted" p1) [.Call (.Attribute o "items" apos) [] [] cpos] [] pos1) (tE X.K (PN f)):=(agE hc ho g1 m1 he hpl hbase hline).weak fun σ H Q aJ=>by
 obtain⟨Z,Θ,env,C,r,env',C',S,hf,q⟩:=aJ
 refine hide fun GG gg=>?_
 obtain⟨⟨d,e1,C1⟩,h1,hf⟩:=jZ.mp hf
 obtain⟨kvs,hd,hf⟩:=jZ.mp hf
 obtain⟨l,hl,hf⟩:=Fe.mp hf
 obtain⟨bW,hk,hl⟩:=jZ.mp hl
 obtain⟨p,hp,hl⟩:=jZ.mp hl
 split at hl
 case isFalse=>cases hl
 rename_i hall;cases hl;cases hf;cases ahz hd;have pos:0<bW.length:=by
  cases bW with
  |nil=>cases hp
  |cons _ _=>exact Gv _
 refine gg ⟨Z,Θ,env,C,.dict kvs,e1,C1,S,h1,fun v H1 k f S1 b1=>?_⟩;refine hide fun G2 g2=>?_
 obtain⟨a,vs,rfl,da,rr⟩:=b1.dct
 rcases da with⟨ks,a1,a2⟩|⟨ks,⟨ne,a1⟩,a2⟩
 ·obtain⟨e2,e3⟩:=YL hk a1 rr
  rw[e2] at a2;refine g2 ⟨a,bW,bI p.1,bI p.2,rfl,a2,hall.1,pos,hall.2,fun l rows H2 sm hn hl hr hin=>?_⟩;have kp:aO Θ H H2:=k.trans (aO.of sm);have SD:=S.xT (k.none hn) kp ⟨_,hl,fun _ z=>nomatch z⟩ ⟨S1.cell.len,fun n b ns e2 e3=>sm _ _ (S1.cell.at_ n b ns e2 e3)⟩;have es:(rows.map fun r=>u5 (r.2.map jM))=Ju (kvs.map fun p=>.tuple [p.1,p.2]):=by
   unfold Ju;rw[e3,dX];have:(bW.map (zY ∘ fun p=>u5 [jM p.1,jM p.2]))=bW.map fun p=>[p.1,p.2]:=by
    refine yG fun q _=>?_
    show(keysOf ([q.1,q.2].map jM)).getD []=[q.1,q.2]
    rw[Oj];rfl
   rw[this,←hr,dX];rfl
  refine q _ H2 kp (Fz.refl _) ⟨l,rfl,k.none hn,SD,_,hl,?_⟩;rw[←es];exact Ol fun r m=>CJ SD (hin r m)
 ·exfalso;cases kvs with
  |nil=>exact ne rfl
  |cons q r=>
   obtain⟨k',e1,_⟩:=jZ.mp hk
   unfold cD at a1;split at a1
   ·rename_i g1 _;exact aaq e1 g1
   ·cases a1
def Dq(ks:List (List Key)):Nat:=kY (fun i j=>di (ks.getD i (ks.headD [])) (ks.getD j (ks.headD []))) (ks.length-1)
theorem afH(rows:List Row):kY (kZ rows) (rows.length-1)=Dq (rows.map (·.2)):=by
 have e:kZ rows=fun i j=>di ((rows.map (·.2)).getD i ((rows.map (·.2)).headD [])) ((rows.map (·.2)).getD j ((rows.map (·.2)).headD [])):=by
  funext i j;rw[kZ,Hw,Hw]
 unfold Dq;rw[e,aX]
def QL(ds:List aj):Option Vl:=ds.head?.bind fun d0=>(Jt d0).bind fun sh=>if ∀d∈ds,Jt d=some sh then(ds[Dq (ds.map zY)]?).map .im else none
def Jb:List aj→Option Vl
 |[.list ds]=>QL ds
 |_=>none
theorem ai6{K:aC}:nG K (fun xs H Q=>∃(p:aa)(rows:List Row)(sh:List Bool),xs=[.ref p]∧bC K H p (rows.map fun r=>V.ref r.1)∧0<rows.length∧(∀r∈rows,H r.1=some (.tup (r.2.map kV))∧r.2.map bI=sh)∧
  ∀r,rows[kY (kZ rows) (rows.length-1)]?=some r→Q (.ref r.1) H) Jb:=by
 intro Z Θ env C σ H xs ds res S b e Q q;refine hide fun GG gg=>?_
 unfold Jb at e;split at e
 case h_2=>cases e
 rename_i ds
 obtain⟨d0,h0,e⟩:=jZ.mp e
 obtain⟨sh,_,e⟩:=jZ.mp e
 split at e
 case isFalse=>cases e
 rename_i hall
 obtain⟨d,hd,rfl⟩:=Fe.mp e
 obtain⟨v,rfl,bb⟩:=oF b
 obtain⟨a,vs,rfl,ha,r⟩:=bb.lst
 obtain⟨rows,rfl,e2,e3⟩:=Yw hall r
 have ek:ds.map zY=rows.map (·.2):=by
  rw[e2,dX];refine yG fun r _=>?_
  show(keysOf (r.2.map jM)).getD []=r.2
  rw[Oj];rfl
 rw[ek,←afH] at hd;refine gg ⟨a,rows,sh,rfl,bC.of ha,?_,fun r m=>⟨gM (e3 r m).1,(e3 r m).2⟩,fun r hr=>?_⟩
 ·cases rows with
  |nil=>rw[e2] at h0;cases h0
  |cons _ _=>exact Gv _
 ·have m:=lV hr;have hd':d=.tuple (r.2.map jM):=by
   rw[e2,fY,hr] at hd
   exact(fP hd).symm
  obtain⟨u,t,e4,q4,_⟩:=Ol (E:=er (aQ Z Θ env σ) H) (rows:=[r]) fun x hx=>by rw[jm.mp hx];exact(e3 r m).1
  cases e4;refine q _ H (aO.refl _ _) ⟨S,?_⟩;rw[hd'];exact q4
def RW:aj→Bool
 |.list _=>true
 |.tuple _=>true
 |_=>false
theorem Xz(hg:X.A.guards=some [])(hu:X.A.units+64<dR):gQ X (.type "str") (fun xs H Q=>∃v d,xs=[v]∧RW d=true∧RD X.K H d v∧d.showable=true∧d.depth≤60∧d.shown.length≤bJ∧Q (.str d.shown) H):=by
 intro pins s σ H xs us Q I r h
 obtain⟨v,d,rfl,hq,hd,hs,an2,hz,q⟩:=h
 obtain⟨u,rfl,ru⟩:=vals1 r
 obtain⟨as,R⟩:=hd.reads I ru
 have ha:∃a,v=.ref a:=by
  cases d<;>first|cases hq|skip
  all_goals
   obtain⟨a,vs,e1,_,_⟩:=hd
   exact⟨a,e1⟩
 obtain⟨a,rfl⟩:=ha
 cases ru;exact str_of_reads R hs (PyData.noDict_hsm hd.nodict) hg (by omega) (fun _ _ e=>e) (fun h' u tk hk=>⟨.str _,H,I.kept hk,⟨_,rfl⟩,q⟩) hz
def Jc(ds:List aj):Option Vl:=ds.head?.bind fun d=>if RW d then aaw ds else none
theorem ZS{K:aC}:nG K (fun xs H Q=>∃v d,xs=[v]∧RW d=true∧RD K H d v∧d.showable=true∧d.depth≤60∧d.shown.length≤bJ∧Q (.str d.shown) H) Jc:=by
 intro Z Θ env C σ H xs ds res S b e Q q
 obtain⟨d,hd,e⟩:=jZ.mp e
 split at e
 case isFalse=>cases e
 rename_i hq;unfold aaw at e;split at e
 case h_2=>cases e
 rename_i d';cases hd;split at e
 case isFalse=>cases e
 rename_i h;cases e;rw[gH,gH,gH,decide_eq_true_iff,decide_eq_true_iff] at h
 obtain⟨v,rfl,bb⟩:=oF b
 exact⟨v,d,rfl,hq,(bb.rx h.1.1.1).rd,h.1.1.2,h.1.2,qi h.2,q _ H (aO.refl _ _) (gA S rfl rfl)⟩
def Bl(L:Nat)(C:Ce)(b k:Nat):Prop:=C.length=L∧∃x y z:Int,C[b]?=some [x,y,z]∧0≤x∧0≤z∧z+k≤900000
theorem Bl.mono(h:Bl L C b k)(hj:j≤k):Bl L C b j:=by
 obtain⟨l,x,y,z,h1,h2,h5,h6⟩:=h
 exact⟨l,x,y,z,h1,h2,h5,by omega⟩
theorem Bl.dec(h:Bl L C b (k+1)):Bl L C b k:=h.mono (Bm k)
theorem Bl.eq(h:Bl L C b k)(h':Bl L C' b' k'):C'.length=C.length:=h'.1.trans h.1.symm
theorem akv(C:Ce)(h0:0≤x):Bl (C.length+1) (C++[[x,y,0]]) C.length 800000:=by
 refine⟨by simp,x,y,0,?_,h0,zb _,by omega⟩
 rw[nJ (bD _),V7];rfl
theorem Ot{n s u f i j:Int}(hu:s*u%n=1)(n0:0<n)(hi:0≤i)(hj:0≤j)(hi':i<n)(hj':j<n)(e:(f+s*i)%n=(f+s*j)%n):i=j:=by
 have h1:(f+s*i-(f+s*j))%n=0:=acw.mp e
 obtain⟨d,hd⟩:=Int.dvd_of_emod_eq_zero h1
 have hq:s*u=n*(s*u / n)+1:=by
  have:=Int.mul_ediv_add_emod (s*u) n;rw[hu] at this;exact this.symm
 generalize s*u / n=q at hq;have key:i-j=n*(u*d-q*(i-j)):=by grind
 have h2:(i-j)%n=0:=Int.emod_eq_zero_of_dvd ⟨_,key⟩;have h3:i%n=j%n:=acw.mpr h2;rw[Km hi hi',Km hj hj'] at h3;exact h3
def Dr(s:Int):Prop:=(0<s∧s≤675)∧(∃u,s*u%676=1)∧∃u,s*u%26=1
theorem step_at(h0:0≤k)(h1:k<6):∃s,eN [pB 1,.int 3,.int 5,.int 7,.int 25,.int 675] k=some (.int s)∧Dr s:=by
 have hk:k=0∨k=1∨k=2∨k=3∨k=4∨k=5:=by omega
 rcases hk with rfl|rfl|rfl|rfl|rfl|rfl
 ·exact⟨1,rfl,by decide,⟨1,by decide⟩,⟨1,by decide⟩⟩
 ·exact⟨3,rfl,by decide,⟨451,by decide⟩,⟨9,by decide⟩⟩
 ·exact⟨5,rfl,by decide,⟨541,by decide⟩,⟨21,by decide⟩⟩
 ·exact⟨7,rfl,by decide,⟨483,by decide⟩,⟨15,by decide⟩⟩
 ·exact⟨25,rfl,by decide,⟨649,by decide⟩,⟨25,by decide⟩⟩
 ·exact⟨675,rfl,by decide,⟨675,by decide⟩,⟨25,by decide⟩⟩
theorem PX(e:z.cps.toList=l)(h1:1≤l.length)(h2:l.length≤8)(h3:∀c∈l,97≤c∧c≤122):nameB z=true:=by
 have e2:z.length=l.length:=by rw[←e];show z.cps.size=_;simp
 unfold nameB JS;rw[e,e2];simp only[gH,decide_eq_true_eq,nO]
 exact⟨⟨h1,h2⟩,h3⟩
theorem KC(h:∀i j,i<n→j<n→f i=f j→i=j):((dz n).map f).Nodup:=by
 rw[TV,List.pairwise_map];refine anS (R:=(·<·)) (fun{a b} ha hb hab e=>?_) J8;have:=h a b (oY.mp ha) (oY.mp hb) e;omega
def n1(f s:Int)(k:Nat):Str:=⟨#[97+((f+s*k)%26).toNat]⟩
theorem ahA{f s:Int}{n:Nat}(hs:Dr s)(hn:n≤26):Names ((dz n).map (n1 f s)):=by
 refine⟨KC fun i j hi hj e=>?_,fun z hz=>?_⟩
 ·obtain⟨_,_,u,hu⟩:=hs
  have e1:97+((f+s*i)%26).toNat=97+((f+s*j)%26).toNat:=by
   have:=congrArg (fun z:Str=>z.cps.toList) e;simpa[n1] using this
  have a1:0≤(f+s*i)%26:=lY _ (by decide);have a2:0≤(f+s*j)%26:=lY _ (by decide);have:=Ot (n:=26) (f:=f) (i:=i) (j:=j) hu (by decide) (by omega) (by omega) (by omega) (by omega) (by omega);omega
 ·obtain⟨k,_,rfl⟩:=dG.mp hz
  have a1:0≤(f+s*k)%26:=lY _ (by decide);have a2:(f+s*k)%26<26:=rC _ (by decide);refine PX (l:=[97+((f+s*k)%26).toNat]) rfl (bD _) (by show 1≤8;decide) fun c hc=>?_
  rw[jm.mp hc];omega
def v2(f s:Int)(k:Nat):Int:=(f+s*k)%676
def two(v:Int):Str:=(⟨#[97+(v / 26).toNat]⟩:Str)++(⟨#[97+(v%26).toNat]⟩:Str)
def n2(hd tl:Str)(f s:Int)(q:Nat→Int)(k:Nat):Str:=hd++two (v2 f s k)++Txt.slice tl none (some (q k))
theorem YM(hd tl:Str)(f s:Int)(q:Nat→Int)(k:Nat):(n2 hd tl f s q k).cps.toList=hd.cps.toList++([97+(v2 f s k / 26).toNat,97+(v2 f s k%26).toNat]++(Txt.slice tl none (some (q k))).cps.toList):=by
 show((hd.cps++(#[97+(v2 f s k / 26).toNat]++#[97+(v2 f s k%26).toNat]))++(Txt.slice tl none (some (q k))).cps).toList=_
 simp
theorem ahB{hd tl:Str}{f s:Int}{q:Nat→Int}{n:Nat}(hs:Dr s)(hn:n≤36)(hh:hd.length≤3)(ht:tl.length≤3)(ch:∀c∈hd.cps.toList,97≤c∧c≤122)(ct:∀c∈tl.cps.toList,97≤c∧c≤122):Names ((dz n).map (n2 hd tl f s q)):=by
 have b:∀k:Nat,0≤v2 f s k∧v2 f s k<676:=fun k=>⟨lY _ (by decide),rC _ (by decide)⟩
 refine⟨KC fun i j hi hj e=>?_,fun z hz=>?_⟩
 ·obtain⟨_,⟨u,hu⟩,_⟩:=hs
  have e1:=congrArg (fun z:Str=>z.cps.toList) e;simp only[YM] at e1;have e2:=List.append_cancel_left e1;rw[jO,jO,jc,jO,jO,jc] at e2;injection e2 with e3 e4
  injection e4 with e5 _
  have b1:=b i;have b2:=b j;have ev:v2 f s i=v2 f s j:=by omega
  have:=Ot (n:=676) (f:=f) (i:=i) (j:=j) hu (by decide) (by omega) (by omega) (by omega) (by omega) ev;omega
 ·obtain⟨k,_,rfl⟩:=dG.mp hz
  have bk:=b k;have l1:hd.cps.toList.length=hd.length:=by show _=hd.cps.size;simp
  have l2:(Txt.slice tl none (some (q k))).cps.toList.length=(Txt.slice tl none (some (q k))).length:=by show _=(Txt.slice tl none (some (q k))).cps.size;simp
  have l3:=PyProof.Txt.length_slice_le tl none (some (q k));refine PX (YM hd tl f s q k) (by rw[fO,fO];show 1≤_+(2+_);omega) (by rw[fO,fO,l1,l2];show _+(2+_)≤8;omega) fun c hc=>?_
  rcases cI.mp hc with hc|hc
  ·exact ch c hc
  ·rcases cI.mp hc with hc|hc
   ·simp only[bL,jb,or_false] at hc;rcases hc with rfl|rfl<;>omega
   ·exact ct c (aiV hc)
def lq(f:Int):List Nat:=(dz 8).map fun(k:Nat)=>97+((f+5*(k:Int))%26).toNat
def sl(z:Str)(n k:Nat):Str:=Txt.slice z (some (k:Int)) (some ((k:Int)+(n:Int)))
def sb(z:Str)(n:Nat):List Str:=(dz (8-n)).map (sl z (n+1))
def subs(z:Str)(m:Nat):List Str:=(dz m).flatMap (sb z)
theorem Ou(hz:z.length=8)(h:k+n≤8):(sl z n k).cps.toList=(z.cps.toList.drop k).take n:=by
 have:=eq_of_beq (slice_closesL (x:=z) (i:=(k:Int)) (j:=(k:Int)+(n:Int)) (by omega) (by omega) (by omega));unfold sl;rw[this]
 show((z.cps.toList.drop (k:Int).toNat).take ((k:Int)+(n:Int)-(k:Int)).toNat)=_
 rw[show((k:Int)+(n:Int)-(k:Int)).toNat=n by omega,Al]
theorem ZV{f:Int}{k:Nat}(h:k<8):(lq f)[k]?=some (97+((f+5*(k:Int))%26).toNat):=by
 unfold lq;rw[fY,Ul h];rfl
theorem ai7(f:Int):∀c∈lq f,97≤c∧c≤122:=fun c hc=>by
 obtain⟨k,_,rfl⟩:=dG.mp hc
 have a1:0≤(f+5*(k:Int))%26:=lY _ (by decide);have a2:(f+5*(k:Int))%26<26:=rC _ (by decide);omega
theorem QM(hz:z.cps.toList=lq f)(hx:x∈sb z n):∃k,k<8-n∧x=sl z (n+1) k∧x.cps.toList=((lq f).drop k).take (n+1)∧x.cps.toList.length=n+1:=by
 obtain⟨k,hk,rfl⟩:=dG.mp hx
 have hk:=oY.mp hk;have hl:z.length=8:=by
  have:=congrArg o7 hz;rw[show z.cps.toList.length=z.length by show _=z.cps.size;simp] at this;rw[this];simp[lq]
 have e:=Ou (z:=z) (n:=n+1) (k:=k) hl (by omega);rw[hz] at e
 refine⟨k,hk,rfl,e,?_⟩
 rw[e,m7,Aq,show(lq f).length=8 by simp[lq]];omega
theorem afI{z:Str}{f:Int}(hz:z.cps.toList=lq f):Names (subs z 8):=by
 refine⟨?_,fun x hx=>?_⟩
 ·unfold subs;rw[TV,List.pairwise_flatMap]
  refine⟨fun n hn=>?_,?_⟩
  ·have hn:=oY.mp hn;rw[←TV];refine KC fun i j hi hj e=>?_
   have hl:z.length=8:=by
    have:=congrArg o7 hz;rw[show z.cps.toList.length=z.length by show _=z.cps.size;simp] at this;rw[this];simp[lq]
   have e1:=congrArg (fun z:Str=>z.cps.toList[0]?) e;simp only[Ou (z:=z) (n:=n+1) (k:=i) hl (by omega),Ou (z:=z) (n:=n+1) (k:=j) hl (by omega),hz] at e1;rw[T4 (Gv n),T4 (Gv n),ado,ado,V8,V8,ZV (by omega),ZV (by omega)] at e1;have e2:=fP e1;have a1:0≤(f+5*(i:Int))%26:=lY _ (by decide);have a2:0≤(f+5*(j:Int))%26:=lY _ (by decide);have:=Ot (n:=26) (s:=5) (u:=21) (f:=f) (i:=i) (j:=j) (by decide) (by decide) (by omega) (by omega) (by omega) (by omega) (by omega);omega
  ·refine anZ (R:=(·<·)) (fun{a b} hab x hx y hy e=>?_) J8
   obtain⟨_,_,_,_,l1⟩:=QM hz hx
   obtain⟨_,_,_,_,l2⟩:=QM hz hy
   rw[e] at l1;omega
 ·obtain⟨n,hn,hx⟩:=List.mem_flatMap.mp hx
  have hn:=oY.mp hn
  obtain⟨k,hk,_,e,hl⟩:=QM hz hx
  refine PX rfl (by omega) (by omega) fun c hc=>?_
  rw[e] at hc;exact ai7 f c (Fj (uO hc))
theorem YQ(z:Str):(subs z 8).length=36:=by
 unfold subs sb;simp only[ade,aX,kE];rfl
end L2
namespace L2
section
variable{β:Type}[DecidableEq β]{ws:List (Int×β×β)}{s:β}
inductive gZ(ws:List (Int×β×β)):β→List Int→β→Prop
 |nil (p:β):gZ ws p [] p
 |cons {n:Int} {p q s:β} {r:List Int}:(n,p,q)∈ws→gZ ws q r s→gZ ws p (n::r) s
def eX(st:List (β×Int))(p:β):Option Int:=(st.find? fun x=>decide (x.1=p)).map (·.2)
theorem pD{st:List (β×Int)}{p:β}:eX st p=none↔p∉st.map (·.1):=by
 unfold eX;rw[acX,Us];simp only[dG,not_exists,not_and,decide_eq_true_eq]
theorem Ij(st:List (β×Int))(new:List β)(k:Int)(p:β):eX (st++new.map fun g=>(g,k)) p=if p∈st.map (·.1) then eX st p else if p∈new then some k else none:=by
 unfold eX;rw[List.find?_append];by_cases h:p∈st.map (·.1)
 ·rw[if_pos h]
  obtain⟨x,hx,rfl⟩:=dG.mp h
  cases e:st.find? fun y=>decide (y.1=x.1) with
  |none=>exact absurd (decide_eq_true rfl) (Us.mp e x hx)
  |some y=>rfl
 ·rw[if_neg h,(acX.mp (pD.mpr h):st.find? _=none),Option.none_or];induction new with
  |nil=>rfl
  |cons g new ih=>
   rw[cj,nP];by_cases e:g=p
   ·subst e;rw[decide_eq_true rfl,if_pos fj];rfl
   ·rw[decide_eq_false e,ih];have:p∈g::new↔p∈new:=by rw[bL];exact⟨fun z=>z.resolve_left fun z=>e z.symm,.inr⟩
    simp only[this]
structure q9(ws:List (Int×β×β))(s:β)(st:List (β×Int))(new:List β)(k:Nat):Prop where
 sound:∀p d,eX st p=some d→d≤k∧∃r,gZ ws p r s∧(r.length:Int)=d
 whole:∀p r,gZ ws p r s→r.length≤k→∃d,eX st p=some d∧d≤r.length
 last:∀p,p∈new↔eX st p=some (k:Int)
 nd:(st.map (·.1)).Nodup
 sub:∀p∈st.map (·.1),p=s∨p∈ws.map (·.2.1)
 low:∀p d,eX st p=some d→d+1≤st.length
theorem q9.init(ws:List (Int×β×β))(s:β):q9 ws s [(s,0)] [s] 0 where
 sound p d h:=by
  unfold eX at h;rw[nP] at h;by_cases e:s=p
  ·subst e;rw[decide_eq_true rfl] at h;cases h
   exact⟨zb _,[],.nil _,rfl⟩
  ·rw[decide_eq_false e] at h;cases h
 whole p r h l:=by
  cases h with
  |nil=>exact⟨0,by unfold eX;rw[nP,decide_eq_true rfl];rfl,zb _⟩
  |cons _ _=>exact absurd l (ac8 _)
 last p:=by
  unfold eX;rw[nP,jm];by_cases e:s=p
  ·subst e;rw[decide_eq_true rfl]
   exact⟨fun _=>rfl,fun _=>rfl⟩
  ·rw[decide_eq_false e]
   exact⟨fun z=>absurd z.symm e,fun z=>nomatch z⟩
 nd:=by simp
 sub p hp:=.inl (jm.mp hp)
 low p d h:=by
  unfold eX at h;rw[nP] at h;by_cases e:s=p
  ·rw[decide_eq_true e] at h;cases h;exact zb _
  ·rw[decide_eq_false e] at h;cases h
theorem q9.step{st:List (β×Int)}{new new':List β}{k:Nat}(B:q9 ws s st new k)(hn:new'.Nodup)(hm:∀g,g∈new'↔∃w∈ws,w.2.2∈new∧w.2.1∉st.map (·.1)∧w.2.1=g):q9 ws s (st++new'.map fun g=>(g,(k:Int)+1)) new' (k+1) where
 sound p d h:=by
  rw[Ij] at h;split at h
  ·obtain⟨h1,h2⟩:=B.sound p d h
   exact⟨by omega,h2⟩
  ·split at h
   ·rename_i m;cases h
    refine⟨by omega,?_⟩
    obtain⟨w,m1,m2,m3,rfl⟩:=(hm p).mp m
    obtain⟨_,r,h3,h4⟩:=B.sound _ _ ((B.last _).mp m2)
    exact⟨w.1::r,.cons (p:=w.2.1) (q:=w.2.2) m1 h3,by rw[cN];omega⟩
   ·cases h
 whole p r h l:=by
  rw[Ij];by_cases hp:p∈st.map (·.1)
  ·rw[if_pos hp];cases e:eX st p with
   |none=>exact absurd hp (pD.mp e)
   |some d=>
    refine⟨d,rfl,?_⟩
    by_cases l':r.length≤k
    ·obtain⟨d',e',h'⟩:=B.whole p r h l'
     rw[e] at e';cases e';exact h'
    ·have:=(B.sound p d e).1;omega
  ·rw[if_neg hp];cases h with
   |nil=>
    obtain⟨d,e,_⟩:=B.whole s [] (.nil s) (lJ _)
    rw[pD.mpr hp] at e;cases e
   |cons hw hr=>
    rename_i n q r;rw[cN] at l⊢
    obtain⟨d,e,hd⟩:=B.whole q r hr (by omega)
    obtain⟨hk,r2,hr2,l2⟩:=B.sound q d e
    by_cases hdk:d=k
    ·subst hdk;have m:p∈new':=(hm p).mpr ⟨_,hw,(B.last q).mpr e,hp,rfl⟩;rw[if_pos m]
     exact⟨_,rfl,by omega⟩
    ·obtain⟨d',e',_⟩:=B.whole p (n::r2) (.cons hw hr2) (by rw[cN];omega)
     rw[pD.mpr hp] at e';cases e'
 last p:=by
  rw[Ij];constructor
  ·intro m
   obtain⟨w,m1,m2,m3,rfl⟩:=(hm p).mp m
   rw[if_neg m3,if_pos m];rfl
  ·intro e;split at e
   ·have:=(B.sound p _ e).1;omega
   ·split at e
    ·rename_i m;exact m
    ·cases e
 nd:=by
  rw[gJ,dX,show((fun x:β×Int=>x.1) ∘ fun g=>(g,(k:Int)+1))=id from rfl,LQ];refine j4.mpr ⟨B.nd,hn,fun a ha b hb e=>?_⟩;subst e
  obtain⟨w,_,_,m3,rfl⟩:=(hm a).mp hb
  exact m3 ha
 sub p hp:=by
  rw[gJ,dX,show((fun x:β×Int=>x.1) ∘ fun g=>(g,(k:Int)+1))=id from rfl,LQ] at hp;rcases cI.mp hp with hp|hp
  ·exact B.sub p hp
  ·obtain⟨w,m1,_,_,rfl⟩:=(hm p).mp hp
   exact .inr (dG.mpr ⟨w,m1,rfl⟩)
 low p d h:=by
  rw[Ij] at h;rw[fO,aX];split at h
  ·have:=B.low p d h;omega
  ·split at h
   ·rename_i m;cases h
    obtain⟨w,m1,m2,m3,rfl⟩:=(hm p).mp m
    have:=B.low _ _ ((B.last _).mp m2);have:=acY m;omega
   ·cases h
theorem len_sub:∀{l m:List β},l.Nodup→(∀x∈l,x∈m)→l.length≤m.length
 |[],_,_,_=>lJ _
 |a::l,m,hn,h=>by
  have ha:=h a fj;have:=len_sub (m:=m.erase a) (jC.mp hn).2 fun x hx=>(List.mem_erase_of_ne (show x≠a from fun z=>(jC.mp hn).1 (z▸hx))).mpr (h x (eZ _ hx))
  rw[List.length_erase_of_mem ha] at this;have:=acY ha;rw[cN];omega
theorem q9.few{st:List (β×Int)}{new:List β}{k:Nat}(B:q9 ws s st new k):st.length≤ws.length+1:=by
 have h:(st.map (·.1)).length≤(s::ws.map (·.2.1)).length:=by
  refine len_sub B.nd fun p hp=>?_
  rcases B.sub p hp with rfl|h
  ·exact fj
  ·exact eZ _ h
 simpa using h
structure rm(ws:List (Int×β×β))(s:β)(st:List (β×Int)):Prop where
 sound:∀p d,eX st p=some d→∃r,gZ ws p r s∧(r.length:Int)=d
 whole:∀p r,gZ ws p r s→∃d,eX st p=some d∧d≤r.length
 few:∀p d,eX st p=some d→d≤ws.length
 nd:(st.map (·.1)).Nodup
theorem q9.done{st:List (β×Int)}{k:Nat}(B:q9 ws s st [] k):rm ws s st where
 sound p d h:=(B.sound p d h).2
 nd:=B.nd
 few p d h:=by
  have:=B.low p d h;have:=B.few;omega
 whole p r h:=by
  induction h with
  |nil p=>exact B.whole p [] (.nil p) (lJ _)
  |cons hw hr ih=>
   rename_i n p q s' r
   obtain⟨d,e,hd⟩:=ih B
   obtain⟨hk,r2,hr2,l2⟩:=B.sound q d e
   have:d≠k:=fun z=>by
    subst z;exact nomatch(B.last q).mpr e
   obtain⟨d',e',h'⟩:=B.whole p (n::r2) (.cons hw hr2) (by rw[cN];omega)
   refine⟨d',e',?_⟩
   rw[cN] at h'⊢;omega
theorem rm.self{st:List (β×Int)}(B:rm ws s st):eX st s=some 0:=by
 obtain⟨d,e,h⟩:=B.whole s [] (.nil s)
 obtain⟨r,_,l⟩:=B.sound s d e
 rw[e];simp only[Aw] at h;congr 1;omega
theorem rm.iff{st:List (β×Int)}(B:rm ws s st)(p:β):p∈st.map (·.1)↔∃r,gZ ws p r s:=by
 constructor
 ·intro h;cases e:eX st p with
  |none=>exact absurd h (pD.mp e)
  |some d=>
   obtain⟨r,h,_⟩:=B.sound p d e
   exact⟨r,h⟩
 ·rintro⟨r,h⟩
  obtain⟨d,e,_⟩:=B.whole p r h
  apply acI;intro n;rw[pD.mpr n] at e;cases e
def Rch(ws:List (Int×β×β))(a b:β):Prop:=∃r,gZ ws a r b
theorem gZ.snoc{a b c:β}{n:Int}{r:List Int}(h:gZ ws a r b)(hw:(n,b,c)∈ws):gZ ws a (r++[n]) c:=by
 induction h with
 |nil p=>exact .cons hw (.nil _)
 |cons h1 _ ih=>exact .cons h1 (ih hw)
def Ds(w:Int×β×β):Int×β×β:=(w.1,w.2.2,w.2.1)
theorem Ov{n:Int}{a b:β}:(n,a,b)∈ws.map Ds↔(n,b,a)∈ws:=by
 rw[dG];constructor
 ·rintro⟨w,h,e⟩
  injection e with e1 e2
  injection e2 with e2 e3
  subst e1 e2 e3;exact h
 ·exact fun h=>⟨_,h,rfl⟩
theorem gZ.turn{a b:β}{r:List Int}(h:gZ (ws.map Ds) a r b):gZ ws b r.reverse a:=by
 induction h with
 |nil p=>exact .nil p
 |cons h1 _ ih=>
  rw[Kh];exact ih.snoc (Ov.mp h1)
theorem gZ.aaG{a b:β}{r:List Int}(h:gZ ws a r b):gZ (ws.map Ds) b r.reverse a:=by
 induction h with
 |nil p=>exact .nil p
 |cons h1 _ ih=>
  rw[Kh];exact ih.snoc (Ov.mpr h1)
theorem rm.ahC{st:List (β×Int)}(B:rm (ws.map Ds) s st){p:β}(h:Rch ws s p):∃r,gZ ws s r p∧r.length≤ws.length:=by
 obtain⟨r,h⟩:=h
 obtain⟨d,e,_⟩:=B.whole p _ h.aaG
 obtain⟨r',h',l⟩:=B.sound p d e
 have:=B.few p d e;rw[aX] at this
 exact⟨_,h'.turn,by rw[List.length_reverse];omega⟩
def lexLe:List Int→List Int→Prop
 |[],_=>True
 |_::_,[]=>False
 |a::r,b::q=>a<b∨(a=b∧lexLe r q)
theorem W0:∀{r q:List Int},r.length=q.length→lexLe r q→lexLe q r→r=q
 |[],[],_,_,_=>rfl
 |a::r,b::q,l,h,h'=>by
  have e:a=b:=by rcases h with h|h<;>rcases h' with h'|h'<;>omega
  subst e;rw[W0 (Gw l) (h.resolve_left (by omega)).2 (h'.resolve_left (by omega)).2]
def nA(ws:List (Int×β×β))(p s:β)(r:List Int):Prop:=gZ ws p r s∧∀r',gZ ws p r' s→r.length<r'.length∨(r.length=r'.length∧lexLe r r')
theorem nA.unique{p:β}{r r':List Int}(h:nA ws p s r)(h':nA ws p s r'):r=r':=by
 rcases h.2 r' h'.1 with l|⟨l,a⟩
 ·rcases h'.2 r h.1 with l'|⟨l',_⟩<;>omega
 ·rcases h'.2 r h.1 with l'|⟨_,b⟩
  ·omega
  ·exact W0 l a b
theorem nA.self(ws:List (Int×β×β))(s:β):nA ws s s []:=⟨.nil s,fun r' _=>by
 cases r' with
 |nil=>exact .inr ⟨rfl,trivial⟩
 |cons _ _=>exact .inl (Gv _)⟩
theorem nA.go{p q:β}{n d:Int}{r:List Int}{st:List (β×Int)}(hU:∀w∈ws,∀w'∈ws,w.1=w'.1→w=w')(B:rm ws s st)(hp:eX st p=some d)(hw:(n,p,q)∈ws)(hq:∃e,eX st q=some e∧e<d)(hmin:∀n' q' e,(n',p,q')∈ws→eX st q'=some e→e<d→n≤n')(hr:nA ws q s r):nA ws p s (n::r):=by
 obtain⟨e,hq,hlt⟩:=hq
 obtain⟨r1,hr1,l1⟩:=B.sound q e hq
 have hle:r.length≤r1.length:=by rcases hr.2 r1 hr1 with h|h<;>omega
 refine⟨.cons hw hr.1,fun r' h'=>?_⟩
 obtain⟨d',e',hd'⟩:=B.whole p r' h'
 rw[hp] at e';cases e';rw[cN];cases h' with
 |nil=>
  simp only[Aw] at hd';omega
 |cons hw' hr'=>
  rename_i n' q' r';rw[cN] at hd'⊢
  obtain⟨e2,h2,l2⟩:=B.whole q' r' hr'
  by_cases hl:r.length<r'.length
  ·exact .inl (by omega)
  ·refine .inr ⟨by omega,?_⟩;have hn:=hmin n' q' e2 hw' h2 (by omega);by_cases hnn:n<n'
   ·exact .inl hnn
   ·have:n=n':=by omega
    subst this;have:=hU _ hw _ hw' rfl;cases this;refine .inr ⟨rfl,?_⟩;rcases hr.2 r' hr' with h|h
    ·omega
    ·exact h.2
end
end L2
namespace L2
open PySem PySem.Spec PyProof.Rows PySem.W
def yp:Option (Option Vl)→Option (List aj)
 |some (some (.ow (.list ds)))=>some ds
 |_=>none
theorem Ik(h:yp x=some ds):x=some (some (.ow (.list ds))):=by
 unfold yp at h;split at h
 ·cases h;rfl
 ·cases h
def Ro(i j:Nat)(f:FB):FS:=fun env C=>(yp env[i]?).bind fun _=>(yp env[j]?).bind fun _=>(f env C).bind fun p=>(yp p.2.1[i]?).bind fun ds=>(yp p.2.1[j]?).bind fun es=>(intD p.1).bind fun k=>(if 0≤k∧k<LIM then es[k.toNat]? else none).bind fun y=>if ds.length<LIM∧i≠j then some (.nx,(p.2.1.set j (some (.ow (.list (es.eraseIdx k.toNat))))).set i (some (.ow (.list (ds++[y])))),p.2.2) else none
theorem XC:∀{ds:List aj}{vs:List V}(n:Nat),bV H ds vs→bV H (ds.eraseIdx n) (vs.eraseIdx n)
 |[],vs,n,r=>by
  have:vs=[]:=r;subst this;exact r
 |x::ds,vs,0,r=>by
  obtain⟨v,r',rfl,_,w⟩:=r
  exact w
 |x::ds,vs,n+1,r=>by
  obtain⟨v,r',rfl,q,w⟩:=r
  exact⟨v,_,rfl,q,XC n w⟩
theorem ai8(ho:PE X o (oK i))(ho2:PE X o2 (oK j))(he:PE X e (dm X.K f))
  (hs0:u9 (.Call (.Attribute o "append" apos) [.Call (.Attribute o2 "pop" z7) [e] [] um] [] cpos) none pos.line X.env=pure false:=by rfl)
  (hbase:tK o "append" X.env (eval o X.env)=eval o X.env:=by rfl)
  (hfew:((fK cpos (aZ [.Call (.Attribute o2 "pop" z7) [e] [] um] X.env)).all (fun x=>!x.1)&&(xj cpos (wX [] X.env)).all (fun x=>x.1.isSome)
   &&decide (([.Call (.Attribute o2 "pop" z7) [e] [] um]:List Expr).length+([]:List lM).length+(if([]:List lM).isEmpty then 0 else 1)<30))=true:=by rfl)
  (hline:(apos.endLine==cpos.line)=true:=by rfl)(hs:aZ [.Call (.Attribute o2 "pop" z7) [e] [] um] X.env=(false,eval (.Call (.Attribute o2 "pop" z7) [e] [] um) X.env)::aZ [] X.env:=by rfl)(hplain:(fK cpos (aZ [] X.env)).any (·.1)=false:=by rfl)
  (akx:tK o2 "pop" X.env (eval o2 X.env)=eval o2 X.env:=by rfl)
  (alj:((fK um (aZ [e] X.env)).all (fun x=>!x.1)&&(xj um (wX [] X.env)).all (fun x=>x.1.isSome)
   &&decide (([e]:List Expr).length+([]:List lM).length+(if([]:List lM).isEmpty then 0 else 1)<30))=true:=by rfl)
  (aky:(z7.endLine==um.line)=true:=by rfl)(hs2:aZ [e] X.env=(false,eval e X.env)::aZ [] X.env:=by rfl)(ai9:(fK um (aZ [] X.env)).any (·.1)=false:=by rfl):
  PS X (.Expr (.Call (.Attribute o "append" apos) [.Call (.Attribute o2 "pop" z7) [e] [] um] [] cpos) pos) (tS X.K (Ro i j f)):=
 (O3 (Dg J7 Uo acK (qW.r M8) ho
  (lK (Dg J7 adZ PySem.F.type_list_pop (qW.r ag2) ho2 (lK he ou hs2) akx alj aky hs2 ai9) ou hs) hbase hfew hline hs hplain) hs0).weak fun D σ H aJ=>by
  obtain⟨Z,Θ,env,C,fl,env',C',S,hf,q⟩:=aJ
  obtain⟨_,g1,hf⟩:=jZ.mp hf
  obtain⟨_,g2,hf⟩:=jZ.mp hf
  obtain⟨p,g3,hf⟩:=jZ.mp hf
  obtain⟨ds,g4,hf⟩:=jZ.mp hf
  obtain⟨es,g5,hf⟩:=jZ.mp hf
  obtain⟨k,g6,hf⟩:=jZ.mp hf
  obtain⟨y,g7,hf⟩:=jZ.mp hf
  split at hf
  case isFalse=>cases hf
  rename_i g8;split at g7
  case isFalse=>cases g7
  rename_i g9;cases hf
  obtain⟨v0,pY,a,rfl,Ae,ha0,r0⟩:=S.slot i _ (Ik g1)
  obtain⟨v1,ev1,b,rfl,vs1,ha1,r1⟩:=S.slot j _ (Ik g2)
  refine⟨_,pY,.inl ⟨rfl,Ae,bC.of ha0⟩,_,ev1,.inl ⟨rfl,vs1,bC.of ha1⟩,Z,Θ,env,C,p.1,p.2.1,p.2.2,S,g3,fun v H1 kk ff S1 bb=>?_⟩
  rw[Ia g6] at bb;have bb:v=.int k:=bb;subst bb;have g4:=Ik g4;have g5:=Ik g5
  obtain⟨w0,ew0,a',ea,ws0,hw0,s0⟩:=S1.slot i _ g4
  obtain⟨w1,ew1,b',eb,Eu,hw1,s1⟩:=S1.slot j _ g5
  subst ea eb;rw[pY] at ew0;rw[ev1] at ew1;cases ew0;cases ew1
  obtain⟨yv,hy,ry⟩:=tZ s1 g7
  have hk:k.toNat<Eu.length:=(iG.mp hy).1;have g9:0≤k∧k<1000000:=g9;have six:M7 k Eu.length=some k.toNat:=by
   exact anj g9.1 (by omega)
  refine⟨b,Eu,k,k.toNat,yv,rfl,rfl,hw1,by omega,by omega,six,hy,?_⟩
  have w1:cZ X.K Z Θ p.2.1 σ H1 Θ (p.2.1.set j (some (.ow (.list (es.eraseIdx k.toNat))))) p.2.2 σ (upd H1 b (.lst (Eu.eraseIdx k.toNat))):=S1.write g5 ev1 ⟨_,dI,XC _ s1⟩
  obtain⟨x0,ex0,a',ea,xs0,hx0,t0⟩:=w1.sm.slot i _ (show(p.2.1.set j (some (.ow (.list (es.eraseIdx k.toNat)))))[i]?=_ by rw[uM (fun z=>g8.2 z.symm)];exact g4)
  subst ea;rw[pY] at ex0;cases ex0
  refine⟨a,xs0,yv,rfl,rfl,hx0,by rw[gm t0,iI];have:ds.length<1000000:=g8.1;omega,?_⟩
  have ep:aQ Z Θ (p.2.1.set j (some (.ow (.list (es.eraseIdx k.toNat))))) σ=aQ Z Θ p.2.1 σ:=by show _++(_++_)=_;rw[Od g5]
  have mp:b∈aQ Z Θ p.2.1 σ:=iJ.mpr (.inr (.inr (kW.mpr ⟨j,_,g5,ev1⟩)));have ry':RZ (er (aQ Z Θ (p.2.1.set j (some (.ow (.list (es.eraseIdx k.toNat))))) σ) (upd H1 b (.lst (Eu.eraseIdx k.toNat)))) y yv:=by rw[ep,IV mp];exact ry
  have w2:=w1.sm.write (o:=.lst (xs0++[yv])) (d':=.list (ds++[y])) (show(p.2.1.set j (some (.ow (.list (es.eraseIdx k.toNat)))))[i]?=_ by rw[uM (fun z=>g8.2 z.symm)];exact g4) pY ⟨_,dI,vB t0 ⟨yv,[],rfl,ry',rfl⟩⟩;exact q Θ σ _ (((cZ.pX kk ff S1).trans w1).trans w2)
def alk(i j k:Nat)(ta:TA):TS:=fun D σ H=>ta σ H fun vs H1=>vs.length=3∧(∀v w z,vs=[v,w,z]→D.nx (((σ.set i (some v)).set j (some w)).set k (some z)) H1)
section
variable{X:Cx}{pos:Pos}
theorem aja{kt k2 mW}(hc:X.calm=true)(hN:X.N.Nodup)(hi:X.N[i]?=some x)(hj:X.N[j]?=some y)(hk:X.N[k]?=some z)(hij:i≠j)(hik:i≠k)(hjk:j≠k)
  (hx:X.env.scope.names.lookup x=some .local)(hy:X.env.scope.names.lookup y=some .local)(hz:X.env.scope.names.lookup z=some .local)(ha:PA X [a,b,c] ta)
  (hw:wV [.Tuple [.Name x px,.Name y py,.Name z pz] kt pt] (.Tuple [a,b,c] k2 mW) X.env=pure (some [x,y,z]))
  (hs:wU [.Tuple [.Name x px,.Name y py,.Name z pz] kt pt] (.Tuple [a,b,c] k2 mW) pos.line X.env=pure false:=by rfl):
  PS X (.Assign [.Tuple [.Name x px,.Name y py,.Name z pz] kt pt] (.Tuple [a,b,c] k2 mW) pos) (alk i j k ta):=by
 intro pins s σ H D I h;rw[exec_Assign_arm];refine aD (uX ?_);rw[hs];refine aD (aV ?_);rw[if_neg (by decide)];refine aD (Tuple_ (bu (ha _ pins s σ H _ I h) fun us s1 aJ=>?_))
 obtain⟨vs,H1,I1,r1,l1,q1⟩:=aJ
 cases r1 with
 |nil=>cases l1
 |cons rv r1=>
 cases r1 with
 |nil=>cases l1
 |cons rw' r1=>
 cases r1 with
 |nil=>cases l1
 |cons rz r1=>
 cases r1 with
 |cons _ _=>cases l1
 |nil=>
 rename_i v u1 w u2 zz u3;refine lX ?_ (by show 3≤bJ;decide);have I2:Inv X pins σ H1 {s1 with heap:=s1.heap.push {cls:=.type "tuple",data:=.seq [u1,u2,u3].toArray}}:=I1.kept (t':=s1.toks) fun b o e=>cB _ e
 rw[hw];refine aD (aV ?_);show aL (model X.prog X.w) X.A (do rule "assign.swapped-stores";let items ←unpackItems (.ref s1.heap.objs.size) 3 none;Bb [fun v=>tO X.env z v,fun v=>tO X.env y v,fun v=>tO X.env x v] items.reverse;pure M3) _ _ _;refine aD (wZ (aD (unpackItems_tuple (items:=#[u1,u2,u3]) (I.ok.hd hc) (IsTup.new s1.heap _) fun h' hx'=>?_)));have I3:=I2.kept (h':=h') (t':=s1.toks) fun b o e=>hx' b o (dF (bT e)) e
 show aL _ _ (Bb [fun v=>tO X.env z v,fun v=>tO X.env y v,fun v=>tO X.env x v] [u3,u2,u1] >>= fun _=>pure M3) _ _ _;refine aD (assignInOrder_cons (Gd (rJ I3 hN hk (.inl hz) rz (fun s2 I4=>?_) (.inr hz))));refine assignInOrder_cons (Gd (rJ I4 hN hj (.inl hy) rw' (fun s3 I5=>?_) (.inr hy)));refine assignInOrder_cons (Gd (rJ I5 hN hi (.inl hx) rv (fun s4 I6=>assignInOrder_nil (aV ?_)) (.inr hx)));rw[K8 _ _ (jE hij),K8 _ _ (jE hik),K8 _ _ (jE hjk)] at I6
 exact⟨_,H1,I6,q1 _ _ _ rfl⟩
theorem ajb{kt k2 mW}(hc:X.calm=true)(hN:X.N.Nodup)(hi:X.N[i]?=some x)(hj:X.N[j]?=some y)(hk:X.N[k]?=some z)(hij:i≠j)(hik:i≠k)(hjk:j≠k)
  (hx:X.env.scope.names.lookup x=some .local)(hy:X.env.scope.names.lookup y=some .local)(hz:X.env.scope.names.lookup z=some .local)(ha:PA X [a,b,c] (wH X.K g))
  (hw:wV [.Tuple [.Name x px,.Name y py,.Name z pz] kt pt] (.Tuple [a,b,c] k2 mW) X.env=pure (some [x,y,z]))
  (hs:wU [.Tuple [.Name x px,.Name y py,.Name z pz] kt pt] (.Tuple [a,b,c] k2 mW) pos.line X.env=pure false:=by rfl):
  PS X (.Assign [.Tuple [.Name x px,.Name y py,.Name z pz] kt pt] (.Tuple [a,b,c] k2 mW) pos) (tS X.K (fPar [i,j,k] g)):=(aja hc hN hi hj hk hij hik hjk hx hy hz ha hw hs).weak fun D σ H aJ=>by
 obtain⟨Z,Θ,env,C,fl,env',C',S,hf,q⟩:=aJ
 unfold fPar at hf;split at hf
 case h_2=>cases hf
 rename_i xs e1 C1 h1;split at hf
 case isFalse=>cases hf
 rename_i hl;cases hf
 refine⟨Z,Θ,env,C,xs,e1,C',S,h1,fun vs as H1 k1 f1 n1 S1 a1=>⟨by rw[Ib a1,←hl.1];rfl,fun v w zz e=>?_⟩⟩
 obtain⟨S2,o2⟩:=Pr a1 hl.1 (bh.refl _) S1
 subst e;refine q Θ _ H1 ⟨jB.refl _ _,tX k1,fun b m=>?_,S2⟩;rcases o2 b m with m|m
 ·exact .inl (f1.own.subset m)
 ·exact .inr (n1 b m)
end
theorem ahD(rel:KV kvs vs):∀{us:List Value},us.length=vs.length→(∀(i:Nat)(v:Value),us[i]?=some v→∃k x,vs[i]?=some (k,x)∧(iu P w).is k v=true)→Vals (kvs.map fun kv=>kV kv.1) us:=by
 induction rel with
 |nil=>
  intro us h2 h3;cases us with
  |nil=>exact .nil
  |cons _ _=>cases h2
 |@cons p w ps ws hp _ ih=>
  intro us h2 h3;cases us with
  |nil=>cases h2
  |cons u us=>
   refine .cons ?_ (ih (Gw h2) fun i v e=>h3 (i+1) v e)
   obtain⟨k,x,e1,e2⟩:=h3 0 u rfl
   have ek:k=p.1:=by rw[hp.1];exact congrArg Prod.fst (fP e1.symm)
   subst ek;exact Xy e2
section
variable{X:Cx}
theorem Vv(hc:X.calm=true):gQ X (.builtin "sorted") (fun xs H Q=>∃(d:aa)(kvs:List (Key×V))(ns:List Str),xs=[.ref d]∧H d=some (.dK kvs)∧kvs.map (·.1)=ns.map .inr∧ns.length<64∧∀(l:aa)(ns':List Str),H l=none→ns'.Perm ns→sortedS ns'=true→Q (.ref l) (upd H l (.lst (ns'.map V.str)))):=by
 intro pins s σ H xs us Q I r h
 obtain⟨d,kvs,ns,rfl,hd,hns,few,q⟩:=h
 obtain⟨u,rfl,ru⟩:=vals1 r
 cases ru
 obtain⟨z,lo,vs,rel,dd⟩:=I.hok d _ hd
 obtain⟨ep,da⟩:=dd.dictAt
 have lv:vs.length=kvs.length:=(Paired.length rel).symm;have ln:kvs.length=ns.length:=by have:=congrArg o7 hns;simpa using this
 refine TY kind_sorted plain_sorted entry_sorted (args_sorted1 _) ?_;unfold j5.«sorted»;refine aD (m:=WM "sorted" 1 1 _) (aV (aD (ae3 (A:=X.A.in1) (kdl_dict (knd:=iu X.prog X.w) (ep:=ep) lo) (I.ok.hd hc) da (by rw[lv];exact z) fun h1 tk acc hsz kk hacc=>?_)));have hV:=ahD (P:=X.prog) (w:=X.w) rel (us:=acc.toList) (by rw[ju];exact hacc.1) fun i v e=>hacc.2 i v (by rw[←J9];exact e)
 have hV:Vals (ns.map V.str) acc.toList:=by
  rw[show ns.map V.str=(ns.map je).map kV by rw[dX];rfl,←hns,dX];exact hV
 have hS:StrsAre acc.toList ns:=Mw hV;have lu:acc.toList.length=ns.length:=by rw[←hV.length,aX]
 refine aD (Lb ?_ (by rw[iI];omega));have gL:(h1.push (seqObj "list" acc.toList.toArray 0)).get? h1.objs.size=some (seqObj "list" acc.toList.toArray 0):=gF _ rfl;refine aD (mj (p6 slot_list_sort ⟨_,gL,rfl⟩ entry_list_sort (list_sort_treeK strKind_oneLt gL hS.keysOf (fun v1 v2 rest e=>keyKind_strs (by rw[←e];exact hS)) (by omega) fun st hp1 hp2=>⟨_,rfl,?_⟩) (args_list_sort _)))
 obtain⟨ns',b1,b2,b3⟩:=sorted_out_str hS hp1 hp2
 obtain⟨c,gD⟩:=sortedHeap_at (out:=(arrOf st).map (·.2)) gL
 have kb:∀b o,s.heap.get? b=some o→(sortedHeap (h1.push (seqObj "list" acc.toList.toArray 0)) h1.objs.size acc.toList ((arrOf st).map (·.2))).get? b=some o:=fun b o e=>by
  have lb:b<h1.objs.size:=bT (kk b o e);rw[sortedHeap_old (dF lb) (by rw[wQ];exact wK lb)];exact cB _ (kk b o e)
 exact aV ⟨_,rfl,.ref h1.objs.size,_,I.laid (o:=.lst (ns'.map V.str)) (t':=tk) kb hsz ⟨by rw[aX,b2.length_eq,iI];omega,((arrOf st).map (·.2)).toList,c,M9 b1,by rw[Array.toArray_toList];exact gD⟩,rfl,q _ ns' (I.hok.fresh hsz) b2 b3⟩
def Cj:List aj→Option Vl
 |[.dict kvs]=>(strsOf (kvs.map (·.1))).bind fun ns=>bif decide (ns.length<64) then some (.ow (.list ((sy strLt ns).map .str))) else none
 |_=>none
theorem XD:∀{kvs:List (aj×aj)}{ns:List Str},strsOf (kvs.map (·.1))=some ns→cD cJ kvs=some (ns.map .inr)
 |[],ns,h=>by cases h;rfl
 |(.str z,v)::kvs,ns,h=>by
  obtain⟨ns',h1,rfl⟩:∃ns',strsOf (kvs.map (·.1))=some ns'∧ns=z::ns':=by
   have h:(strsOf (c7 z::kvs.map (·.1)))=some ns:=h;unfold strsOf at h;cases e:strsOf (kvs.map (·.1)) with
   |none=>rw[e] at h;cases h
   |some t=>rw[e] at h;cases h;exact⟨t,rfl,rfl⟩
  show cD cJ ((.str z,v)::kvs)=_;unfold cD;rw[XD h1];rfl
 |(.none,v)::kvs,ns,h=>by cases h
 |(.bool _,v)::kvs,ns,h=>by cases h
 |(.int _,v)::kvs,ns,h=>by cases h
 |(.list _,v)::kvs,ns,h=>by cases h
 |(.tuple _,v)::kvs,ns,h=>by cases h
 |(.dict _,v)::kvs,ns,h=>by cases h
theorem YS{K:aC}:nG K (fun xs H Q=>∃(d:aa)(kvs:List (Key×V))(ns:List Str),xs=[.ref d]∧H d=some (.dK kvs)∧kvs.map (·.1)=ns.map .inr∧ns.length<64∧∀(l:aa)(ns':List Str),H l=none→ns'.Perm ns→sortedS ns'=true→Q (.ref l) (upd H l (.lst (ns'.map V.str)))) Cj:=by
 intro Z Θ env C σ H xs ds res S b e Q q;refine hide fun GG gg=>?_
 unfold Cj at e;split at e
 case h_2=>cases e
 rename_i kvs
 obtain⟨ns,hns,e⟩:=iz e
 cases hl:decide (ns.length<64) with
 |false=>rw[hl] at e;cases e
 |true=>
 rw[hl] at e;cases e;have hl:=of_decide_eq_true hl
 obtain⟨v,rfl,bb⟩:=oF b
 obtain⟨a,vs,rfl,da,r⟩:=bb.dct
 have hk:=XD hns;rcases da with⟨ks,h1,ha⟩|⟨ks,⟨ne,h2⟩,ha⟩
 ·rw[hk] at h1;cases h1;have lz:vs.length=(ns.map (je:Str→Key)).length:=by rw[BX r,vh hk]
  refine gg ⟨a,_,ns,rfl,ha,by rw[List.map_fst_zip (by omega)],hl,fun l ns' hn p hp=>?_⟩;rw[aaA p hp];exact q _ _ (aO.upd hn) (tW S (Yg _) hn)
 ·exact absurd (vm hk h2) ne
end
section
variable{X:Cx}{l de:Expr}{tl td:TE}{p pos kp:Pos}
end
inductive fX(K:aC)(x:Str)(st:cV):Prop
 |mk {f:aa} {oc:Value} {od an:Option aa} {osl:Array (Option Value)} {kV doc pm cdv ct:Value} (a:mq K fZ x=some (some (.ref f))) (l:K.lookup f=some ⟨oc,od,.func (wW x x (zA st) (vA st) (cO st) .none kV doc pm an cdv ct),osl⟩) (c:KJ K cdv x=true) (k:uV K (.ref f)=true):fX K x st
abbrev QS(x:Str)(st:cV)(ps:List Str):Prop:=∀(kV doc pm:Value)(an:Option aa)(cdv ct:Value)(us:List Value),us.length=ps.length→bindArgs (wW x x (zA st) (vA st) (cO st) .none kV doc pm an cdv ct) ⟨us,[]⟩=pure (ps.zip us)
section
variable{P:bf}{w:aY}{K:aC}{mg:Str→Option Value}{base h:aU}{x:Str}{st:cV}{k:Nat}{ps:List Str}{sp:Sp}
theorem fX.has(d:fX K x st)(X:K.In h)(G:h.Ns fZ mg)(o:∀f fd,fM K x x st f fd→cY P w K mg base eO k f fd ps sp)(hb:QS x st ps):dD P w K mg base x k ps sp:=by
 obtain⟨a,l,c,kp⟩:=d
 have F:=Qv l c kp
 exact⟨_,_,VM X G a,kp,F.binds hb,o _ _ F⟩
theorem fX.alX(d:fX K x st)(X:K.In h)(G:h.Ns fZ mg)(o:∀f fd,mg x=some (.ref f)→uV K (.ref f)=true→Binds K fd ps []→fM K x x st f fd→dD P w K mg base x k ps sp)(hb:QS x st ps):dD P w K mg base x k ps sp:=by
 obtain⟨a,l,c,kp⟩:=d
 have F:=Qv l c kp;exact o _ _ (VM X G a) kp (F.binds hb) F
theorem fX.law{y:Str}{fa:aa}(d:fX K x st)(X:K.In h)(G:h.Ns fZ mg)(hfa:mg x=some (.ref fa))(o:∀base f fd,fM K x x st f fd→cY P w K mg base eO k f fd [y] sp)(hb:QS x st [y]):
  ∃fd:dg,(∀(s:au)(v:Value),xm s fd ⟨[v],[]⟩ [(y,v)])∧∀base:aU,K.In base→base.Ns fZ mg→cY P w K mg base eO k fa fd [y] sp:=by
 obtain⟨a,l,c,kp⟩:=d
 have e:=hfa.symm.trans (VM X G a);cases e
 exact⟨_,fun s v=>.of_eq (hb _ _ _ _ _ _ [v] rfl),fun base _ _=>o base _ _ (Qv l c kp)⟩
theorem iW{B:List Value→Prop}(h:B []):∀us:List Value,us.length=0→B us
 |[],_=>h
theorem bZ{n:Nat}{B:List Value→Prop}(h:∀a,∀us:List Value,us.length=n→B (a::us)):∀us:List Value,us.length=n+1→B us
 |a::us,e=>h a us (Gw e)
end
section
open PySem.SeqAt
open PySem.AutoSeq1 (wpAny_loadPart')
open PySem.MeetsSeq PySem.MeetsSeq2 PySem.MeetsSeq3
theorem ZW{xs:Array Value}{i:Nat}(h:xs.toList.drop i=x::r):xs[i]?=some x∧xs.toList.drop (i+1)=r:=by
 have h1:xs.toList[i]?=some x:=by
  have:=congrArg (·[0]?) h;simpa using this
 refine⟨by simpa using h1,?_⟩
 rw[←List.tail_drop,h,List.tail_cons]
theorem ZX(l b:aa)(items items2:Array Value)(n n2:Nat)(dd dd2:Option aa)(sl sl2:Array (Option Value))(hsz:items.size=items2.size):
  ∀(ns ms:List Key)(i:Nat),Vals (ns.map kV) (items.toList.drop i)→Vals (ms.map kV) (items2.toList.drop i)→ns.map bI=ms.map bI→Meets (j5.«list.__eq__.loop» ⟨[.ref l,.ref b,jg i,jg 0],[]⟩)
   (fun _ R s=>s.heap.get? l=some {cls:=.type "list",dict:=dd,data:=.seq items n,slots:=sl}∧s.heap.get? b=some {cls:=.type "list",dict:=dd2,data:=.seq items2 n2,slots:=sl2}∧R (.ok (.ret (.bool (di ns ms)))) s)
 |[],[],i,h1,h2,_=>fun prog w A R s h=>by
  obtain⟨hp,g,d,tk,os⟩:=s;obtain⟨hl,hb,h⟩:=h
  have z1:=h1.length;rw[Aq,ju] at z1;have z1:0=items.size-i:=z1;have i1:items[((i:Nat):Int).toNat]?=none:=by simp;omega
  have i2:items2[((i:Nat):Int).toNat]?=none:=by simp;omega
  wp_walk using nQ hl,nQ hb;rw[i1,i2];wp_walk using nQ hl,nQ hb;show R (.ok (.ret (.bool (decide (items.size<items2.size))))) _;rw[decide_eq_false (by omega)];exact h
 |a::ns,c::ms,i,h1,h2,ht=>fun prog w A R s h=>by
  obtain⟨hp,g,d,tk,os⟩:=s;obtain⟨hl,hb,h⟩:=h
  generalize e1:items.toList.drop i=xs at h1;generalize e2:items2.toList.drop i=ys at h2;cases h1 with
  |cons r1 t1=>
   cases h2 with
   |cons r2 t2=>
    obtain⟨i1,d1⟩:=ZW e1
    obtain⟨i2,d2⟩:=ZW e2
    have k1:bI a=bI c:=(yU ht).1;have hc:((i:Int)+1)=((i+1:Nat):Int):=rfl;unfold di at h;wp_walk using nQ hl,nQ hb;rw[Al,i1,i2];refine aD (NZ A.in1 ⟨hp,g,d,tk,os⟩ r1 r2 k1 prog w _ _ ?_);by_cases hac:a=c
    ·rw[if_pos hac] at h;rw[decide_eq_true hac];wp_walk;rw[hc]
     refine⟨tL plain_eq_loop _,uU entry_eq_loop ?_⟩
     rw[uN plain_eq_loop _];exact ZX l b items items2 n n2 dd dd2 sl sl2 hsz ns ms (i+1) (by rw[d1];exact t1) (by rw[d2];exact t2) (yU ht).2 prog w A R _ ⟨hl,hb,h⟩
    ·rw[if_neg hac] at h;rw[decide_eq_false hac];have rc:=Hv A.in1 ⟨hp,g,d,tk,os⟩ r1 r2 k1 prog w;wp_walk using nQ hl,nQ hb;rw[i1,i2];wp_walk using rc;simpa using h
theorem ajc(l b:aa)(items items2:Array Value)(n n2:Nat)(dd dd2:Option aa)(sl sl2:Array (Option Value))(hsz:items.size=items2.size)(ns ms:List Key)(h1:Vals (ns.map kV) items.toList)(h2:Vals (ms.map kV) items2.toList)(ht:ns.map bI=ms.map bI):
  Meets (j5.«list.__lt__» ⟨[.ref l,.ref b],[]⟩)
   (fun _ R s=>s.heap.get? l=some {cls:=.type "list",dict:=dd,data:=.seq items n,slots:=sl}∧s.heap.get? b=some {cls:=.type "list",dict:=dd2,data:=.seq items2 n2,slots:=sl2}∧R (.ok (.ret (.bool (di ns ms)))) s):=by
 intro prog w A R s h
 obtain⟨hp,g,d,tk,os⟩:=s;obtain⟨hl,hb,h⟩:=h
 have f3:=AutoSeq1.sub_list_list;wp_walk using nQ hl,nQ hb
 refine⟨tL plain_eq_loop _,uU entry_eq_loop ?_⟩
 rw[uN plain_eq_loop _];exact ZX l b items items2 n n2 dd dd2 sl sl2 hsz ns ms 0 h1 h2 ht prog w A R _ ⟨hl,hb,h⟩
def abH(A:bU)(s:au)(x y:Value)(r:Bool):Prop:=∀(prog:bf)(w:aY)(E Q:Value→au→Prop),Q (.bool r) s→aL (model prog w) A (Bo .Lt x y) Q E s
theorem afJ(hl:s.heap.IsList l items)(hb:s.heap.IsList b items2)(h1:Vals (ns.map kV) items.toList)(h2:Vals (ms.map kV) items2.toList)(ht:ns.map bI=ms.map bI)(hu:A.units<dR):abH A s (.ref l) (.ref b) (di ns ms):=fun prog w E Q h=>by
 obtain⟨⟨cls,dd,data,sl⟩,ho,hc,n,hd⟩:=id hl
 obtain⟨⟨cls2,dd2,data2,sl2⟩,ho2,hc2,n2,hd2⟩:=id hb
 simp only at hc hd hc2 hd2;subst hc hd hc2 hd2;have z1:ns.length=items.size:=by have:=h1.length;simpa using this
 have z2:ms.length=items2.size:=by have:=h2.length;simpa using this
 have z3:ns.length=ms.length:=by have:=congrArg o7 ht;simpa using this
 exact Ub (op:=.Lt) ⟨_,ho,rfl⟩ ⟨_,ho2,rfl⟩ PySem.F.slot_list_lt PySem.F.entry_list_lt (PySem.F.args_list_lt_2 _ _) (ajc l b items items2 n n2 dd dd2 sl sl2 (by omega) ns ms h1 h2 ht)
  ⟨ho,ho2,show o9 (di ns ms)≠Ui∧Q (.bool (di ns ms)) s from⟨(fun x=>nomatch x),h⟩⟩ hu
inductive uo(A:bU)(s:au):List Value→List Value→Bool→Prop
 |nil:uo A s [] [] false
 |eq:EqAt A s x y true→uo A s xs ys r→uo A s (x::xs) (y::ys) r
 |ne:EqAt A s x y false→abH A s x y r→xs.length=ys.length→uo A s (x::xs) (y::ys) r
theorem uo.len(h:uo A s xs ys r):xs.length=ys.length:=by
 induction h with
 |nil=>rfl
 |eq _ _ ih=>rw[cN,cN,ih]
 |ne _ _ e=>rw[cN,cN,e]
theorem ahE(l b:aa)(items items2:Array Value)(n n2:Nat)(dd dd2:Option aa)(sl sl2:Array (Option Value))(r:Bool):
  Meets (j5.«tuple.__lt__» ⟨[.ref l,.ref b],[]⟩)
   (fun A R s=>s.heap.get? l=some {cls:=.type "tuple",dict:=dd,data:=.seq items n,slots:=sl}∧s.heap.get? b=some {cls:=.type "tuple",dict:=dd2,data:=.seq items2 n2,slots:=sl2}∧uo A.in1 s items.toList items2.toList r∧R (.ok (.ret (.bool r))) s):=
 .of_wp fun prog w A R s h=>by
  obtain⟨hp,g,d,tk,os⟩:=s;obtain⟨hl,hb,hr,h⟩:=h
  have f2:=acJ;have z0:=hr.len;rw[ju,ju] at z0;wp_walk using nQ hl,nQ hb,adQ _ (fun rest b s'=>b.1=none∧s'=⟨hp,g,d,tk,os⟩∧∃vs ws,rest=vs.zip ws∧uo A.in1 ⟨hp,g,d,tk,os⟩ vs ws r) _
  case turn=>
   rintro⟨y,x⟩ rest b s' ⟨hb',rfl,vs,ws,hz,hr⟩
   cases hr with
   |nil=>cases hz
   |eq e t=>
    rw[Fw] at hz;cases hz;refine aD (e prog w _ _ ?_);wp_walk
    exact⟨rfl,rfl,_,_,rfl,t⟩
   |ne e c _=>
    rw[Fw] at hz;cases hz;refine aD (e prog w _ _ ?_);have c:=c prog w;wp_walk using c
    exact⟨_,rfl,by simpa using h⟩
  case fin=>
   rintro⟨b1,b2⟩ s' ⟨hb',rfl,vs,ws,hz,hr⟩
   simp only at hb';subst hb';cases hr with
   |nil=>
    wp_walk
    exact⟨_,rfl,by simpa[acy,z0] using h⟩
   |eq=>cases hz
   |ne=>cases hz
  case h=>exact⟨rfl,rfl,_,_,rfl,hr⟩
end
theorem Ow:∀{ns:List Key}{xs:List Value}{j:Nat}{v:Value},Vals (ns.map kV) xs→xs[j]?=some v→∃x,ns[j]?=some x∧RelV (kV x) v
 |[],_,j,v,.nil,h=>by cases h
 |n::ns,_::xs,0,v,.cons r _,h=>⟨n,rfl,by cases h;exact r⟩
 |n::ns,_::xs,j+1,v,.cons _ t,h=>Ow (ns:=ns) t (by simpa using h)
theorem agG{ns ms:List Key}(hl:s.heap.IsList l items)(hb:s.heap.IsList b items2)(h1:Vals (ns.map kV) items.toList)(h2:Vals (ms.map kV) items2.toList)(ht:ns.map bI=ms.map bI)(hs:l=b→ns=ms)(hu:A.units<dR):G3 A s (.ref l) (.ref b) (decide (ns=ms)):=by
 by_cases e:l=b
 ·subst e;rw[decide_eq_true (hs rfl)];exact adY _
 ·have z1:ns.length=items.size:=by have:=h1.length;simpa using this
  have z2:ms.length=items2.size:=by have:=h2.length;simpa using this
  have z3:ns.length=ms.length:=by have:=congrArg o7 ht;simpa using this
  have key:∀j (a1:j<items.size)(a2:j<items2.size),∃x y,ns[j]?=some x∧ms[j]?=some y∧G3 A.in1 s items[j] items2[j] (decide (x=y)):=fun j a1 a2=>by
   obtain⟨x,e1,r1⟩:=Ow h1 (j:=j) (v:=items[j]) (by simp[a1])
   obtain⟨y,e2,r2⟩:=Ow h2 (j:=j) (v:=items2[j]) (by simp[a2])
   refine⟨x,y,e1,e2,NZ _ _ r1 r2 ?_⟩
   have:=congrArg (·[j]?) ht;simpa[e1,e2] using this
  refine SeqAt.EqAt.of_refs e ?_;have:=SeqAt.RcAt.lists (e:=fun j=>decide (ns[j]?=ms[j]?)) hl hb (by omega) hu (fun j a1 a2=>by
   obtain⟨x,y,e1,e2,h⟩:=key j a1 a2
   rw[e1,e2];simpa using h)
  have eq:(dz items.size).all (fun j=>decide (ns[j]?=ms[j]?))=decide (ns=ms):=by
   rw[p7,nO,decide_eq_true_iff]
   refine⟨fun h=>adG fun i=>?_,fun h j _=>by rw[h];exact decide_eq_true rfl⟩
   by_cases hi:i<items.size
   ·exact of_decide_eq_true (h i (oY.mpr hi))
   ·rw[Ff (by omega),Ff (by omega)]
  rw[←eq];exact this
theorem aaH:∀ks:List Key,di ks ks=false
 |[]=>by unfold di;rfl
 |k::ks=>by
  unfold di;rw[if_pos rfl];exact aaH ks
def abI:R2:=fun x y H Q=>∃a b i j l m ks js,x=.ref a∧y=.ref b∧H a=some (.tup [.int i,.ref l])∧H b=some (.tup [.int j,.ref m])∧H l=some (.lst (ks.map kV))∧H m=some (.lst (js.map kV))∧(i=j→ks.map bI=js.map bI)∧Q (.bl (if i=j then di ks js else decide (i<j))) H
theorem akz{X:Cx}(hu:X.A.units+1<dR):cz X (dH .Lt) abI:=by
 intro pins s σ H x y v u Q I rx ry h
 obtain⟨a,b,i,j,l,m,ks,js,rfl,rfl,ha,hb,hl,hm,ht,q⟩:=h
 cases rx;cases ry
 obtain⟨i1,r1,p1,_⟩:=I.tuple (cF.of (K:=X.K) ha)
 obtain⟨i2,r2,p2,_⟩:=I.tuple (cF.of (K:=X.K) hb)
 obtain⟨i3,r3,p3,_⟩:=I.list (bC.of (K:=X.K) hl)
 obtain⟨i4,r4,p4,_⟩:=I.list (bC.of (K:=X.K) hm)
 obtain⟨w1,w2,e1,x1,x2⟩:=r1.two
 obtain⟨w3,w4,e2,x3,x4⟩:=r2.two
 obtain⟨t1,rfl⟩:=x1
 obtain⟨t3,rfl⟩:=x3
 cases x2;cases x4;have row:uo X.A.in1 s i1 i2 (if i=j then di ks js else decide (i<j)):=by
  rw[e1,e2];have q1:=adl (A:=X.A.in1) (s:=s) i t1 j t3;by_cases h:i=j
  ·rw[beq_iff_eq.mpr h] at q1;rw[if_pos h];refine .eq q1 ?_;have q2:=agG (A:=X.A.in1) p3.isList p4.isList r3 r4 (ht h) (fun e=>by
    subst e;have:=fP (hl.symm.trans hm);injection this with this
    exact Zd this) hu
   by_cases k:ks=js
   ·rw[decide_eq_true k] at q2;rw[k,aaH];exact .eq q2 .nil
   ·rw[decide_eq_false k] at q2;exact .ne q2 (afJ p3.isList p4.isList r3 r4 (ht h) hu) rfl
  ·rw[beq_eq_false_iff_ne.mpr h] at q1;rw[if_neg h];exact .ne q1 (fun prog w E Q q=>Hv (a:=.inl i) (b:=.inl j) X.A.in1 s ⟨t1,rfl⟩ ⟨t3,rfl⟩ rfl prog w E Q q) rfl
 obtain⟨⟨cls,dd,data,sl⟩,ho,hc,n,hd⟩:=id p1
 obtain⟨⟨cls2,dd2,data2,sl2⟩,ho2,hc2,n2,hd2⟩:=id p2
 simp only at hc hd hc2 hd2;subst hc hd hc2 hd2;exact Ub (op:=.Lt) ⟨_,ho,rfl⟩ ⟨_,ho2,rfl⟩ acZ acU (acM _ _) (ahE a b i1.toArray i2.toArray n n2 dd dd2 sl sl2 _)
  ⟨ho,ho2,row,show o9 _≠Ui∧_ from⟨(fun x=>nomatch x),fG I q rfl⟩⟩ (by omega)
def Dt:aj→aj→Option Vl
 |.tuple [.int a,.list xs],.tuple [.int b,.list ys]=>(keysOf xs).bind fun ks=>(keysOf ys).bind fun js=>if a=b→ks.map bI=js.map bI then some (.im (.bool (if a=b then di ks js else decide (a<b)))) else none
 |_,_=>none
theorem aa9(h:er P H a=some o):H a=some o:=by
 unfold er at h;split at h
 ·cases h
 ·exact h
theorem akA{K:aC}:fJ K abI Dt:=by
 intro Z Θ env C σ H x y dx dy res S bx cL e Q q;unfold Dt at e;split at e
 ·obtain⟨ks,h1,e⟩:=jZ.mp e
  obtain⟨js,h2,e⟩:=jZ.mp e
  split at e
  ·rename_i ht;cases e
   obtain⟨a,vs,rfl,ha,v1,_,rfl,z1,_,_,rfl,⟨l,ls,rfl,hl,r1⟩,rfl⟩:=bx.tup
   obtain⟨b,ws,rfl,hb,v2,_,rfl,z2,_,_,rfl,⟨m,ms,rfl,hm,r2⟩,rfl⟩:=cL.tup
   cases(show v1=.int _ from z1)
   cases(show v2=.int _ from z2)
   rw[vd h1 r1] at hl;rw[vd h2 r2] at hm
   exact⟨a,b,_,_,l,m,ks,js,rfl,rfl,ha,hb,aa9 hl,aa9 hm,ht,q _ _ (aO.refl _ _) (gA S rfl rfl)⟩
  ·cases e
 ·cases e
end L2
namespace Tj
open PySem L2
def top(i:Nat):cV:=PySem.Challenge.pw_rankseals_k15_shortest_and_first_rows.main.body.getD i (.Pass ⟨0,0,0,0⟩)
abbrev Gx:cV:=top 1
theorem Gk:gk (["house","part","outer","over"]:List Str) (["house","part"]:List Str) (cO Gx):=⟨rfl,rfl,rfl,by decide +kernel,rfl,by decide +kernel,by decide +kernel⟩
abbrev Ox:cV:=top 3
theorem agH:gk (["house","paper","holder","signer","day"]:List Str) (["house","paper","holder","signer","day"]:List Str) (cO Ox):=⟨rfl,rfl,rfl,by decide +kernel,rfl,by decide +kernel,by decide +kernel⟩
abbrev Np:cV:=top 4
theorem afK:gk (["paper","person"]:List Str) (["paper","person"]:List Str) (cO Np):=⟨rfl,rfl,rfl,by decide +kernel,rfl,by decide +kernel,by decide +kernel⟩
abbrev Hj:cV:=top 5
theorem W2:gk (["house","paper","day","over"]:List Str) (["house","paper","day"]:List Str) (cO Hj):=⟨rfl,rfl,rfl,by decide +kernel,rfl,by decide +kernel,by decide +kernel⟩
abbrev Ma:cV:=top 6
theorem Bh:gk (["ways","holder","signer","steps","row","number"]:List Str) (["ways","holder","signer"]:List Str) (cO Ma):=⟨rfl,rfl,rfl,by decide +kernel,rfl,by decide +kernel,by decide +kernel⟩
abbrev Gy:cV:=top 7
theorem aeq:gk (["ways","steps","person"]:List Str) (["ways","steps","person"]:List Str) (cO Gy):=⟨rfl,rfl,rfl,by decide +kernel,rfl,by decide +kernel,by decide +kernel⟩
abbrev G6:cV:=top 8
theorem wY:gk (["ways","signer","steps","newest","many","person"]:List Str) (["ways","signer"]:List Str) (cO G6):=⟨rfl,rfl,rfl,by decide +kernel,rfl,by decide +kernel,by decide +kernel⟩
abbrev QT:cV:=top 10
theorem ZZ:gk (["_law_cell","_law_k","_law_m"]:List Str) (["_law_cell","_law_k"]:List Str) (cO QT):=⟨rfl,rfl,rfl,by decide +kernel,rfl,by decide +kernel,by decide +kernel⟩
abbrev Le:cV:=top 11
theorem Vw:gk (["_law_script","_law_k","_law_cell"]:List Str) (["_law_script","_law_k"]:List Str) (cO Le):=⟨rfl,rfl,rfl,by decide +kernel,rfl,by decide +kernel,by decide +kernel⟩
abbrev P0:cV:=top 12
theorem YT:gk (["_law_left","_law_many","_law_digit"]:List Str) (["_law_left","_law_many"]:List Str) (cO P0):=⟨rfl,rfl,rfl,by decide +kernel,rfl,by decide +kernel,by decide +kernel⟩
abbrev Ck:cV:=top 13
theorem ahF:gk (["_law_found","_law_due"]:List Str) (["_law_found","_law_due"]:List Str) (cO Ck):=⟨rfl,rfl,rfl,by decide +kernel,rfl,by decide +kernel,by decide +kernel⟩
abbrev uY:cV:=top 14
theorem nR:gk (["_law_left","_law_many","_law_letters","_law_head","_law_tail","_law_first","_law_by","_law_stem","_law_found","_law_size","_law_k","_law_value","_law_two"]:List Str) (["_law_left","_law_many"]:List Str) (cO uY):=⟨rfl,rfl,rfl,by decide +kernel,rfl,by decide +kernel,by decide +kernel⟩
abbrev Mf:cV:=top 15
theorem Wc:gk (["_law_left","_law_things","_law_rest","_law_found"]:List Str) (["_law_left","_law_things"]:List Str) (cO Mf):=⟨rfl,rfl,rfl,by decide +kernel,rfl,by decide +kernel,by decide +kernel⟩
abbrev Mg:cV:=top 16
theorem Wd:gk (["_law_left","_law_first"]:List Str) (["_law_left"]:List Str) (cO Mg):=⟨rfl,rfl,rfl,by decide +kernel,rfl,by decide +kernel,by decide +kernel⟩
abbrev Mh:cV:=top 17
theorem aeM:gk (["_law_left"]:List Str) (["_law_left"]:List Str) (cO Mh):=⟨rfl,rfl,rfl,by decide +kernel,rfl,by decide +kernel,by decide +kernel⟩
abbrev Lf:cV:=top 18
theorem Gg:gk (["_law_left","_law_names","_law_found","_law_k","_law_name"]:List Str) (["_law_left","_law_names"]:List Str) (cO Lf):=⟨rfl,rfl,rfl,by decide +kernel,rfl,by decide +kernel,by decide +kernel⟩
abbrev Lg:cV:=top 19
theorem KZ:gk (["_law_parts","_law_part","_law_found"]:List Str) (["_law_parts","_law_part"]:List Str) (cO Lg):=⟨rfl,rfl,rfl,by decide +kernel,rfl,by decide +kernel,by decide +kernel⟩
abbrev Nq:cV:=top 20
theorem G7:gk (["_law_left","_law_many","_law_found","_law_last","_law_k"]:List Str) (["_law_left","_law_many"]:List Str) (cO Nq):=⟨rfl,rfl,rfl,by decide +kernel,rfl,by decide +kernel,by decide +kernel⟩
abbrev K1:cV:=top 21
theorem tH:gk (["_law_left","_law_parts","_law_people","_law_many","_law_paper","_law_day","_law_found","_law_over","_law_number","_law_at","_law_to","_law_part","_law_days","_law_most"]:List Str) (["_law_left","_law_parts","_law_people","_law_many","_law_paper","_law_day"]:List Str) (cO K1):=⟨rfl,rfl,rfl,by decide +kernel,rfl,by decide +kernel,by decide +kernel⟩
abbrev Mi:cV:=top 22
theorem aeN:gk (["_law_parts","_law_leaves"]:List Str) (["_law_parts","_law_leaves"]:List Str) (cO Mi):=⟨rfl,rfl,rfl,by decide +kernel,rfl,by decide +kernel,by decide +kernel⟩
abbrev Qa:cV:=top 23
theorem tV:gk (["_law_left","_law_most","_law_names","_law_parts","_law_people","_law_some","_law_sides","_law_part","_law_paper","_law_day"]:List Str) (["_law_left","_law_most"]:List Str) (cO Qa):=⟨rfl,rfl,rfl,by decide +kernel,rfl,by decide +kernel,by decide +kernel⟩
abbrev Qc:cV:=top 24
theorem ahG:gk (["_law_parts","_law_paper","_law_day","_law_leave"]:List Str) (["_law_parts","_law_paper","_law_day","_law_leave"]:List Str) (cO Qc):=⟨rfl,rfl,rfl,by decide +kernel,rfl,by decide +kernel,by decide +kernel⟩
abbrev GF:cV:=top 25
theorem Bj:gk (["_law_parts","_law_leaves","_law_paper","_law_holder","_law_day","_law_steps","_law_best","_law_turn","_law_leave","_law_row","_law_old"]:List Str) (["_law_parts","_law_leaves","_law_paper","_law_holder","_law_day"]:List Str) (cO GF):=⟨rfl,rfl,rfl,by decide +kernel,rfl,by decide +kernel,by decide +kernel⟩
abbrev Rp:cV:=top 26
theorem nq:gk (["_law_script","_law_k","_law_left","_law_parts","_law_people","_law_leaves","_law_paper","_law_day","_law_house","_law_some","_law_kept","_law_holder","_law_due","_law_signer","_law_found"]:List Str) (["_law_script"]:List Str) (cO Rp):=⟨rfl,rfl,rfl,by decide +kernel,rfl,by decide +kernel,by decide +kernel⟩
structure Txt(K:aC)(mg:Str→Option Value):Prop where
 Jl:mg "abs"=none
 Rq:mg "all"=none
 CZ:mg "bool"=none
 Mj:mg "enumerate"=none
 z8:mg "int"=none
 m8:mg "isinstance"=none
 jV:mg "len"=none
 zP:mg "list"=none
 Rr:mg "max"=none
 xW:mg "min"=none
 pH:mg "range"=none
 zu:mg "sorted"=none
 xX:mg "str"=none
 xu:mg "tuple"=none
 Rt:mg "zip"=none
@[reducible] def Vh:FT:=(fTst (aH jq (az 1) (az 2)))
@[reducible] def Vi:FS:=(fSeq (jX 3 (fVar 1)) (fSet 1 (aH bw (az 2) (az 1))))
@[reducible] def KD:FE:=(fVar 0)
@[reducible] def KH:FE:=(fVar 1)
@[reducible] def Lr:FS:=(fSeq (fSet 2 (Ep (iB2 (ao (aH bw (az 0) (ao (fCst (.int 0)))))) (.many 2) gU KD KH [])) (fSeq (fSet 3 (fLst aNil)) (fSeq (qY Vh Vi) (fRetV 3))))
def Gz:FN:=fN 2 4 Lr
@[reducible] def Nr:FS:=(fRet (aH jq (az 1) (ao (fW (az 0) (eV (ao (fCst (.int 2)))) (eV (ao (fCst (.int 4))))))))
def vf:FN:=fN 2 2 Nr
@[reducible] def Ls:FT:=(lN (fTst (aH jq (az 3) (az 7))) (lN (fTst (vW oM oM (az 4) (az 8) (az 5))) (lN (fTst (aH oM (ao (aH bw (az 9) (ao (fCst (.int 1))))) (az 6))) (lN (xR (fTru (ao (fCal vf (aCons (fVar 9) (aCons (fVar 1) aNil)))))) (xR (fTru (ao (fCal vf (aCons (fVar 9) (aCons (fVar 2) aNil))))))))))
@[reducible] def Lw:FE:=(fTup (aCons (fVar 0) (aCons (fVar 1) (aCons (fVar 2) aNil))))
@[reducible] def Nt:FS:=(fSeq (fSet 3 (fCal Gz (aCons (fVar 0) (aCons (aH bw (az 1) (ao (fCst (.int 0)))) aNil)))) (fRet (fLC (iB2 (ao (aH bw (az 0) (ao (fCst (.int 2)))))) (.many 7) Ls Lw [3,2,1])))
def Bu:FN:=fN 3 4 Nt
@[reducible] def VN:FS:=(oN 2 (az 5) (fVar 4))
@[reducible] def VP:FT:=(lN (fTst (aH jq (az 2) (az 3))) (fTst (aH vC (az 1) (az 4))))
@[reducible] def VR:FE:=(fVar 1)
@[reducible] def V0:FT:=(fTru (az 3))
@[reducible] def V1:FS:=(fSeq (Js 4 (ao (fCst (.int 1)))) (fSeq (fSet 3 (Er (iB2 (az 0)) (.many 3) VP VR [3,2])) (gb (iV (fVar 3)) (gNm 5) VN)))
@[reducible] def MP:FS:=(fSeq (fSet 2 (z6 (az 1) (fCst (.int 0)))) (fSeq (fSet 3 (fLst (aCons (fVar 1) aNil))) (fSeq (fSet 4 (fCst (.int 0))) (fSeq (qY V0 V1) (fRetV 2)))))
def G8:FN:=fN 2 6 MP
@[reducible] def Vj:FT:=(lN (fTst (aH lD (az 1) (az 3))) (lN (fTst (aH jq (az 2) (az 4))) (fTst (aH uz (ao (aH bw (az 4) (az 2))) (ao (aH bw (az 4) (az 3)))))))
@[reducible] def Vk:FE:=(fTup (aCons (fVar 0) (aCons (fVar 2) aNil)))
@[reducible] def Lx:FS:=(fRet (fFun Jb (bCons (ao (fLC (iB2 (az 0)) (.many 3) Vj Vk [2,1])) bNil)))
def GC:FN:=fN 3 3 Lx
@[reducible] def Vx:FT:=(fTst (aH lF (az 1) (az 2)))
@[reducible] def Vy:FS:=(fSeq (fUnp (fCal GC (aCons (fVar 0) (aCons (fVar 3) (aCons (fVar 1) aNil)))) (gTp 2 (gsCons (gNm 5) (gsCons (gNm 1) gsNil)))) (jX 4 (fVar 5)))
@[reducible] def GJ:FS:=(fSeq (fSet 3 (fCal G8 (aCons (fVar 0) (aCons (fVar 2) aNil)))) (fSeq (iC (fTst (aH vC (az 1) (az 3))) (fRet (fCst .none)) fNext) (fSeq (fSet 4 (fLst aNil)) (fSeq (qY Vx Vy) (fRetV 4)))))
def GK:FN:=fN 3 6 GJ
@[reducible] def BL:FS:=(fSeq (iC (qQ (fTru (ao (fCal vf (aCons (fVar 1) (aCons (fVar 2) aNil))))) (fTru (ao (fCal vf (aCons (fVar 1) (aCons (fVar 3) aNil)))))) (fRet (fCst .none)) fNext) (fRet (fCal GK (aCons (fCal Bu (aCons (fVar 0) (aCons (fVar 1) (aCons (fVar 4) aNil)))) (aCons (fVar 2) (aCons (fVar 3) aNil))))))
def HQ:FN:=fN 5 5 BL
@[reducible] def QV:FS:=(fSeq (fSet 2 (aH jy (ao (aH iM (ao (aH bR (ao (aH bR (ao (aH jy (az 0) (ao (fCst (.int 2147483629))))) (ao (aH iM (ao (aH iM (az 1) (az 1))) (ao (fCst (.int 7919))))))) (ao (fCst (.int 11))))) (ao (fCst (.int 48271))))) (ao (fCst (.int 2147483647))))) (fRet (aH jy (ao (aH iM (az 2) (az 2))) (ao (fCst (.int 1999999973))))))
def Dc:FN:=fN 2 3 QV
@[reducible] def Lh:FS:=(fSeq (fSet 2 (yh (fTst (aH uz (az 1) (ao (vN 0)))) (DK 0 (az 1)) (fCst (.int 0)))) (fRet (fLst (aCons (aH bw (ao (fLst (aCons (fCst (.int 0)) (aCons (fFun Dj (bCons (az 2) bNil)) aNil)))) (ao (fFun vO (bCons (ao (aH Jp (ao (fFun Dj (bCons (az 2) bNil))) (ao (aH vL (ao (fCst (.int 10))) (ao (fCst (.int 18))))))) bNil)))) (aCons (aH bR (az 2) (ao (aH iM (ao (fCst (.int 1000003))) (az 1)))) (aCons (fCst (.int 0)) aNil))))))
def Gm:FN:=fN 2 3 Lh
@[reducible] def Il:FS:=(fSeq (oN 0 (ao (fCst (.int 2))) (aH bR (ao (qR 0 (ao (fCst (.int 2))))) (ao (fCst (.int 1))))) (fSeq (iC (fTst (aH uA (ao (qR 0 (ao (fCst (.int 0))))) (ao (fCst (.int 0))))) (fSeq (fSet 2 (aH jy (ao (qR 0 (ao (fCst (.int 0))))) (az 1))) (fSeq (oN 0 (ao (fCst (.int 0))) (aH vG (ao (qR 0 (ao (fCst (.int 0))))) (az 1))) (fRetV 2))) fNext) (fRet (aH jy (ao (aH vG (ao (fCal Dc (aCons (fCal Dc (aCons (qR 0 (ao (fCst (.int 1)))) (aCons (qR 0 (ao (fCst (.int 2)))) aNil))) (aCons (aH bR (ao (qR 0 (ao (fCst (.int 2))))) (ao (fCst (.int 64)))) aNil)))) (ao (fCst (.int 64))))) (az 1)))))
def bO:FN:=fN 2 3 Il
@[reducible] def W3(Qd:FN):FE:=(fCal Qd (aCons (fVar 0) (aCons (fVar 1) aNil)))
@[reducible] def Im(Qd:FN):FS:=(fSeq (iC (fTru (ao (Dl "list" "tuple" (az 1)))) (fSeq (iC (qQ (fTst (aH lF (ao (mV "list" (az 0))) (ao (mV "list" (az 1))))) (fTst (aH lF (ao (mV "tuple" (az 0))) (ao (mV "tuple" (az 1)))))) (fRet (fCst (.bool false))) fNext) (fRet (qK (aH lD (ao (fFun jz (bCons (az 0) bNil))) (ao (fFun jz (bCons (az 1) bNil)))) (fFun Dk (bCons (ao (fLC (JR (bCons (az 0) (bCons (az 1) bNil))) (.many 2) gU (W3 Qd) [])) bNil))))) fNext) (fSeq (iC (qQ (fTst (aH vM (az 1) (ao (fCst .none)))) (fTru (ao (mV "str" (az 1))))) (fRet (qK (aH lD (az 0) (az 1)) (aH lD (ao (mV "str" (az 0))) (ao (mV "str" (az 1)))))) fNext) (fSeq (iC (fTru (ao (mV "bool" (az 1)))) (fRet (qK (mV "bool" (az 0)) (aH lD (az 0) (az 1)))) fNext) (fRet (qK (mV "int" (az 0)) (qK (Ji (mV "bool" (az 0))) (aH lD (az 0) (az 1))))))))
def pI:Nat→FN
 |0=>Rh
 |n+1=>fN 2 2 (Im (pI n))
@[reducible] def yL:FS:=(fSeq (fSet 11 (aH jy (ao (aH bR (az 5) (ao (aH iM (az 6) (az 10))))) (ao (fCst (.int 676))))) (fSeq (fSet 12 (aH bR (ao (aH bw (az 2) (ao (aH vG (az 11) (ao (fCst (.int 26))))))) (ao (aH bw (az 2) (ao (aH jy (az 11) (ao (fCst (.int 26))))))))) (jX 8 (aH bR (ao (aH bR (az 3) (az 12))) (ao (fW (az 4) iT (eV (ao (aH jy (ao (aH bR (ao (aH iM (az 10) (az 10))) (az 5))) (ao (fCst (.int 4))))))))))))
@[reducible] def FZ:FE:=(aH bw (az 1) (ao (aH jy (ao (aH bR (az 2) (ao (aH iM (az 3) (az 0))))) (ao (fCst (.int 26))))))
@[reducible] def Kr:FE:=(fW (az 1) (eV (az 0)) (eV (ao (aH bR (az 0) (az 2)))))
@[reducible] def yM:FS:=(Jv 8 (ao (fLC (gW (ao (aH vK (ao (fCst (.int 9))) (az 9)))) .one gU Kr [7,9])))
@[reducible] def Ga:FE:=(aH bw (az 1) (ao (aH jy (ao (aH bR (az 2) (ao (aH iM (ao (fCst (.int 5))) (az 0))))) (ao (fCst (.int 26))))))
@[reducible] def Ks:FE:=(aH bw (az 1) (ao (fCal bO (aCons (fVar 2) (aCons (fCst (.int 26)) aNil)))))
@[reducible] def Ku:FE:=(aH bw (az 1) (ao (fCal bO (aCons (fVar 2) (aCons (fCst (.int 26)) aNil)))))
@[reducible] def Be:FS:=(fSeq (fSet 2 (fCst (.str (dU "abcdefghijklmnopqrstuvwxyz")))) (fSeq (fSet 3 (qM (ao (fCst (.str (dU "")))) (ao (fLC (gW (ao (fCal bO (aCons (fVar 0) (aCons (fCst (.int 4)) aNil))))) .one gU Ku [2,0])))) (fSeq (fSet 4 (qM (ao (fCst (.str (dU "")))) (ao (fLC (gW (ao (fCal bO (aCons (fVar 0) (aCons (fCst (.int 4)) aNil))))) .one gU Ks [2,0])))) (fSeq (fPar [5,6] (oCons (fCal bO (aCons (fVar 0) (aCons (fCst (.int 676)) aNil))) (oCons (aH bw (ao (fLst (aCons (fCst (.int 1)) (aCons (fCst (.int 3)) (aCons (fCst (.int 5)) (aCons (fCst (.int 7)) (aCons (fCst (.int 25)) (aCons (fCst (.int 675)) aNil)))))))) (ao (fCal bO (aCons (fVar 0) (aCons (fCst (.int 6)) aNil))))) aNil))) (fSeq (iC (fTst (aH lD (ao (fCal bO (aCons (fVar 0) (aCons (fCst (.int 4)) aNil)))) (ao (fCst (.int 0))))) (fSeq (fPar [7,8] (oCons (qM (ao (fCst (.str (dU "")))) (ao (fLC (gW (ao (fCst (.int 8)))) .one gU Ga [2,5]))) (oCons (fLst aNil) aNil))) (fSeq (gb (DQ (ao (fCst (.int 1))) (ao (fCst (.int 9)))) (gNm 9) yM) (fRet (fW (az 8) iT (eV (az 1)))))) fNext) (fSeq (iC (lN (fTst (aH uz (az 1) (ao (fCst (.int 27))))) (fTst (aH lD (ao (fCal bO (aCons (fVar 0) (aCons (fCst (.int 3)) aNil)))) (ao (fCst (.int 0)))))) (fRet (fLC (gW (az 1)) .one gU FZ [2,5,6])) fNext) (fSeq (fSet 8 (fLst aNil)) (fSeq (gb (gW (az 1)) (gNm 10) yL) (fRetV 8)))))))))
def Gn:FN:=fN 2 13 Be
@[reducible] def Vz:FT:=(fTst (aH lF (az 2) (ao (fLst aNil))))
@[reducible] def VB:FS:=(Ro 3 2 (ao (fCal bO (aCons (fVar 0) (aCons (fFun jz (bCons (az 2) bNil)) aNil)))))
@[reducible] def Ml:FS:=(fSeq (fPar [2,3] (oCons (fFun Ii (bCons (az 1) bNil)) (oCons (fLst aNil) aNil))) (fSeq (qY Vz VB) (fRetV 3)))
def Bq:FN:=fN 2 4 Ml
@[reducible] def Mm:FS:=(fSeq (fSet 1 (aH bw (ao (fLst (aCons (fCal bO (aCons (fVar 0) (aCons (fCst (.int 9)) aNil))) (aCons (fCal bO (aCons (fVar 0) (aCons (fCst (.int 9)) aNil))) (aCons (aH vK (ao (fCst (.int 99990))) (ao (fCal bO (aCons (fVar 0) (aCons (fCst (.int 9)) aNil))))) aNil))))) (ao (fCal bO (aCons (fVar 0) (aCons (fCst (.int 3)) aNil)))))) (fRet (fTup (aCons (fVar 1) (aCons (fFun rW (bCons (ao (fCst (.int 99999))) (bCons (ao (aH bR (az 1) (ao (aH bw (ao (fLst (aCons (fCst (.int 0)) (aCons (fCal bO (aCons (fVar 0) (aCons (fCst (.int 12)) aNil))) (aCons (fCst (.int 99999)) aNil))))) (ao (fCal bO (aCons (fVar 0) (aCons (fCst (.int 3)) aNil)))))))) bNil))) aNil)))))
def zc:FN:=fN 1 2 Mm
@[reducible] def Mp:FS:=(fRet (aH bw (ao (fLst (aCons (fCal bO (aCons (fVar 0) (aCons (fCst (.int 4)) aNil))) (aCons (aH bR (ao (fCst (.int 100))) (ao (fCal bO (aCons (fVar 0) (aCons (fCst (.int 4)) aNil))))) (aCons (aH vK (ao (aH vL (ao (fCst (.int 10))) (ao (fCst (.int 9))))) (ao (fCal bO (aCons (fVar 0) (aCons (fCst (.int 3)) aNil))))) aNil))))) (ao (fCal bO (aCons (fVar 0) (aCons (fCst (.int 3)) aNil))))))
def zf:FN:=fN 1 1 Mp
@[reducible] def Ar:FS:=(oN 2 (az 4) (aH bw (ao (aH bR (ao (fLst (aCons (fCst (.str (dU ""))) aNil))) (ao (fW (az 1) iT (eV (az 3)))))) (ao (yh (fTst (aH uA (ao (fCal bO (aCons (fVar 0) (aCons (fCst (.int 4)) aNil)))) (ao (fCst (.int 0))))) (fCal bO (aCons (fVar 0) (aCons (aH bR (az 3) (ao (fCst (.int 1)))) aNil))) (fCst (.int 0))))))
@[reducible] def Li:FS:=(fSeq (fSet 2 CV) (fSeq (gb (JT (fVar 1)) (gTp 2 (gsCons (gNm 3) (gsCons (gNm 4) gsNil))) Ar) (fRetV 2)))
def Gp:FN:=fN 2 5 Li
@[reducible] def Va:FT:=(fTst (aH jq (az 1) (az 0)))
@[reducible] def Vb:FS:=(fSeq (jX 2 (fVar 1)) (fSet 1 (aH bw (az 0) (az 1))))
@[reducible] def Lj:FS:=(fSeq (fSet 2 (fLst aNil)) (fSeq (qY Va Vb) (fRetV 2)))
def yV:FN:=fN 2 3 Lj
@[reducible] def Ly:FS:=(fSeq (jX 2 (fVar 3)) (fSet 3 (aH bR (ao (aH bR (az 3) (ao (fCst (.int 1))))) (ao (aH iM (ao (fCal bO (aCons (fVar 0) (aCons (fCst (.int 2)) aNil)))) (ao (fCal bO (aCons (fVar 0) (aCons (fCst (.int 3)) aNil)))))))))
@[reducible] def Nu:FS:=(fSeq (fPar [2,3] (oCons (fLst aNil) (oCons (fCal bO (aCons (fVar 0) (aCons (fCst (.int 3)) aNil))) aNil))) (fSeq (gb (gW (az 1)) (gNm 4) Ly) (fRetV 2)))
def Hl:FN:=fN 2 5 Nu
@[reducible] def wL:FS:=(fSeq (fSet 9 (fCal bO (aCons (fVar 0) (aCons (fFun jz (bCons (az 2) bNil)) aNil)))) (fSeq (fSet 10 (aH jy (ao (aH bR (ao (aH bR (az 9) (ao (fCst (.int 1))))) (ao (aH iM (ao (fCal bO (aCons (fVar 0) (aCons (aH vK (ao (fFun jz (bCons (az 2) bNil))) (ao (fCst (.int 1)))) aNil)))) (ao (fCal bO (aCons (fVar 0) (aCons (fCst (.int 2)) aNil)))))))) (ao (fFun jz (bCons (az 2) bNil))))) (fSeq (fPar [11,12,13] (oCons (aH bw (ao (fFun Cj (bCons (az 1) bNil))) (ao (fCal bO (aCons (fVar 0) (aCons (fFun jz (bCons (az 1) bNil)) aNil))))) (oCons (fCal zc (aCons (fVar 0) aNil)) (oCons (fCal zf (aCons (fVar 0) aNil)) aNil)))) (fSeq (iC (lN (fTst (aH uA (ao (fCal bO (aCons (fVar 0) (aCons (fCst (.int 3)) aNil)))) (ao (fCst (.int 0))))) (fTst (aH lF (az 7) (ao (fLst aNil))))) (fSeq (fSet 11 (aH bw (az 7) (ao (fCal bO (aCons (fVar 0) (aCons (fFun jz (bCons (az 7) bNil)) aNil)))))) (fSeq (fSet 12 (fTup (aCons (fFun zO (bCons (ao (fCst (.int 0))) (bCons (ao (aH vK (az 5) (ao (fCal bO (aCons (fVar 0) (aCons (fCst (.int 2)) aNil)))))) bNil))) (aCons (fFun rW (bCons (ao (fCst (.int 99999))) (bCons (ao (aH bR (az 5) (ao (fCal bO (aCons (fVar 0) (aCons (fCst (.int 2)) aNil)))))) bNil))) aNil)))) (fSet 13 (fFun rW (bCons (ao (aH vL (ao (fCst (.int 10))) (ao (fCst (.int 9))))) (bCons (ao (aH bR (ao (aH bw (az 4) (ao (fCst (.int 1))))) (ao (fCal bO (aCons (fVar 0) (aCons (fCst (.int 2)) aNil)))))) bNil)))))) fNext) (jX 6 (aH bR (ao (aH bR (ao (fTup (aCons (fVar 8) (aCons (aH bw (az 2) (az 9)) (aCons (aH bw (az 2) (az 10)) (aCons (fVar 11) aNil)))))) (az 12))) (ao (fTup (aCons (fVar 13) aNil)))))))))
@[reducible] def K3:FS:=(fSeq (fPar [6,7] (oCons (fLst aNil) (oCons (fCal yV (aCons (fVar 1) (aCons (aH bw (az 4) (ao (fCst (.int 0)))) aNil))) aNil))) (fSeq (gb (iV (fCal Hl (aCons (fVar 0) (aCons (aH iM (az 3) (ao (fFun vO (bCons (ao (aH uA (ao (fFun jz (bCons (az 2) bNil))) (ao (fCst (.int 1))))) bNil)))) aNil)))) (gNm 8) wL) (fRetV 6)))
def Gh:FN:=fN 6 14 K3
@[reducible] def Mq:FS:=(fRet (fTup (aCons (fFun Cd (bCons (ao (PN (az 0))) bNil)) (aCons (fTup aNil) (aCons (fFun Cd (bCons (az 1) bNil)) (aCons (fTup aNil) aNil))))))
def GP:FN:=fN 2 2 Mq
@[reducible] def Qe:FS:=(fSeq (fSet 2 (fCal Gn (aCons (fVar 0) (aCons (fCst (.int 24)) aNil)))) (fSeq (fSet 3 (fCal Gp (aCons (fVar 0) (aCons (fW (az 2) iT (eV (ao (aH bR (ao (fCst (.int 1))) (ao (fCal bO (aCons (fVar 0) (aCons (fCst (.int 8)) aNil)))))))) aNil)))) (fSeq (fSet 4 (fW (az 2) (eV (ao (fCst (.int 2)))) (eV (ao (aH bR (ao (aH bR (ao (fCst (.int 2))) (ao (fCst (.int 2))))) (ao (fCal bO (aCons (fVar 0) (aCons (aH bw (ao (fLst (aCons (fCst (.int 4)) (aCons (fCst (.int 9)) (aCons (fCst (.int 16)) aNil))))) (ao (fCal bO (aCons (fVar 0) (aCons (fCst (.int 3)) aNil))))) aNil))))))))) (fSeq (fSet 5 (aH bR (az 4) (ao (fW (az 2) (eV (ao (fCst (.int 18)))) (eV (ao (fCst (.int 20)))))))) (fSeq (fSet 6 (fTup (aCons (aH bw (az 5) (ao (fCal bO (aCons (fVar 0) (aCons (fFun jz (bCons (az 5) bNil)) aNil))))) (aCons (aH bw (az 5) (ao (fCal bO (aCons (fVar 0) (aCons (fFun jz (bCons (az 5) bNil)) aNil))))) aNil)))) (fSeq (iC (fTst (aH uA (ao (fCal bO (aCons (fVar 0) (aCons (fCst (.int 3)) aNil)))) (ao (fCst (.int 0))))) (fSet 6 (fTup (aCons (aH bw (az 2) (ao (fCst (.int 20)))) (aCons (aH bw (az 2) (ao (aH bR (ao (fCst (.int 20))) (ao (fCal bO (aCons (fVar 0) (aCons (fCst (.int 2)) aNil))))))) aNil)))) fNext) (fSeq (fSet 7 (aH bw (ao (aH bR (ao (fFun Cj (bCons (az 3) bNil))) (ao (fW (az 2) (eV (ao (fCst (.int 22)))) (eV (ao (fCst (.int 23)))))))) (ao (fCal bO (aCons (fVar 0) (aCons (aH bR (ao (fFun jz (bCons (az 3) bNil))) (ao (fFun vO (bCons (ao (aH lD (ao (fCal bO (aCons (fVar 0) (aCons (fCst (.int 9)) aNil)))) (ao (fCst (.int 0))))) bNil)))) aNil)))))) (fSeq (fPar [8,9] (oCons (aH bR (ao (fTup (aCons (fVar 7) (aCons (fCal zf (aCons (fVar 0) aNil)) aNil)))) (az 6)) (oCons (aH bw (ao (fCal zc (aCons (fVar 0) aNil))) (ao (fCal bO (aCons (fVar 0) (aCons (fCst (.int 2)) aNil))))) aNil))) (fRet (fTup (aCons (fVar 3) (aCons (fVar 4) (aCons (fCal Gh (aCons (fVar 0) (aCons (fVar 3) (aCons (fVar 4) (aCons (fCal bO (aCons (fVar 0) (aCons (aH bR (az 1) (ao (fCst (.int 1)))) aNil))) (aCons (fVar 8) (aCons (fVar 9) aNil))))))) (aCons (fVar 8) (aCons (fVar 9) aNil)))))))))))))))
def Io:FN:=fN 2 10 Qe
@[reducible] def zF:FS:=(fSeq (iC (qQ (fTst (aH jq (ao (aH bw (az 3) (ao (fCst (.int 1))))) (ao (fW (az 1) (eV (ao (fCst (.int 2)))) iT)))) (qQ (fTst (aH jq (ao (aH bw (az 3) (ao (fCst (.int 2))))) (ao (fW (az 1) (eV (ao (fCst (.int 2)))) iT)))) (fTst (aH vC (ao (aH bw (az 3) (ao (fCst (.int 3))))) (ao (fCal yV (aCons (fVar 0) (aCons (aH bw (az 1) (ao (fCst (.int 0)))) aNil)))))))) (fRet (fCst (.bool false))) fNext) (fRet (qK (vW oM oM (ao (aH bw (az 3) (ao (fCst (.int 4))))) (az 2) (ao (aH bw (az 3) (ao (fCst (.int 5)))))) (aH oM (ao (aH bw (az 1) (ao (fCst (.int 1))))) (ao (aH bw (az 3) (ao (fCst (.int 6)))))))))
def Ip:FN:=fN 4 4 zF
@[reducible] def K4:FS:=(iC (fTst (aH jq (ao (aH bw (az 8) (ao (fCst (.int 1))))) (az 6))) (fSeq (fPar [9,10] (oCons (aH bR (ao (aH bw (az 6) (ao (aH bw (az 8) (ao (fCst (.int 1))))))) (ao (fLst (aCons (aH bw (az 8) (ao (fCst (.int 0)))) aNil)))) (oCons (uC (az 6) (ao (aH bw (az 8) (ao (fCst (.int 2))))) (fCst .none)) aNil))) (iC (qQ (fTst (aH vM (az 10) (ao (fCst .none)))) (fTst (aH Dt (ao (fTup (aCons (fFun jz (bCons (az 9) bNil)) (aCons (fVar 9) aNil)))) (ao (fTup (aCons (fFun jz (bCons (az 10) bNil)) (aCons (fVar 10) aNil))))))) (oN 6 (ao (aH bw (az 8) (ao (fCst (.int 2))))) (fVar 9)) fNext)) fNext)
@[reducible] def VD:FS:=(gb (iV (fVar 5)) (gNm 8) K4)
@[reducible] def K5:FT:=(fTru (ao (fCal Ip (aCons (fVar 1) (aCons (fVar 2) (aCons (fVar 3) (aCons (fVar 0) aNil)))))))
@[reducible] def K6:FE:=(fVar 0)
@[reducible] def GQ:FS:=(fSeq (iC (fTst (aH jq (az 3) (ao (fW (az 2) (eV (ao (fCst (.int 2)))) iT)))) (fRet CV) fNext) (fSeq (fPar [5,6] (oCons (fLC (iB (az 1)) .one K5 K6 [0,2,4]) (oCons (z6 (az 3) (fLst aNil)) aNil))) (fSeq (gb (gW (ao (fFun jz (bCons (az 5) bNil)))) (gNm 7) VD) (fRetV 6))))
def GR:FN:=fN 5 11 GQ
@[reducible] def Oz:FS:=(fSeq (fSet 14 (fCal HQ (aCons (fVar 8) (aCons (fVar 6) (aCons (fVar 11) (aCons (fVar 13) (aCons (fVar 7) aNil))))))) (fSeq (iC (xR (fTru (ao (fCal (pI 3) (aCons (fVar 14) (aCons (uC (az 12) (az 13) (fCst .none)) aNil)))))) (fRet (fCst (.bool false))) fNext) (iC (fTst (aH CP (az 14) (ao (fCst .none)))) (jX 14 (fCst (.int 7))) fNext)))
@[reducible] def OD:FS:=(fSeq (fSet 12 (fCal GR (aCons (fVar 3) (aCons (fVar 5) (aCons (fVar 6) (aCons (fVar 11) (aCons (fVar 7) aNil))))))) (gb (iV (aH Ja (az 9) (ao (fCst (.int 2))))) (gNm 13) Oz))
@[reducible] def OJ:FS:=(fSeq (Dz 2 (fCal Gm (aCons (fVar 0) (aCons (fVar 1) aNil)))) (fSeq (fUnp (fCal Io (aCons (fVar 2) (aCons (fCst (.int 16)) aNil))) (gTp 5 (gsCons (gNm 3) (gsCons (gNm 4) (gsCons (gNm 5) (gsCons (gNm 6) (gsCons (gNm 7) gsNil))))))) (fSeq (fPar [8,9] (oCons (fCal GP (aCons (fVar 3) (aCons (fVar 5) aNil))) (oCons (fW (ao (fCal Bq (aCons (fVar 2) (aCons (fVar 4) aNil)))) iT (eV (ao (fCst (.int 5))))) aNil))) (fSeq (fSet 10 (fFun Jc (bCons (ao (fLst (aCons (fVar 8) (aCons (fVar 6) aNil)))) bNil))) (fSeq (gb (iV (fVar 9)) (gNm 11) OD) (iC (fTst (aH lF (ao (fFun Jc (bCons (ao (fLst (aCons (fVar 8) (aCons (fVar 6) aNil)))) bNil))) (az 10))) (fRet (fCst (.bool false))) fNext))))))
@[reducible] def Ru:FS:=(fSeq (gb (gW (ao (aH bR (ao (fCst (.int 1))) (ao (fFun rW (bCons (ao (fCst (.int 5))) (bCons (ao (vN 0)) bNil))))))) (gNm 1) OJ) (fRet (fCst (.bool true))))
def z9:FN:=fN 1 15 Ru
theorem aer{P:bf}{w:aY}{K:aC}{mg:Str→Option Value}{base:aU}{f:aa}{fd:dg}(F:fM K "parts_over" "parts_over" Gx f fd)(T:Txt K mg):cY P w K mg base eO 1 f fd (["house","part"]:List Str) (spT K Gz):=
 iQ (body:=Lr) F Gk fun cdv A outer s H E hr=>(bH (aht (i:=2) (T:=(.many 2)) (NT:=(["name","within"]:List Str)) (NF:=([]:List Str)) (js:=[]) (qP.ok (N0:=(["house","part","outer","over"]:List Str)) (mZ:=cO Gx) (by decide +kernel) rfl rfl) (⟨_,_,_,rfl,(.cons ⟨_,rfl⟩ (.cons ⟨_,rfl⟩ .nil)),rfl⟩) rfl hr.bN (Jk (aq (cR (cP hr.bN) cU (aK (pv 0)) (aq (aM aN)) (fun _ _=>rfl)))) (fun b=>⟨xr,(aP (pv 0)),(aP (pv 1))⟩) (by rfl) Gk.nd rfl rfl) (bH (dW (i:=3) Gk.nd rfl (cC rfl) (jh aW)) (bH (BJ lZ (fQ (rR hr.bN) rZ (aK (pv 1)) (aK (pv 2)) (by with_unfolding_all rfl)) (bH (xH (pv 3) (aP (pv 1))) (cg (dW (i:=1) Gk.nd rfl (cC rfl) (cR (cP hr.bN) cU (aK (pv 2)) (aK (pv 1)) (fun _ _=>rfl)))))) (cg (qt (pv 3))))))
theorem afL{P:bf}{w:aY}{K:aC}{mg:Str→Option Value}{base:aU}{f:aa}{fd:dg}(F:fM K "is_side" "is_side" Np f fd)(T:Txt K mg):cY P w K mg base eO 1 f fd (["paper","person"]:List Str) (spT K vf):=
 iQ (body:=Nr) F afK fun cdv A outer s H E hr=>(cg (gO (rQ (rR hr.bN) rZ (aK (pv 1)) (aq (oG (aK (pv 0)) (j8 (aq (aM aN))) (j8 (aq (aM aN))))) (by with_unfolding_all rfl))))
theorem afM{P:bf}{w:aY}{K:aC}{mg:Str→Option Value}{base:aU}{f:aa}{fd:dg}(F:fM K "ways_on" "ways_on" Hj f fd)(T:Txt K mg)(Lz:dD P w K mg base "parts_over" 1 (["house","part"]:List Str) (spT K Gz))(vg:dD P w K mg base "is_side" 1 (["paper","person"]:List Str) (spT K vf)):cY P w K mg base eO 2 f fd (["house","paper","day"]:List Str) (spT K Bu):=
 iQ (body:=Nt) F W2 fun cdv A outer s H E hr=>(bH (dW (i:=3) W2.nd rfl (qz rfl) (bK Lz (hr.mono (by decide)) rfl (aG (aP (pv 0)) (aG (cR (cP hr.bN) cU (aK (pv 1)) (aq (aM aN)) (fun _ _=>rfl)) aW)))) (cg (gO (uh (T:=(.many 7)) (NT:=(["number","giver","taker","part","first","last","most"]:List Str)) (NF:=(["over","day","paper"]:List Str)) (js:=[3,2,1]) (qP.ok (N0:=(["house","paper","day","over"]:List Str)) (mZ:=cO Hj) (by decide +kernel) rfl rfl) (⟨_,_,_,rfl,(.cons ⟨_,rfl⟩ (.cons ⟨_,rfl⟩ (.cons ⟨_,rfl⟩ (.cons ⟨_,rfl⟩ (.cons ⟨_,rfl⟩ (.cons ⟨_,rfl⟩ (.cons ⟨_,rfl⟩ .nil))))))),rfl⟩) rfl (Jk (aq (cR (cP hr.bN) cU (aK (pv 0)) (aq (aM aN)) (fun _ _=>rfl)))) (fun b=>⟨(Ig (PW.pt (ud (fQ (rR hr.bN) rZ (aK (pv 3)) (aK (pv 7)) (by with_unfolding_all rfl)) (ud (akc zK zU zK zU (aK (pv 4)) (aK (pv 8)) (aK (pv 5))) (ud (fQ zK zU (aq (cR (cP hr.bN) cU (aK (pv 9)) (aq (aM aN)) (fun _ _=>rfl))) (aK (pv 6)) (f9 _)) (ud (Qz (rT (aq (bK vg (hr.mono (by decide)) rfl (aG (aP (pv 9)) (aG (aP (pv 1)) aW)))))) (Ca (Qz (rT (aq (bK vg (hr.mono (by decide)) rfl (aG (aP (pv 9)) (aG (aP (pv 2)) aW))))))))))))),(mH (aG (aP (pv 0)) (aG (aP (pv 1)) (aG (aP (pv 2)) aW))))⟩)))))
theorem ae8{P:bf}{w:aY}{K:aC}{mg:Str→Option Value}{base:aU}{f:aa}{fd:dg}(F:fM K "steps_to" "steps_to" G6 f fd)(T:Txt K mg):cY P w K mg base eO 1 f fd (["ways","signer"]:List Str) (spT K G8):=
 iQ (body:=MP) F wY fun cdv A outer s H E hr=>(bH (dW (i:=2) wY.nd rfl (qz rfl) (YH (aK (pv 1)) (aM aN))) (bH (dW (i:=3) wY.nd rfl (qz rfl) (jh (aG (aP (pv 1)) aW))) (bH (dW (i:=4) wY.nd rfl (cC rfl) (aM aN)) (bH (BJ lZ (rT (aK (pv 3))) (bH (akf (i:=4) wY.nd rfl (cC rfl) (aq (aM aN))) (bH (dW (i:=3) wY.nd rfl (qz rfl) (ali (T:=(.many 3)) (NT:=(["number","giver","taker"]:List Str)) (NF:=(["newest","steps"]:List Str)) (js:=[3,2]) (qP.ok (N0:=(["ways","signer","steps","newest","many","person"]:List Str)) (mZ:=cO G6) (by decide +kernel) rfl rfl) (⟨_,_,_,rfl,(.cons ⟨_,rfl⟩ (.cons ⟨_,rfl⟩ (.cons ⟨_,rfl⟩ .nil))),rfl⟩) rfl rfl T.zu (Jk (aK (pv 0))) (fun b=>⟨(Ig (PW.pt (ud (fQ (rR hr.bN) rZ (aK (pv 2)) (aK (pv 3)) (by with_unfolding_all rfl)) (Ca (fQ (Nh hr.bN) Oa (aK (pv 1)) (aK (pv 4)) (by with_unfolding_all rfl)))))),(aP (pv 1))⟩))) (cg (qF lZ rfl (DG (aP (pv 3))) (jf (i:=5) wY.nd rfl (cC rfl)) jT (cg (CW hr.bN (pv 2) (aK (pv 5)) (aP (pv 4))))))))) (cg (qt (pv 2)))))))
theorem aes{P:bf}{w:aY}{K:aC}{mg:Str→Option Value}{base:aU}{f:aa}{fd:dg}(F:fM K "nearer_way" "nearer_way" Gy f fd)(T:Txt K mg):cY P w K mg base eO 1 f fd (["ways","steps","person"]:List Str) (spT K GC):=
 iQ (body:=Lx) F aeq fun cdv A outer s H E hr=>(cg (gO (gK (aep rfl hr.bN) ai6 rfl T.xW (by decide +kernel) (cX (aq (uh (T:=(.many 3)) (NT:=(["number","giver","taker"]:List Str)) (NF:=(["person","steps"]:List Str)) (js:=[2,1]) (qP.ok (N0:=(["ways","steps","person"]:List Str)) (mZ:=cO Gy) (by decide +kernel) rfl rfl) (⟨_,_,_,rfl,(.cons ⟨_,rfl⟩ (.cons ⟨_,rfl⟩ (.cons ⟨_,rfl⟩ .nil))),rfl⟩) rfl (Jk (aK (pv 0))) (fun b=>⟨(Ig (PW.pt (ud (fQ (uc hr.units) uf (aK (pv 1)) (aK (pv 3)) (f9 _)) (ud (fQ (rR hr.bN) rZ (aK (pv 2)) (aK (pv 4)) (by with_unfolding_all rfl)) (Ca (fQ (My hr.Qq) Rg (aq (cR (cP hr.bN) cU (aK (pv 4)) (aK (pv 2)) (fun _ _=>rfl))) (aq (cR (cP hr.bN) cU (aK (pv 4)) (aK (pv 3)) (fun _ _=>rfl))) (f9 _))))))),(mH (aG (aP (pv 0)) (aG (aP (pv 2)) aW)))⟩))) dY))))
theorem aeO{P:bf}{w:aY}{K:aC}{mg:Str→Option Value}{base:aU}{f:aa}{fd:dg}(F:fM K "first_row" "first_row" Ma f fd)(T:Txt K mg)(MT:dD P w K mg base "steps_to" 1 (["ways","signer"]:List Str) (spT K G8))(LC:dD P w K mg base "nearer_way" 1 (["ways","steps","person"]:List Str) (spT K GC)):cY P w K mg base eO 2 f fd (["ways","holder","signer"]:List Str) (spT K GK):=
 iQ (body:=GJ) F Bh fun cdv A outer s H E hr=>(bH (dW (i:=3) Bh.nd rfl (cC rfl) (bK MT (hr.mono (by decide)) rfl (aG (aP (pv 0)) (aG (aP (pv 2)) aW)))) (bH (j7 (fQ (Nh hr.bN) Oa (aK (pv 1)) (aK (pv 3)) (by with_unfolding_all rfl)) (cg (gO (aM xx))) j6) (bH (dW (i:=4) Bh.nd rfl (cC rfl) (jh aW)) (bH (BJ lZ (fQ (zJ hr.units) zT (aK (pv 1)) (aK (pv 2)) (f9 _)) (bH (aas (bK LC (hr.mono (by decide)) rfl (aG (aP (pv 0)) (aG (aP (pv 3)) (aG (aP (pv 1)) aW)))) (Cq rfl (nY (jf (i:=5) Bh.nd rfl (cC rfl)) (nY (jf (i:=1) Bh.nd rfl (cC rfl)) BP))) (QB (tR jT (tR jT Pq)))) (cg (xH (pv 4) (aP (pv 5)))))) (cg (qt (pv 4)))))))
theorem agI{P:bf}{w:aY}{K:aC}{mg:Str→Option Value}{base:aU}{f:aa}{fd:dg}(F:fM K "row_of" "row_of" Ox f fd)(T:Txt K mg)(vg:dD P w K mg base "is_side" 1 (["paper","person"]:List Str) (spT K vf))(Nv:dD P w K mg base "ways_on" 2 (["house","paper","day"]:List Str) (spT K Bu))(Mr:dD P w K mg base "first_row" 2 (["ways","holder","signer"]:List Str) (spT K GK)):cY P w K mg base eO 3 f fd (["house","paper","holder","signer","day"]:List Str) (spT K HQ):=
 iQ (body:=BL) F agH fun cdv A outer s H E hr=>(bH (j7 (PW.pt (zV (rT (aq (bK vg (hr.mono (by decide)) rfl (aG (aP (pv 1)) (aG (aP (pv 2)) aW))))) (CQ (rT (aq (bK vg (hr.mono (by decide)) rfl (aG (aP (pv 1)) (aG (aP (pv 3)) aW)))))))) (cg (gO (aM xx))) j6) (cg (gO (bK Mr (hr.mono (by decide)) rfl (aG (bK Nv (hr.mono (by decide)) rfl (aG (aP (pv 0)) (aG (aP (pv 1)) (aG (aP (pv 4)) aW)))) (aG (aP (pv 2)) (aG (aP (pv 3)) aW)))))))
theorem ajd{P:bf}{w:aY}{K:aC}{mg:Str→Option Value}{base:aU}{f:aa}{fd:dg}(F:fM K "_law_mix" "_law_mix" QT f fd)(T:Txt K mg):cY P w K mg base eO 1 f fd (["_law_cell","_law_k"]:List Str) (spT K Dc):=
 iQ (body:=QV) F ZZ fun cdv A outer s H E hr=>(bH (dW (i:=2) ZZ.nd rfl (cC rfl) (bM qw qC (aq (bM oh oA (aq (bM fD fH (aq (bM fD fH (aq (bM qw qC (aK (pv 0)) (aq (aM aN)))) (aq (bM oh oA (aq (bM oh oA (aK (pv 1)) (aK (pv 1)))) (aq (aM aN)))))) (aq (aM aN)))) (aq (aM aN)))) (aq (aM aN)))) (cg (gO (bM qw qC (aq (bM oh oA (aK (pv 2)) (aK (pv 2)))) (aq (aM aN))))))
theorem aef{P:bf}{w:aY}{K:aC}{mg:Str→Option Value}{base:aU}{f:aa}{fd:dg}(F:fM K "_law_drawn_from" "_law_drawn_from" Le f fd)(T:Txt K mg):cY P w K mg base eO 1 f fd (["_law_script","_law_k"]:List Str) (spT K Gm):=
 iQ (body:=Lh) F Vw fun cdv A outer s H E hr=>(bH (dW (i:=2) Vw.nd rfl (cC rfl) (aa1 (fQ (My hr.Qq) Rg (aK (pv 1)) (aq (ZG (pv 0) rfl T.jV (by decide +kernel))) (f9 _)) (akh (pv 0) (aK (pv 1)) (fun _ _=>rfl)) (aM aN))) (cg (gO (jh (aG (cR (cP hr.bN) cU (aq (jh (aG (aM aN) (aG (gK XX aav rfl T.Jl (by decide +kernel) (cX (aK (pv 2)) dY)) aW)))) (aq (vo M6 QF rfl T.z8 (by decide +kernel) (cX (aq (rQ ak1 alc (aq (gK XX aav rfl T.Jl (by decide +kernel) (cX (aK (pv 2)) dY))) (aq (bM Qn Qy (aq (aM aN)) (aq (aM aN)))) (f9 _))) dY))) (fun _ _=>rfl)) (aG (bM fD fH (aK (pv 2)) (aq (bM oh oA (aq (aM aN)) (aK (pv 1))))) (aG (aM aN) aW)))))))
theorem ahH{P:bf}{w:aY}{K:aC}{mg:Str→Option Value}{base:aU}{f:aa}{fd:dg}(F:fM K "_law_pick" "_law_pick" P0 f fd)(T:Txt K mg)(Jd:dD P w K mg base "_law_mix" 1 (["_law_cell","_law_k"]:List Str) (spT K Dc)):cY P w K mg base eO 2 f fd (["_law_left","_law_many"]:List Str) (spT K bO):=
 iQ (body:=Il) F YT fun cdv A outer s H E hr=>(bH (CW hr.bN (pv 0) (aq (aM aN)) (bM fD fH (aq (xJ (pv 0) (aq (aM aN)) (fun _ _=>rfl))) (aq (aM aN)))) (bH (j7 (fQ Df Dh (aq (xJ (pv 0) (aq (aM aN)) (fun _ _=>rfl))) (aq (aM aN)) (f9 _)) (bH (dW (i:=2) YT.nd rfl (cC rfl) (bM qw qC (aq (xJ (pv 0) (aq (aM aN)) (fun _ _=>rfl))) (aK (pv 1)))) (bH (CW hr.bN (pv 0) (aq (aM aN)) (bM O5 Pk (aq (xJ (pv 0) (aq (aM aN)) (fun _ _=>rfl))) (aK (pv 1)))) (cg (qt (pv 2))))) j6) (cg (gO (bM qw qC (aq (bM O5 Pk (aq (bK Jd (hr.mono (by decide)) rfl (aG (bK Jd (hr.mono (by decide)) rfl (aG (xJ (pv 0) (aq (aM aN)) (fun _ _=>rfl)) (aG (xJ (pv 0) (aq (aM aN)) (fun _ _=>rfl)) aW))) (aG (bM fD fH (aq (xJ (pv 0) (aq (aM aN)) (fun _ _=>rfl))) (aq (aM aN))) aW)))) (aq (aM aN)))) (aK (pv 1)))))))
theorem ahI{P:bf}{w:aY}{K:aC}{mg:Str→Option Value}{base:aU}{f:aa}{fd:dg}(n:Nat)(F:fM K "_law_same" "_law_same" Ck f fd)(T:Txt K mg)(Cm:dD P w K mg base "_law_same" n (["_law_found","_law_due"]:List Str) (spT K (pI n))):cY P w K mg base eO (n+1) f fd (["_law_found","_law_due"]:List Str) (spT K (pI (n+1))):=
 iQ (body:=Im (pI n)) F ahF fun cdv A outer s H E hr=>(bH (j7 (rT (aq (aiP (by decide) (by decide) (aK (pv 1)) (nZ (v:=.ty "list") rfl T.zP (by decide +kernel) rfl) (nZ (v:=.ty "tuple") rfl T.xu (by decide +kernel) rfl) rfl T.m8 (by decide +kernel)))) (bH (j7 (PW.pt (zV (fQ (zJ hr.units) zT (aq (qG (by decide) (aK (pv 0)) (nZ (v:=.ty "list") rfl T.zP (by decide +kernel) rfl) rfl T.m8 (by decide +kernel))) (aq (qG (by decide) (aK (pv 1)) (nZ (v:=.ty "list") rfl T.zP (by decide +kernel) rfl) rfl T.m8 (by decide +kernel))) (f9 _)) (CQ (fQ (zJ hr.units) zT (aq (qG (by decide) (aK (pv 0)) (nZ (v:=.ty "tuple") rfl T.xu (by decide +kernel) rfl) rfl T.m8 (by decide +kernel))) (aq (qG (by decide) (aK (pv 1)) (nZ (v:=.ty "tuple") rfl T.xu (by decide +kernel) rfl) rfl T.m8 (by decide +kernel))) (f9 _))))) (cg (gO (aM De))) j6) (cg (gO (zL (rQ (uc hr.units) uf (aq (gK mD mJ rfl T.jV (by decide +kernel) (cX (aK (pv 0)) dY))) (aq (gK mD mJ rfl T.jV (by decide +kernel) (cX (aK (pv 1)) dY))) (f9 _)) (CT (gK (ag8 rfl) aki rfl T.Rq (by decide +kernel) (cX (aq (uh (T:=(.many 2)) (NT:=(["_law_one","_law_other"]:List Str)) (NF:=([]:List Str)) (js:=[]) (qP.ok (N0:=(["_law_found","_law_due"]:List Str)) (mZ:=cO Ck) (by decide +kernel) rfl rfl) (⟨_,_,_,rfl,(.cons ⟨_,rfl⟩ (.cons ⟨_,rfl⟩ .nil)),rfl⟩) rfl (akk rfl T.Rt (cX (aK (pv 0)) (cX (aK (pv 1)) dY))) (fun b=>⟨xr,(bK Cm hr rfl (aG (aP (pv 0)) (aG (aP (pv 1)) aW)))⟩))) dY))))))) j6) (bH (j7 (PW.pt (zV (fQ aac aao (aK (pv 1)) (aq (aM xx)) (f9 _)) (CQ (rT (aq (qG (by decide) (aK (pv 1)) (nZ (v:=.ty "str") rfl T.xX (by decide +kernel) rfl) rfl T.m8 (by decide +kernel))))))) (cg (gO (zL (rQ (uc hr.units) uf (aK (pv 0)) (aK (pv 1)) (f9 _)) (CT (rQ (uc hr.units) uf (aq (qG (by decide) (aK (pv 0)) (nZ (v:=.ty "str") rfl T.xX (by decide +kernel) rfl) rfl T.m8 (by decide +kernel))) (aq (qG (by decide) (aK (pv 1)) (nZ (v:=.ty "str") rfl T.xX (by decide +kernel) rfl) rfl T.m8 (by decide +kernel))) (f9 _)))))) j6) (bH (j7 (rT (aq (qG (by decide) (aK (pv 1)) (nZ (v:=.ty "bool") rfl T.CZ (by decide +kernel) rfl) rfl T.m8 (by decide +kernel)))) (cg (gO (zL (qG (by decide) (aK (pv 0)) (nZ (v:=.ty "bool") rfl T.CZ (by decide +kernel) rfl) rfl T.m8 (by decide +kernel)) (CT (rQ (uc hr.units) uf (aK (pv 0)) (aK (pv 1)) (f9 _)))))) j6) (cg (gO (zL (qG (by decide) (aK (pv 0)) (nZ (v:=.ty "int") rfl T.z8 (by decide +kernel) rfl) rfl T.m8 (by decide +kernel)) (zL (akd (qG (by decide) (aK (pv 0)) (nZ (v:=.ty "bool") rfl T.CZ (by decide +kernel) rfl) rfl T.m8 (by decide +kernel))) (CT (rQ (uc hr.units) uf (aK (pv 0)) (aK (pv 1)) (f9 _))))))))))
theorem XF{P:bf}{w:aY}{K:aC}{mg:Str→Option Value}{base:aU}{f:aa}{fd:dg}(hm:mg "_law_same"=some (.ref f))(hk:uV K (.ref f)=true)(hb:Binds K fd (["_law_found","_law_due"]:List Str) [])(F:fM K "_law_same" "_law_same" Ck f fd)(T:Txt K mg):
  ∀n,dD P w K mg base "_law_same" n (["_law_found","_law_due"]:List Str) (spT K (pI n))
 |0=>⟨f,fd,hm,hk,hb,aiU⟩
 |n+1=>⟨f,fd,hm,hk,hb,ahI n F T (XF hm hk hb F T n)⟩
theorem aeg{P:bf}{w:aY}{K:aC}{mg:Str→Option Value}{base:aU}{f:aa}{fd:dg}(F:fM K "_law_some_names" "_law_some_names" uY f fd)(T:Txt K mg)(bY:dD P w K mg base "_law_pick" 2 (["_law_left","_law_many"]:List Str) (spT K bO)):cY P w K mg base eO 3 f fd (["_law_left","_law_many"]:List Str) (spT K Gn):=
 iQ (body:=Be) F nR fun cdv A outer s H E hr=>(bH (dW (i:=2) nR.nd rfl (qz rfl) (aM Cp)) (bH (dW (i:=3) nR.nd rfl (cC rfl) (Py (aq (aM Cp)) (aq (uh (T:=.one) (NT:=(["_law_turn"]:List Str)) (NF:=(["_law_letters","_law_left"]:List Str)) (js:=[2,0]) (qP.ok (N0:=(["_law_left","_law_many","_law_letters","_law_head","_law_tail","_law_first","_law_by","_law_stem","_law_found","_law_size","_law_k","_law_value","_law_two"]:List Str)) (mZ:=cO uY) (by decide +kernel) rfl rfl) (⟨_,⟨_,rfl⟩,rfl⟩) rfl (tU rfl T.pH (aq (bK bY (hr.mono (by decide)) rfl (aG (aP (pv 0)) (aG (aM aN) aW))))) (fun b=>⟨xr,(cR (cP hr.bN) cU (aK (pv 1)) (aq (bK bY (hr.mono (by decide)) rfl (aG (aP (pv 2)) (aG (aM aN) aW)))) (fun _ _=>rfl))⟩))))) (bH (dW (i:=4) nR.nd rfl (cC rfl) (Py (aq (aM Cp)) (aq (uh (T:=.one) (NT:=(["_law_turn"]:List Str)) (NF:=(["_law_letters","_law_left"]:List Str)) (js:=[2,0]) (qP.ok (N0:=(["_law_left","_law_many","_law_letters","_law_head","_law_tail","_law_first","_law_by","_law_stem","_law_found","_law_size","_law_k","_law_value","_law_two"]:List Str)) (mZ:=cO uY) (by decide +kernel) rfl rfl) (⟨_,⟨_,rfl⟩,rfl⟩) rfl (tU rfl T.pH (aq (bK bY (hr.mono (by decide)) rfl (aG (aP (pv 0)) (aG (aM aN) aW))))) (fun b=>⟨xr,(cR (cP hr.bN) cU (aK (pv 1)) (aq (bK bY (hr.mono (by decide)) rfl (aG (aP (pv 2)) (aG (aM aN) aW)))) (fun _ _=>rfl))⟩))))) (bH (Zz (is:=[5,6]) (jw (bK bY (hr.mono (by decide)) rfl (aG (aP (pv 0)) (aG (aM aN) aW))) (jw (cR (cP hr.bN) cU (aq (jh (aG (aM aN) (aG (aM aN) (aG (aM aN) (aG (aM aN) (aG (aM aN) (aG (aM aN) aW)))))))) (aq (bK bY (hr.mono (by decide)) rfl (aG (aP (pv 0)) (aG (aM aN) aW)))) (fun _ _=>rfl)) rU)) (Cq rfl (nY (jf (i:=5) nR.nd rfl (qz rfl)) (nY (jf (i:=6) nR.nd rfl (qz rfl)) BP)))) (bH (j7 (fQ (uc hr.units) uf (aq (bK bY (hr.mono (by decide)) rfl (aG (aP (pv 0)) (aG (aM aN) aW)))) (aq (aM aN)) (f9 _)) (bH (Zz (is:=[7,8]) (jw (Py (aq (aM Cp)) (aq (uh (T:=.one) (NT:=(["_law_k"]:List Str)) (NF:=(["_law_letters","_law_first"]:List Str)) (js:=[2,5]) (qP.ok (N0:=(["_law_left","_law_many","_law_letters","_law_head","_law_tail","_law_first","_law_by","_law_stem","_law_found","_law_size","_law_k","_law_value","_law_two"]:List Str)) (mZ:=cO uY) (by decide +kernel) rfl rfl) (⟨_,⟨_,rfl⟩,rfl⟩) rfl (tU rfl T.pH (aq (aM aN))) (fun b=>⟨xr,(cR (cP hr.bN) cU (aK (pv 1)) (aq (bM qw qC (aq (bM fD fH (aK (pv 2)) (aq (bM oh oA (aq (aM aN)) (aK (pv 0)))))) (aq (aM aN)))) (fun _ _=>rfl))⟩)))) (jw (jh aW) rU)) (Cq rfl (nY (jf (i:=7) nR.nd rfl (qz rfl)) (nY (jf (i:=8) nR.nd rfl (cC rfl)) BP)))) (bH (qF lZ rfl (agz rfl T.pH (cX (aq (aM aN)) (cX (aq (aM aN)) dY))) (jf (i:=9) nR.nd rfl (qz rfl)) jT (cg (akt (pv 8) (aq (uh (T:=.one) (NT:=(["_law_k"]:List Str)) (NF:=(["_law_stem","_law_size"]:List Str)) (js:=[7,9]) (qP.ok (N0:=(["_law_left","_law_many","_law_letters","_law_head","_law_tail","_law_first","_law_by","_law_stem","_law_found","_law_size","_law_k","_law_value","_law_two"]:List Str)) (mZ:=cO uY) (by decide +kernel) rfl rfl) (⟨_,⟨_,rfl⟩,rfl⟩) rfl (tU rfl T.pH (aq (bM Cv CN (aq (aM aN)) (aK (pv 9))))) (fun b=>⟨xr,(oG (aK (pv 1)) (j8 (aK (pv 0))) (j8 (aq (bM fD fH (aK (pv 0)) (aK (pv 2))))))⟩)))))) (cg (gO (oG (aK (pv 8)) vP (j8 (aK (pv 1)))))))) j6) (bH (j7 (PW.pt (ud (fQ (My hr.Qq) Rg (aK (pv 1)) (aq (aM aN)) (f9 _)) (Ca (fQ (uc hr.units) uf (aq (bK bY (hr.mono (by decide)) rfl (aG (aP (pv 0)) (aG (aM aN) aW)))) (aq (aM aN)) (f9 _))))) (cg (gO (uh (T:=.one) (NT:=(["_law_k"]:List Str)) (NF:=(["_law_letters","_law_first","_law_by"]:List Str)) (js:=[2,5,6]) (qP.ok (N0:=(["_law_left","_law_many","_law_letters","_law_head","_law_tail","_law_first","_law_by","_law_stem","_law_found","_law_size","_law_k","_law_value","_law_two"]:List Str)) (mZ:=cO uY) (by decide +kernel) rfl rfl) (⟨_,⟨_,rfl⟩,rfl⟩) rfl (tU rfl T.pH (aK (pv 1))) (fun b=>⟨xr,(cR (cP hr.bN) cU (aK (pv 1)) (aq (bM qw qC (aq (bM fD fH (aK (pv 2)) (aq (bM oh oA (aK (pv 3)) (aK (pv 0)))))) (aq (aM aN)))) (fun _ _=>rfl))⟩)))) j6) (bH (dW (i:=8) nR.nd rfl (cC rfl) (jh aW)) (bH (qF lZ rfl (tU rfl T.pH (aK (pv 1))) (jf (i:=10) nR.nd rfl (cC rfl)) jT (bH (dW (i:=11) nR.nd rfl (cC rfl) (bM qw qC (aq (bM fD fH (aK (pv 5)) (aq (bM oh oA (aK (pv 6)) (aK (pv 10)))))) (aq (aM aN)))) (bH (dW (i:=12) nR.nd rfl (cC rfl) (bM fD fH (aq (cR (cP hr.bN) cU (aK (pv 2)) (aq (bM O5 Pk (aK (pv 11)) (aq (aM aN)))) (fun _ _=>rfl))) (aq (cR (cP hr.bN) cU (aK (pv 2)) (aq (bM qw qC (aK (pv 11)) (aq (aM aN)))) (fun _ _=>rfl))))) (cg (xH (pv 8) (bM fD fH (aq (bM fD fH (aK (pv 3)) (aK (pv 12)))) (aq (oG (aK (pv 4)) vP (j8 (aq (bM qw qC (aq (bM fD fH (aq (bM oh oA (aK (pv 10)) (aK (pv 10)))) (aK (pv 5)))) (aq (aM aN))))))))))))) (cg (qt (pv 8)))))))))))
theorem aeP{P:bf}{w:aY}{K:aC}{mg:Str→Option Value}{base:aU}{f:aa}{fd:dg}(F:fM K "_law_shuffled" "_law_shuffled" Mf f fd)(T:Txt K mg)(bY:dD P w K mg base "_law_pick" 2 (["_law_left","_law_many"]:List Str) (spT K bO)):cY P w K mg base eO 3 f fd (["_law_left","_law_things"]:List Str) (spT K Bq):=
 iQ (body:=Ml) F Wc fun cdv A outer s H E hr=>(bH (xG (i:=2) (j:=3) rfl Wc.nd rfl rfl (by decide) rfl rfl (jw (vo (afD rfl) ahu rfl T.zP (by decide +kernel) (cX (aK (pv 1)) dY)) (jw (jh aW) rU)) rfl) (bH (BJ lZ (fQ (zJ hr.units) zT (aK (pv 2)) (aq (jh aW)) (f9 _)) (cg (ai8 (pv 3) (pv 2) (aq (bK bY (hr.mono (by decide)) rfl (aG (aP (pv 0)) (aG (gK mD mJ rfl T.jV (by decide +kernel) (cX (aK (pv 2)) dY)) aW))))))) (cg (qt (pv 3)))))
theorem aeQ{P:bf}{w:aY}{K:aC}{mg:Str→Option Value}{base:aU}{f:aa}{fd:dg}(F:fM K "_law_two_days" "_law_two_days" Mg f fd)(T:Txt K mg)(bY:dD P w K mg base "_law_pick" 2 (["_law_left","_law_many"]:List Str) (spT K bO)):cY P w K mg base eO 3 f fd (["_law_left"]:List Str) (spT K zc):=
 iQ (body:=Mm) F Wd fun cdv A outer s H E hr=>(bH (dW (i:=1) Wd.nd rfl (cC rfl) (cR (cP hr.bN) cU (aq (jh (aG (bK bY (hr.mono (by decide)) rfl (aG (aP (pv 0)) (aG (aM aN) aW))) (aG (bK bY (hr.mono (by decide)) rfl (aG (aP (pv 0)) (aG (aM aN) aW))) (aG (bM Cv CN (aq (aM aN)) (aq (bK bY (hr.mono (by decide)) rfl (aG (aP (pv 0)) (aG (aM aN) aW))))) aW))))) (aq (bK bY (hr.mono (by decide)) rfl (aG (aP (pv 0)) (aG (aM aN) aW)))) (fun _ _=>rfl))) (cg (gO (mH (aG (aP (pv 1)) (aG (gK (Hg rfl) Ih rfl T.xW (by decide +kernel) (cX (aq (aM aN)) (cX (aq (bM fD fH (aK (pv 1)) (aq (cR (cP hr.bN) cU (aq (jh (aG (aM aN) (aG (bK bY (hr.mono (by decide)) rfl (aG (aP (pv 0)) (aG (aM aN) aW))) (aG (aM aN) aW))))) (aq (bK bY (hr.mono (by decide)) rfl (aG (aP (pv 0)) (aG (aM aN) aW)))) (fun _ _=>rfl))))) dY))) aW))))))
theorem aeR{P:bf}{w:aY}{K:aC}{mg:Str→Option Value}{base:aU}{f:aa}{fd:dg}(F:fM K "_law_some_sum" "_law_some_sum" Mh f fd)(T:Txt K mg)(bY:dD P w K mg base "_law_pick" 2 (["_law_left","_law_many"]:List Str) (spT K bO)):cY P w K mg base eO 3 f fd (["_law_left"]:List Str) (spT K zf):=
 iQ (body:=Mp) F aeM fun cdv A outer s H E hr=>(cg (gO (cR (cP hr.bN) cU (aq (jh (aG (bK bY (hr.mono (by decide)) rfl (aG (aP (pv 0)) (aG (aM aN) aW))) (aG (bM fD fH (aq (aM aN)) (aq (bK bY (hr.mono (by decide)) rfl (aG (aP (pv 0)) (aG (aM aN) aW))))) (aG (bM Cv CN (aq (bM Qn Qy (aq (aM aN)) (aq (aM aN)))) (aq (bK bY (hr.mono (by decide)) rfl (aG (aP (pv 0)) (aG (aM aN) aW))))) aW))))) (aq (bK bY (hr.mono (by decide)) rfl (aG (aP (pv 0)) (aG (aM aN) aW)))) (fun _ _=>rfl))))
theorem aeh{P:bf}{w:aY}{K:aC}{mg:Str→Option Value}{base:aU}{f:aa}{fd:dg}(F:fM K "_law_some_parts" "_law_some_parts" Lf f fd)(T:Txt K mg)(bY:dD P w K mg base "_law_pick" 2 (["_law_left","_law_many"]:List Str) (spT K bO)):cY P w K mg base eO 3 f fd (["_law_left","_law_names"]:List Str) (spT K Gp):=
 iQ (body:=Li) F Gg fun cdv A outer s H E hr=>(bH (dW (i:=2) Gg.nd rfl (cC rfl) Yk) (bH (qF lZ rfl (ai4 rfl T.Mj (aP (pv 1))) (Cq rfl (nY (jf (i:=3) Gg.nd rfl (cC rfl)) (nY (jf (i:=4) Gg.nd rfl (cC rfl)) BP))) (QB (tR jT (tR jT Pq))) (cg (CW hr.bN (pv 2) (aK (pv 4)) (cR (cP hr.bN) cU (aq (bM fD fH (aq (jh (aG (aM Cp) aW))) (aq (oG (aK (pv 1)) vP (j8 (aK (pv 3))))))) (aq (aa1 (fQ Df Dh (aq (bK bY (hr.mono (by decide)) rfl (aG (aP (pv 0)) (aG (aM aN) aW)))) (aq (aM aN)) (f9 _)) (bK bY (hr.mono (by decide)) rfl (aG (aP (pv 0)) (aG (bM fD fH (aK (pv 3)) (aq (aM aN))) aW))) (aM aN))) (fun _ _=>rfl))))) (cg (qt (pv 2)))))
theorem aei{P:bf}{w:aY}{K:aC}{mg:Str→Option Value}{base:aU}{f:aa}{fd:dg}(F:fM K "_law_parts_over" "_law_parts_over" Lg f fd)(T:Txt K mg):cY P w K mg base eO 1 f fd (["_law_parts","_law_part"]:List Str) (spT K yV):=
 iQ (body:=Lj) F KZ fun cdv A outer s H E hr=>(bH (dW (i:=2) KZ.nd rfl (cC rfl) (jh aW)) (bH (BJ lZ (fQ (rR hr.bN) rZ (aK (pv 1)) (aK (pv 0)) (by with_unfolding_all rfl)) (bH (xH (pv 2) (aP (pv 1))) (cg (dW (i:=1) KZ.nd rfl (cC rfl) (cR (cP hr.bN) cU (aK (pv 0)) (aK (pv 1)) (fun _ _=>rfl)))))) (cg (qt (pv 2)))))
theorem afN{P:bf}{w:aY}{K:aC}{mg:Str→Option Value}{base:aU}{f:aa}{fd:dg}(F:fM K "_law_rising" "_law_rising" Nq f fd)(T:Txt K mg)(bY:dD P w K mg base "_law_pick" 2 (["_law_left","_law_many"]:List Str) (spT K bO)):cY P w K mg base eO 3 f fd (["_law_left","_law_many"]:List Str) (spT K Hl):=
 iQ (body:=Nu) F G7 fun cdv A outer s H E hr=>(bH (xG (i:=2) (j:=3) rfl G7.nd rfl rfl (by decide) rfl rfl (jw (jh aW) (jw (bK bY (hr.mono (by decide)) rfl (aG (aP (pv 0)) (aG (aM aN) aW))) rU)) rfl) (bH (qF lZ rfl (tU rfl T.pH (aK (pv 1))) (jf (i:=4) G7.nd rfl (cC rfl)) jT (bH (xH (pv 2) (aP (pv 3))) (cg (dW (i:=3) G7.nd rfl (cC rfl) (bM fD fH (aq (bM fD fH (aK (pv 3)) (aq (aM aN)))) (aq (bM oh oA (aq (bK bY (hr.mono (by decide)) rfl (aG (aP (pv 0)) (aG (aM aN) aW)))) (aq (bK bY (hr.mono (by decide)) rfl (aG (aP (pv 0)) (aG (aM aN) aW))))))))))) (cg (qt (pv 2)))))
theorem ad7{P:bf}{w:aY}{K:aC}{mg:Str→Option Value}{base:aU}{f:aa}{fd:dg}(F:fM K "_law_some_leaves" "_law_some_leaves" K1 f fd)(T:Txt K mg)(bY:dD P w K mg base "_law_pick" 2 (["_law_left","_law_many"]:List Str) (spT K bO))(zg:dD P w K mg base "_law_two_days" 3 (["_law_left"]:List Str) (spT K zc))(zj:dD P w K mg base "_law_some_sum" 3 (["_law_left"]:List Str) (spT K zf))(yW:dD P w K mg base "_law_parts_over" 1 (["_law_parts","_law_part"]:List Str) (spT K yV))(Nx:dD P w K mg base "_law_rising" 3 (["_law_left","_law_many"]:List Str) (spT K Hl)):cY P w K mg base eO 4 f fd (["_law_left","_law_parts","_law_people","_law_many","_law_paper","_law_day"]:List Str) (spT K Gh):=
 iQ (body:=K3) F tH fun cdv A outer s H E hr=>(bH (xG (i:=6) (j:=7) rfl tH.nd rfl rfl (by decide) rfl rfl (jw (jh aW) (jw (bK yW (hr.mono (by decide)) rfl (aG (aP (pv 1)) (aG (cR (cP hr.bN) cU (aK (pv 4)) (aq (aM aN)) (fun _ _=>rfl)) aW))) rU)) rfl) (bH (qF lZ rfl (DG (bK Nx (hr.mono (by decide)) rfl (aG (aP (pv 0)) (aG (bM oh oA (aK (pv 3)) (aq (vo M6 QF rfl T.z8 (by decide +kernel) (cX (aq (rQ Df Dh (aq (gK mD mJ rfl T.jV (by decide +kernel) (cX (aK (pv 2)) dY))) (aq (aM aN)) (f9 _))) dY)))) aW)))) (jf (i:=8) tH.nd rfl (cC rfl)) jT (bH (dW (i:=9) tH.nd rfl (cC rfl) (bK bY (hr.mono (by decide)) rfl (aG (aP (pv 0)) (aG (gK mD mJ rfl T.jV (by decide +kernel) (cX (aK (pv 2)) dY)) aW)))) (bH (dW (i:=10) tH.nd rfl (cC rfl) (bM qw qC (aq (bM fD fH (aq (bM fD fH (aK (pv 9)) (aq (aM aN)))) (aq (bM oh oA (aq (bK bY (hr.mono (by decide)) rfl (aG (aP (pv 0)) (aG (bM Cv CN (aq (gK mD mJ rfl T.jV (by decide +kernel) (cX (aK (pv 2)) dY))) (aq (aM aN))) aW)))) (aq (bK bY (hr.mono (by decide)) rfl (aG (aP (pv 0)) (aG (aM aN) aW)))))))) (aq (gK mD mJ rfl T.jV (by decide +kernel) (cX (aK (pv 2)) dY))))) (bH (ajb (i:=11) (j:=12) (k:=13) rfl tH.nd rfl rfl rfl (by decide) (by decide) (by decide) rfl rfl rfl (jw (cR (cP hr.bN) cU (aq (gK (Vv rfl) YS rfl T.zu (by decide +kernel) (cX (aK (pv 1)) dY))) (aq (bK bY (hr.mono (by decide)) rfl (aG (aP (pv 0)) (aG (gK mD mJ rfl T.jV (by decide +kernel) (cX (aK (pv 1)) dY)) aW)))) (fun _ _=>rfl)) (jw (bK zg (hr.mono (by decide)) rfl (aG (aP (pv 0)) aW)) (jw (bK zj (hr.mono (by decide)) rfl (aG (aP (pv 0)) aW)) rU))) rfl) (bH (j7 (PW.pt (ud (fQ Df Dh (aq (bK bY (hr.mono (by decide)) rfl (aG (aP (pv 0)) (aG (aM aN) aW)))) (aq (aM aN)) (f9 _)) (Ca (fQ (zJ hr.units) zT (aK (pv 7)) (aq (jh aW)) (f9 _))))) (bH (dW (i:=11) tH.nd rfl (cC rfl) (cR (cP hr.bN) cU (aK (pv 7)) (aq (bK bY (hr.mono (by decide)) rfl (aG (aP (pv 0)) (aG (gK mD mJ rfl T.jV (by decide +kernel) (cX (aK (pv 7)) dY)) aW)))) (fun _ _=>rfl))) (bH (dW (i:=12) tH.nd rfl (cC rfl) (mH (aG (gK (af0 rfl) aiO rfl T.Rr (by decide +kernel) (cX (aq (aM aN)) (cX (aq (bM Cv CN (aK (pv 5)) (aq (bK bY (hr.mono (by decide)) rfl (aG (aP (pv 0)) (aG (aM aN) aW)))))) dY))) (aG (gK (Hg rfl) Ih rfl T.xW (by decide +kernel) (cX (aq (aM aN)) (cX (aq (bM fD fH (aK (pv 5)) (aq (bK bY (hr.mono (by decide)) rfl (aG (aP (pv 0)) (aG (aM aN) aW)))))) dY))) aW)))) (cg (dW (i:=13) tH.nd rfl (cC rfl) (gK (Hg rfl) Ih rfl T.xW (by decide +kernel) (cX (aq (bM Qn Qy (aq (aM aN)) (aq (aM aN)))) (cX (aq (bM fD fH (aq (cR (cP hr.bN) cU (aK (pv 4)) (aq (aM aN)) (fun _ _=>rfl))) (aq (bK bY (hr.mono (by decide)) rfl (aG (aP (pv 0)) (aG (aM aN) aW)))))) dY))))))) j6) (cg (xH (pv 6) (bM fD fH (aq (bM fD fH (aq (mH (aG (aP (pv 8)) (aG (cR (cP hr.bN) cU (aK (pv 2)) (aK (pv 9)) (fun _ _=>rfl)) (aG (cR (cP hr.bN) cU (aK (pv 2)) (aK (pv 10)) (fun _ _=>rfl)) (aG (aP (pv 11)) aW)))))) (aK (pv 12)))) (aq (mH (aG (aP (pv 13)) aW))))))))))) (cg (qt (pv 6)))))
theorem aeS{P:bf}{w:aY}{K:aC}{mg:Str→Option Value}{base:aU}{f:aa}{fd:dg}(F:fM K "_law_house_of" "_law_house_of" Mi f fd)(T:Txt K mg):cY P w K mg base eO 1 f fd (["_law_parts","_law_leaves"]:List Str) (spT K GP):=
 iQ (body:=Mq) F aeN fun cdv A outer s H E hr=>(cg (gO (mH (aG (vo VH Ys rfl T.xu (by decide +kernel) (cX (aq (agF rfl (aK (pv 0)) rfl T.zu)) dY)) (aG (mH aW) (aG (vo VH Ys rfl T.xu (by decide +kernel) (cX (aK (pv 1)) dY)) (aG (mH aW) aW)))))))
theorem ahJ{P:bf}{w:aY}{K:aC}{mg:Str→Option Value}{base:aU}{f:aa}{fd:dg}(F:fM K "_law_case" "_law_case" Qa f fd)(T:Txt K mg)(bY:dD P w K mg base "_law_pick" 2 (["_law_left","_law_many"]:List Str) (spT K bO))(Lk:dD P w K mg base "_law_some_names" 3 (["_law_left","_law_many"]:List Str) (spT K Gn))(zg:dD P w K mg base "_law_two_days" 3 (["_law_left"]:List Str) (spT K zc))(zj:dD P w K mg base "_law_some_sum" 3 (["_law_left"]:List Str) (spT K zf))(Ln:dD P w K mg base "_law_some_parts" 3 (["_law_left","_law_names"]:List Str) (spT K Gp))(K7:dD P w K mg base "_law_some_leaves" 4 (["_law_left","_law_parts","_law_people","_law_many","_law_paper","_law_day"]:List Str) (spT K Gh)):cY P w K mg base eO 5 f fd (["_law_left","_law_most"]:List Str) (spT K Io):=
 iQ (body:=Qe) F tV fun cdv A outer s H E hr=>(bH (dW (i:=2) tV.nd rfl (cC rfl) (bK Lk (hr.mono (by decide)) rfl (aG (aP (pv 0)) (aG (aM aN) aW)))) (bH (dW (i:=3) tV.nd rfl (cC rfl) (bK Ln (hr.mono (by decide)) rfl (aG (aP (pv 0)) (aG (oG (aK (pv 2)) vP (j8 (aq (bM fD fH (aq (aM aN)) (aq (bK bY (hr.mono (by decide)) rfl (aG (aP (pv 0)) (aG (aM aN) aW)))))))) aW)))) (bH (dW (i:=4) tV.nd rfl (cC rfl) (oG (aK (pv 2)) (j8 (aq (aM aN))) (j8 (aq (bM fD fH (aq (bM fD fH (aq (aM aN)) (aq (aM aN)))) (aq (bK bY (hr.mono (by decide)) rfl (aG (aP (pv 0)) (aG (cR (cP hr.bN) cU (aq (jh (aG (aM aN) (aG (aM aN) (aG (aM aN) aW))))) (aq (bK bY (hr.mono (by decide)) rfl (aG (aP (pv 0)) (aG (aM aN) aW)))) (fun _ _=>rfl)) aW))))))))) (bH (dW (i:=5) tV.nd rfl (cC rfl) (bM fD fH (aK (pv 4)) (aq (oG (aK (pv 2)) (j8 (aq (aM aN))) (j8 (aq (aM aN))))))) (bH (dW (i:=6) tV.nd rfl (cC rfl) (mH (aG (cR (cP hr.bN) cU (aK (pv 5)) (aq (bK bY (hr.mono (by decide)) rfl (aG (aP (pv 0)) (aG (gK mD mJ rfl T.jV (by decide +kernel) (cX (aK (pv 5)) dY)) aW)))) (fun _ _=>rfl)) (aG (cR (cP hr.bN) cU (aK (pv 5)) (aq (bK bY (hr.mono (by decide)) rfl (aG (aP (pv 0)) (aG (gK mD mJ rfl T.jV (by decide +kernel) (cX (aK (pv 5)) dY)) aW)))) (fun _ _=>rfl)) aW)))) (bH (j7 (fQ Df Dh (aq (bK bY (hr.mono (by decide)) rfl (aG (aP (pv 0)) (aG (aM aN) aW)))) (aq (aM aN)) (f9 _)) (cg (dW (i:=6) tV.nd rfl (cC rfl) (mH (aG (cR (cP hr.bN) cU (aK (pv 2)) (aq (aM aN)) (fun _ _=>rfl)) (aG (cR (cP hr.bN) cU (aK (pv 2)) (aq (bM fD fH (aq (aM aN)) (aq (bK bY (hr.mono (by decide)) rfl (aG (aP (pv 0)) (aG (aM aN) aW)))))) (fun _ _=>rfl)) aW))))) j6) (bH (dW (i:=7) tV.nd rfl (cC rfl) (cR (cP hr.bN) cU (aq (bM fD fH (aq (gK (Vv rfl) YS rfl T.zu (by decide +kernel) (cX (aK (pv 3)) dY))) (aq (oG (aK (pv 2)) (j8 (aq (aM aN))) (j8 (aq (aM aN))))))) (aq (bK bY (hr.mono (by decide)) rfl (aG (aP (pv 0)) (aG (bM fD fH (aq (gK mD mJ rfl T.jV (by decide +kernel) (cX (aK (pv 3)) dY))) (aq (vo M6 QF rfl T.z8 (by decide +kernel) (cX (aq (rQ (uc hr.units) uf (aq (bK bY (hr.mono (by decide)) rfl (aG (aP (pv 0)) (aG (aM aN) aW)))) (aq (aM aN)) (f9 _))) dY)))) aW)))) (fun _ _=>rfl))) (bH (xG (i:=8) (j:=9) rfl tV.nd rfl rfl (by decide) rfl rfl (jw (bM fD fH (aq (mH (aG (aP (pv 7)) (aG (bK zj (hr.mono (by decide)) rfl (aG (aP (pv 0)) aW)) aW)))) (aK (pv 6))) (jw (cR (cP hr.bN) cU (aq (bK zg (hr.mono (by decide)) rfl (aG (aP (pv 0)) aW))) (aq (bK bY (hr.mono (by decide)) rfl (aG (aP (pv 0)) (aG (aM aN) aW)))) (fun _ _=>rfl)) rU)) rfl) (cg (gO (mH (aG (aP (pv 3)) (aG (aP (pv 4)) (aG (bK K7 (hr.mono (by decide)) rfl (aG (aP (pv 0)) (aG (aP (pv 3)) (aG (aP (pv 4)) (aG (bK bY (hr.mono (by decide)) rfl (aG (aP (pv 0)) (aG (bM fD fH (aK (pv 1)) (aq (aM aN))) aW))) (aG (aP (pv 8)) (aG (aP (pv 9)) aW))))))) (aG (aP (pv 8)) (aG (aP (pv 9)) aW))))))))))))))))
theorem ahK{P:bf}{w:aY}{K:aC}{mg:Str→Option Value}{base:aU}{f:aa}{fd:dg}(F:fM K "_law_lets" "_law_lets" Qc f fd)(T:Txt K mg)(yW:dD P w K mg base "_law_parts_over" 1 (["_law_parts","_law_part"]:List Str) (spT K yV)):cY P w K mg base eO 2 f fd (["_law_parts","_law_paper","_law_day","_law_leave"]:List Str) (spT K Ip):=
 iQ (body:=zF) F ahG fun cdv A outer s H E hr=>(bH (j7 (PW.pt (zV (fQ (rR hr.bN) rZ (aq (cR (cP hr.bN) cU (aK (pv 3)) (aq (aM aN)) (fun _ _=>rfl))) (aq (oG (aK (pv 1)) (j8 (aq (aM aN))) vP)) (by with_unfolding_all rfl)) (zV (fQ (rR hr.bN) rZ (aq (cR (cP hr.bN) cU (aK (pv 3)) (aq (aM aN)) (fun _ _=>rfl))) (aq (oG (aK (pv 1)) (j8 (aq (aM aN))) vP)) (by with_unfolding_all rfl)) (CQ (fQ (Nh hr.bN) Oa (aq (cR (cP hr.bN) cU (aK (pv 3)) (aq (aM aN)) (fun _ _=>rfl))) (aq (bK yW (hr.mono (by decide)) rfl (aG (aP (pv 0)) (aG (cR (cP hr.bN) cU (aK (pv 1)) (aq (aM aN)) (fun _ _=>rfl)) aW)))) (by with_unfolding_all rfl)))))) (cg (gO (aM De))) j6) (cg (gO (zL (akb zK zU zK zU (aq (cR (cP hr.bN) cU (aK (pv 3)) (aq (aM aN)) (fun _ _=>rfl))) (aK (pv 2)) (aq (cR (cP hr.bN) cU (aK (pv 3)) (aq (aM aN)) (fun _ _=>rfl)))) (CT (rQ zK zU (aq (cR (cP hr.bN) cU (aK (pv 1)) (aq (aM aN)) (fun _ _=>rfl))) (aq (cR (cP hr.bN) cU (aK (pv 3)) (aq (aM aN)) (fun _ _=>rfl))) (f9 _)))))))
theorem aeT{P:bf}{w:aY}{K:aC}{mg:Str→Option Value}{base:aU}{f:aa}{fd:dg}(F:fM K "_law_all_rows" "_law_all_rows" GF f fd)(T:Txt K mg)(Qf:dD P w K mg base "_law_lets" 2 (["_law_parts","_law_paper","_law_day","_law_leave"]:List Str) (spT K Ip)):cY P w K mg base eO 3 f fd (["_law_parts","_law_leaves","_law_paper","_law_holder","_law_day"]:List Str) (spT K GR):=
 iQ (body:=GQ) F Bj fun cdv A outer s H E hr=>(bH (j7 (fQ (rR hr.bN) rZ (aK (pv 3)) (aq (oG (aK (pv 2)) (j8 (aq (aM aN))) vP)) (by with_unfolding_all rfl)) (cg (gO Yk)) j6) (bH (xG (i:=5) (j:=6) rfl Bj.nd rfl rfl (by decide) rfl rfl (jw (uh (T:=.one) (NT:=(["_law_leave"]:List Str)) (NF:=(["_law_parts","_law_paper","_law_day"]:List Str)) (js:=[0,2,4]) (qP.ok (N0:=(["_law_parts","_law_leaves","_law_paper","_law_holder","_law_day","_law_steps","_law_best","_law_turn","_law_leave","_law_row","_law_old"]:List Str)) (mZ:=cO GF) (by decide +kernel) rfl rfl) (⟨_,⟨_,rfl⟩,rfl⟩) rfl (alS (aK (pv 1))) (fun b=>⟨(Ig (rT (aq (bK Qf (hr.mono (by decide)) rfl (aG (aP (pv 1)) (aG (aP (pv 2)) (aG (aP (pv 3)) (aG (aP (pv 0)) aW)))))))),(aP (pv 0))⟩)) (jw (YH (aK (pv 3)) (jh aW)) rU)) rfl) (bH (qF lZ rfl (tU rfl T.pH (aq (gK mD mJ rfl T.jV (by decide +kernel) (cX (aK (pv 5)) dY)))) (jf (i:=7) Bj.nd rfl (cC rfl)) jT (cg (qF lZ rfl (DG (aP (pv 5))) (jf (i:=8) Bj.nd rfl (cC rfl)) jT (cg (j7 (fQ (rR hr.bN) rZ (aq (cR (cP hr.bN) cU (aK (pv 8)) (aq (aM aN)) (fun _ _=>rfl))) (aK (pv 6)) (by with_unfolding_all rfl)) (bH (xG (i:=9) (j:=10) rfl Bj.nd rfl rfl (by decide) rfl rfl (jw (bM fD fH (aq (cR (cP hr.bN) cU (aK (pv 6)) (aq (cR (cP hr.bN) cU (aK (pv 8)) (aq (aM aN)) (fun _ _=>rfl))) (fun _ _=>rfl))) (aq (jh (aG (cR (cP hr.bN) cU (aK (pv 8)) (aq (aM aN)) (fun _ _=>rfl)) aW)))) (jw (aaB hr.bN (aK (pv 6)) (aq (cR (cP hr.bN) cU (aK (pv 8)) (aq (aM aN)) (fun _ _=>rfl))) (aM xx) ⟨rfl,rfl,rfl,rfl⟩) rU)) rfl) (cg (j7 (PW.pt (zV (fQ aac aao (aK (pv 10)) (aq (aM xx)) (f9 _)) (CQ (fQ (akz hr.bN) akA (aq (mH (aG (gK mD mJ rfl T.jV (by decide +kernel) (cX (aK (pv 9)) dY)) (aG (aP (pv 9)) aW)))) (aq (mH (aG (gK mD mJ rfl T.jV (by decide +kernel) (cX (aK (pv 10)) dY)) (aG (aP (pv 10)) aW)))) (f9 _))))) (cg (CW hr.bN (pv 6) (aq (cR (cP hr.bN) cU (aK (pv 8)) (aq (aM aN)) (fun _ _=>rfl))) (aP (pv 9)))) j6))) j6))))) (cg (qt (pv 6))))))
theorem akB{P:bf}{w:aY}{K:aC}{mg:Str→Option Value}{base:aU}{f:aa}{fd:dg}(F:fM K "law" "law" Rp f fd)(T:Txt K mg)(O1:dD P w K mg base "row_of" 3 (["house","paper","holder","signer","day"]:List Str) (spT K HQ))(Lp:dD P w K mg base "_law_drawn_from" 1 (["_law_script","_law_k"]:List Str) (spT K Gm))(Cm:dD P w K mg base "_law_same" 3 (["_law_found","_law_due"]:List Str) (spT K (pI 3)))(Ms:dD P w K mg base "_law_shuffled" 3 (["_law_left","_law_things"]:List Str) (spT K Bq))(Mt:dD P w K mg base "_law_house_of" 1 (["_law_parts","_law_leaves"]:List Str) (spT K GP))(Qg:dD P w K mg base "_law_case" 5 (["_law_left","_law_most"]:List Str) (spT K Io))(Mu:dD P w K mg base "_law_all_rows" 3 (["_law_parts","_law_leaves","_law_paper","_law_holder","_law_day"]:List Str) (spT K GR)):cY P w K mg base eO 6 f fd (["_law_script"]:List Str) (spT K z9):=
 iQ (body:=Ru) F nq fun cdv A outer s H E hr=>(bH (qF lZ rfl (tU rfl T.pH (aq (bM fD fH (aq (aM aN)) (aq (gK (Hg rfl) Ih rfl T.xW (by decide +kernel) (cX (aq (aM aN)) (cX (aq (ZG (pv 0) rfl T.jV (by decide +kernel))) dY))))))) (jf (i:=1) nq.nd rfl (cC rfl)) jT (bH (ake (i:=2) nq.nd rfl (cC rfl) (bK Lp (hr.mono (by decide)) rfl (aG (aP (pv 0)) (aG (aP (pv 1)) aW)))) (bH (aas (bK Qg (hr.mono (by decide)) rfl (aG (aP (pv 2)) (aG (aM aN) aW))) (Cq rfl (nY (jf (i:=3) nq.nd rfl (cC rfl)) (nY (jf (i:=4) nq.nd rfl (cC rfl)) (nY (jf (i:=5) nq.nd rfl (cC rfl)) (nY (jf (i:=6) nq.nd rfl (cC rfl)) (nY (jf (i:=7) nq.nd rfl (cC rfl)) BP)))))) (QB (tR jT (tR jT (tR jT (tR jT (tR jT Pq))))))) (bH (xG (i:=8) (j:=9) rfl nq.nd rfl rfl (by decide) rfl rfl (jw (bK Mt (hr.mono (by decide)) rfl (aG (aP (pv 3)) (aG (aP (pv 5)) aW))) (jw (oG (aq (bK Ms (hr.mono (by decide)) rfl (aG (aP (pv 2)) (aG (aP (pv 4)) aW)))) vP (j8 (aq (aM aN)))) rU)) rfl) (bH (dW (i:=10) nq.nd rfl (cC rfl) (vo (Xz hr.gd hr.units) ZS rfl T.xX (by decide +kernel) (cX (aq (jh (aG (aP (pv 8)) (aG (aP (pv 6)) aW)))) dY))) (bH (qF lZ rfl (DG (aP (pv 9))) (jf (i:=11) nq.nd rfl (cC rfl)) jT (bH (dW (i:=12) nq.nd rfl (cC rfl) (bK Mu (hr.mono (by decide)) rfl (aG (aP (pv 3)) (aG (aP (pv 5)) (aG (aP (pv 6)) (aG (aP (pv 11)) (aG (aP (pv 7)) aW))))))) (cg (qF lZ rfl (DG (bM aiY aiZ (aK (pv 9)) (aq (aM aN)))) (jf (i:=13) nq.nd rfl (cC rfl)) jT (bH (dW (i:=14) nq.nd rfl (cC rfl) (bK O1 (hr.mono (by decide)) rfl (aG (aP (pv 8)) (aG (aP (pv 6)) (aG (aP (pv 11)) (aG (aP (pv 13)) (aG (aP (pv 7)) aW))))))) (bH (j7 (Qz (rT (aq (bK Cm (hr.mono (by decide)) rfl (aG (aP (pv 14)) (aG (aaB hr.bN (aK (pv 12)) (aK (pv 13)) (aM xx) ⟨rfl,rfl,rfl,rfl⟩) aW)))))) (cg (gO (aM De))) j6) (cg (j7 (fQ ah7 aiF (aK (pv 14)) (aq (aM xx)) (f9 _)) (cg (xH (pv 14) (aM aN))) j6)))))))) (cg (j7 (fQ (zJ hr.units) zT (aq (vo (Xz hr.gd hr.units) ZS rfl T.xX (by decide +kernel) (cX (aq (jh (aG (aP (pv 8)) (aG (aP (pv 6)) aW)))) dY))) (aK (pv 10)) (f9 _)) (cg (gO (aM De))) j6)))))))) (cg (gO (aM De))))
local macro_rules|`(tactic|simp_arith[$ts,*])=>`(tactic|simp only[e_bin,e_dat,e_bv,e_and,e_or,e_not,e_if,e_ifv,fVar,fTst,fTru,truD,fCst,dat,still,fCal,fFun,aCons,aNil,bCons,bNil,oCons,fSet,fSeq,fRet,fRetV,fNext,fNeg,fLst,fTup,allIm,iB,iV,iB2,iV2,itD,itD2,fLC,frB,fPar,setM,fUnp,gTp,gsCons,gsNil,gNm,LIM,add_int,sub_int,le_int,lt_int,ge_int,gt_int,eq_int,eq_strs,ne_strs,in_strs,ix_t,ix_l,a_t0,a_t1,a_t2,a_t3,a_t4,a_t5,a_t6,rst_same,r_ow,r_bool,r_int,r_str,r_tl,Option.bind_some,Option.map_some,List.getElem?_cons_zero,List.getElem?_cons_succ,List.set_cons_zero,List.set_cons_succ,List.map_cons,List.map_nil,List.length_cons,List.length_nil,Bool.not_true,Bool.not_false,if_true,if_false,ite_self,Bool.false_eq_true,Option.join,id_eq,Nat.reduceAdd,Nat.reduceLeDiff,Nat.reduceLT,and_true,true_and,and_self,String.reduceBEq,Bool.or_false,Bool.or_true,Bool.false_or,Bool.true_or,Bool.and_true,Bool.and_false,Bool.true_and,Bool.false_and,decide_true,decide_false,reduceCtorEq,eq_bool,ne_bool,ne_int,len_l,len_t,beq_self_eq_true,List.length_map,h_ix0,h_ix1,h_ix2,h_ix3,k_ix0,k_ix1,k_ix2,k_ix3,k_ix4,k_ix5,noLs_strs,noLs_ints,imO,putO,intD,strD,cond_true,cond_false,$ts,*])
theorem aaI{C:Ce}{c k:Int}(k0:0≤k)(k1:k≤1000000):∃r:Int,Dc [.im (.int c),.im (.int k)] C=some (.im (.int r),C)∧0≤r:=by
 obtain⟨m,hm⟩:∃m,(c%2147483629+k*k*7919+11)*48271%2147483647=m:=⟨_,rfl⟩
 have m0:0≤m:=by rw[←hm];exact lY _ (by decide)
 have m1:m<2147483647:=by rw[←hm];exact rC _ (by decide)
 refine⟨m*m%1999999973,gj [some (.im (.int c)),some (.im (.int k)),none] rfl rfl ?_ rfl rfl,lY _ (by decide)⟩
 simp_arith[QV,mod_eq (i:=c) (j:=2147483629) (by decide),mul_eq (i:=k) (j:=k) (.inl (by omega)),mul_eq (i:=k*k) (j:=7919) (.inr (by decide)),mul_eq (i:=c%2147483629+k*k*7919+11) (j:=48271) (.inr (by decide)),mod_eq (i:=(c%2147483629+k*k*7919+11)*48271) (j:=2147483647) (by decide),hm,mul_eq (i:=m) (j:=m) (.inl (by omega)),mod_eq (i:=m*m) (j:=1999999973) (by decide)]
theorem dw{C:Ce}{b L k:Nat}{m:Int}(h:Bl L C b (k+1))(h0:0<m)(h1:m<1073741824):
  ∃t C',bO [.ce b,.im (.int m)] C=some (.im (.int t),C')∧0≤t∧t<m∧Bl L C' b k:=by
 obtain⟨hL,x,y,z,hc,hx,hz,hz2⟩:=h
 have i0:mX 3 0=some 0:=rfl;have i2:mX 3 2=some 2:=rfl;have c2:(C.set b [x,y,z+1])[b]?=some [x,y,z+1]:=aaD hc;by_cases hp:0<x
 ·refine⟨x%m,(C.set b [x,y,z+1]).set b [x / m,y,z+1],gj [some (.ce b),some (.im (.int m)),none] rfl rfl ?_ rfl (by simp),lY _ (by omega),rC _ h0,⟨by simpa using hL,x / m,y,z+1,aaD c2,ad8 hx (by omega),by omega,by omega⟩⟩
  simp_arith[Il,qR,hc,c2,hp,mod_eq h0,fdiv_eq h0 h1,oN,qL,i0,i2]
 ·obtain⟨r1,e1,p1⟩:=aaI (C:=C.set b [x,y,z+1]) (c:=y) (k:=z+1) (by omega) (by omega)
  obtain⟨r2,e2,p2⟩:=aaI (C:=C.set b [x,y,z+1]) (c:=r1) (k:=z+1+64) (by omega) (by omega)
  refine⟨r2 / 64%m,C.set b [x,y,z+1],gj [some (.ce b),some (.im (.int m)),none] rfl rfl ?_ rfl (by simp),lY _ (by omega),rC _ h0,⟨by simpa using hL,x,y,z+1,c2,hx,by omega,by omega⟩⟩
  simp_arith[Il,qR,hc,c2,hp,oN,qL,i0,i2,e1,e2,fdiv_eq (j:=64) (by omega) (by omega),mod_eq h0]
theorem ahL{C:Ce}{ns:List Int}{k:Int}(k0:0≤k)(k9:k≤100):∃x y:Int,Gm [.sc ns,.im (.int k)] C=some (.ow (.list [.int x,.int y,.int 0]),C)∧0≤x:=by
 obtain⟨c,hc⟩:∃c:Int,yh (fTst (aH uz (az 1) (ao (vN 0)))) (DK 0 (az 1)) (fCst (.int 0)) [some (.sc ns),some (.im (.int k)),none] C=some (.im (.int c),[some (.sc ns),some (.im (.int k)),none],C):=by
  by_cases h:k<ns.length
  ·obtain⟨c,hc,_⟩:=aaE (xs:=ns) k0 h
   exact⟨c,by simp_arith[vN,DK,h,hc]⟩
  ·exact⟨0,by simp_arith[vN,h]⟩
 have a0:0≤(if c<0 then -c else c):=by split<;>omega
 obtain⟨a,hA⟩:∃a,(if c<0 then -c else c)=a:=⟨_,rfl⟩
 rw[hA] at a0;have pw:vL (.int 10) (.int 18)=some (.im (.int 1000000000000000000)):=rfl
 obtain⟨j,x,hj,hx,x0⟩:∃(j x:Int),(if decide (1000000000000000000≤a)=true then(1:Int) else 0)=j∧eN [pB 0,.int a] j=some (.int x)∧0≤x:=by
  by_cases h:1000000000000000000≤a
  ·exact⟨1,a,by rw[if_pos (decide_eq_true h)],rfl,a0⟩
  ·exact⟨0,0,by rw[if_neg (by simpa using h)],rfl,zb _⟩
 refine⟨x,c+1000003*k,gj [some (.sc ns),some (.im (.int k)),none] rfl rfl ?_ rfl rfl,x0⟩
 simp_arith[Lh,↓hc,Dj,hA,pw,vO,hj,hx,mul_eq (i:=1000003) (j:=k) (.inl (by decide))]
theorem aje{fe:FE}(he:fe=aH bw (az 1) (ao (fCal bO (aCons (fVar 2) (aCons (fCst (.int 26)) aNil))))){C:Ce}{b L j:Nat}{size:Int}(h:Bl L C b (j+3))(h0:0≤size)(h1:size≤3):
  ∃(cs:List Nat)(C':Ce),jG .one gU fe [some (.im (.str abc)),some (.ce b)] (gR 0 size.toNat) C=some ((cs.map fun c=>.str ⟨#[c]⟩),C')∧cs.length=size.toNat∧(∀c∈cs,97≤c∧c≤122)∧Bl L C' b j:=by
 subst he;refine hide fun GG gg=>?_
 obtain⟨ys,C',e,hB,hl,hr⟩:=Xn (T:=.one) (fe:=aH bw (az 1) (ao (fCal bO (aCons (fVar 2) (aCons (fCst (.int 26)) aNil))))) (fs:=[some (.im (.str abc)),some (.ce b)]) (fun i C1=>Bl L C1 b (j+(3-i))) (fun _ y=>∃c:Nat,y=.str ⟨#[c]⟩∧97≤c∧c≤122) (its:=gR 0 size.toNat) (C:=C) (k:=0) h (fun i d C1 hd hB=>by
  obtain⟨rfl,hi⟩:=Cg hd
  rw[Gu] at hB⊢;rw[aks j (by omega:i<3)] at hB
  obtain⟨k1,C2,e1,a1,b1,iY⟩:=dw (m:=26) hB (by decide) (by decide)
  refine⟨_,.im (.str ⟨#[97+k1.toNat]⟩),[some (.im (.int (0+i))),some (.im (.str abc)),some (.ce b)],C2,.str ⟨#[97+k1.toNat]⟩,rfl,?_,rfl,⟨_,rfl,by omega,by omega⟩,iY⟩
  simp_arith[dM,jO,jc,e1,bw,letters k1 a1 b1])
 rw[HH] at hB hl
 obtain⟨cs,rfl,hcs⟩:∃cs:List Nat,ys=cs.map (fun c=>.str ⟨#[c]⟩)∧∀c∈cs,97≤c∧c≤122:=by
  clear e hl hB gg;induction ys with
  |nil=>exact⟨[],rfl,fun _ m=>(nomatch m)⟩
  |cons y ys ih=>
   obtain⟨c,rfl,c1,c2⟩:=hr 0 y rfl
   obtain⟨cs,rfl,h2⟩:=ih fun i z hz=>hr (i+1) z (by simpa using hz)
   exact⟨c::cs,rfl,fun x hx=>by
    rcases bL.mp hx with rfl|hx
    ·exact⟨c1,c2⟩
    ·exact h2 x hx⟩
 exact gg ⟨cs,C',e,by simpa using hl,hcs,hB.mono (Kv _ _)⟩
theorem Z0{cs:List Nat}(h:cs.length≤100):∃z:Str,I9 (.str (dU "")) (.list (cs.map fun c=>.str ⟨#[c]⟩))=some (.im (.str z))∧z.cps.toList=cs∧z.length=cs.length:=by
 refine⟨Txt.join (dU "") (cs.map fun c=>⟨#[c]⟩),?_,WR cs,?_⟩
 ·simp only[I9,Wb];refine if_pos ?_;rw[dX,ZK,agA,Nat.mul_zero];unfold LIM;omega
 ·have:=congrArg o7 (WR cs);rw[←this];show _=(Txt.join (dU "") (cs.map fun c=>⟨#[c]⟩)).cps.toList.length;simp;rfl
theorem Qh(n:Nat):gR 0 n=(dz n).map fun(i:Nat)=>pB (i:Int):=by
 unfold gR;refine yG fun i _=>?_
 rw[aeU]
theorem agJ{C:Ce}(f:Int):jG .one gU Ga [some (.im (.str abc)),some (.im (.int f))] (gR 0 8) C=some ((lq f).map (fun c=>.str ⟨#[c]⟩),C):=by
 rw[Qh];have:=u6 (T:=.one) (ft:=gU) (fe:=Ga) (fs:=[some (.im (.str abc)),some (.im (.int f))]) (C:=C) (fun(i:Nat)=>pB (i:Int)) (fun _=>true) (fun(k:Nat)=>.str ⟨#[97+((f+5*(k:Int))%26).toNat]⟩) (l:=dz 8) fun k _=>by
  have a1:0≤(f+5*(k:Int))%26:=lY _ (by decide);have a2:(f+5*(k:Int))%26<26:=rC _ (by decide)
  refine⟨[.int (k:Int)],rfl,rfl,fun _=>⟨.im (.str ⟨#[97+((f+5*(k:Int))%26).toNat]⟩),[some (.im (.int (k:Int))),some (.im (.str abc)),some (.im (.int f))],?_,rfl⟩⟩
  simp_arith[dM,jO,jc,mul_eq (i:=5) (j:=(k:Int)) (.inl (by decide)),mod_eq (i:=f+5*(k:Int)) (j:=26) (by decide),bw,letters _ a1 a2]
 rw[Um.mpr fun _ _=>rfl] at this;unfold lq;rw[dX];exact this
theorem ahM{C:Ce}{f s:Int}(s0:0<s)(s1:s≤675)(n:Nat):jG .one gU FZ [some (.im (.str abc)),some (.im (.int f)),some (.im (.int s))] (gR 0 n) C=some (((dz n).map (n1 f s)).map .str,C):=by
 rw[Qh];have:=u6 (T:=.one) (ft:=gU) (fe:=FZ) (fs:=[some (.im (.str abc)),some (.im (.int f)),some (.im (.int s))]) (C:=C) (fun(i:Nat)=>pB (i:Int)) (fun _=>true) (fun(k:Nat)=>.str (n1 f s k)) (l:=dz n) fun k _=>by
  have a1:0≤(f+s*(k:Int))%26:=lY _ (by decide);have a2:(f+s*(k:Int))%26<26:=rC _ (by decide)
  refine⟨[.int (k:Int)],rfl,rfl,fun _=>⟨.im (.str (n1 f s k)),[some (.im (.int (k:Int))),some (.im (.str abc)),some (.im (.int f)),some (.im (.int s))],?_,rfl⟩⟩
  simp_arith[dM,jO,jc,mul_eq (i:=s) (j:=(k:Int)) (.inl (by omega)),mod_eq (i:=f+s*(k:Int)) (j:=26) (by decide),bw,letters _ a1 a2];rfl
 rw[Um.mpr fun _ _=>rfl] at this;rw[dX];exact this
theorem ahN{C:Ce}{z:Str}(hz:z.length≤8)(n:Nat):jG .one gU Kr [some (.im (.str z)),some (.im (.int (1+(n:Int))))] (gR 0 (8-n)) C=some ((sb z n).map .str,C):=by
 rw[Qh];have hl:(z.length≤1000000)=True:=eq_true (by omega);have:=u6 (T:=.one) (ft:=gU) (fe:=Kr) (fs:=[some (.im (.str z)),some (.im (.int (1+(n:Int))))]) (C:=C) (fun(i:Nat)=>pB (i:Int)) (fun _=>true) (fun(k:Nat)=>.str (sl z (n+1) k)) (l:=dz (8-n)) fun k _=>by
  refine⟨[.int (k:Int)],rfl,rfl,fun _=>⟨.im (.str (sl z (n+1) k)),[some (.im (.int (k:Int))),some (.im (.str z)),some (.im (.int (1+(n:Int))))],?_,rfl⟩⟩
  have e:(k:Int)+(1+(n:Int))=(k:Int)+((n+1:Nat):Int):=by omega
  simp_arith[dM,jO,jc,fW,eV,lQ,hl,e];rfl
 rw[Um.mpr fun _ _=>rfl] at this;unfold sb;rw[dX];exact this
theorem Rv{x y:Str}(h:x.length+y.length≤1000000):bR (.str x) (.str y)=some (.im (.str (x++y))):=if_pos h
abbrev eY(b:Nat)(m:Int)(hd tl:Str)(f s:Int)(v7 v8 v9 v10 v11 cA:Option Vl):En:=
 [some (.ce b),some (.im (.int m)),some (.im (.str abc)),some (.im (.str hd)),some (.im (.str tl)),some (.im (.int f)),some (.im (.int s)),v7,v8,v9,v10,v11,cA]
theorem alm{C:Ce}{b:Nat}{m f s k q:Int}{hd tl:Str}{v7 v8 v9 v11 cA:Option Vl}(k0:0≤k)(k1:k<40)(hq:(k*k+f)%4=q):aH jy (ao (aH bR (ao (aH iM (az 10) (az 10))) (az 5))) (ao (fCst (.int 4))) (eY b m hd tl f s v7 v8 v9 (some (.im (.int k))) v11 cA) C=some (.im (.int q),eY b m hd tl f s v7 v8 v9 (some (.im (.int k))) v11 cA,C):=by
 have m1:iM (.int k) (.int k)=some (.im (.int (k*k))):=mul_eq (.inl (by omega));generalize k*k=kk at m1 hq;have m2:jy (.int (kk+f)) (.int 4)=some (.im (.int ((kk+f)%4))):=mod_eq (by omega);rw[hq] at m2;simp_arith[eY,m1,m2]
theorem aln{C:Ce}{b:Nat}{m f s k q:Int}{hd tl cut:Str}{v7 v8 v9 v11 cA:Option Vl}(k0:0≤k)(k1:k<40)(hq:(k*k+f)%4=q)(ht:tl.length≤3)(hc:Txt.slice tl none (some q)=cut):fW (az 4) iT (eV (ao (aH jy (ao (aH bR (ao (aH iM (az 10) (az 10))) (az 5))) (ao (fCst (.int 4)))))) (eY b m hd tl f s v7 v8 v9 (some (.im (.int k))) v11 cA) C=some (.im (.str cut),eY b m hd tl f s v7 v8 v9 (some (.im (.int k))) v11 cA,C):=by
 have e:=alm (C:=C) (b:=b) (m:=m) (s:=s) (hd:=hd) (tl:=tl) (v7:=v7) (v8:=v8) (v9:=v9) (v11:=v11) (cA:=cA) k0 k1 hq;have q1:(tl.length≤1000000)=True:=eq_true (by omega);simp only[eY] at e⊢;simp_arith[fW,iT,eV,↓e,lQ,q1,hc]
theorem akC{C:Ce}{b:Nat}{m f s k q v:Int}{hd tl cut tw ht nm:Str}{acc:List aj}{v7 v9:Option Vl}(k0:0≤k)(k1:k<40)(hq:(k*k+f)%4=q)(hl:tl.length≤3)(hc:Txt.slice tl none (some q)=cut)(t2:bR (.str hd) (.str tw)=some (.im (.str ht)))(t3:bR (.str ht) (.str cut)=some (.im (.str nm)))(la:(acc.length<1000000)=True):
  jX 8 (aH bR (ao (aH bR (az 3) (az 12))) (ao (fW (az 4) iT (eV (ao (aH jy (ao (aH bR (ao (aH iM (az 10) (az 10))) (az 5))) (ao (fCst (.int 4))))))))) (eY b m hd tl f s v7 (some (.ow (.list acc))) v9 (some (.im (.int k))) (some (.im (.int v))) (some (.im (.str tw)))) C=some (.nx,eY b m hd tl f s v7 (some (.ow (.list (acc++[.str nm])))) v9 (some (.im (.int k))) (some (.im (.int v))) (some (.im (.str tw))),C):=by
 have e:=aln (C:=C) (b:=b) (m:=m) (s:=s) (hd:=hd) (tl:=tl) (v7:=v7) (v8:=some (.ow (.list acc))) (v9:=v9) (v11:=some (.im (.int v))) (cA:=some (.im (.str tw))) k0 k1 hq hl hc;simp only[eY] at e⊢;simp_arith[jX,nu,t2,↓e,t3,la]
theorem akD{C:Ce}{b:Nat}{m f s:Int}{hd tl z:Str}{i:Nat}{v10 v11 cA:Option Vl}(hz:z.length=8)(hi:i<8):
  yM (eY b m hd tl f s (some (.im (.str z))) (some (.ow (.list ((subs z i).map .str)))) (some (.im (.int (1+(i:Int))))) v10 v11 cA) C=some (.nx,eY b m hd tl f s (some (.im (.str z))) (some (.ow (.list ((subs z (i+1)).map .str)))) (some (.im (.int (1+(i:Int))))) v10 v11 cA,C):=by
 have e:=ahN (C:=C) (z:=z) (by omega) i;have e1:(9-(1+(i:Int))).toNat=8-i:=by omega
 have l1:(sb z i).length≤8:=by unfold sb;rw[aX,kE];omega
 have l2:(subs z i).length≤64:=by
  unfold subs sb;rw[ade];have:∀n,n≤8→((dz n).map fun a=>((dz (8-a)).map (sl z (a+1))).length).sum≤8*n:=by
   intro n;induction n with
   |zero=>intro _;exact bD _
   |succ n ih=>
    intro h;rw[Vm,gJ,List.sum_append];have:=ih (by omega);simp only[cj,kI,VL,List.sum_nil,aX,kE] at this⊢;omega
  have:=this i (by omega);omega
 have q1:((sb z i).length≤1000000)=True:=eq_true (by omega);have q2:((subs z i).length+(sb z i).length≤1000000)=True:=eq_true (by omega);have es:subs z (i+1)=subs z i++sb z i:=by
  unfold subs;rw[Vm,List.flatMap_append,List.flatMap_singleton]
 rw[es,gJ];simp_arith[yM,eY,Jv,nu,gW,vY (m:=9-(1+(i:Int))) (by omega) (by omega),e1,e,q1,q2]
theorem akE{C:Ce}{b:Nat}{m f s:Int}{hd tl:Str}{i:Nat}{v7 v9 v11 cA:Option Vl}(f0:0≤f)(f1:f<676)(s0:0<s)(s1:s≤675)(hi:i<40)(hh:hd.length≤3)(ht:tl.length≤3):
  ∃w11 w12,yL (eY b m hd tl f s v7 (some (.ow (.list (((dz i).map (n2 hd tl f s fun k=>((k:Int)*k+f)%4)).map .str)))) v9 (some (.im (.int (i:Int)))) v11 cA) C
   =some (.nx,eY b m hd tl f s v7 (some (.ow (.list (((dz (i+1)).map (n2 hd tl f s fun k=>((k:Int)*k+f)%4)).map .str)))) v9 (some (.im (.int (i:Int)))) w11 w12,C):=by
 obtain⟨v,hv⟩:∃v,v2 f s i=v:=⟨_,rfl⟩
 have hv':(f+s*(i:Int))%676=v:=hv;have v0:0≤v:=by rw[←hv];exact lY _ (by decide)
 have v1:v<676:=by rw[←hv];exact rC _ (by decide)
 have a1:0≤v / 26:=ad8 v0 (by decide);have a2:v / 26<26:=by omega
 have a3:0≤v%26:=lY _ (by decide);have a4:v%26<26:=rC _ (by decide);have t1:bR (.str ⟨#[97+(v / 26).toNat]⟩) (.str ⟨#[97+(v%26).toNat]⟩)=some (.im (.str (two v))):=Rv (by show 1+1≤1000000;omega);have lt:(two v).length=2:=by
  show((#[97+(v / 26).toNat]:Array Nat)++#[97+(v%26).toNat]).size=2
  rw[UT];rfl
 have t2:bR (.str hd) (.str (two v))=some (.im (.str (hd++two v))):=Rv (by rw[lt];omega);have l3:=PyProof.Txt.length_slice_le tl none (some (((i:Int)*i+f)%4));have l4:(hd++two v).length=hd.length+2:=by
  show(hd.cps++(two v).cps).size=hd.cps.size+2
  rw[UT,show(two v).cps.size=2 from lt]
 have t3:bR (.str (hd++two v)) (.str (Txt.slice tl none (some (((i:Int)*i+f)%4))))=some (.im (.str (n2 hd tl f s (fun k=>((k:Int)*k+f)%4) i))):=by
  unfold n2;rw[hv];exact Rv (by rw[l4];omega)
 have q1:(tl.length≤1000000)=True:=eq_true (by omega);have q2:(i<1000000)=True:=eq_true (by omega)
 obtain⟨acc,hacc⟩:∃acc,acc=((dz i).map (n2 hd tl f s fun k=>((k:Int)*k+f)%4)).map c7:=⟨_,rfl⟩
 have la:(acc.length<1000000)=True:=eq_true (by rw[hacc,aX,aX,kE];omega);have hn:((dz (i+1)).map (n2 hd tl f s fun k=>((k:Int)*k+f)%4)).map c7=acc++[.str (n2 hd tl f s (fun k=>((k:Int)*k+f)%4) i)]:=by
  rw[Vm,gJ,gJ,hacc];rfl
 rw[hn,←hacc];clear hn hacc;generalize n2 hd tl f s (fun k=>((k:Int)*k+f)%4) i=nm at t3⊢
 obtain⟨cut,R0⟩:∃c,Txt.slice tl none (some (((i:Int)*i+f)%4))=c:=⟨_,rfl⟩
 rw[R0] at t3;have s1:fSet 11 (aH jy (ao (aH bR (az 5) (ao (aH iM (az 6) (az 10))))) (ao (fCst (.int 676)))) (eY b m hd tl f s v7 (some (.ow (.list acc))) v9 (some (.im (.int (i:Int)))) v11 cA) C=some (.nx,eY b m hd tl f s v7 (some (.ow (.list acc))) v9 (some (.im (.int (i:Int)))) (some (.im (.int v))) cA,C):=by
  simp_arith[eY,mul_eq (i:=s) (j:=(i:Int)) (.inl (by omega)),mod_eq (i:=f+s*(i:Int)) (j:=676) (by omega),hv']
 have s2:fSet 12 (aH bR (ao (aH bw (az 2) (ao (aH vG (az 11) (ao (fCst (.int 26))))))) (ao (aH bw (az 2) (ao (aH jy (az 11) (ao (fCst (.int 26)))))))) (eY b m hd tl f s v7 (some (.ow (.list acc))) v9 (some (.im (.int (i:Int)))) (some (.im (.int v))) cA) C=some (.nx,eY b m hd tl f s v7 (some (.ow (.list acc))) v9 (some (.im (.int (i:Int)))) (some (.im (.int v))) (some (.im (.str (two v)))),C):=by
  simp_arith[eY,fdiv_eq (i:=v) (j:=26) (by omega) (by omega),mod_eq (i:=v) (j:=26) (by omega),bw,letters _ a1 a2,letters _ a3 a4,t1]
 obtain⟨q,hq⟩:∃q,((i:Int)*(i:Int)+f)%4=q:=⟨_,rfl⟩
 rw[hq] at R0;have s3:=akC (C:=C) (b:=b) (m:=m) (s:=s) (v:=v) (v7:=v7) (v9:=v9) (by omega) (by omega) hq ht R0 t2 t3 la
 refine⟨some (.im (.int v)),some (.im (.str (two v))),?_⟩
 unfold yL;simp only[fSeq,s1,s2,s3]
theorem Z1{fe:FE}(he:fe=aH bw (az 1) (ao (fCal bO (aCons (fVar 2) (aCons (fCst (.int 26)) aNil))))){C:Ce}{b L j:Nat}{v1 v3 v4 v5 v6 v7 v8 v9 v10 v11 cA:Option Vl}(h:Bl L C b (j+4)):
  ∃(z:Str)(C':Ce),qM (ao (fCst (.str (dU "")))) (ao (fLC (gW (ao (fCal bO (aCons (fVar 0) (aCons (fCst (.int 4)) aNil))))) .one gU fe [2,0])) [some (.ce b),v1,some (.im (.str abc)),v3,v4,v5,v6,v7,v8,v9,v10,v11,cA] C=some (.im (.str z),[some (.ce b),v1,some (.im (.str abc)),v3,v4,v5,v6,v7,v8,v9,v10,v11,cA],C')∧z.length≤3∧(∀c∈z.cps.toList,97≤c∧c≤122)∧Bl L C' b j:=by
 refine hide fun GG gg=>?_
 obtain⟨k1,C1,e1,a1,b1,iY⟩:=dw (m:=4) h (by decide) (by decide)
 obtain⟨cs,C2,e2,l2,hc,hB2⟩:=aje he (j:=j) (size:=k1) iY a1 (by omega)
 obtain⟨z,e3,e4,e5⟩:=Z0 (cs:=cs) (by omega)
 have g5:(k1.toNat≤1000000)=True:=eq_true (by omega);refine gg ⟨z,C2,?_,by omega,by rw[e4];exact hc,hB2⟩;simp_arith[qM,gW,e1,vY (m:=k1) (by omega) (by omega),e2,l2,g5,MN,e3]
theorem akF{C:Ce}{b L j:Nat}{m:Int}(R:FS)(h:Bl L C b (j+10)):
  ∃(hd tl:Str)(f s:Int)(C':Ce),(fSeq (fSet 2 (fCst (.str (dU "abcdefghijklmnopqrstuvwxyz")))) (fSeq (fSet 3 (qM (ao (fCst (.str (dU "")))) (ao (fLC (gW (ao (fCal bO (aCons (fVar 0) (aCons (fCst (.int 4)) aNil))))) .one gU Ku [2,0])))) (fSeq (fSet 4 (qM (ao (fCst (.str (dU "")))) (ao (fLC (gW (ao (fCal bO (aCons (fVar 0) (aCons (fCst (.int 4)) aNil))))) .one gU Ks [2,0])))) (fSeq (fPar [5,6] (oCons (fCal bO (aCons (fVar 0) (aCons (fCst (.int 676)) aNil))) (oCons (aH bw (ao (fLst (aCons (fCst (.int 1)) (aCons (fCst (.int 3)) (aCons (fCst (.int 5)) (aCons (fCst (.int 7)) (aCons (fCst (.int 25)) (aCons (fCst (.int 675)) aNil)))))))) (ao (fCal bO (aCons (fVar 0) (aCons (fCst (.int 6)) aNil))))) aNil))) R)))) [some (.ce b),some (.im (.int m)),none,none,none,none,none,none,none,none,none,none,none] C
   =R (eY b m hd tl f s none none none none none none) C'∧hd.length≤3∧tl.length≤3∧(∀c∈hd.cps.toList,97≤c∧c≤122)∧(∀c∈tl.cps.toList,97≤c∧c≤122)∧0≤f∧f<676∧Dr s∧Bl L C' b j:=by
 refine hide fun GG gg=>?_
 obtain⟨hd,C1,e1,l1,c1,iY⟩:=Z1 (fe:=Ku) rfl (j:=j+6) (v1:=some (.im (.int m))) (v3:=none) (v4:=none) (v5:=none) (v6:=none) (v7:=none) (v8:=none) (v9:=none) (v10:=none) (v11:=none) (cA:=none) h
 obtain⟨tl,C2,e2,l2,c2,hB2⟩:=Z1 (fe:=Ks) rfl (j:=j+2) (v1:=some (.im (.int m))) (v3:=some (.im (.str hd))) (v4:=none) (v5:=none) (v6:=none) (v7:=none) (v8:=none) (v9:=none) (v10:=none) (v11:=none) (cA:=none) iY
 obtain⟨f,C3,e3,f0,f1,hB3⟩:=dw (m:=676) hB2 (by decide) (by decide)
 obtain⟨k,C4,e4,k0,k1,sV⟩:=dw (m:=6) hB3 (by decide) (by decide)
 obtain⟨s,e5,hs⟩:=step_at k0 k1
 refine gg ⟨hd,tl,f,s,C4,?_,l1,l2,c1,c2,f0,f1,hs,sV⟩;simp_arith[↓e1,↓e2,e3,e4,e5]
section
variable{C:Ce}{b:Nat}{m f s:Int}{hd tl:Str}
theorem alY{v10 v11 cA:Option Vl}(z:Str)(hz:z.length=8)(v9:Option Vl):∃w9,jn (gNm 9) yM (gR 1 8) (eY b m hd tl f s (some (.im (.str z))) (some (.ow (.list []))) v9 v10 v11 cA) C=some (.nx,eY b m hd tl f s (some (.im (.str z))) (some (.ow (.list ((subs z 8).map .str)))) w9 v10 v11 cA,C):=by
 obtain⟨env',C',e,w9,he,hC⟩:=zp (g:=gNm 9) (body:=yM) (its:=gR 1 8) (env:=eY b m hd tl f s (some (.im (.str z))) (some (.ow (.list []))) v9 v10 v11 cA) (C:=C)
  (fun i env C1=>∃w9,env=eY b m hd tl f s (some (.im (.str z))) (some (.ow (.list ((subs z i).map .str)))) w9 v10 v11 cA∧C1=C) ⟨v9,rfl,rfl⟩ (fun i d env C1 hd hI=>by
   obtain⟨w9,rfl,rfl⟩:=hI
   obtain⟨rfl,hi⟩:=Cg hd
   exact⟨_,.nx,_,C1,rfl,akD hz hi,.inl rfl,_,rfl,rfl⟩)
 rw[HH] at he;subst he;subst hC
 exact⟨w9,e⟩
theorem alZ{v7 v9 v11 cA:Option Vl}{n:Nat}(hn:n≤30)(f0:0≤f)(f1:f<676)(hs:Dr s)(hh:hd.length≤3)(ht:tl.length≤3)(v10:Option Vl):
  ∃w10 w11 w12,jn (gNm 10) yL (gR 0 n) (eY b m hd tl f s v7 (some (.ow (.list []))) v9 v10 v11 cA) C=some (.nx,eY b m hd tl f s v7 (some (.ow (.list (((dz n).map (n2 hd tl f s fun k=>((k:Int)*k+f)%4)).map .str)))) v9 w10 w11 w12,C):=by
 obtain⟨env',C',e,w10,w11,w12,he,hC⟩:=zp (g:=gNm 10) (body:=yL) (its:=gR 0 n) (env:=eY b m hd tl f s v7 (some (.ow (.list []))) v9 v10 v11 cA) (C:=C)
  (fun i env C1=>∃w10 w11 w12,env=eY b m hd tl f s v7 (some (.ow (.list (((dz i).map (n2 hd tl f s fun k=>((k:Int)*k+f)%4)).map .str)))) v9 w10 w11 w12∧C1=C) ⟨v10,v11,cA,rfl,rfl⟩ (fun i d env C1 hd' hI=>by
   obtain⟨w10,w11,w12,rfl,rfl⟩:=hI
   obtain⟨rfl,hi⟩:=Cg hd'
   rw[aeU]
   obtain⟨u11,u12,e⟩:=akE (C:=C1) (b:=b) (m:=m) (v7:=v7) (v9:=v9) (v11:=w11) (cA:=w12) (i:=i) f0 f1 hs.1.1 hs.1.2 (by omega) hh ht
   exact⟨_,.nx,_,C1,rfl,e,.inl rfl,_,u11,u12,rfl,rfl⟩)
 rw[HH] at he;subst he;subst hC
 exact⟨w10,w11,w12,e⟩
end
theorem QW{zs:List Str}{m:Int}(m0:0≤m)(m1:m≤zs.length):j9 (zs.map c7) none (some m)=(zs.take m.toNat).map .str:=by
 obtain⟨k,rfl⟩:∃k:Nat,m=(k:Int):=⟨m.toNat,by omega⟩
 unfold j9;rw[aX,HT.HR,show HT.bQ zs.length 0 none=0 from rfl,List.drop_zero,Nat.sub_zero,V2,Al,Vn (by omega)]
theorem ahO{C:Ce}{b L j:Nat}{m:Int}(h:Bl L C b (j+12))(m0:0≤m)(m1:m≤30):
  ∃(zs:List Str)(C':Ce),Gn [.ce b,.im (.int m)] C=some (.ow (.list (zs.map .str)),C')∧Names zs∧zs.length=m.toNat∧Bl L C' b j:=by
 refine hide fun GG gg=>?_
 obtain⟨R,hR⟩:∃R:FS,R=fSeq (iC (fTst (aH lD (ao (fCal bO (aCons (fVar 0) (aCons (fCst (.int 4)) aNil)))) (ao (fCst (.int 0))))) (fSeq (fPar [7,8] (oCons (qM (ao (fCst (.str (dU "")))) (ao (fLC (gW (ao (fCst (.int 8)))) .one gU Ga [2,5]))) (oCons (fLst aNil) aNil))) (fSeq (gb (DQ (ao (fCst (.int 1))) (ao (fCst (.int 9)))) (gNm 9) yM) (fRet (fW (az 8) iT (eV (az 1)))))) fNext) (fSeq (iC (lN (fTst (aH uz (az 1) (ao (fCst (.int 27))))) (fTst (aH lD (ao (fCal bO (aCons (fVar 0) (aCons (fCst (.int 3)) aNil)))) (ao (fCst (.int 0)))))) (fRet (fLC (gW (az 1)) .one gU FZ [2,5,6])) fNext) (fSeq (fSet 8 (fLst aNil)) (fSeq (gb (gW (az 1)) (gNm 10) yL) (fRetV 8)))):=⟨_,rfl⟩
 obtain⟨hd,tl,f,s,C1,e1,l1,l2,c1,c2,f0,f1,hs,iY⟩:=akF (m:=m) (j:=j+2) R h
 rw[hR] at e1
 obtain⟨k,C2,e2,a2,b2,hB2⟩:=dw (m:=4) iY (by decide) (by decide)
 by_cases hk:k=0
 ·subst hk
  obtain⟨z,e3,e4,e5⟩:=Z0 (cs:=lq f) (by simp[lq])
  have hz:z.length=8:=by rw[e5];simp[lq]
  have st:=agJ (C:=C2) f
  obtain⟨w9,e6⟩:=alY (C:=C2) (b:=b) (m:=m) (f:=f) (s:=s) (hd:=hd) (tl:=tl) (v10:=none) (v11:=none) (cA:=none) z hz none
  have ct:=QW (zs:=subs z 8) m0 (by rw[YQ];omega);have nm:=afI e4;have q:((lq f).length≤1000000)=True:=eq_true (by simp[lq]);refine gg ⟨(subs z 8).take m.toNat,C2,gj [some (.ce b),some (.im (.int m)),none,none,none,none,none,none,none,none,none,none,none] rfl rfl ?_ rfl (h.eq hB2),⟨nm.1.sublist (FJ _ _),fun x hx=>nm.2 x (uO hx)⟩,by rw[m7,YQ];omega,hB2.mono (by omega)⟩;unfold Be;rw[e1];have i8:Int.toNat 8=8:=rfl;have i9:Int.toNat (9-1)=8:=rfl;have rg2:(-(2^62)≤(1:Int)∧(1:Int)<2^62∧-(2^62)≤(9:Int)∧(9:Int)<2^62)=True:=eq_true (by decide);simp only[eY] at e6;simp_arith[eY,e2,qM,gW,vY (m:=(8:Int)) (by decide) (by decide),i8,st,q,MN,e3,DQ,rg2,i9,gb,e6,fW,iT,eV,lQ,ct]
 ·have hk':(k==0)=false:=beq_eq_false_iff_ne.mpr hk;have fin:∀C3,Bl L C3 b j→lN (fTst (aH uz (az 1) (ao (fCst (.int 27))))) (fTst (aH lD (ao (fCal bO (aCons (fVar 0) (aCons (fCst (.int 3)) aNil)))) (ao (fCst (.int 0))))) (eY b m hd tl f s none none none none none none) C2=some (false,C3)→GG:=fun C3 hB3 ht=>by
   obtain⟨w10,w11,w12,e7⟩:=alZ (C:=C3) (b:=b) (m:=m) (v7:=none) (v9:=none) (v11:=none) (cA:=none) (n:=m.toNat) (by omega) f0 f1 hs l1 l2 none
   refine gg ⟨_,C3,gj [some (.ce b),some (.im (.int m)),none,none,none,none,none,none,none,none,none,none,none] rfl rfl ?_ rfl (h.eq hB3),ahB (f:=f) (q:=fun k=>((k:Int)*k+f)%4) (n:=m.toNat) hs (by omega) l1 l2 c1 c2,by rw[aX,kE],hB3⟩;unfold Be;rw[e1];simp only[eY] at e7 ht;simp_arith[eY,e2,hk',↓ht,gb,gW,vY (m:=m) (by omega) (by omega),e7]
  by_cases Tn:m<27
  ·obtain⟨k6,C3,e3,a3,b3,hB3⟩:=dw (m:=3) hB2 (by decide) (by decide)
   by_cases hk6:k6=0
   ·subst hk6;have lc:=ahM (C:=C3) (f:=f) (s:=s) hs.1.1 hs.1.2 m.toNat;have q:(m.toNat≤1000000)=True:=eq_true (by omega);refine gg ⟨_,C3,gj [some (.ce b),some (.im (.int m)),none,none,none,none,none,none,none,none,none,none,none] rfl rfl ?_ rfl (h.eq hB3),ahA (f:=f) (n:=m.toNat) hs (by omega),by rw[aX,kE],hB3⟩;unfold Be;rw[e1];simp_arith[eY,e2,hk',Tn,e3,gW,vY (m:=m) (by omega) (by omega),lc,kE,q]
   ·have al0:(k6==0)=false:=beq_eq_false_iff_ne.mpr hk6;exact fin C3 hB3 (by simp_arith[eY,Tn,e3,al0])
  ·exact fin C2 hB2.dec (by simp_arith[eY,Tn])
theorem agK{C:Ce}{b L j:Nat}{zs:List Str}(h:Bl L C b (j+16))(h8:zs.length≤8)(hz:Names zs):
  ∃(ps:List (Str×Str))(C':Ce),Gp [.ce b,.im (.list (zs.map .str))] C=some (.ow (.dict (aR (bG ps))),C')∧gn zs ps∧ps.length=zs.length∧Bl L C' b j:=by
 refine hide fun GG gg=>?_
 obtain⟨env',C',e,ps,v3,v4,he,hl,hP,hB⟩:=zp (g:=gTp 2 (gsCons (gNm 3) (gsCons (gNm 4) gsNil))) (body:=Ar) (its:=xV (zs.map .str)) (env:=[some (.ce b),some (.im (.list (zs.map .str))),some (.ow (.dict [])),none,none]) (C:=C)
  (fun i env C2=>∃(ps:List (Str×Str))(v3 v4:Option Vl),env=[some (.ce b),some (.im (.list (zs.map .str))),some (.ow (.dict (aR (bG ps)))),v3,v4]∧ps.length=i∧gn zs ps∧Bl L C2 b (j+2*(8-i)))
  ⟨[],none,none,rfl,rfl,(fun i x e=>by simp at e),h⟩ (fun i d env C2 hd hI=>by
   obtain⟨ps,v3,v4,rfl,hl,hP,hB⟩:=hI
   obtain⟨x,hx,rfl⟩:=YJ hd
   obtain⟨z,hz1,rfl⟩:=akr hx
   refine hide fun GG gg=>?_
   have hi:i<zs.length:=(iG.mp hz1).1;rw[Rm j 2 (by omega:i<8)] at hB
   obtain⟨k1,C3,e1,a1,b1,iY⟩:=dw (m:=4) hB (by decide) (by decide)
   have ct:=QW (zs:=zs) (m:=(i:Int)) (by omega) (by omega);rw[Al] at ct;have ad:bR (.list [.str (dU "")]) (.list ((zs.take i).map .str))=some (.ow (.list (c7 (dU "")::(zs.take i).map .str))):=add_l (xs:=[.str (dU "")]) (by rw[aX,m7];show 1+_≤_;omega);have g:((aR (bG ps)).length<1000000)=True:=eq_true (by unfold aR bG;rw[aX,aX];omega);have fin:∀(t:Int)(C4:Ce),0≤t→t≤i→Bl L C4 b (j+2*(8-(i+1)))→(∀y:Str,eN (c7 (dU "")::(zs.take i).map .str) t=some (.str y)→putD (aR (bG ps)) (.str z) (.str y)=some (aR (bG (ps++[(z,y)])))→
     Ar [some (.ce b),some (.im (.list (zs.map .str))),some (.ow (.dict (aR (bG ps)))),some (.im (.int (i:Int))),some (.im (.str z))] C2=some (.nx,[some (.ce b),some (.im (.list (zs.map .str))),some (.ow (.dict (aR (bG (ps++[(z,y)]))))),some (.im (.int (i:Int))),some (.im (.str z))],C4))→GG:=fun t C4 t0 t1 hB2 run=>by
    obtain⟨y,my,hy1,iy⟩:=rK (zs:=dU ""::zs.take i) (k:=t) t0 (by rw[cN,m7];omega)
    have hy2:y=dU ""∨∃j,j<ps.length∧zs[j]?=some y:=by
     rcases bL.mp my with rfl|my
     ·exact .inl rfl
     ·obtain⟨jj,hj,e⟩:=sY my
      rw[m7] at hj;refine .inr ⟨jj,by omega,?_⟩;rw[adz] at e;rw[←e];exact ie (by omega)
    have pu:putD (aR (bG ps)) (.str z) (.str y)=some (aR (bG (ps++[(z,y)]))):=by
     rw[Oq (l:=bG ps) (z:=z) (d:=.str y)]
     ·unfold bG;rw[gJ];rfl
     ·unfold bG;rw[dX];intro hm
      obtain⟨q,hq,e⟩:=dG.mp hm
      obtain⟨jj,hj,rfl⟩:=sY hq
      have g1:=(hP jj ps[jj] (ie hj)).1;have e:ps[jj].1=z:=e;rw[e] at g1
      obtain⟨x1,y1⟩:=iG.mp g1
      obtain⟨x2,y2⟩:=iG.mp hz1
      exact Fd.mp hz.1 jj i x1 x2 (by omega) (y1.trans y2.symm)
    rw[cj] at iy;exact gg ⟨_,.nx,_,C4,rfl,run y iy pu,.inl rfl,ps++[(z,y)],_,_,rfl,by simp[hl],hP.snoc (by rw[hl];exact hz1) hy2,hB2⟩
   by_cases hk:0<k1
   ·obtain⟨t,C4,e3,t0,t1,hB2⟩:=dw (m:=(i:Int)+1) iY (by omega) (by omega)
    exact fin t C4 t0 (by omega) hB2 fun y iy pu=>by simp_arith[Ar,fW,iT,eV,lQ,ct,ad,e1,hk,e3,iy,oN,qL,pu,g]
   ·exact fin 0 C3 (by omega) (by omega) iY.dec fun y iy pu=>by simp_arith[Ar,fW,iT,eV,lQ,ct,ad,e1,hk,iy,oN,qL,pu,g])
 rw[Xx,aX] at hl hB;subst he;refine gg ⟨ps,C',gj [some (.ce b),some (.im (.list (zs.map .str))),none,none,none] rfl rfl ?_ rfl (h.eq hB),hP,hl,hB.mono (Kv _ _)⟩;simp_arith[Li,CV,gb,JT,e]
theorem ahP{C:Ce}{ps:List (Str×Str)}:∀{z:Str}{os:List Str},Over (gB ps) z os→∀(n:Nat)(acc:List Str),os.length<n→acc.length+os.length<1000→
  ∃z',ji Va Vb n [some (.im (.dict (aR (bG ps)))),some (.im (.str z)),some (.ow (.list (acc.map .str)))] C=some (.nx,[some (.im (.dict (aR (bG ps)))),some (.im (.str z')),some (.ow (.list ((acc++os).map .str)))],C):=by
 have hin:∀z,jq (.str z) (.dict (aR (bG ps)))=some (.im (.bool (gB ps z).isSome)):=fun z=>by
  show((mK (aR (bG ps)) (.str z)).map (·.isSome)).map (fun b=>Vl.im (.bool b))=_
  rw[HN];cases gB ps z<;>rfl
 intro z os ho;induction ho with
 |@stop z h=>
  intro n acc hn ha;cases n with
  |zero=>exact absurd hn (wO _)
  |succ n=>
   refine⟨z,?_⟩
   unfold ji;simp_arith[hin,h,Ut,jP]
 |@step z y r h _ ih=>
  intro n acc hn ha;cases n with
  |zero=>exact absurd hn (wO _)
  |succ n=>
   rw[cN] at hn ha
   obtain⟨z',e⟩:=ih n (acc++[z]) (by omega) (by rw[fO];show acc.length+1+_<_;omega)
   refine⟨z',?_⟩
   have g:(acc.length<1000000)=True:=eq_true (by omega);have i:bw (.dict (aR (bG ps))) (.str z)=some (.im (.str y)):=by
    unfold bw sU;simp only[HN,h,jD]
   simp only[gJ,cj,kI,j0,jO,jc] at e⊢;unfold ji;simp_arith[hin,h,Ak,g,jX,nu,i,e]
theorem YW{C:Ce}{zs:List Str}{ps:List (Str×Str)}(hN:Names zs)(hP:gn zs ps)(h8:ps.length≤8)(z:Str):
  yV [.im (.dict (aR (bG ps))),.im (.str z)] C=some (.ow (.list ((up ps z).map .str)),C):=by
 have hul:=QJ ps z
 obtain⟨z',e⟩:=ahP (C:=C) (PK hN hP z) zW [] (by show _<100000;omega) (by show 0+_<1000;omega)
 rw[kI,jc] at e;refine gj [some (.im (.dict (aR (bG ps)))),some (.im (.str z)),none] rfl rfl ?_ rfl rfl;simp_arith[Lj,qY,e]
theorem agL{C:Ce}{b L j:Nat}{m:Int}(h:Bl L C b (j+101))(h0:0≤m)(h1:m≤50):
  ∃(ns:List Int)(C':Ce),Hl [.ce b,.im (.int m)] C=some (.ow (.list (ns.map .int)),C')∧ns.length=m.toNat∧(∀x∈ns,0≤x∧x≤2000)∧ns.Pairwise (·<·)∧Bl L C' b j:=by
 refine hide fun GG gg=>?_
 obtain⟨k0,C0,e0,a0,b0,hB0⟩:=dw (m:=3) (k:=j+100) h (by decide) (by decide)
 obtain⟨env',C',e,ns,nx,v4,he,hl,hr,hp,hx0,hx1,hB⟩:=zp (g:=gNm 4) (body:=Ly) (its:=gR 0 m.toNat) (env:=[some (.ce b),some (.im (.int m)),some (.ow (.list [])),some (.im (.int k0)),none]) (C:=C0)
  (fun i env C1=>∃(ns:List Int)(nx:Int)(v4:Option Vl),env=[some (.ce b),some (.im (.int m)),some (.ow (.list (ns.map .int))),some (.im (.int nx)),v4]∧ns.length=i∧(∀x∈ns,0≤x∧x<nx)∧ns.Pairwise (·<·)∧0≤nx∧nx≤2+3*i∧Bl L C1 b (j+2*(50-i)))
  ⟨[],k0,none,rfl,rfl,(fun _ m=>nomatch m),yH,a0,by omega,hB0⟩ (fun i d env C1 hd hI=>by
   obtain⟨ns,nx,v4,rfl,hl,hr,hp,hx0,hx1,hB⟩:=hI
   obtain⟨rfl,hi⟩:=Cg hd
   refine hide fun GG gg=>?_
   rw[Rm j 2 (by omega:i<50)] at hB
   obtain⟨k1,C2,e1,a1,b1,iY⟩:=dw (m:=2) hB (by decide) (by decide)
   obtain⟨k2,C3,e2,a2,b2,hB2⟩:=dw (m:=3) iY (by decide) (by decide)
   obtain⟨y,hy,y0,y2⟩:∃y,k1*k2=y∧0≤y∧y≤2:=by
    have hk:k1=0∨k1=1:=by omega
    rcases hk with rfl|rfl
    ·exact⟨0,by rw[Int.zero_mul],by decide,by decide⟩
    ·exact⟨k2,by rw[Int.one_mul],a2,by omega⟩
   have lm:(ns.length<1000000)=True:=eq_true (by omega);refine gg ⟨_,.nx,[some (.ce b),some (.im (.int m)),some (.ow (.list ((ns++[nx]).map .int))),some (.im (.int (nx+1+y))),some (.im (.int (0+i)))],C3,rfl,?_,.inl rfl,ns++[nx],nx+1+y,_,rfl,by simp[hl],fun x hx=>?_,?_,by omega,by omega,hB2⟩
   ·simp_arith[Ly,e1,e2,mul_eq (i:=k1) (j:=k2) (.inl (by omega)),hy,jX,nu,lm,gJ]
   ·rcases cI.mp hx with hx|hx
    ·have:=hr x hx;omega
    ·rw[jm.mp hx];omega
   ·rw[Uj]
    refine⟨hp,by simp,fun x hx z hz=>?_⟩
    rw[jm.mp hz]
    exact(hr x hx).2)
 rw[HH] at hl hx1 hB;subst he;refine gg ⟨ns,C',gj [some (.ce b),some (.im (.int m)),none,none,none] rfl rfl ?_ rfl (h.eq hB),hl,fun x hx=>?_,hp,hB.mono (Kv _ _)⟩
 ·simp_arith[Nu,e0,gb,gW,vY (m:=m) (by omega) (by omega),e]
 ·have:=hr x hx;omega
theorem YX{C:Ce}:∀(l q:List (Str×Str)),((q++l).map (·.1)).Nodup→(q++l).length≤8→vQ (.many 2) gU KD KH [] (l.map mQ) (aR (bG q)) C=some (aR (bG (q++l)),C)
 |[],q,_,_=>by rw[jP];rfl
 |x::l,q,nd,h8=>by
  have ih:=YX (C:=C) l (q++[x]) (by rw[j0];exact nd) (by rw[j0];exact h8);have hx:x.1∉(bG q).map (·.1):=by
   unfold bG;rw[dX];show x.1∉q.map (·.1);rw[gJ,j4] at nd;exact fun hm=>nd.2.2 _ hm _ fj rfl
  have hl:(aR (bG q)).length<LIM:=by
   unfold aR bG;rw[fO] at h8;rw[aX,aX];show _<1000000;omega
  rw[cj];unfold vQ;rw[show wI (.many 2) (mQ x)=some [.str x.1,.str x.2] from rfl]
  show(if(aR (bG q)).length<LIM then vQ (.many 2) gU KD KH [] (l.map mQ) (mU cJ (.inr x.1) (.str x.1) (.str x.2) (aR (bG q))) C else none)=_
  rw[if_pos hl,YF hx];have e:bG q++[(x.1,.str x.2)]=bG (q++[x]):=by unfold bG;rw[gJ];rfl
  rw[e,ih,j0];rfl
theorem ajf{C:Ce}{hs:Option Vl}{q ps:List (Str×Str)}(hl:∀z,gB q z=gB ps z):∀{z:Str}{os:List Str},Over (gB ps) z os→∀(n:Nat)(acc:List Str),os.length<n→acc.length+os.length<1000→
  ∃z',ji Vh Vi n [hs,some (.im (.str z)),some (.ow (.dict (aR (bG q)))),some (.ow (.list (acc.map .str)))] C=some (.nx,[hs,some (.im (.str z')),some (.ow (.dict (aR (bG q)))),some (.ow (.list ((acc++os).map .str)))],C):=by
 have hin:∀z,jq (.str z) (.dict (aR (bG q)))=some (.im (.bool (gB ps z).isSome)):=fun z=>by
  show((mK (aR (bG q)) (.str z)).map (·.isSome)).map (fun b=>Vl.im (.bool b))=_
  rw[HN,hl];cases gB ps z<;>rfl
 intro z os ho;induction ho with
 |@stop z h=>
  intro n acc hn ha;cases n with
  |zero=>exact absurd hn (wO _)
  |succ n=>
   refine⟨z,?_⟩
   unfold ji;simp_arith[hin,h,Ut,jP]
 |@step z y r h _ ih=>
  intro n acc hn ha;cases n with
  |zero=>exact absurd hn (wO _)
  |succ n=>
   rw[cN] at hn ha
   obtain⟨z',e⟩:=ih n (acc++[z]) (by omega) (by rw[fO];show acc.length+1+_<_;omega)
   refine⟨z',?_⟩
   have g:(acc.length<1000000)=True:=eq_true (by omega);have i:bw (.dict (aR (bG q))) (.str z)=some (.im (.str y)):=by
    unfold bw sU;simp only[HN,hl,h,jD]
   simp only[gJ,cj,kI,j0,jO,jc] at e⊢;unfold ji;simp_arith[hin,h,Ak,g,jX,nu,i,e]
theorem aet{C:Ce}{zs:List Str}{ps:List (Str×Str)}{ht:jF}(hN:Names zs)(hP:gn zs ps)(hG:qj zs ps ht)(z:Str):
  Gz [.im (gP ht),.im (.str z)] C=some (.ow (.list ((up ps z).map .str)),C):=by
 have nd:=Bp hN hP;have nd':(ht.ps.map (·.1)).Nodup:=(hG.parts.map (·.1)).nodup_iff.mpr nd;have hL:ht.ps.length≤8:=by rw[hG.parts.length_eq];exact hG.p8
 have t:=YX (C:=C) ht.ps [] nd' hL;rw[show aR (bG [])=[] from rfl,jc] at t;have hul:=QJ ps z;have h8:=hG.p8
 obtain⟨z',e⟩:=ajf (C:=C) (hs:=some (.im (gP ht))) (afF hG.parts nd) (PK hN hP z) zW [] (by show _<100000;omega) (by show 0+_<1000;omega)
 rw[kI,jc] at e;refine gj [some (.im (gP ht)),some (.im (.str z)),none,none] rfl rfl ?_ rfl rfl;simp_arith[Lr,Ep,t,YG,qY,e]
theorem Ir{C:Ce}{z a1 b1 p:Str}{n:Int}:vf [.im (.tuple [.str z,.int n,.str a1,.str b1]),.im (.str p)] C=some (.im (.bool (decide (p=a1∨p=b1))),C):=by
 have ct:j9 [c7 z,.int n,.str a1,.str b1] (some 2) (some 4)=[.str a1,.str b1]:=rfl;have i1:jq (.str p) (.tuple [.str a1,.str b1])=some (.im (.bool (decide (p=a1∨p=b1)))):=by
  have:inB (.str p) (.tuple [.str a1,.str b1])=some (inD (.str p) ([a1,b1].map .str)):=if_pos (c:=(jx (.str p)&&[c7 a1,.str b1].all jx)=true) (e:=none) rfl;unfold jq;rw[this,HJ];simp
 refine gj [some (.im (.tuple [.str z,.int n,.str a1,.str b1])),some (.im (.str p))] rfl rfl ?_ rfl rfl;simp_arith[Nr,fW,eV,lQ,ct,i1]
def oO(os:List Str)(n day:Int)(a1 b1:Str)(r:cQ):Bool:=decide (r.2.2.2.1∈os)&&((decide (r.2.2.2.2.1≤day)&&decide (day≤r.2.2.2.2.2.1))&&(decide (n≤r.2.2.2.2.2.2)&&(!decide (r.2.1=a1∨r.2.1=b1)&&!decide (r.2.2.1=a1∨r.2.2.1=b1))))
def Ab(r:cQ):aj:=.tuple [.int r.1,.str r.2.1,.str r.2.2.1]
abbrev dj(z a1 b1:Str)(n:Int):aj:=.tuple [.str z,.int n,.str a1,.str b1]
theorem ajg{C:Ce}{zs:List Str}{ps:List (Str×Str)}{ht:jF}(hN:Names zs)(hP:gn zs ps)(hG:qj zs ps ht)(z a1 b1:Str)(n day:Int):
  Bu [.im (gP ht),.im (dj z a1 b1 n),.im (.int day)] C=some (.ow (.list ((ht.leaves.filter (oO (up ps z) n day a1 b1)).map Ab)),C):=by
 have p:=aet (C:=C) hN hP hG z;have h16:=hG.lR
 obtain⟨l,lE⟩:∃l,l=ht.leaves.filter (oO (up ps z) n day a1 b1):=⟨_,rfl⟩
 have ll:l.length≤16:=by rw[lE];exact jd (Fi _ _) h16
 have t:jG (.many 7) Ls Lw [some (.im (.list ((up ps z).map .str))),some (.im (.int day)),some (.im (dj z a1 b1 n))] (ht.leaves.map cu) C=some (l.map Ab,C):=by
  rw[lE];refine u6 (T:=.many 7) (ft:=Ls) (fe:=Lw) (fs:=[some (.im (.list ((up ps z).map .str))),some (.im (.int day)),some (.im (dj z a1 b1 n))]) (C:=C) cu (oO (up ps z) n day a1 b1) Ab (l:=ht.leaves) fun r _=>?_
  refine⟨[.int r.1,.str r.2.1,.str r.2.2.1,.str r.2.2.2.1,.int r.2.2.2.2.1,.int r.2.2.2.2.2.1,.int r.2.2.2.2.2.2],rfl,?_,fun _=>⟨.im (Ab r),[some (.im (.int r.1)),some (.im (.str r.2.1)),some (.im (.str r.2.2.1)),some (.im (.str r.2.2.2.1)),some (.im (.int r.2.2.2.2.1)),some (.im (.int r.2.2.2.2.2.1)),some (.im (.int r.2.2.2.2.2.2)),some (.im (.list ((up ps z).map .str))),some (.im (.int day)),some (.im (dj z a1 b1 n))],by simp_arith[dM,jO,jc];rfl,rfl⟩⟩
  have c:=aa7 oM oM (az 4) (az 8) (az 5) (env:=[some (.im (.int r.1)),some (.im (.str r.2.1)),some (.im (.str r.2.2.1)),some (.im (.str r.2.2.2.1)),some (.im (.int r.2.2.2.2.1)),some (.im (.int r.2.2.2.2.2.1)),some (.im (.int r.2.2.2.2.2.2)),some (.im (.list ((up ps z).map .str))),some (.im (.int day)),some (.im (dj z a1 b1 n))]) (C:=C) (a:=decide (r.2.2.2.2.1≤day)) (b:=decide (day≤r.2.2.2.2.2.1)) rfl rfl rfl rfl rfl;have s1:=Ir (C:=C) (z:=z) (a1:=a1) (b1:=b1) (n:=n) (p:=r.2.1);have s2:=Ir (C:=C) (z:=z) (a1:=a1) (b1:=b1) (n:=n) (p:=r.2.2.1);simp_arith[dM,jO,jc,c,s1,s2];unfold oO;cases decide (r.2.2.2.1∈up ps z)<;>cases decide (r.2.2.2.2.1≤day)<;>cases decide (day≤r.2.2.2.2.2.1)<;>cases decide (n≤r.2.2.2.2.2.2)<;>cases decide (r.2.1=a1∨r.2.1=b1)<;>rfl
 have q:(l.length≤1000000)=True:=eq_true (by omega);have nl:fL (l.map Ab)=true:=by
  clear t lE ll q;induction l with
  |nil=>rfl
  |cons r l ih=>show(true&&fL (l.map Ab))=true;rw[ih];rfl
 refine gj [some (.im (gP ht)),some (.im (dj z a1 b1 n)),some (.im (.int day)),none] rfl rfl ?_ rfl rfl;simp_arith[Nt,p,t,q,nl];rw[lE]
theorem Dd(p a1 b1:Str):jq (.str p) (.tuple [.str a1,.str b1])=some (.im (.bool (decide (p=a1∨p=b1)))):=by
 have:inB (.str p) (.tuple [.str a1,.str b1])=some (inD (.str p) ([a1,b1].map .str)):=if_pos (c:=(jx (.str p)&&[c7 a1,.str b1].all jx)=true) (e:=none) rfl;unfold jq;rw[this,HJ];simp
theorem W4(o:Str)(zs:List Str):vC (.str o) (.list (zs.map .str))=some (.im (.bool (!decide (o∈zs)))):=by
 have:inB (.str o) (.list (zs.map .str))=some (inD (.str o) (zs.map .str)):=if_pos (by rw[Nm];rfl);unfold vC;rw[this,HJ,jD]
theorem YZ:∀ps:List (Str×Str),DR (aR (bG ps))=some (ps.map fun p=>(.inr p.1,.inr p.2))
 |[]=>rfl
 |p::ps=>by
  show((some (je p.1):Option Key).bind fun k=>(some (je p.2):Option Key).bind fun v=>(DR (aR (bG ps))).map fun t=>(k,v)::t)=_
  rw[YZ ps];rfl
theorem ae9(ps:List (Str×Str))(h0:0<ps.length)(h8:ps.length≤8):∃ps':List (Str×Str),ps'.Perm ps∧QK (aR (bG ps))=some (ps'.map mQ):=by
 have em:(aR (bG ps)).map (fun p=>u5 [p.1,p.2])=ps.map mQ:=by
  unfold aR bG;rw[dX,dX];rfl
 obtain⟨ps',p1,p2⟩:=aeJ (agv (ds:=ps.map mQ) fun d hd=>by obtain⟨p,_,rfl⟩:=dG.mp hd;rfl)
 refine⟨ps',p1,?_⟩
 unfold QK;rw[YZ,em];cases ps with
 |nil=>cases h0
 |cons p r=>
  rw[ir,cj,List.head?_cons,ir,if_pos,p2]
  refine⟨by rw[cN,aX];rw[cN] at h8;omega,fun q hq=>?_⟩
  rw[←cj (f:=fun p:Str×Str=>((je p.1,je p.2):Key×Key))] at hq
  obtain⟨x,_,rfl⟩:=dG.mp hq
  exact⟨rfl,rfl⟩
theorem afa{C:Ce}{ps:List (Str×Str)}(h0:0<ps.length)(h8:ps.length≤8)(lv:List cQ):∃ps':List (Str×Str),ps'.Perm ps∧GP [.im (.dict (aR (bG ps))),.im (.list (lv.map cu))] C=some (.im (gP ⟨ps',[],lv,[]⟩),C):=by
 obtain⟨ps',p1,e⟩:=ae9 ps h0 h8
 refine⟨ps',p1,gj [some (.im (.dict (aR (bG ps)))),some (.im (.list (lv.map cu)))] rfl rfl ?_ rfl rfl⟩
 simp_arith[Mq,PN,Rn,e,Cd];rfl
theorem same_none{C:Ce}(n:Nat):pI (n+1) [.im .none,.im .none] C=some (.im (.bool true),C):=
 Rk (k:=2) (n:=2) (en:=[some (.im .none),some (.im .none)]) (e1:=[some (.im .none),some (.im .none)]) rfl rfl rfl rfl rfl
theorem same_int{C:Ce}(n:Nat)(x:Int):pI (n+1) [.im (.int x),.im (.int x)] C=some (.im (.bool true),C):=by
 refine Rk (k:=2) (n:=2) (en:=[some (.im (.int x)),some (.im (.int x))]) (e1:=[some (.im (.int x)),some (.im (.int x))]) rfl rfl ?_ rfl rfl;simp_arith[Im,mV,Dl,ym,vM,isNone,qK,Ji]
theorem same_ints{C:Ce}(n:Nat)(xs:List Int)(hl:xs.length≤1000):pI (n+2) [.im (.list (xs.map .int)),.im (.list (xs.map .int))] C=some (.im (.bool true),C):=by
 have t:jG (.many 2) gU (W3 (pI (n+1))) [] (nC (xs.map .int) (xs.map .int)) C=some (cH xs.length (.bool true),C):=by
  clear hl;induction xs with
  |nil=>rfl
  |cons x xs ih=>
   rw[cj,nC];unfold jG;rw[cN,sX];simp_arith[wI,gU,dM,jP,same_int n x,ih]
 have b:=afG xs.length;have h1:(xs.length≤1000000)=True:=eq_true (by omega);refine Rk (k:=2) (n:=2) (en:=[some (.im (.list (xs.map .int))),some (.im (.list (xs.map .int)))]) (e1:=[some (.im (.list (xs.map .int))),some (.im (.list (xs.map .int)))]) rfl rfl ?_ rfl rfl;simp_arith[Im,mV,Dl,ym,qK,JR,t,b.1,b.2,Ud,h1]
def stL(st:List (Str×Int)):List (Str×aj):=st.map fun x=>(x.1,.int x.2)
abbrev wD(w:Int×Str×Str):aj:=.tuple [.int w.1,.str w.2.1,.str w.2.2]
theorem Qi(st:List (Str×Int))(z:Str):mK (aR (stL st)) (.str z)=some ((eX st z).map .int):=by
 rw[Nk];unfold stL eX;rw[Vu,Ba,Ba];rfl
theorem Jm(st:List (Str×Int))(z:Str):((eX st z).map pB).isSome=decide (z∈st.map (·.1)):=by
 by_cases h:z∈st.map (·.1)
 ·cases e:eX st z with
  |none=>exact absurd h (pD.mp e)
  |some d=>rw[decide_eq_true h];rfl
 ·rw[pD.mpr h,decide_eq_false h];rfl
theorem aba(st:List (Str×Int))(z:Str):jq (.str z) (.dict (aR (stL st)))=some (.im (.bool (decide (z∈st.map (·.1))))):=by
 show((mK (aR (stL st)) (.str z)).map (·.isSome)).map (fun b=>Vl.im (.bool b))=_
 rw[Qi,jD,Jm];rfl
theorem O2(st:List (Str×Int))(z:Str):vC (.str z) (.dict (aR (stL st)))=some (.im (.bool (!decide (z∈st.map (·.1))))):=by
 show((mK (aR (stL st)) (.str z)).map (·.isSome)).map (fun b=>Vl.im (.bool (!b)))=_
 rw[Qi,jD,Jm];rfl
theorem abb{st:List (Str×Int)}{z:Str}{d:Int}(h:eX st z=some d):bw (.dict (aR (stL st))) (.str z)=some (.im (.int d)):=by
 unfold bw sU;simp only[Qi,h,jD]
theorem Z2{C:Ce}{v0 v1 nw:Option Vl}{k:Int}:∀(new:List Str)(st:List (Str×Int))(v5:Option Vl),(st.map (·.1)++new).Nodup→st.length+new.length≤1000→
  ∃Ew,jn (gNm 5) VN (new.map .str) [v0,v1,some (.ow (.dict (aR (stL st)))),nw,some (.im (.int k)),v5] C=some (.nx,[v0,v1,some (.ow (.dict (aR (stL (st++new.map fun g=>(g,k)))))),nw,some (.im (.int k)),Ew],C)
 |[],st,v5,_,_=>⟨v5,by rw[kI,kI,jP];rfl⟩
 |g::new,st,v5,nd,hl=>by
  rw[cN] at hl
  obtain⟨Ew,e⟩:=Z2 (C:=C) (v0:=v0) (v1:=v1) (nw:=nw) (k:=k) new (st++[(g,k)]) (some (.im (.str g))) (by rw[gJ,j0];exact nd) (by rw[fO];show st.length+1+_≤_;omega)
  refine⟨Ew,?_⟩
  have hn:g∉(stL st).map (·.1):=by
   unfold stL;rw[dX];exact fun hm=>(j4.mp nd).2.2 _ hm _ fj rfl
  have pu:putD (aR (stL st)) (.str g) (.int k)=some (aR (stL (st++[(g,k)]))):=by
   rw[Oq hn];unfold stL;rw[gJ];rfl
  have q:((aR (stL st)).length<1000000)=True:=eq_true (by unfold aR stL;rw[aX,aX];omega);rw[j0] at e;rw[cj];unfold jn;simp_arith[oN,qL,pu,q];exact e
theorem W5{C:Ce}{ws:List (Int×Str×Str)}{s:Str}(hl:ws.length≤60):∀(n:Nat)(st:List (Str×Int))(new:List Str)(k:Nat)(nv:Vl)(v5:Option Vl),(nv=.ow (.list (new.map .str))∨nv=.im (.list (new.map .str)))→q9 ws s st new k→(new=[]→0<n)→(new≠[]→ws.length+2-st.length<n)→
  ∃(st':List (Str×Int))(e':En),ji V0 V1 n [some (.im (.list (ws.map wD))),some (.im (.str s)),some (.ow (.dict (aR (stL st)))),some nv,some (.im (.int k)),v5] C=some (.nx,e',C)∧e'[2]?=some (some (.ow (.dict (aR (stL st')))))∧rm ws s st'
 |0,st,new,k,nv,v5,hv,B,h0,h1=>by
  by_cases h:new=[]
  ·exact absurd (h0 h) (uW _)
  ·exact absurd (h1 h) (wO _)
 |n+1,st,new,k,nv,v5,hv,B,h0,h1=>by
  by_cases hnew:new=[]
  ·subst hnew
   refine⟨st,[some (.im (.list (ws.map wD))),some (.im (.str s)),some (.ow (.dict (aR (stL st)))),some nv,some (.im (.int k)),v5],?_,rfl,B.done⟩
   unfold ji;rcases hv with rfl|rfl<;>simp_arith[]<;>rfl
  have h1:=h1 hnew;have ht:(new.map c7).isEmpty=false:=by cases new with|nil=>exact absurd rfl hnew|cons _ _=>rfl
  have c:=u6 (T:=.many 3) (ft:=VP) (fe:=VR) (fs:=[some (.im (.list (new.map .str))),some (.im (.dict (aR (stL st))))]) (C:=C) wD (fun w=>decide (w.2.2∈new)&&!decide (w.2.1∈st.map (·.1))) (fun w=>.str w.2.1) (l:=ws) fun w _=>by
   refine⟨[.int w.1,.str w.2.1,.str w.2.2],rfl,?_,fun _=>⟨.im (.str w.2.1),_,by simp_arith[dM,jO,jc];rfl,rfl⟩⟩
   simp_arith[dM,jO,jc,O2];cases decide (w.2.2∈new)<;>rfl
  obtain⟨gs,Tp⟩:∃gs,gs=(ws.filter fun w=>decide (w.2.2∈new)&&!decide (w.2.1∈st.map (·.1))).map (·.2.1):=⟨_,rfl⟩
  have c2:(ws.filter fun w=>decide (w.2.2∈new)&&!decide (w.2.1∈st.map (·.1))).map (fun w=>c7 w.2.1)=gs.map .str:=by rw[Tp,dX];rfl
  rw[c2] at c;have gl:gs.length≤60:=by rw[Tp,aX];exact jd (Fi _ _) hl
  have sS:HF (gs.map .str)=some ((sy strLt (dedup gs)).map .str):=by
   unfold HF;rw[if_pos (by rw[aX];omega),MK]
  obtain⟨ns,nsE⟩:∃ns,ns=sy strLt (dedup gs):=⟨_,rfl⟩
  rw[←nsE] at sS;have hm:∀g,g∈ns↔∃w∈ws,w.2.2∈new∧w.2.1∉st.map (·.1)∧w.2.1=g:=fun g=>by
   rw[nsE,(zm _).mem_iff,agm,Tp,dG];constructor
   ·rintro⟨w,h1,h2⟩
    obtain⟨h1,h3⟩:=tG.mp h1
    rw[gH,decide_eq_true_eq,UL,decide_eq_false_iff_not] at h3
    exact⟨w,h1,h3.1,h3.2,h2⟩
   ·rintro⟨w,h1,h2,h3,h4⟩
    exact⟨w,tG.mpr ⟨h1,by rw[decide_eq_true h2,decide_eq_false h3];rfl⟩,h4⟩
  have hn:ns.Nodup:=by rw[nsE];exact(zm _).nodup_iff.mpr (ae4 _)
  have B2:=B.step hn hm;have f1:=B.few;have f2:=B2.few;have nd:=B2.nd;rw[gJ,dX,show((fun x:Str×Int=>x.1) ∘ fun g=>(g,(k:Int)+1))=id from rfl,LQ] at nd;rw[fO,aX] at f2
  obtain⟨Ew,e1⟩:=Z2 (C:=C) (v0:=some (.im (.list (ws.map wD)))) (v1:=some (.im (.str s))) (nw:=some (.im (.list (ns.map .str)))) (k:=(k:Int)+1) ns st v5 nd (by omega)
  obtain⟨st',e',e2,e3,e4⟩:=W5 (C:=C) hl n (st++ns.map fun g=>(g,(k:Int)+1)) ns (k+1) (.im (.list (ns.map .str))) Ew (.inr rfl) B2 (fun z=>by omega) (fun z=>by
   rw[fO,aX];have:=Ka.mpr z;omega)
  refine⟨st',e',?_,e3,e4⟩
  unfold ji;rcases hv with rfl|rfl<;>simp_arith[ht,Js,Er,↓c,sS,gb,e1]<;>exact e2
theorem Y0{C:Ce}{ws:List (Int×Str×Str)}{s:Str}(hl:ws.length≤60):∃st:List (Str×Int),G8 [.im (.list (ws.map wD)),.im (.str s)] C=some (.ow (.dict (aR (stL st))),C)∧rm ws s st:=by
 obtain⟨st,e',e1,e2,e3⟩:=W5 (C:=C) hl zW [(s,0)] [s] 0 (.ow (.list [.str s])) none (.inl rfl) (q9.init ws s) (fun z=>nomatch z) (fun _=>by show _+2-1<100000;omega)
 rw[show(((0:Nat):Nat):Int)=0 from rfl] at e1
 refine⟨st,gj [some (.im (.list (ws.map wD))),some (.im (.str s)),none,none,none,none] rfl rfl ?_ rfl rfl,e3⟩
 simp_arith[MP,z6,qY,cJ];rw[show[(c7 s,pB 0)]=aR (stL [(s,0)]) from rfl];simp only[e1];simp_arith[e2]
def uq(st:List (Str×Int))(d:Int)(p:Str)(w:Int×Str×Str):Bool:=decide (w.2.1=p)&&(decide (w.2.2∈st.map (·.1))&&(eX st w.2.2).any fun e=>decide (e<d))
theorem Ny{st:List (Str×Int)}{d:Int}{p:Str}{w:Int×Str×Str}:uq st d p w=true↔w.2.1=p∧∃e,eX st w.2.2=some e∧e<d:=by
 unfold uq;rw[gH,gH,decide_eq_true_eq,decide_eq_true_eq];refine and_congr_right fun _=>⟨fun h=>?_,fun⟨e,h1,h2⟩=>⟨?_,by rw[h1];exact decide_eq_true h2⟩⟩
 ·cases e:eX st w.2.2 with
  |none=>exact absurd h.1 (pD.mp e)
  |some x=>
   have:=h.2;rw[e] at this
   exact⟨x,rfl,of_decide_eq_true this⟩
 ·apply acI;intro n;rw[pD.mpr n] at h1;cases h1
theorem Z3(bt:Nat→Nat→Bool)(val:Nat→Int)(h1:∀i j,bt i j=true→val i≤val j)(h2:∀i j,bt i j=false→val j≤val i):∀k,kY bt k≤k∧∀i,i≤k→val (kY bt k)≤val i
 |0=>⟨bD _,fun i hi=>by rw[Nat.le_zero.mp hi];exact zb _⟩
 |k+1=>by
  obtain⟨a,b⟩:=Z3 bt val h1 h2 k
  unfold kY;cases e:bt (k+1) (kY bt k) with
  |true=>
   rw[if_pos rfl]
   refine⟨bD _,fun i hi=>?_⟩
   rcases adp hi with hi|rfl
   ·exact Int.le_trans (h1 _ _ e) (b i (adI hi))
   ·exact zb _
  |false=>
   rw[if_neg gG]
   refine⟨U0 a,fun i hi=>?_⟩
   rcases adp hi with hi|rfl
   ·exact b i (adI hi)
   ·exact h2 _ _ e
theorem agM(cs:List (Int×Str))(h:cs≠[]):∃c∈cs,Jb [.list (cs.map fun c=>.tuple [.int c.1,.str c.2])]=some (.im (.tuple [.int c.1,.str c.2]))∧∀c'∈cs,c.1≤c'.1:=by
 obtain⟨c0,hc0⟩:∃c0,cs.head?=some c0:=by
  cases cs with
  |nil=>exact absurd rfl h
  |cons c _=>exact⟨c,rfl⟩
 have ek:(cs.map fun c=>u5 [.int c.1,.str c.2]).map zY=cs.map fun c=>[jQ c.1,je c.2]:=by
  rw[dX];rfl
 have hd:(cs.map fun c=>([jQ c.1,je c.2]:List Key)).headD []=[jQ c0.1,je c0.2]:=by
  cases cs with
  |nil=>cases hc0
  |cons c _=>cases hc0;rfl
 have gt:∀i,(cs.map fun c=>([jQ c.1,je c.2]:List Key)).getD i [jQ c0.1,je c0.2]=[jQ (cs.getD i c0).1,je (cs.getD i c0).2]:=fun i=>by
  rw[J2,J2,fY];cases cs[i]?<;>rfl
 obtain⟨b1,b2⟩:=Z3 (fun i j=>di ((cs.map fun c=>([jQ c.1,je c.2]:List Key)).getD i [jQ c0.1,je c0.2]) ((cs.map fun c=>([jQ c.1,je c.2]:List Key)).getD j [jQ c0.1,je c0.2])) (fun i=>(cs.getD i c0).1) (fun i j e=>by
   simp only[gt,di] at e;split at e
   ·rename_i z;have:=Wf z;omega
   ·exact Int.le_of_lt (of_decide_eq_true e)) (fun i j e=>by
   simp only[gt,di] at e;split at e
   ·rename_i z;have:=Wf z;omega
   ·have:=of_decide_eq_false e;omega) (cs.length-1)
 have pos:0<cs.length:=Ka.mpr h
 obtain⟨k,hk⟩:∃k,k=Dq (cs.map fun c=>([jQ c.1,je c.2]:List Key)):=⟨_,rfl⟩
 have hk':=hk;unfold Dq at hk';rw[hd,aX] at hk';rw[←hk'] at b1 b2;have lt:k<cs.length:=by omega
 refine⟨cs[k],wM lt,?_,fun c' hc'=>?_⟩
 ·show QL (cs.map fun c=>.tuple [.int c.1,.str c.2])=_;unfold QL;rw[List.head?_map,hc0,ek,←hk,fY,ie lt];refine if_pos fun d hd=>?_
  obtain⟨c,_,rfl⟩:=dG.mp hd
  rfl
 ·obtain⟨i,hi,rfl⟩:=sY hc'
  have:=b2 i (by omega);rw[J2,J2,ie lt,ie hi] at this;exact this
theorem agN{C:Ce}{ws:List (Int×Str×Str)}{st:List (Str×Int)}{p:Str}{d:Int}(hl:ws.length≤60)(hp:eX st p=some d)(hne:∃w∈ws,uq st d p w=true):
  ∃(n:Int)(t:Str),GC [.im (.list (ws.map wD)),.im (.dict (aR (stL st))),.im (.str p)] C=some (.im (.tuple [.int n,.str t]),C)∧(n,p,t)∈ws∧(∃e,eX st t=some e∧e<d)∧∀n' q' e,(n',p,q')∈ws→eX st q'=some e→e<d→n≤n':=by
 have c:=u6 (T:=.many 3) (ft:=Vj) (fe:=Vk) (fs:=[some (.im (.str p)),some (.im (.dict (aR (stL st))))]) (C:=C) wD (uq st d p) (fun w=>.tuple [.int w.1,.str w.2.2]) (l:=ws) fun w _=>by
  refine⟨[.int w.1,.str w.2.1,.str w.2.2],rfl,?_,fun _=>⟨.im (.tuple [.int w.1,.str w.2.2]),_,by simp_arith[dM,jO,jc];rfl,rfl⟩⟩
  have ip:=abb hp;unfold uq;cases h1:decide (w.2.1=p) with
  |false=>simp_arith[dM,jO,jc,h1]
  |true=>
   cases e:eX st w.2.2 with
   |none=>
    have h2:=decide_eq_false (pD.mp e);simp_arith[dM,jO,jc,h1,aba,h2]
   |some x=>
    have h2:decide (w.2.2∈st.map (·.1))=true:=by rw[←Jm,e];rfl
    have iw:=abb e;simp_arith[dM,jO,jc,h1,aba,h2,ip,iw,Option.any_some]
 obtain⟨cs,Ex⟩:∃cs:List (Int×Str),cs=(ws.filter (uq st d p)).map fun w=>(w.1,w.2.2):=⟨_,rfl⟩
 have c2:(ws.filter (uq st d p)).map (fun w=>u5 [.int w.1,.str w.2.2])=cs.map fun c=>.tuple [.int c.1,.str c.2]:=by rw[Ex,dX];rfl
 rw[c2] at c;have cl:(cs.length≤1000000)=True:=eq_true (by rw[Ex,aX];have:=Fi (uq st d p) ws;omega);have mem:∀n t,(n,t)∈cs↔(n,p,t)∈ws∧∃e,eX st t=some e∧e<d:=fun n t=>by
  rw[Ex,dG];constructor
  ·rintro⟨w,hw,e⟩
   cases e
   obtain⟨h1,h2⟩:=tG.mp hw
   obtain⟨h3,h4⟩:=Ny.mp h2
   rw[←h3]
   exact⟨h1,h4⟩
  ·rintro⟨h1,h2⟩
   exact⟨(n,p,t),tG.mpr ⟨h1,Ny.mpr ⟨rfl,h2⟩⟩,rfl⟩
 have ne:cs≠[]:=fun z=>by
  obtain⟨w,hw,h⟩:=hne
  have:(w.1,w.2.2)∈cs:=by rw[Ex];exact dG.mpr ⟨w,tG.mpr ⟨hw,h⟩,rfl⟩
  rw[z] at this;cases this
 have nl:fL (cs.map fun c=>u5 [.int c.1,.str c.2])=true:=by
  clear c c2 Ex cl mem ne;induction cs with
  |nil=>rfl
  |cons r l ih=>show(true&&fL (l.map _))=true;rw[ih];rfl
 obtain⟨⟨n,t⟩,m,e,hmin⟩:=agM cs ne
 obtain⟨m1,m2⟩:=(mem n t).mp m
 refine⟨n,t,gj [some (.im (.list (ws.map wD))),some (.im (.dict (aR (stL st)))),some (.im (.str p))] rfl rfl ?_ rfl rfl,m1,m2,fun n' q' e' h1 h2 h3=>hmin (n',q') ((mem n' q').mpr ⟨h1,e',h2,h3⟩)⟩
 simp_arith[Lx,c,cl,nl,e]
theorem ahQ{C:Ce}{ws:List (Int×Str×Str)}{s:Str}{st:List (Str×Int)}(hl:ws.length≤60)(hU:∀w∈ws,∀w'∈ws,w.1=w'.1→w=w')(B:rm ws s st):∀(m:Nat)(p:Str)(d:Int),eX st p=some d→d≤m→∀(n:Nat)(acc:List Int)(v5:Option Vl),m<n→acc.length+m≤100000→
  ∃(r:List Int)(e':En),ji Vx Vy n [some (.im (.list (ws.map wD))),some (.im (.str p)),some (.im (.str s)),some (.ow (.dict (aR (stL st)))),some (.ow (.list (acc.map .int))),v5] C=some (.nx,e',C)∧e'[4]?=some (some (.ow (.list ((acc++r).map .int))))∧nA ws p s r:=by
 intro m;induction m with
 |zero=>
  intro p d hp hd n acc v5 hn ha;have:p=s:=by
   obtain⟨r,h1,h2⟩:=B.sound p d hp
   cases h1 with
   |nil=>rfl
   |cons _ _=>rw[cN] at h2;omega
  subst this;cases n with
  |zero=>exact absurd hn (uW _)
  |succ n=>
   refine⟨[],[some (.im (.list (ws.map wD))),some (.im (.str p)),some (.im (.str p)),some (.ow (.dict (aR (stL st)))),some (.ow (.list (acc.map .int))),v5],?_,by rw[jP];rfl,nA.self ws p⟩
   unfold ji;simp_arith[ne_strs]
 |succ m ih=>
  intro p d hp hd n acc v5 hn ha;cases n with
  |zero=>exact absurd hn (wO _)
  |succ n=>
   by_cases hs:p=s
   ·subst hs
    refine⟨[],[some (.im (.list (ws.map wD))),some (.im (.str p)),some (.im (.str p)),some (.ow (.dict (aR (stL st)))),some (.ow (.list (acc.map .int))),v5],?_,by rw[jP];rfl,nA.self ws p⟩
    unfold ji;simp_arith[ne_strs]
   ·have hne:∃w∈ws,uq st d p w=true:=by
     obtain⟨r,h1,h2⟩:=B.sound p d hp
     cases h1 with
     |nil=>exact absurd rfl hs
     |cons hw hr=>
      rename_i n q r
      obtain⟨e,h3,h4⟩:=B.whole q r hr
      rw[cN] at h2
      exact⟨_,hw,Ny.mpr ⟨rfl,e,h3,by omega⟩⟩
    obtain⟨n1,t,e1,m1,⟨e,m2,m3⟩,hmin⟩:=agN (C:=C) hl hp hne
    obtain⟨r,e',e2,e3,e4⟩:=ih t e m2 (by omega) n (acc++[n1]) (some (.im (.int n1))) (by omega) (by rw[fO];show acc.length+1+_≤_;omega)
    have R:=nA.go hU B hp m1 ⟨e,m2,m3⟩ hmin e4;rw[j0] at e3
    refine⟨n1::r,e',?_,e3,R⟩
    have g:(acc.length<1000000)=True:=eq_true (by omega);have q:(p=s)=False:=eq_false hs;rw[gJ] at e2;unfold ji;have rp:∀e e',rst (.im (.tuple [.int n1,.str t])) e e'=e:=fun _ _=>rfl
    simp_arith[ne_strs,q,e1,jX,nu,g,rp];exact e2
def yq:Option (List Int)→Vl
 |none=>.im .none
 |some r=>.ow (.list (r.map .int))
def xY(ws:List (Int×Str×Str))(h s:Str):Option (List Int)→Prop
 |none=>∀r,¬gZ ws h r s
 |some r=>nA ws h s r
theorem ahR{C:Ce}{ws:List (Int×Str×Str)}{h s:Str}(hl:ws.length≤60)(hU:∀w∈ws,∀w'∈ws,w.1=w'.1→w=w'):∃o,GK [.im (.list (ws.map wD)),.im (.str h),.im (.str s)] C=some (yq o,C)∧xY ws h s o:=by
 obtain⟨st,e1,B⟩:=Y0 (C:=C) (s:=s) hl
 cases e:eX st h with
 |none=>
  have hn:=pD.mp e
  refine⟨none,gj [some (.im (.list (ws.map wD))),some (.im (.str h)),some (.im (.str s)),none,none,none] rfl rfl ?_ rfl rfl,fun r p=>hn ((B.iff h).mpr ⟨r,p⟩)⟩
  have q:=decide_eq_false hn;simp_arith[GJ,e1,O2,q];rfl
 |some d=>
  obtain⟨r0,h1,h2⟩:=B.sound h d e
  have q:decide (h∈st.map (·.1))=true:=by rw[←Jm,e];rfl
  obtain⟨r,e',e2,e3,e4⟩:=ahQ (C:=C) hl hU B d.toNat h d e (by omega) zW [] none (by have:=B.few h d e;show _<100000;omega) (by have:=B.few h d e;show 0+_≤_;omega)
  refine⟨some r,gj [some (.im (.list (ws.map wD))),some (.im (.str h)),some (.im (.str s)),none,none,none] rfl rfl ?_ rfl rfl,e4⟩
  rw[kI] at e2;rw[jc] at e3;simp_arith[GJ,e1,O2,q,qY,e2,e3];rfl
def uD(r:cQ):Int×Str×Str:=(r.1,r.2.1,r.2.2.1)
theorem Z4:∀{l:List cQ},(l.map (·.1)).Nodup→∀r∈l,∀r'∈l,r.1=r'.1→r=r'
 |[],_,_,h,_,_,_=>nomatch h
 |a::l,hp,r,h,r',h',e=>by
  rw[cj,jC] at hp;rcases bL.mp h with h1|h1<;>rcases bL.mp h' with h2|h2
  ·rw[h1,h2]
  ·exact absurd (dG.mpr ⟨r',h2,by rw[←h1,e]⟩) hp.1
  ·exact absurd (dG.mpr ⟨r,h1,by rw[←h2,e]⟩) hp.1
  ·exact Z4 hp.2 r h1 r' h2 e
theorem xY.unique{ws:List (Int×Str×Str)}{h s:Str}:∀{o o':Option (List Int)},xY ws h s o→xY ws h s o'→o=o'
 |none,none,_,_=>rfl
 |none,some r,a,b=>absurd b.1 (a r)
 |some r,none,a,b=>absurd a.1 (b r)
 |some r,some r',a,b=>congrArg some (nA.unique a b)
def ur(ht:jF)(os:List Str)(n day:Int)(a1 b1:Str):List (Int×Str×Str):=(ht.leaves.filter (oO os n day a1 b1)).map uD
theorem ahS{zs:List Str}{ps:List (Str×Str)}{ht:jF}(hG:qj zs ps ht)(os:List Str)(n day:Int)(a1 b1:Str):(ur ht os n day a1 b1).length≤60:=by
 unfold ur;rw[aX];have:=Fi (oO os n day a1 b1) ht.leaves;have:=hG.lR;omega
theorem afb{zs:List Str}{ps:List (Str×Str)}{ht:jF}(hG:qj zs ps ht)(os:List Str)(n day:Int)(a1 b1:Str):∀w∈ur ht os n day a1 b1,∀w'∈ur ht os n day a1 b1,w.1=w'.1→w=w':=fun w h w' h' e=>by
 obtain⟨r,m,rfl⟩:=dG.mp h
 obtain⟨r',m',rfl⟩:=dG.mp h'
 rw[Z4 hG.lnd r (tG.mp m).1 r' (tG.mp m').1 e]
theorem akG{C:Ce}{zs:List Str}{ps:List (Str×Str)}{ht:jF}(hN:Names zs)(hP:gn zs ps)(hG:qj zs ps ht)(z a1 b1:Str)(n day:Int):
  Bu [.im (gP ht),.im (dj z a1 b1 n),.im (.int day)] C=some (.ow (.list ((ur ht (up ps z) n day a1 b1).map wD)),C):=by
 rw[ajg hN hP hG];unfold ur;rw[dX];rfl
theorem ahT{C:Ce}{zs:List Str}{ps:List (Str×Str)}{ht:jF}(hN:Names zs)(hP:gn zs ps)(hG:qj zs ps ht)(z a1 b1:Str)(n day:Int)(h s:Str):
  ∃o,HQ [.im (gP ht),.im (dj z a1 b1 n),.im (.str h),.im (.str s),.im (.int day)] C=some (yq o,C)∧(((h=a1∨h=b1)∨(s=a1∨s=b1))→o=none)∧(¬((h=a1∨h=b1)∨(s=a1∨s=b1))→xY (ur ht (up ps z) n day a1 b1) h s o):=by
 have s1:=Ir (C:=C) (z:=z) (a1:=a1) (b1:=b1) (n:=n) (p:=h);have s2:=Ir (C:=C) (z:=z) (a1:=a1) (b1:=b1) (n:=n) (p:=s);have w:=akG (C:=C) hN hP hG z a1 b1 n day
 obtain⟨o,e,ho⟩:=ahR (C:=C) (h:=h) (s:=s) (ahS hG (up ps z) n day a1 b1) (afb hG (up ps z) n day a1 b1)
 have ok:zX C.length (yq o)=true:=by cases o<;>rfl
 by_cases h1:h=a1∨h=b1
 ·refine⟨none,gj [some (.im (gP ht)),some (.im (dj z a1 b1 n)),some (.im (.str h)),some (.im (.str s)),some (.im (.int day))] rfl rfl ?_ rfl rfl,fun _=>rfl,fun z=>absurd (.inl h1) z⟩
  rw[decide_eq_true h1] at s1;simp_arith[BL,s1];rfl
 ·rw[decide_eq_false h1] at s1;by_cases h2:s=a1∨s=b1
  ·refine⟨none,gj [some (.im (gP ht)),some (.im (dj z a1 b1 n)),some (.im (.str h)),some (.im (.str s)),some (.im (.int day))] rfl rfl ?_ rfl rfl,fun _=>rfl,fun z=>absurd (.inr h2) z⟩
   rw[decide_eq_true h2] at s2;simp_arith[BL,s1,s2];rfl
  ·rw[decide_eq_false h2] at s2
   refine⟨o,gj [some (.im (gP ht)),some (.im (dj z a1 b1 n)),some (.im (.str h)),some (.im (.str s)),some (.im (.int day))] rfl rfl ?_ ok rfl,fun z=>absurd z fun z=>z.elim h1 h2,fun _=>ho⟩
   simp_arith[BL,s1,s2,w,e]
theorem ahU{C:Ce}(n:Nat)(o:Option (List Int))(hl:∀r,o=some r→r.length≤1000):pI (n+2) [still (yq o),still (yq o)] C=some (.im (.bool true),C):=by
 cases o with
 |none=>exact same_none (n+1)
 |some r=>exact same_ints n r (hl r rfl)
theorem Je{α:Type}{f:α→aj}(h:∀a,jr (f a)=true):∀l:List α,fL (l.map f)=true
 |[]=>rfl
 |a::l=>by
  show(jr (f a)&&fL (l.map f))=true
  rw[h a,Je h l];rfl
theorem ajh(h:jF)(e f:En):rst (.im (gP h)) e f=e:=by
 refine if_pos ?_
 show(fL (h.ps.map mQ)&&(fL (h.pM.map mO)&&(fL (h.leaves.map cu)&&(fL (h.rules.map sE)&&true))))=true
 rw[Je (fun _=>rfl),Je (fun _=>rfl),Je (fun _=>rfl),Xq];rfl
theorem XH(ps:List (Str×Str)):jz [.dict (aR (bG ps))]=some (.im (.int ps.length)):=by
 have:DN (.dict (aR (bG ps)))=some ps.length:=by
  show(if(cD cJ (aR (bG ps))).isSome then some (aR (bG ps)).length else none)=_
  rw[BK];unfold aR bG;rw[aX,aX];rfl
 unfold jz;simp only[this];rfl
theorem afO{zs:List Str}{m:Nat}{ps:List (Str×Str)}(h:gn (zs.take m) ps):gn zs ps:=fun i x e=>by
 have up:∀j z,(zs.take m)[j]?=some z→zs[j]?=some z:=fun j z e=>by
  rw[Uq] at e;split at e
  ·exact e
  ·cases e
 obtain⟨h1,h2⟩:=h i x e
 exact⟨up i _ h1,h2.imp_right fun⟨j,a,b⟩=>⟨j,a,up j _ b⟩⟩
theorem ahV{f:Str→Option Str}{z:Str}{os:List Str}(h:Over f z os):∀y∈os,∃w,f y=some w:=by
 induction h with
 |stop _=>exact fun y hy=>absurd hy jb
 |step h _ ih=>
  intro y hy;rcases bL.mp hy with rfl|hy
  ·exact⟨_,h⟩
  ·exact ih y hy
theorem aaJ{zs:List Str}{ps:List (Str×Str)}(hN:Names zs)(hP:gn zs ps){z y:Str}(h:y∈up ps z):y∈ps.map (·.1):=by
 obtain⟨w,e⟩:=ahV (PK hN hP z) y h
 exact dG.mpr ⟨(y,w),(tM (Bp hN hP)).mp e,rfl⟩
theorem akH{zs:List Str}{ps ps':List (Str×Str)}{lv:List cQ}(p1:ps'.Perm ps)(p8:ps.length≤8)(lR:lv.length≤16)(hl:∀r∈lv,zB zs (ps.map (·.1)) r)(up:(lv.map (·.1)).Nodup):qj zs ps ⟨ps',[],lv,[]⟩ where
 parts:=p1
 p8:=p8
 r20:=lJ _
 lR:=lR
 u10:=lJ _
 pM:=fun r h=>absurd h jb
 rup:=yH
 leaves:=hl
 lnd:=up
 rules:=fun r h=>absurd h jb
 unlike:=oZ
theorem aji{e B C:Nat}{ds:List aj}(h:∀d∈ds,jN e B d)(hc:ds.length≤C):jN (e+1) (C*(B+2)+3) (.list ds):=by
 obtain⟨h1,h2,h3⟩:=PJ h
 refine⟨by simpa[Kz] using h1,by simp[Bg];omega,?_⟩
 simp only[aeI];have:=listText_len_le (yO ds);have hl:(yO ds).length=ds.length:=acW ds;rw[hl] at this;have hm:ds.length*B≤C*B:=ac7 B hc;rw[Wn];omega
theorem ajj{zs:List Str}{ps:List (Str×Str)}{ht:jF}(hN:Names zs)(hP:gn zs ps)(hG:qj zs ps ht){z a1 b1:Str}{n:Int}(hz:z∈zs)(ha:a1∈zs)(hb:b1∈zs)(n0:0≤n)(n1:n<10^12):∃t:Str,Jc [.list [gP ht,dj z a1 b1 n]]=some (.im (.str t)):=by
 have s1:=agw hN.2 hP hG;have st:∀x∈zs,jN 0 82 (.str x):=fun x hx=>qu (jt.name (hN.2 x hx))
 have s2:jN 1 (4*(82+2)+3) (dj z a1 b1 n):=pG (fun d hd=>by
  simp only[bL,jb,or_false] at hd;rcases hd with rfl|rfl|rfl|rfl
  ·exact st _ hz
  ·exact(ZL n0 n1).mono (bD _) (by decide)
  ·exact st _ ha
  ·exact st _ hb) (bD 4)
 have s3:jN 6 (2*(200000+2)+3) (.list [gP ht,dj z a1 b1 n]):=aji (fun d hd=>by
  simp only[bL,jb,or_false] at hd;rcases hd with rfl|rfl
  ·exact s1
  ·exact s2.mono (by decide) (by decide)) (bD 2)
 refine⟨(Wo [gP ht,dj z a1 b1 n]).shown,if_pos ?_⟩
 have h1:(Wo [gP ht,dj z a1 b1 n]).depth≤60:=jd s3.deep (by decide);have h2:(Wo [gP ht,dj z a1 b1 n]).shown.length≤LIM:=jd s3.len (by show 2*(200000+2)+3≤1000000;decide);rw[show m5 (.list [gP ht,dj z a1 b1 n])=true by show(m5 (gP ht)&&_)=true;rw[agB];rfl,s3.RT,decide_eq_true h1,decide_eq_true h2];rfl
theorem akI{α:Type}{zs:List α}(h:zs.Nodup){i j:Nat}{x:α}(hi:zs[i]?=some x)(hj:zs[j]?=some x):i=j:=by
 obtain⟨x1,y1⟩:=iG.mp hi
 obtain⟨x2,y2⟩:=iG.mp hj
 have hp:=Fd.mp h;rcases adE i j with l|l|l
 ·exact absurd (y1.trans y2.symm) (hp i j x1 x2 l)
 ·exact l
 ·exact absurd (y2.trans y1.symm) (hp j i x2 x1 l)
theorem Qj{α:Type}(D:α→aj){xs:List α}{a b:Nat}(h:a≤b)(hb:b≤xs.length):j9 (xs.map D) (some (a:Int)) (some (b:Int))=((xs.drop a).take (b-a)).map D:=by
 unfold j9;rw[aX,HT.HR,HT.HR,Vn (show a≤xs.length by omega),Vn hb,V2,aeu]
theorem ajk{C:Ce}{zs:List Str}{ps:List (Str×Str)}(hN:Names zs)(hP:gn zs ps)(h8:ps.length≤8)(z a1 b1:Str)(n day:Int)(r:cQ):
  Ip [.im (.dict (aR (bG ps))),.im (dj z a1 b1 n),.im (.int day),.im (cu r)] C=some (.im (.bool (oO (up ps z) n day a1 b1 r)),C):=by
 have p:=YW (C:=C) hN hP h8 z;have ct:j9 [c7 z,.int n,.str a1,.str b1] (some 2) none=[.str a1,.str b1]:=rfl;have c:=aa7 oM oM (ao (aH bw (az 3) (ao (fCst (.int 4))))) (az 2) (ao (aH bw (az 3) (ao (fCst (.int 5))))) (env:=[some (.im (.dict (aR (bG ps)))),some (.im (dj z a1 b1 n)),some (.im (.int day)),some (.im (cu r))]) (e1:=[some (.im (.dict (aR (bG ps)))),some (.im (dj z a1 b1 n)),some (.im (.int day)),some (.im (cu r))]) (e2:=[some (.im (.dict (aR (bG ps)))),some (.im (dj z a1 b1 n)),some (.im (.int day)),some (.im (cu r))]) (e3:=[some (.im (.dict (aR (bG ps)))),some (.im (dj z a1 b1 n)),some (.im (.int day)),some (.im (cu r))]) (C:=C) (C1:=C) (C2:=C) (x:=.int r.2.2.2.2.1) (y:=.int day) (z:=.int r.2.2.2.2.2.1) (a:=decide (r.2.2.2.2.1≤day)) (b:=decide (day≤r.2.2.2.2.2.1)) (by simp_arith[cu]) rfl rfl (by simp_arith[cu]) rfl;refine gj [some (.im (.dict (aR (bG ps)))),some (.im (dj z a1 b1 n)),some (.im (.int day)),some (.im (cu r))] rfl rfl ?_ rfl rfl;simp only[cu] at c⊢;unfold oO;cases hA:decide (r.2.1=a1∨r.2.1=b1) with
 |true=>
  simp_arith[zF,fW,eV,iT,lQ,ct,Dd,hA]
 |false=>
  cases hB:decide (r.2.2.1=a1∨r.2.2.1=b1) with
  |true=>
   simp_arith[zF,fW,eV,iT,lQ,ct,Dd,hA,hB]
  |false=>
   cases hC:decide (r.2.2.2.1∈up ps z) with
   |false=>simp_arith[zF,fW,eV,iT,lQ,ct,Dd,hA,hB,p,W4,hC]
   |true=>
    simp_arith[zF,fW,eV,iT,lQ,ct,Dd,hA,hB,p,W4,hC,qK,c];cases decide (r.2.2.2.2.1≤day)<;>cases decide (day≤r.2.2.2.2.2.1)<;>rfl
theorem XJ{α:Type}(D:α→aj):∀(l:List α)(n:Nat),(l.map D).eraseIdx n=(l.eraseIdx n).map D
 |[],_=>rfl
 |_::_,0=>rfl
 |x::l,n+1=>congrArg (D x::·) (XJ D l n)
theorem W6{α:Type}:∀{l:List α}{n:Nat}{x:α},l[n]?=some x→(x::l.eraseIdx n).Perm l
 |[],_,_,h=>by cases h
 |y::l,0,x,h=>by cases h;exact .refl _
 |y::l,n+1,x,h=>(KR y x _).trans ((W6 (l:=l) (n:=n) h).cons y)
theorem XM{α:Type}{D:α→aj}(hne:∀l:List α,lF (.list (l.map D)) (.list [])=some (.im (.bool (!l.isEmpty)))){b L j:Nat}{v1:Option Vl}:∀(n:Nat)(rest found:List α)(C:Ce),rest.length<n→found.length+rest.length≤100→Bl L C b (j+rest.length)→
  ∃(ys:List α)(C':Ce),ji Vz VB n [some (.ce b),v1,some (.ow (.list (rest.map D))),some (.ow (.list (found.map D)))] C=some (.nx,[some (.ce b),v1,some (.ow (.list [])),some (.ow (.list ((found++ys).map D)))],C')∧ys.Perm rest∧Bl L C' b j
 |0,rest,found,C,h,_,_=>absurd h (wO _)
 |n+1,rest,found,C,hn,hl,hB=>by
  have e0:=hne rest;by_cases hr:rest=[]
  ·subst hr
   refine⟨[],C,?_,.refl _,hB⟩
   unfold ji;rw[jP];simp only[kI,U9] at e0;simp_arith[e0]
  ·have hp:0<rest.length:=Ka.mpr hr;have e0:lF (.list (rest.map D)) (.list [])=some (.im (.bool true)):=by
    rw[e0];cases rest with
    |nil=>exact absurd rfl hr
    |cons _ _=>rfl
   obtain⟨t,C1,e1,t0,t1,iY⟩:=dw (m:=(rest.length:Int)) (k:=j+(rest.length-1)) (by rw[show j+(rest.length-1)+1=j+rest.length by omega];exact hB) (by omega) (by omega)
   have hk:t.toNat<rest.length:=by omega
   have q1:(rest.map D)[t.toNat]?=some (D rest[t.toNat]):=by rw[fY,ie hk];rfl
   have q2:(rest.map D).eraseIdx t.toNat=(rest.eraseIdx t.toNat).map D:=XJ D _ _;have pm:(rest[t.toNat]::rest.eraseIdx t.toNat).Perm rest:=W6 (ie hk);have ll:(rest.eraseIdx t.toNat).length=rest.length-1:=List.length_eraseIdx_of_lt hk
   obtain⟨ys,C',e2,p2,hB2⟩:=XM hne n (rest.eraseIdx t.toNat) (found++[rest[t.toNat]]) C1 (by omega) (by rw[fO];show found.length+1+_≤_;omega) (by rw[ll];exact iY)
   refine⟨rest[t.toNat]::ys,C',?_,(p2.cons _).trans pm,hB2⟩
   have g1:(0≤t∧t<((1000000:Nat):Int))=True:=eq_true ⟨t0,by omega⟩;have g2:(found.length<1000000)=True:=eq_true (by omega);rw[j0,gJ (l₁:=found)] at e2;unfold ji;simp_arith[e0,Ro,yp,intD,e1,g1,q1,g2,q2,ne_eq,not_false_eq_true,Nat.reduceEqDiff];exact e2
theorem ajl{α:Type}{D:α→aj}(hne:∀l:List α,lF (.list (l.map D)) (.list [])=some (.im (.bool (!l.isEmpty)))){C:Ce}{b L j:Nat}{xs:List α}(hl:xs.length≤100)(hB:Bl L C b (j+xs.length)):
  ∃(ys:List α)(C':Ce),Bq [.ce b,.im (.list (xs.map D))] C=some (.ow (.list (ys.map D)),C')∧ys.Perm xs∧Bl L C' b j:=by
 obtain⟨ys,C',e,p,hB'⟩:=XM hne (v1:=some (.im (.list (xs.map D)))) zW xs [] C (by show _<100000;omega) (by show 0+_≤_;omega) hB
 rw[kI,jc] at e
 refine⟨ys,C',gj [some (.ce b),some (.im (.list (xs.map D))),none,none] rfl rfl ?_ rfl (hB.eq hB'),p,hB'⟩
 simp_arith[Ml,Ii,qY,e]
theorem JV(a b c:aj){k:Int}(h0:0≤k)(h1:k<3):∃x,eN [a,b,c] k=some x∧(x=a∨x=b∨x=c):=by
 have:k=0∨k=1∨k=2:=by omega
 rcases this with rfl|rfl|rfl
 ·exact⟨a,a_t0 _ _,.inl rfl⟩
 ·exact⟨b,a_t1 _ _ _,.inr (.inl rfl)⟩
 ·exact⟨c,a_t2 _ _ _ _,.inr (.inr rfl)⟩
theorem Qk(a b:Int):∃v,rW [.int a,.int b]=some (.im (.int v))∧v≤a∧v≤b∧(v=a∨v=b):=by
 by_cases h:b<a
 ·exact⟨b,by simp only[rW,if_pos h],by omega,by omega,.inr rfl⟩
 ·exact⟨a,by simp only[rW,if_neg h],by omega,by omega,.inl rfl⟩
theorem ajm(a b:Int):∃v,zO [.int a,.int b]=some (.im (.int v))∧a≤v∧b≤v∧(v=a∨v=b):=by
 by_cases h:b>a
 ·exact⟨b,by simp only[zO,if_pos h],by omega,by omega,.inr rfl⟩
 ·exact⟨a,by simp only[zO,if_neg h],by omega,by omega,.inl rfl⟩
theorem Z5{C:Ce}{b L j:Nat}(h:Bl L C b (j+6)):∃(f l:Int)(C':Ce),zc [.ce b] C=some (.im (.tuple [.int f,.int l]),C')∧0≤f∧f≤l∧l≤99999∧Bl L C' b j:=by
 refine hide fun GG gg=>?_
 obtain⟨t1,C1,e1,a1,b1,iY⟩:=dw (m:=9) (k:=j+5) h (by decide) (by decide)
 obtain⟨t2,C2,e2,a2,b2,hB2⟩:=dw (m:=9) (k:=j+4) iY (by decide) (by decide)
 obtain⟨t3,C3,e3,a3,b3,hB3⟩:=dw (m:=9) (k:=j+3) hB2 (by decide) (by decide)
 obtain⟨t4,C4,e4,a4,b4,sV⟩:=dw (m:=3) (k:=j+2) hB3 (by decide) (by decide)
 obtain⟨t5,C5,e5,a5,b5,Ey⟩:=dw (m:=12) (k:=j+1) sV (by decide) (by decide)
 obtain⟨t6,C6,e6,a6,b6,Ai⟩:=dw (m:=3) (k:=j) Ey (by decide) (by decide)
 obtain⟨x,i1,hx⟩:=JV (.int t1) (.int t2) (.int (99990-t3)) a4 b4
 obtain⟨y,i2,hy⟩:=JV (.int 0) (.int t5) (.int 99999) a6 b6
 obtain⟨f,rfl,f0,f1⟩:∃f,x=.int f∧0≤f∧f≤99990:=by rcases hx with rfl|rfl|rfl<;>exact⟨_,rfl,by omega,by omega⟩
 obtain⟨g,rfl,g0⟩:∃g,y=.int g∧0≤g:=by rcases hy with rfl|rfl|rfl<;>exact⟨_,rfl,by omega⟩
 obtain⟨l,e7,l1,l2,l3⟩:=Qk 99999 (f+g)
 refine gg ⟨f,l,C6,gj [some (.ce b),none] rfl rfl ?_ rfl (h.eq Ai),f0,by omega,l1,Ai⟩;simp_arith[Mm,e1,e2,e3,e4,i1,e5,e6,i2,e7]
theorem aaK{C:Ce}{b L j:Nat}(h:Bl L C b (j+4)):∃(n:Int)(C':Ce),zf [.ce b] C=some (.im (.int n),C')∧0≤n∧n≤1000000000∧Bl L C' b j:=by
 refine hide fun GG gg=>?_
 obtain⟨t1,C1,e1,a1,b1,iY⟩:=dw (m:=4) (k:=j+3) h (by decide) (by decide)
 obtain⟨t2,C2,e2,a2,b2,hB2⟩:=dw (m:=4) (k:=j+2) iY (by decide) (by decide)
 obtain⟨t3,C3,e3,a3,b3,hB3⟩:=dw (m:=3) (k:=j+1) hB2 (by decide) (by decide)
 obtain⟨t4,C4,e4,a4,b4,sV⟩:=dw (m:=3) (k:=j) hB3 (by decide) (by decide)
 obtain⟨x,i1,hx⟩:=JV (.int t1) (.int (100+t2)) (.int (1000000000-t3)) a4 b4
 obtain⟨f,rfl,f0,f1⟩:∃f,x=.int f∧0≤f∧f≤1000000000:=by rcases hx with rfl|rfl|rfl<;>exact⟨_,rfl,by omega,by omega⟩
 have pw:vL (.int 10) (.int 9)=some (.im (.int 1000000000)):=rfl;refine gg ⟨f,C4,gj [some (.ce b)] rfl rfl ?_ rfl (h.eq sV),f0,f1,sV⟩;simp_arith[Mp,e1,e2,pw,e3,e4,i1]
theorem We(ps:List (Str×Str))(h:ps.length≤60):∃qs:List Str,qs.Perm (ps.map (·.1))∧Cj [.dict (aR (bG ps))]=some (.ow (.list (qs.map .str))):=by
 refine⟨sy strLt (ps.map (·.1)),zm _,?_⟩
 have e:(aR (bG ps)).map (·.1)=(ps.map (·.1)).map c7:=by
  unfold aR bG;rw[dX,dX,dX];rfl
 show((strsOf ((aR (bG ps)).map (·.1))).bind _)=_
 rw[e,MK,ir,decide_eq_true (by rw[aX];omega)];rfl
theorem ajn{a d m:Int}(a0:0≤a)(a1:a<m)(d0:1≤d)(d1:d<m):0≤(a+d)%m∧(a+d)%m<m∧(a+d)%m≠a:=by
 refine⟨lY _ (by omega),rC _ (by omega),?_⟩
 by_cases h:a+d<m
 ·rw[Km (by omega) h];omega
 ·have e:(a+d)%m=a+d-m:=by
   rw[show a+d=m+(a+d-m) by omega,Int.add_emod_left,Km (by omega) (by omega)];omega
  omega
abbrev sW(b:Nat)(ps:List (Str×Str))(pe:List Str)(many:Int)(pap:aj)(day:Int)(lv:List cQ)(os:List Str)(v8 v9 v10 v11 cA gY:Option Vl):En:=
 [some (.ce b),some (.im (.dict (aR (bG ps)))),some (.im (.list (pe.map .str))),some (.im (.int many)),some (.im pap),some (.im (.int day)),some (.ow (.list (lv.map cu))),some (.ow (.list (os.map .str))),v8,v9,v10,v11,cA,gY]
structure abJ(zs own pe:List Str)(num:Int)(r:cQ):Prop where
 num:r.1=num
 ok:zB zs own r
 giver:r.2.1∈pe
 taker:r.2.2.1∈pe
theorem afc{C:Ce}{b L j:Nat}{zs pe:List Str}{ps:List (Str×Str)}{z a1 b1:Str}{n day num many:Int}{lv:List cQ}(hB:Bl L C b (j+19))(hN:Names zs)(hP:gn zs ps)(p0:0<ps.length)(p8:ps.length≤8)(pl:2≤pe.length)(pl2:pe.length≤20)(pn:pe.Nodup)(pz:∀x∈pe,x∈zs)(n0:0≤n)(n1:n≤1000000000)(d0:0≤day)(d1:day≤99999)(nb:0≤num∧num≤2000)(ll:lv.length≤16)(v9 v10 v11 cA gY:Option Vl):
  ∃(r:cQ)(C':Ce)(w9 w10 w11 w12 w13:Option Vl),wL (sW b ps pe many (dj z a1 b1 n) day lv (up ps z) (some (.im (.int num))) v9 v10 v11 cA gY) C=some (.nx,sW b ps pe many (dj z a1 b1 n) day (lv++[r]) (up ps z) (some (.im (.int num))) w9 w10 w11 w12 w13,C')∧abJ zs (ps.map (·.1)) pe num r∧Bl L C' b j:=by
 refine hide fun GG gg=>?_
 obtain⟨t1,C1,e1,a1',Em,iY⟩:=dw (m:=(pe.length:Int)) (k:=j+18) hB (by omega) (by omega)
 obtain⟨t2,C2,e2,a2,b2,hB2⟩:=dw (m:=(pe.length:Int)-1) (k:=j+17) iY (by omega) (by omega)
 obtain⟨t3,C3,e3,a3,b3,hB3⟩:=dw (m:=2) (k:=j+16) hB2 (by decide) (by decide)
 have mu:iM (.int t2) (.int t3)=some (.im (.int (t2*t3))):=mul_eq (.inl (by omega));have md:=mod_eq (i:=t1+1+t2*t3) (j:=(pe.length:Int)) (by omega)
 obtain⟨d,hd,dl,dh⟩:∃d:Int,t1+1+t2*t3=t1+d∧1≤d∧d<pe.length:=by
  have:t3=0∨t3=1:=by omega
  rcases this with rfl|rfl
  ·exact⟨1,by rw[Int.mul_zero];omega,by omega,by omega⟩
  ·exact⟨1+t2,by rw[Wh];omega,by omega,by omega⟩
 obtain⟨r0,r1,r2⟩:=ajn a1' Em dl dh
 rw[←hd] at r0 r1 r2
 generalize(t1+1+t2*t3)%(pe.length:Int)=to at md r0 r1 r2
 obtain⟨g,mg,ig,xg⟩:=rK (zs:=pe) a1' Em
 obtain⟨t,mt,it,xt⟩:=rK (zs:=pe) r0 r1
 have hne:g≠t:=fun z=>by
  subst z;have:=akI pn ig it;omega
 obtain⟨qs,qp,so⟩:=We ps (by omega)
 have ln:=XH ps
 obtain⟨t4,C4,e4,a4,b4,sV⟩:=dw (m:=(ps.length:Int)) (k:=j+15) hB3 (by omega) (by omega)
 obtain⟨y,my,_,xy⟩:=rK (zs:=qs) a4 (by rw[qp.length_eq,aX];exact b4)
 have oy:y∈ps.map (·.1):=qp.mem_iff.mp my
 obtain⟨f,l,C5,e5,f0,f1,f2,Ey⟩:=Z5 (j:=j+9) sV
 obtain⟨s,C6,e6,s0,s1,Ai⟩:=aaK (j:=j+5) Ey
 obtain⟨t7,C7,e7,a7,b7,Ez⟩:=dw (m:=3) (k:=j+4) Ai (by decide) (by decide)
 have q:(lv.length<1000000)=True:=eq_true (by omega);have Tq:∀a b c d e f:aj,bR (.tuple [a,b,c,d]) (.tuple [e,f])=some (.im (.tuple [a,b,c,d,e,f])):=fun _ _ _ _ _ _=>Rj (Fg rfl)
 have Tr:∀a b c d e f g:aj,bR (.tuple [a,b,c,d,e,f]) (.tuple [g])=some (.im (.tuple [a,b,c,d,e,f,g])):=fun _ _ _ _ _ _ _=>Rj (Fg rfl)
 have pw:vL (.int 10) (.int 9)=some (.im (.int 1000000000)):=rfl;have nn:=ne_nil (up ps z) fun x hx=>WW hN hP (aaJ hN hP hx)
 have gr:∀(y:Str)(f l m:Int)(w9:Option Vl),y∈ps.map (·.1)→(0≤f∧f≤l∧l≤99999)→(0≤m∧m≤1000000000)→abJ zs (ps.map (·.1)) pe num (num,g,t,y,f,l,m):=fun y f l m w9 hy hd hm=>⟨rfl,⟨nb,pz _ mg,pz _ mt,hne,hy,hd,hm⟩,mg,mt⟩
 have other:∀C8,Bl L C8 b j→(wL (sW b ps pe many (dj z a1 b1 n) day lv (up ps z) (some (.im (.int num))) v9 v10 v11 cA gY) C=some (.nx,sW b ps pe many (dj z a1 b1 n) day (lv++[(num,g,t,y,f,l,s)]) (up ps z) (some (.im (.int num))) (some (.im (.int t1))) (some (.im (.int to))) (some (.im (.str y))) (some (.im (.tuple [.int f,.int l]))) (some (.im (.int s))),C8))→GG:=fun C8 h8 run=>gg ⟨_,C8,_,_,_,_,_,run,gr y f l s none oy ⟨f0,f1,f2⟩ ⟨s0,s1⟩,h8⟩
 by_cases h7:0<t7
 ·have JW:=decide_eq_true h7;by_cases hu:up ps z=[]
  ·rw[hu] at nn;refine other C7 (Ez.mono (by omega)) ?_;simp only[sW,hu,kI,U9] at nn⊢;simp_arith[wL,e1,e2,e3,mu,md,so,ln,e4,xy,e5,e6,e7,JW,nn,xg,xt,Tq,Tr,jX,nu,q];simp only[gJ,cj,kI,cu]
  ·have u0:0<(up ps z).length:=Ka.mpr hu;have ul:=QJ ps z;have nn:lF (.list ((up ps z).map .str)) (.list [])=some (.im (.bool true)):=by
    rw[nn];cases hh:up ps z with
    |nil=>exact absurd hh hu
    |cons _ _=>rfl
   obtain⟨t8,C8,e8,a8,b8,hB8⟩:=dw (m:=((up ps z).length:Int)) (k:=j+3) Ez (by omega) (by omega)
   obtain⟨y2,my2,_,xy2⟩:=rK (zs:=up ps z) a8 b8
   obtain⟨t9,C9,e9,a9,b9,hB9⟩:=dw (m:=2) (k:=j+2) hB8 (by decide) (by decide)
   obtain⟨tA,CA,eA,aA,bA,Tt⟩:=dw (m:=2) (k:=j+1) hB9 (by decide) (by decide)
   obtain⟨tB,CB,eB,aB,bB,Tu⟩:=dw (m:=2) (k:=j) Tt (by decide) (by decide)
   obtain⟨f',x1,x2,x3,x4⟩:=ajm 0 (day-t9)
   obtain⟨l',x5,x6,x7,x8⟩:=Qk 99999 (day+tA)
   obtain⟨m',x9,xA,xB,xC⟩:=Qk 1000000000 (n+tB)
   refine gg ⟨(num,g,t,y2,f',l',m'),CB,some (.im (.int t1)),some (.im (.int to)),some (.im (.str y2)),some (.im (.tuple [.int f',.int l'])),some (.im (.int m')),?_,gr y2 f' l' m' none (aaJ hN hP my2) ⟨x2,by omega,x6⟩ ⟨by omega,xA⟩,Tu⟩;simp_arith[wL,e1,e2,e3,mu,md,so,ln,e4,xy,e5,e6,e7,JW,nn,e8,xy2,e9,x1,eA,x5,pw,eB,x9,xg,xt,Tq,Tr,jX,nu,q];simp only[sW,gJ,cj,kI,cu]
 ·have JW:=decide_eq_false h7;refine other C7 (Ez.mono (by omega)) ?_;simp_arith[wL,e1,e2,e3,mu,md,so,ln,e4,xy,e5,e6,e7,JW,xg,xt,Tq,Tr,jX,nu,q];simp only[sW,gJ,cj,kI,cu]
theorem agO{C:Ce}{b L j:Nat}{zs pe:List Str}{ps:List (Str×Str)}{z a1 b1:Str}{n day:Int}{many:Int}(hB:Bl L C b (j+405))(hN:Names zs)(hP:gn zs ps)(p0:0<ps.length)(p8:ps.length≤8)(pl:2≤pe.length)(pl2:pe.length≤20)(pn:pe.Nodup)(pz:∀x∈pe,x∈zs)(n0:0≤n)(n1:n≤1000000000)(d0:0≤day)(d1:day≤99999)(m0:0≤many)(m1:many≤16):
  ∃(lv:List cQ)(C':Ce),Gh [.ce b,.im (.dict (aR (bG ps))),.im (.list (pe.map .str)),.im (.int many),.im (dj z a1 b1 n),.im (.int day)] C=some (.ow (.list (lv.map cu)),C')∧lv.length≤16∧(∀r∈lv,zB zs (ps.map (·.1)) r∧r.2.1∈pe∧r.2.2.1∈pe)∧(lv.map (·.1)).Pairwise (·<·)∧Bl L C' b j:=by
 refine hide fun GG gg=>?_
 have o1:=YW (C:=C) hN hP p8 z;have ig:decide ((1:Int)<(pe.length:Int))=true:=decide_eq_true (by omega);have mu:iM (.int many) (.int 1)=some (.im (.int (many*1))):=mul_eq (.inl (by omega));rw[Wh] at mu
 obtain⟨ns,C1,e1,nl,hn,rise,iY⟩:=agL (j:=j+304) (m:=many) hB m0 (by omega)
 obtain⟨env',C',e,lv,w8,w9,w10,w11,w12,w13,he,hm,hr,hB'⟩:=zp (g:=gNm 8) (body:=wL) (its:=ns.map .int) (env:=sW b ps pe many (dj z a1 b1 n) day [] (up ps z) none none none none none none) (C:=C1)
  (fun i env C2=>∃(lv:List cQ)(w8 w9 w10 w11 w12 w13:Option Vl),env=sW b ps pe many (dj z a1 b1 n) day lv (up ps z) w8 w9 w10 w11 w12 w13∧lv.map (·.1)=ns.take i∧(∀r∈lv,zB zs (ps.map (·.1)) r∧r.2.1∈pe∧r.2.2.1∈pe)∧Bl L C2 b (j+19*(16-i)))
  ⟨[],none,none,none,none,none,none,rfl,rfl,(fun _ h=>nomatch h),iY⟩ (fun i d env C2 hd hI=>by
   obtain⟨lv,w8,w9,w10,w11,w12,w13,rfl,hm,hr,hB⟩:=hI
   obtain⟨x,rfl,hx,mx,hi⟩:=aiX hd
   rw[Rm j 19 (by omega:i<16)] at hB;have ll:lv.length≤16:=by
    have:=congrArg o7 hm;rw[aX,m7] at this;omega
   obtain⟨r,C3,w9,w10,w11,w12,w13,e,h1,hB3⟩:=afc (z:=z) (a1:=a1) (b1:=b1) (many:=many) (lv:=lv) hB hN hP p0 p8 pl pl2 pn pz n0 n1 d0 d1 (hn x mx) ll w9 w10 w11 w12 w13
   refine⟨_,.nx,_,C3,rfl,e,.inl rfl,lv++[r],_,_,_,_,_,_,rfl,?_,fun q hq=>?_,hB3⟩
   ·rw[gJ,hm,take_snoc hx,cj,h1.num];rfl
   ·rcases cI.mp hq with hq|hq
    ·exact hr q hq
    ·rw[jm.mp hq]
     exact⟨h1.ok,h1.giver,h1.taker⟩)
 rw[aX] at hm hB';rw[List.take_length] at hm;subst he;have ll:lv.length≤16:=by
  have:=congrArg o7 hm;rw[aX] at this;omega
 have hB2:Bl L C' b j:=hB'.mono (Kv _ _);refine gg ⟨lv,C',gj [some (.ce b),some (.im (.dict (aR (bG ps)))),some (.im (.list (pe.map .str))),some (.im (.int many)),some (.im (dj z a1 b1 n)),some (.im (.int day)),none,none,none,none,none,none,none,none] rfl rfl ?_ rfl (hB.eq hB2),ll,hr,by rw[hm];exact rise,hB2⟩;simp only[sW,kI] at e;simp_arith[K3,o1,ig,vO,mu,e1,gb,e]
structure akJ(zs:List Str)(ps:List (Str×Str))(pe:List Str)(lv:List cQ)(z a1 b1:Str)(n day:Int):Prop where
 names:Names zs
 len:zs.length=24
 parts:gn zs ps
 p0:0<ps.length
 p8:ps.length≤8
 two:2≤pe.length
 few:pe.length≤17
 an1:pe.Nodup
 alo:∀x∈pe,x∈zs
 al1:z∈zs
 al2:a1∈zs
 al3:b1∈zs
 n0:0≤n
 n1:n≤1000000000
 d0:0≤day
 d1:day≤99999
 lR:lv.length≤16
 leaves:∀r∈lv,zB zs (ps.map (·.1)) r∧r.2.1∈pe∧r.2.2.1∈pe
 rise:(lv.map (·.1)).Pairwise (·<·)
abbrev alp(ps:List (Str×Str))(pe:List Str)(lv:List cQ)(z a1 b1:Str)(n day:Int):aj:=.tuple [.dict (aR (bG ps)),.list (pe.map .str),.list (lv.map cu),dj z a1 b1 n,.int day]
theorem ajo{C:Ce}{b L j:Nat}{most:Int}(hB:Bl L C b (j+460))(m0:0≤most)(m1:most≤16):
  ∃(zs:List Str)(ps:List (Str×Str))(pe:List Str)(lv:List cQ)(z a1 b1:Str)(n day:Int)(C':Ce),Io [.ce b,.im (.int most)] C=some (.im (alp ps pe lv z a1 b1 n day),C')∧akJ zs ps pe lv z a1 b1 n day∧Bl L C' b j:=by
 refine hide fun GG gg=>?_
 obtain⟨zs,C1,e1,hN,Tv,iY⟩:=ahO (m:=24) (j:=j+448) hB (by decide) (by decide)
 have Tv:zs.length=24:=Tv
 obtain⟨t2,C2,e2,a2,b2,hB2⟩:=dw (m:=8) (k:=j+447) iY (by decide) (by decide)
 have ct:=QW (zs:=zs) (m:=1+t2) (by omega) (by omega);have tl:(zs.take (1+t2).toNat).length=(1+t2).toNat:=by rw[m7];omega
 obtain⟨ps,C3,e3,hP,pl,hB3⟩:=agK (j:=j+431) (zs:=zs.take (1+t2).toNat) hB2 (by omega) ⟨hN.1.sublist (FJ _ _),fun z hz=>hN.2 z (uO hz)⟩
 have hP:=afO hP;have p0:0<ps.length:=by omega
 have p8:ps.length≤8:=by omega
 have ln:=XH ps
 obtain⟨t4,C4,e4,a4,b4,sV⟩:=dw (m:=3) (k:=j+430) hB3 (by decide) (by decide)
 obtain⟨x4,i4,h4⟩:=JV (.int 4) (.int 9) (.int 16) a4 b4
 obtain⟨w,rfl,w0,w1⟩:∃w,x4=.int w∧0<w∧w≤16:=by rcases h4 with rfl|rfl|rfl<;>exact⟨_,rfl,by omega,by omega⟩
 obtain⟨t5,C5,e5,a5,b5,Ey⟩:=dw (m:=w) (k:=j+429) sV w0 (by omega)
 obtain⟨k5,hk5⟩:∃k5:Nat,2+2+t5=((2+(2+k5):Nat):Int):=⟨t5.toNat,by omega⟩
 have EY:=Qj c7 (xs:=zs) (a:=2) (b:=2+(2+k5)) (by omega) (by omega);rw[←hk5,show 2+(2+k5)-2=2+k5 by omega] at EY;have EY:j9 (zs.map c7) (some 2) (some (2+2+t5))=_:=EY
 obtain⟨pe,hpe⟩:∃pe,pe=(zs.drop 2).take (2+k5):=⟨_,rfl⟩
 rw[←hpe] at EY;have pl1:pe.length=2+k5:=by rw[hpe,m7,Aq];omega
 have pnd:pe.Nodup:=by rw[hpe];exact hN.1.sublist ((FJ _ _).trans (List.drop_sublist _ _))
 have pin:∀x∈pe,x∈zs:=fun x hx=>by rw[hpe] at hx;exact Fj (uO hx)
 have JX:=Qj c7 (xs:=zs) (a:=18) (b:=20) (by decide) (by omega);have JX:j9 (zs.map c7) (some 18) (some 20)=_:=JX
 obtain⟨ex,hex⟩:∃ex,ex=(zs.drop 18).take (20-18):=⟨_,rfl⟩
 rw[←hex] at JX;have exl:ex.length≤2:=by rw[hex,m7];omega
 have xin:∀x∈ex,x∈zs:=fun x hx=>by rw[hex] at hx;exact Fj (uO hx)
 have ad1:bR (.list (pe.map .str)) (.list (ex.map .str))=some (.ow (.list ((pe++ex).map .str))):=by
  rw[gJ];exact add_l (by rw[aX,aX];omega)
 obtain⟨sm,hsm⟩:∃sm,sm=pe++ex:=⟨_,rfl⟩
 rw[←hsm] at ad1;have sl:0<sm.length∧sm.length≤100:=by rw[hsm,fO];omega
 have sin:∀x∈sm,x∈zs:=fun x hx=>by
  rw[hsm] at hx;rcases cI.mp hx with hx|hx
  ·exact pin x hx
  ·exact xin x hx
 obtain⟨t6,C6,e6,a6,b6,Ai⟩:=dw (m:=(sm.length:Int)) (k:=j+428) Ey (by omega) (by omega)
 obtain⟨s1,m1',_,x1⟩:=rK (zs:=sm) a6 b6
 obtain⟨t7,C7,e7,a7,b7,Ez⟩:=dw (m:=(sm.length:Int)) (k:=j+427) Ai (by omega) (by omega)
 obtain⟨s2,m2',_,x2⟩:=rK (zs:=sm) a7 b7
 have fin:∀(C9:Ce)(a1 b1:Str),a1∈zs→b1∈zs→Bl L C9 b (j+425)→(iC (fTst (aH uA (ao (fCal bO (aCons (fVar 0) (aCons (fCst (.int 3)) aNil)))) (ao (fCst (.int 0))))) (fSet 6 (fTup (aCons (aH bw (az 2) (ao (fCst (.int 20)))) (aCons (aH bw (az 2) (ao (aH bR (ao (fCst (.int 20))) (ao (fCal bO (aCons (fVar 0) (aCons (fCst (.int 2)) aNil))))))) aNil)))) fNext [some (.ce b),some (.im (.int most)),some (.ow (.list (zs.map .str))),some (.ow (.dict (aR (bG ps)))),some (.ow (.list (pe.map .str))),some (.ow (.list (sm.map .str))),some (.im (.tuple [.str s1,.str s2])),none,none,none] C7=some (.nx,[some (.ce b),some (.im (.int most)),some (.ow (.list (zs.map .str))),some (.ow (.dict (aR (bG ps)))),some (.ow (.list (pe.map .str))),some (.ow (.list (sm.map .str))),some (.im (.tuple [.str a1,.str b1])),none,none,none],C9))→GG:=fun C9 a1 b1 ha hb hB9 e9=>by
  obtain⟨qs,qp,so⟩:=We ps (by omega)
  have JZ:=Qj c7 (xs:=zs) (a:=22) (b:=23) (by decide) (by omega);have JZ:j9 (zs.map c7) (some 22) (some 23)=_:=JZ
  obtain⟨ey,Tw⟩:∃ey,ey=(zs.drop 22).take (23-22):=⟨_,rfl⟩
  rw[←Tw] at JZ;have eyl:ey.length=1:=by rw[Tw,m7,Aq];omega
  have yin:∀x∈ey,x∈zs:=fun x hx=>by rw[Tw] at hx;exact Fj (uO hx)
  have ql:qs.length=ps.length:=by rw[qp.length_eq,aX]
  have ad2:bR (.list (qs.map .str)) (.list (ey.map .str))=some (.ow (.list ((qs++ey).map .str))):=by
   rw[gJ];exact add_l (by rw[aX,aX];omega)
  obtain⟨qy,Tz⟩:∃qy,qy=qs++ey:=⟨_,rfl⟩
  rw[←Tz] at ad2;have qyl:qy.length=ps.length+1:=by rw[Tz,fO];omega
  have qin:∀x∈qy,x∈zs:=fun x hx=>by
   rw[Tz] at hx;rcases cI.mp hx with hx|hx
   ·have:=qp.mem_iff.mp hx;rw[MJ hP] at this;exact uO this
   ·exact yin x hx
  obtain⟨tA,CA,eA,aA,bA,Tt⟩:=dw (m:=9) (k:=j+424) hB9 (by decide) (by decide)
  obtain⟨u,hu,u0,u1⟩:∃u:Int,(if(tA==0)=true then(1:Int) else 0)=u∧0≤u∧u≤1:=⟨_,rfl,by split<;>omega,by split<;>omega⟩
  obtain⟨tB,CB,eB,aB,bB,Tu⟩:=dw (m:=(ps.length:Int)+u) (k:=j+423) Tt (by omega) (by omega)
  obtain⟨z,mz,_,xz⟩:=rK (zs:=qy) aB (by omega)
  obtain⟨n,CC,eC,n0,n1,hBC⟩:=aaK (j:=j+419) Tu
  obtain⟨f,l,CD,eD,f0,f1,f2,hBD⟩:=Z5 (j:=j+413) hBC
  obtain⟨tE,CE,eE,aE,bE,hBE⟩:=dw (m:=2) (k:=j+412) hBD (by decide) (by decide)
  obtain⟨day,iE,d0,d1⟩:∃day:Int,eN [pB f,.int l] tE=some (.int day)∧0≤day∧day≤99999:=by
   have:tE=0∨tE=1:=by omega
   rcases this with rfl|rfl
   ·exact⟨f,a_t0 _ _,f0,by omega⟩
   ·exact⟨l,a_t1 _ _ _,by omega,f2⟩
  obtain⟨tF,CF,eF,aF,bF,hBF⟩:=dw (m:=most+1) (k:=j+411) hBE (by omega) (by omega)
  obtain⟨lv,CG,eG,lR,hr,rise,hBG⟩:=agO (many:=tF) (j:=j+6) (z:=z) (a1:=a1) (b1:=b1) (n:=n) (day:=day) hBF hN hP p0 p8 (by omega) (by omega) pnd pin n0 n1 d0 d1 aF (by omega)
  refine gg ⟨zs,ps,pe,lv,z,a1,b1,n,day,CG,gj [some (.ce b),some (.im (.int most)),none,none,none,none,none,none,none,none] rfl rfl ?_ rfl (hB.eq hBG),⟨hN,Tv,hP,p0,p8,by omega,by omega,pnd,pin,qin z mz,ha,hb,n0,n1,d0,d1,lR,hr,rise⟩,hBG.mono (by omega)⟩;have t22:∀a b c d:aj,bR (.tuple [a,b]) (.tuple [c,d])=some (.im (.tuple [a,b,c,d])):=fun _ _ _ _=>Rj (Fg rfl)
  simp_arith[Qe,e1,e2,fW,eV,iT,lQ,ct,e3,e4,i4,e5,EY,JX,ad1,e6,x1,e7,x2,↓e9,so,JZ,ad2,ln,eA,vO,hu,eB,xz,eC,t22,eD,eE,iE,eF,eG]
 obtain⟨t8,C8,e8,a8,b8,hB8⟩:=dw (m:=3) (k:=j+426) Ez (by decide) (by decide)
 by_cases h8:0<t8
 ·have TF:=decide_eq_true h8
  obtain⟨t9,C9,e9,a9,b9,hB9⟩:=dw (m:=2) (k:=j+425) hB8 (by decide) (by decide)
  obtain⟨y0,n0,_,z0⟩:=rK (zs:=zs) (k:=20) (by omega) (by omega)
  obtain⟨y1,n1,_,z1⟩:=rK (zs:=zs) (k:=20+t9) (by omega) (by omega)
  exact fin C9 y0 y1 n0 n1 hB9 (by simp_arith[e8,TF,z0,e9,z1])
 ·have TF:=decide_eq_false h8;exact fin C8 s1 s2 (sin _ m1') (sin _ m2') hB8.dec (by simp_arith[e8,TF])
def jl(r q:List Int):Prop:=r.length<q.length∨(r.length=q.length∧lexLe r q)
theorem Y4:∀r:List Int,lexLe r r
 |[]=>trivial
 |a::r=>.inr ⟨rfl,Y4 r⟩
theorem lex_trans:∀{r q s:List Int},lexLe r q→lexLe q s→lexLe r s
 |[],_,_,_,_=>trivial
 |a::r,b::q,c::s,h1,h2=>by
  rcases h1 with h1|⟨h1,k1⟩
  ·rcases h2 with h2|⟨h2,k2⟩<;>exact .inl (by omega)
  ·rcases h2 with h2|⟨h2,k2⟩
   ·exact .inl (by omega)
   ·exact .inr ⟨by omega,lex_trans k1 k2⟩
theorem Y5(n:Int):∀{r q:List Int},r.length=q.length→lexLe r q→lexLe (r++[n]) (q++[n])
 |[],[],_,_=>.inr ⟨rfl,trivial⟩
 |a::r,b::q,l,h=>h.imp id fun h=>⟨h.1,Y5 n (Gw l) h.2⟩
theorem jl.refl(r:List Int):jl r r:=.inr ⟨rfl,Y4 r⟩
theorem jl.trans{r q s:List Int}(h1:jl r q)(h2:jl q s):jl r s:=by
 rcases h1 with h1|⟨h1,k1⟩
 ·rcases h2 with h2|⟨h2,k2⟩<;>exact .inl (by omega)
 ·rcases h2 with h2|⟨h2,k2⟩
  ·exact .inl (by omega)
  ·exact .inr ⟨by omega,lex_trans k1 k2⟩
theorem jl.snoc{r q:List Int}(n:Int)(h:jl r q):jl (r++[n]) (q++[n]):=by
 unfold jl;rw[fO,fO];rcases h with h|⟨h,k⟩
 ·exact .inl (by omega)
 ·exact .inr ⟨by omega,Y5 n h k⟩
def ltB(r q:List Int):Bool:=if(r.length:Int)=q.length then di (r.map .inl) (q.map .inl) else decide ((r.length:Int)<q.length)
theorem QX:∀{r q:List Int},r.length=q.length→(di (r.map .inl) (q.map .inl)=true→lexLe r q)∧(di (r.map .inl) (q.map .inl)=false→lexLe q r)
 |[],[],_=>⟨fun _=>trivial,fun _=>trivial⟩
 |a::r,b::q,l=>by
  rw[cj,cj,di];have ih:=QX (Gw l);by_cases e:a=b
  ·rw[if_pos (congrArg jQ e)]
   exact⟨fun h=>.inr ⟨e,ih.1 h⟩,fun h=>.inr ⟨e.symm,ih.2 h⟩⟩
  ·rw[if_neg fun h=>e (by injection h)]
   refine⟨fun h=>.inl (of_decide_eq_true h),fun h=>.inl ?_⟩
   have:=of_decide_eq_false h;omega
theorem aaL(r q:List Int):(ltB r q=true→jl r q)∧(ltB r q=false→jl q r):=by
 unfold ltB;by_cases e:(r.length:Int)=q.length
 ·rw[if_pos e];have e:r.length=q.length:=by omega
  exact⟨fun h=>.inr ⟨e,(QX e).1 h⟩,fun h=>.inr ⟨e.symm,(QX e).2 h⟩⟩
 ·rw[if_neg e]
  refine⟨fun h=>.inl ?_,fun h=>.inl ?_⟩
  ·have:=of_decide_eq_true h;omega
  ·have:=of_decide_eq_false h;omega
theorem XN:∀r:List Int,keysOf (r.map .int)=some (r.map .inl)
 |[]=>rfl
 |a::r=>by
  rw[cj,keysOf,XN r];rfl
theorem ahW(r q:List Int):Dt (.tuple [.int r.length,.list (r.map .int)]) (.tuple [.int q.length,.list (q.map .int)])=some (.im (.bool (ltB r q))):=by
 unfold Dt;simp only[XN,ir];refine if_pos fun h=>?_
 have:r.length=q.length:=by omega
 rw[dX,dX,show(bI ∘ jQ:Int→Bool)=fun _=>true from rfl,ad9,ad9,this]
abbrev Tb:=List (Str×List Int)
def iZ(f:Tb):List (Str×aj):=f.map fun x=>(x.1,.list (x.2.map .int))
def cM(f:Tb)(p:Str):Option (List Int):=(f.find? fun x=>decide (x.1=p)).map (·.2)
theorem vp(x:Str×List Int)(l:Tb)(p:Str):cM (x::l) p=if x.1=p then some x.2 else cM l p:=by
 unfold cM;rw[nP];by_cases h:x.1=p
 ·rw[decide_eq_true h,if_pos h];rfl
 ·rw[decide_eq_false h,if_neg h]
def vZ(f:Tb)(z:Str)(v:List Int):Tb:=if(cM f z).isSome then f.map (fun x=>if x.1=z then(z,v) else x) else f++[(z,v)]
theorem Iu(z p:Str)(v:List Int)(f:Tb):cM (vZ f z v) p=if z=p then some v else cM f p:=by
 have set:∀f:Tb,cM (f.map fun x=>if x.1=z then(z,v) else x) p=if z=p then(cM f p).map fun _=>v else cM f p:=fun f=>by
  induction f with
  |nil=>split<;>rfl
  |cons x f ih=>
   rw[cj,vp,vp,ih];by_cases h2:z=p
   ·subst h2;by_cases h:x.1=z
    ·simp[h]
    ·simp[h]
   ·by_cases h:x.1=z
    ·simp[h,h2]
    ·simp[h,h2]
 have app:∀f:Tb,cM (f++[(z,v)]) p=(cM f p).or (if z=p then some v else none):=fun f=>by
  induction f with
  |nil=>exact vp _ _ _
  |cons x f ih=>
   rw[jO,vp,vp,ih];by_cases h:x.1=p
   ·rw[if_pos h,if_pos h];rfl
   ·rw[if_neg h,if_neg h]
 unfold vZ;split
 ·rename_i h;rw[set];by_cases e:z=p
  ·subst e
   obtain⟨w,hw⟩:=uL.mp h
   rw[if_pos rfl,if_pos rfl,hw];rfl
  ·rw[if_neg e,if_neg e]
 ·rename_i h;rw[app];by_cases e:z=p
  ·subst e;rw[Option.not_isSome_iff_eq_none.mp h,if_pos rfl];rfl
  ·rw[if_neg e,if_neg e,Option.or_none]
theorem ahX(f:Tb)(z:Str)(v:List Int):(vZ f z v).length≤f.length+1:=by
 unfold vZ;split
 ·rw[aX];exact Bm _
 ·rw[fO];exact bD _
theorem Iv(f:Tb)(z:Str):mK (aR (iZ f)) (.str z)=some ((cM f z).map fun v=>.list (v.map .int)):=by
 rw[Nk];unfold iZ cM;rw[Vu,Ba,Ba];rfl
theorem alq(f:Tb)(z:Str):jq (.str z) (.dict (aR (iZ f)))=some (.im (.bool (cM f z).isSome)):=by
 show((mK (aR (iZ f)) (.str z)).map (·.isSome)).map (fun b=>Vl.im (.bool b))=_
 rw[Iv,jD,FP];rfl
theorem alr{f:Tb}{z:Str}{v:List Int}(h:cM f z=some v):bw (.dict (aR (iZ f))) (.str z)=some (.im (.list (v.map .int))):=by
 unfold bw sU;simp only[Iv,h,jD]
theorem akK(f:Tb)(z:Str)(v:List Int):putD (aR (iZ f)) (.str z) (.list (v.map .int))=some (aR (iZ (vZ f z v))):=by
 have ks:(cM f z).isSome=true↔z∈(iZ f).map (·.1):=by
  unfold cM iZ;rw[FP,dX,List.find?_isSome];simp only[dG,decide_eq_true_eq];rfl
 unfold vZ;by_cases h:(cM f z).isSome=true
 ·rw[if_pos h]
  show(if(cD cJ (aR (iZ f))).isSome then some (mU cJ (.inr z) (.str z) (.list (v.map .int)) (aR (iZ f))) else none)=_
  rw[BK];refine congrArg some ?_;unfold mU;rw[if_pos]
  ·unfold aR iZ;rw[dX,dX,dX,dX];refine yG fun x _=>?_
   by_cases e:x.1=z
   ·simp[zE,e]
   ·simp[zE,e]
  ·obtain⟨x,hx,e⟩:=dG.mp (ks.mp h)
   exact adU.mpr ⟨(.str x.1,x.2),dG.mpr ⟨x,hx,rfl⟩,decide_eq_true ((zE _ _).mpr e)⟩
 ·rw[if_neg h,Oq fun m=>h (ks.mpr m)];unfold iZ;rw[gJ];rfl
def DW(v:List Int):Option (List Int)→Bool
 |none=>true
 |some o=>ltB v o
def jY(f:Tb)(r:cQ):Tb:=match cM f r.2.1 with
 |none=>f
 |some v=>if DW (v++[r.1]) (cM f r.2.2.1) then vZ f r.2.2.1 (v++[r.1]) else f
def qT(lv:List cQ):Nat→Tb→Tb
 |0,f=>f
 |n+1,f=>qT lv n (lv.foldl jY f)
def oW(f g:Tb):Prop:=∀x v,cM f x=some v→∃w,cM g x=some w∧jl w v
theorem oW.refl(f:Tb):oW f f:=fun x v h=>⟨v,h,jl.refl _⟩
theorem oW.trans{f g h:Tb}(a:oW f g)(b:oW g h):oW f h:=fun x v e=>by
 obtain⟨w,e1,l1⟩:=a x v e
 obtain⟨u,e2,l2⟩:=b x w e1
 exact⟨u,e2,l2.trans l1⟩
theorem aaM(f:Tb)(r:cQ):oW f (jY f r):=by
 unfold jY;split
 ·exact oW.refl f
 ·rename_i v hv;split
  ·rename_i b;intro x w hx;rw[Iu];by_cases e:r.2.2.1=x
   ·rw[if_pos e];rw[e,hx] at b
    exact⟨_,rfl,(aaL _ _).1 b⟩
   ·rw[if_neg e]
    exact⟨w,hx,jl.refl _⟩
  ·exact oW.refl f
theorem ajp{f:Tb}{r:cQ}{v:List Int}(h:cM f r.2.1=some v):∃w,cM (jY f r) r.2.2.1=some w∧jl w (v++[r.1]):=by
 unfold jY;rw[h];show ∃w,cM (if DW (v++[r.1]) (cM f r.2.2.1) then vZ f r.2.2.1 (v++[r.1]) else f) r.2.2.1=some w∧_;split
 ·rw[Iu,if_pos rfl]
  exact⟨_,rfl,jl.refl _⟩
 ·rename_i b;cases o:cM f r.2.2.1 with
  |none=>rw[o] at b;exact absurd rfl b
  |some w=>
   rw[o] at b
   exact⟨w,rfl,(aaL _ _).2 (U6 _▸b)⟩
theorem QZ:∀(lv:List cQ)(f:Tb),oW f (lv.foldl jY f)
 |[],f=>oW.refl f
 |r::lv,f=>(aaM f r).trans (QZ lv (jY f r))
theorem aaN(lv:List cQ):∀(n:Nat)(f:Tb),oW f (qT lv n f)
 |0,f=>oW.refl f
 |n+1,f=>(QZ lv f).trans (aaN lv n _)
theorem Z6{r:cQ}:∀{lv:List cQ}{f:Tb}{v:List Int},r∈lv→cM f r.2.1=some v→∃w,cM (lv.foldl jY f) r.2.2.1=some w∧jl w (v++[r.1])
 |q::lv,f,v,hm,hg=>by
  rw[Av];rcases bL.mp hm with c|hm
  ·subst c
   obtain⟨w,e,l⟩:=ajp hg
   obtain⟨u,e2,l2⟩:=QZ lv _ _ _ e
   exact⟨u,e2,l2.trans l⟩
  ·obtain⟨w,e,l⟩:=aaM f q _ _ hg
   obtain⟨u,e2,l2⟩:=Z6 hm e
   exact⟨u,e2,l2.trans (l.snoc _)⟩
theorem Z7{lv:List cQ}{a x:Str}{p:List Int}(hp:gZ (lv.map uD) a p x):∀{k:Nat}{f:Tb}{v p0:List Int},cM f a=some v→jl v p0→p.length≤k→∃w,cM (qT lv k f) x=some w∧jl w (p0++p):=by
 induction hp with
 |nil _=>
  intro k f v p0 h l _
  obtain⟨w,e,l2⟩:=aaN lv k f _ _ h
  exact⟨w,e,by rw[jP];exact l2.trans l⟩
 |cons h1 _ ih=>
  intro k f v p0 h l hl;cases k with
  |zero=>exact absurd hl (ac8 _)
  |succ k=>
   obtain⟨c,hr,e⟩:=dG.mp h1
   injection e with e1 e2
   injection e2 with e2 e3
   obtain⟨w,e4,l4⟩:=Z6 (f:=f) hr (by rw[e2];exact h)
   rw[e3] at e4;rw[e1] at l4
   obtain⟨u,e5,l5⟩:=ih (k:=k) e4 (l4.trans (l.snoc _)) (Nat.le_of_succ_le_succ hl)
   rw[j0] at l5
   exact⟨u,e5,l5⟩
def yD(ws:List (Int×Str×Str))(h:Str)(f:Tb):Prop:=∀x v,cM f x=some v→gZ ws h v x
theorem akL{ws:List (Int×Str×Str)}{h:Str}{f:Tb}{r:cQ}(hr:uD r∈ws)(H:yD ws h f):yD ws h (jY f r):=by
 unfold jY;split
 ·exact H
 ·rename_i v hv;split
  ·intro x w hx;rw[Iu] at hx;by_cases e:r.2.2.1=x
   ·rw[if_pos e] at hx;cases hx;rw[←e]
    exact(H _ _ hv).snoc hr
   ·rw[if_neg e] at hx;exact H x w hx
  ·exact H
theorem aaO{ws:List (Int×Str×Str)}{h:Str}:∀{lv:List cQ}{f:Tb},(∀r∈lv,uD r∈ws)→yD ws h f→yD ws h (lv.foldl jY f)
 |[],_,_,H=>H
 |r::lv,f,hr,H=>aaO (lv:=lv) (fun q hq=>hr q (eZ _ hq)) (akL (hr r fj) H)
theorem aaP{ws:List (Int×Str×Str)}{h:Str}{lv:List cQ}(hr:∀r∈lv,uD r∈ws):∀{n:Nat}{f:Tb},yD ws h f→yD ws h (qT lv n f)
 |0,_,H=>H
 |n+1,_,H=>aaP hr (n:=n) (aaO hr H)
def uK(f:Tb)(M:Nat):Prop:=f.length≤M+1∧∀x v,cM f x=some v→v.length≤M
theorem aaQ{f:Tb}{M:Nat}(r:cQ)(h:uK f M):uK (jY f r) (M+1):=by
 have h':uK f (M+1):=⟨U0 h.1,fun x v e=>U0 (h.2 x v e)⟩
 unfold jY;split
 ·exact h'
 ·rename_i v hv;split
  ·have:=ahX f r.2.2.1 (v++[r.1]);have:=h.1
   refine⟨by omega,fun x w hx=>?_⟩
   rw[Iu] at hx;by_cases e:r.2.2.1=x
   ·rw[if_pos e] at hx;cases hx;rw[fO];exact U5 (h.2 _ _ hv)
   ·rw[if_neg e] at hx;exact h'.2 x w hx
  ·exact h'
theorem aaR:∀{lv:List cQ}{f:Tb}{M:Nat},uK f M→uK (lv.foldl jY f) (M+lv.length)
 |[],_,_,h=>h
 |r::lv,f,M,h=>by
  have:=aaR (lv:=lv) (aaQ r h);rw[Nat.add_right_comm] at this;exact this
theorem agP{C:Ce}{lv:List cQ}{h:Str}(lR:lv.length≤16)(s:Str):xY (lv.map uD) h s (cM (qT lv lv.length [(h,[])]) s)∧∀v,cM (qT lv lv.length [(h,[])]) s=some v→v.length≤16:=by
 have T0:yD (lv.map uD) h [(h,[])]:=fun x v e=>by
  rw[vp] at e;split at e
  ·rename_i k;cases e;rw[←k];exact .nil _
  ·cases e
 have T:=aaP (lv:=lv) (fun r hr=>dG.mpr ⟨r,hr,rfl⟩) (n:=lv.length) T0;have few:∀r,gZ (lv.map uD) h r s→∃w,cM (qT lv lv.length [(h,[])]) s=some w∧w.length≤lv.length∧(r.length≤lv.length→jl w r):=fun r hr=>by
  obtain⟨st,_,B⟩:=Y0 (C:=C) (ws:=(lv.map uD).map Ds) (s:=h) (by rw[aX,aX];omega)
  obtain⟨p,hp,pl⟩:=B.ahC ⟨r,hr⟩
  rw[aX] at pl;have f0:cM [(h,[])] h=some []:=by rw[vp,if_pos rfl]
  obtain⟨w,e,l⟩:=Z7 hp f0 (jl.refl []) pl
  refine⟨w,e,?_,fun rl=>?_⟩
  ·rw[jc] at l;rcases l with l|l<;>omega
  ·obtain⟨w',e',l'⟩:=Z7 hr f0 (jl.refl []) rl
   rw[e] at e';cases e';exact l'
 cases e:cM (qT lv lv.length [(h,[])]) s with
 |none=>
  refine⟨fun r hr=>?_,fun v k=>nomatch k⟩
  obtain⟨w,e2,_⟩:=few r hr
  rw[e] at e2;cases e2
 |some v=>
  refine⟨⟨T s v e,fun r hr=>?_⟩,fun v' k=>by
   obtain⟨w,e2,l2,_⟩:=few v (T s v e)
   rw[e] at e2;cases e2;cases k;omega⟩
  obtain⟨w,e2,l2,k⟩:=few r hr
  rw[e] at e2;cases e2;by_cases c:r.length≤lv.length
  ·exact k c
  ·exact .inl (by omega)
theorem Q0{f g:FS}{env e1:En}{C C1:Ce}(h:f env C=some (.nx,e1,C1)):fSeq f g env C=g e1 C1:=by
 unfold fSeq;rw[h]
theorem akM{fi:FI}{g:FG}{b:FS}{env e1:En}{C C1:Ce}{its:List aj}(h:fi env C=some (its,e1,C1)):gb fi g b env C=jn g b its e1 C1:=by
 unfold gb;rw[h]
theorem akN{C:Ce}{f:FB}{env:En}{k:Int}(h:f env C=some (.int k,env,C))(k1:0≤k)(k2:k≤1000):gW f env C=some (gR 0 k.toNat,env,C):=by
 unfold gW;rw[h];exact vY (by omega) (by omega) _ _
theorem ahY(r:cQ)(l:List aj):fL (cu r::l)=fL l:=by
 unfold cu;simp only[fL,jr,Bool.true_and,Bool.and_true]
theorem XQ:∀l:List cQ,fL (l.map cu)=true
 |[]=>rfl
 |r::l=>by rw[cj,ahY];exact XQ l
abbrev pZ(v0 v1 v2 v3 v4 v5:Option Vl)(f:Tb)(v7 v8 v9 v10:Option Vl):En:=[v0,v1,v2,v3,v4,v5,some (.ow (.dict (aR (iZ f)))),v7,v8,v9,v10]
section
variable{C:Ce}{v0 v1 v2 v3 v4 v5 v7:Option Vl}
theorem ahZ{f:Tb}{M:Nat}(r:cQ)(hz:uK f M)(hM:M≤1000)(v9 v10:Option Vl):∃w9 w10,K4 (pZ v0 v1 v2 v3 v4 v5 f v7 (some (.im (cu r))) v9 v10) C=some (.nx,pZ v0 v1 v2 v3 v4 v5 (jY f r) v7 (some (.im (cu r))) w9 w10,C):=by
 have q:((aR (iZ f)).length<1000000)=True:=eq_true (by have:=hz.1;unfold aR iZ;rw[aX,aX];omega);have i1:=alq f r.2.1;have g1:=Iv f r.2.2.1;unfold jY;simp only[pZ,cu];cases hv:cM f r.2.1 with
 |none=>
  rw[hv] at i1
  refine⟨v9,v10,?_⟩
  simp_arith[i1,Ut]
 |some v=>
  rw[hv] at i1;have x1:=alr hv;have ad:bR (.list (v.map .int)) (.list [.int r.1])=some (.ow (.list ((v++[r.1]).map .int))):=by
   rw[gJ];exact add_l (by have:=hz.2 _ _ hv;rw[aX];show _+1≤_;omega)
  have p1:=akK f r.2.2.1 (v++[r.1])
  obtain⟨row,hrow⟩:∃row,v++[r.1]=row:=⟨_,rfl⟩
  rw[hrow] at ad p1;cases ho:cM f r.2.2.1 with
  |none=>
   rw[ho] at g1
   refine⟨some (.im (.list (row.map .int))),some (.im .none),?_⟩
   simp_arith[i1,Ak,hrow,x1,ad,uC,g1,aea,vM,isNone,DW,oN,qL,p1,q]
  |some o=>
   rw[ho] at g1;have l1:=ahW row o;cases hb:ltB row o with
   |true=>
    rw[hb] at l1
    refine⟨some (.im (.list (row.map .int))),some (.im (.list (o.map .int))),?_⟩
    simp_arith[i1,Ak,hrow,x1,ad,uC,g1,jD,vM,isNone,DW,hb,aX,l1,oN,qL,p1,q]
   |false=>
    rw[hb] at l1
    refine⟨some (.ow (.list (row.map .int))),some (.im (.list (o.map .int))),?_⟩
    simp_arith[i1,Ak,hrow,x1,ad,uC,g1,jD,vM,isNone,DW,hb,aX,l1,oX]
theorem aaS:∀(lv:List cQ)(f:Tb)(M:Nat)(v8 v9 v10:Option Vl),uK f M→M+lv.length≤1000→∃w8 w9 w10,jn (gNm 8) K4 (lv.map cu) (pZ v0 v1 v2 v3 v4 v5 f v7 v8 v9 v10) C=some (.nx,pZ v0 v1 v2 v3 v4 v5 (lv.foldl jY f) v7 w8 w9 w10,C)
 |[],f,M,v8,v9,v10,_,_=>⟨v8,v9,v10,rfl⟩
 |r::lv,f,M,v8,v9,v10,hz,hl=>by
  rw[cN] at hl
  obtain⟨x9,x10,e1⟩:=ahZ (C:=C) (v0:=v0) (v1:=v1) (v2:=v2) (v3:=v3) (v4:=v4) (v5:=v5) (v7:=v7) r hz (by omega) v9 v10
  obtain⟨w8,w9,w10,e⟩:=aaS lv (jY f r) (M+1) (some (.im (cu r))) x9 x10 (aaQ r hz) (by omega)
  refine⟨w8,w9,w10,?_⟩
  rw[Av,←e,cj,jn];simp only[pZ,gNm,Uu,Uv] at e1⊢;simp only[e1]
end
theorem W7{C:Ce}{v0 v1 v2 v3 v4:Option Vl}{lv:List cQ}(lR:lv.length≤16):∀(its:List aj)(f:Tb)(M:Nat)(sv:Vl)(v7 v8 v9 v10:Option Vl),sv=.ow (.list (lv.map cu))∨sv=.im (.list (lv.map cu))→uK f M→M+16*its.length≤900→∃w5 w7 w8 w9 w10,jn (gNm 7) VD its (pZ v0 v1 v2 v3 v4 (some sv) f v7 v8 v9 v10) C=some (.nx,pZ v0 v1 v2 v3 v4 w5 (qT lv its.length f) w7 w8 w9 w10,C)
 |[],f,M,sv,v7,v8,v9,v10,_,_,_=>⟨some sv,v7,v8,v9,v10,rfl⟩
 |d::its,f,M,sv,v7,v8,v9,v10,hv,hz,hl=>by
  rw[cN] at hl
  obtain⟨x8,x9,x10,e1⟩:=aaS (C:=C) (v0:=v0) (v1:=v1) (v2:=v2) (v3:=v3) (v4:=v4) (v5:=some (.im (.list (lv.map cu)))) (v7:=some (.im d)) lv f M v8 v9 v10 hz (by omega)
  obtain⟨w5,w7,w8,w9,w10,e2⟩:=W7 lR its (lv.foldl jY f) (M+lv.length) (.im (.list (lv.map cu))) (some (.im d)) x8 x9 x10 (.inr rfl) (aaR hz) (by omega)
  refine⟨w5,w7,w8,w9,w10,?_⟩
  rw[cN,qT,←e2,jn];simp only[pZ] at e1⊢;rcases hv with rfl|rfl
  ·simp_arith[gb,e1]
  ·simp_arith[gb,e1]
theorem afP{C:Ce}{zs:List Str}{ps:List (Str×Str)}(hN:Names zs)(hP:gn zs ps)(p8:ps.length≤8)(z a1 b1:Str)(n day:Int)(lv:List cQ):jG .one K5 K6 [some (.im (.dict (aR (bG ps)))),some (.im (dj z a1 b1 n)),some (.im (.int day))] (lv.map cu) C=some ((lv.filter (oO (up ps z) n day a1 b1)).map cu,C):=by
 refine u6 (T:=.one) (ft:=K5) (fe:=K6) (fs:=[some (.im (.dict (aR (bG ps)))),some (.im (dj z a1 b1 n)),some (.im (.int day))]) (C:=C) cu (oO (up ps z) n day a1 b1) cu (l:=lv) fun r _=>⟨[cu r],rfl,?_,fun _=>⟨.im (cu r),_,rfl,rfl⟩⟩
 have q:=ajk (C:=C) hN hP p8 z a1 b1 n day r;simp_arith[dM,jO,jc,q]
theorem agQ{os:List Str}{n day:Int}{a1 b1:Str}{r:cQ}(h:oO os n day a1 b1 r=true):¬(r.2.2.1=a1∨r.2.2.1=b1):=by
 unfold oO at h;simp only[gH,UL] at h;exact of_decide_eq_false h.2.2.2.2
theorem ah0{ht:jF}{os:List Str}{n day:Int}{a1 b1 h s:Str}{p:List Int}(hs:¬(h=a1∨h=b1))(hp:gZ (ur ht os n day a1 b1) h p s):¬(s=a1∨s=b1):=by
 have:=hp.aaG;generalize p.reverse=p' at this;cases this with
 |nil=>exact hs
 |cons hw _=>
  obtain⟨r,hr,e⟩:=dG.mp (Ov.mp hw)
  injection e with e1 e2
  injection e2 with e2 e3
  rw[←e3];exact agQ (tG.mp hr).2
def Ac(ht:jF)(os:List Str)(n day:Int)(a1 b1 h s:Str)(o:Option (List Int)):Prop:=(((h=a1∨h=b1)∨(s=a1∨s=b1))→o=none)∧(¬((h=a1∨h=b1)∨(s=a1∨s=b1))→xY (ur ht os n day a1 b1) h s o)
theorem Ac.unique{ht:jF}{os:List Str}{n day:Int}{a1 b1 h s:Str}{o o':Option (List Int)}(a:Ac ht os n day a1 b1 h s o)(b:Ac ht os n day a1 b1 h s o'):o=o':=by
 by_cases c:(h=a1∨h=b1)∨(s=a1∨s=b1)
 ·rw[a.1 c,b.1 c]
 ·exact(a.2 c).unique (b.2 c)
theorem afQ{C:Ce}{zs:List Str}{ps ps':List (Str×Str)}{lv:List cQ}(hN:Names zs)(hP:gn zs ps)(p8:ps.length≤8)(lR:lv.length≤16)(z a1 b1:Str)(n day:Int)(h:Str):
  ∃f:Tb,GR [.im (.dict (aR (bG ps))),.im (.list (lv.map cu)),.im (dj z a1 b1 n),.im (.str h),.im (.int day)] C=some (.ow (.dict (aR (iZ f))),C)∧∀s,Ac ⟨ps',[],lv,[]⟩ (up ps z) n day a1 b1 h s (cM f s)∧∀v,cM f s=some v→v.length≤16:=by
 refine hide fun GG gg=>?_
 have ct:j9 [c7 z,.int n,.str a1,.str b1] (some 2) none=[.str a1,.str b1]:=rfl;have ni:=Dd h a1 b1;by_cases h1:h=a1∨h=b1
 ·rw[decide_eq_true h1] at ni;refine gg ⟨[],gj [some (.im (.dict (aR (bG ps)))),some (.im (.list (lv.map cu))),some (.im (dj z a1 b1 n)),some (.im (.str h)),some (.im (.int day)),none,none,none,none,none,none] rfl rfl ?_ rfl rfl,fun s=>⟨⟨fun _=>rfl,fun k=>absurd (.inl h1) k⟩,fun v k=>nomatch k⟩⟩;simp_arith[GQ,fW,eV,iT,lQ,ct,ni,CV];rfl
 rw[decide_eq_false h1] at ni
 obtain⟨l,lE⟩:∃l,l=lv.filter (oO (up ps z) n day a1 b1):=⟨_,rfl⟩
 have ll:l.length≤16:=by rw[lE];exact jd (Fi _ _) lR
 have c:=afP (C:=C) hN hP p8 z a1 b1 n day lv;rw[←lE] at c;have q:(l.length≤1000000)=True:=eq_true (by omega);have nl:=XQ l;have kd:cJ (.str h)=some (.inr h):=rfl;have fm:=fun s=>agP (C:=C) (h:=h) ll s
 have rl:(gR 0 l.length).length=l.length:=by simp[gR]
 have z0:uK [(h,[])] 0:=⟨bD _,fun x v e=>by
  rw[vp] at e;split at e
  ·cases e;exact bD _
  ·cases e⟩
 obtain⟨w5,w7,w8,w9,w10,e1⟩:=W7 (C:=C) (v0:=some (.im (.dict (aR (bG ps))))) (v1:=some (.im (.list (lv.map cu)))) (v2:=some (.im (dj z a1 b1 n))) (v3:=some (.im (.str h))) (v4:=some (.im (.int day))) ll (gR 0 l.length) [(h,[])] 0 (.ow (.list (l.map cu))) none none none none (.inl rfl) z0 (by rw[rl];omega)
 rw[rl] at e1;generalize qT l l.length [(h,[])]=f at fm e1;refine gg ⟨f,gj [some (.im (.dict (aR (bG ps)))),some (.im (.list (lv.map cu))),some (.im (dj z a1 b1 n)),some (.im (.str h)),some (.im (.int day)),none,none,none,none,none,none] rfl rfl ?_ rfl rfl,fun s=>⟨⟨fun k=>?_,fun _=>by have:=(fm s).1;rw[lE] at this;exact this⟩,(fm s).2⟩⟩
 ·refine(congrArg (WN fun p=>(p.1,p.2.2)) (?_:GQ _ C=some (.rt (.ow (.dict (aR (iZ f)))),pZ (some (.im (.dict (aR (bG ps))))) (some (.im (.list (lv.map cu)))) (some (.im (dj z a1 b1 n))) (some (.im (.str h))) (some (.im (.int day))) w5 f w7 w8 w9 w10,C))).trans rfl
  refine(Q0 (e1:=[some (.im (.dict (aR (bG ps)))),some (.im (.list (lv.map cu))),some (.im (dj z a1 b1 n)),some (.im (.str h)),some (.im (.int day)),none,none,none,none,none,none]) (C1:=C) ?_).trans ?_
  ·simp_arith[fW,eV,iT,lQ,ct,ni]
  refine(Q0 (e1:=pZ (some (.im (.dict (aR (bG ps))))) (some (.im (.list (lv.map cu)))) (some (.im (dj z a1 b1 n))) (some (.im (.str h))) (some (.im (.int day))) (some (.ow (.list (l.map cu)))) [(h,[])] none none none none) (C1:=C) ?_).trans ?_
  ·have k0:aR (iZ [(h,[])])=[(.str h,.list [])]:=rfl;simp only[pZ,k0];simp_arith[c,q,nl,z6,kd]
  refine(Q0 ((akM (akN (k:=(l.length:Int)) ?_ (by omega) (by omega))).trans e1)).trans ?_
  ·show some (pB ((l.map cu).length:Int),_,C)=_;rw[aX];rfl
  ·rfl
 ·cases e:cM f s with
  |none=>rfl
  |some v=>
   have:=(fm s).1;rw[e,lE] at this;exact absurd (k.resolve_left h1) (ah0 (ht:=⟨ps',[],lv,[]⟩) h1 this.1)
theorem Z8{α:Type}{P:α→Prop}:∀{l:List α},(∀x∈l,P x)→∃xs:List {x:α // P x},xs.map (·.1)=l
 |[],_=>⟨[],rfl⟩
 |x::l,h=>by
  obtain⟨xs,e⟩:=Z8 fun y hy=>h y (eZ _ hy)
  exact⟨⟨x,h x fj⟩::xs,congrArg (x::·) e⟩
theorem agR{C:Ce}{b L j:Nat}{pe:List Str}(hn:∀z∈pe,nameB z=true)(hl:pe.length≤100)(hB:Bl L C b (j+pe.length)):∃(ys:List Str)(C':Ce),Bq [.ce b,.im (.list (pe.map .str))] C=some (.ow (.list (ys.map .str)),C')∧ys.Perm pe∧Bl L C' b j:=by
 obtain⟨xs,rfl⟩:=Z8 hn
 rw[aX] at hl hB
 obtain⟨ys,C',e,pm,hB'⟩:=ajl (D:=fun x:{z:Str // nameB z=true}=>c7 x.1) (fun l=>by
  have:=ne_nil (l.map (·.1)) (fun z hz=>by obtain⟨x,_,rfl⟩:=dG.mp hz;exact x.2);rw[dX,List.isEmpty_map] at this;exact this) hl hB
 refine⟨ys.map (·.1),C',?_,pm.map _,hB'⟩
 rw[dX,dX];exact e
theorem al4(ys:List Str):∃so:List Str,j9 (ys.map c7) none (some 5)=so.map .str∧so.length≤5∧∀x∈so,x∈ys:=by
 refine⟨j9 ys none (some 5),by unfold j9;rw[aX,V2,aeu],?_,fun x h=>Fj (uO h)⟩
 unfold j9;rw[m7];show min (HT.bQ ys.length ys.length (some ((5:Nat):Int))-_) _≤5;rw[HT.HR];omega
abbrev nH(ns:List Int)(v1:Option Vl)(b:Nat)(ps:List (Str×Str))(v4:Option Vl)(lv:List cQ)(z a1 b1:Str)(n day:Int)(ht:jF)(nv:Vl)(v10 v11 cA gY iU:Option Vl):En:=
 [some (.sc ns),v1,some (.ce b),some (.im (.dict (aR (bG ps)))),v4,some (.im (.list (lv.map cu))),some (.im (dj z a1 b1 n)),some (.im (.int day)),some (.im (gP ht)),some nv,v10,v11,cA,gY,iU]
section
variable{C:Ce}{ns:List Int}{v1 v4 v10:Option Vl}{b:Nat}{zs:List Str}{ps ps':List (Str×Str)}{lv:List cQ}(hN:Names zs)(hP:gn zs ps)(hG:qj zs ps ⟨ps',[],lv,[]⟩){z a1 b1:Str}{n day:Int}{nv:Vl}
include hN hP hG
theorem akO{f:Tb}{h s:Str}(M:Ac ⟨ps',[],lv,[]⟩ (up ps z) n day a1 b1 h s (cM f s)∧∀v,cM f s=some v→v.length≤16)(iU:Option Vl):∃w14,Oz (nH ns v1 b ps v4 lv z a1 b1 n day ⟨ps',[],lv,[]⟩ nv v10 (some (.im (.str h))) (some (.ow (.dict (aR (iZ f))))) (some (.im (.str s))) iU) C=some (.nx,nH ns v1 b ps v4 lv z a1 b1 n day ⟨ps',[],lv,[]⟩ nv v10 (some (.im (.str h))) (some (.ow (.dict (aR (iZ f))))) (some (.im (.str s))) w14,C):=by
 obtain⟨o,e1,r1,r2⟩:=ahT (C:=C) hN hP hG z a1 b1 n day h s
 have eo:cM f s=o:=M.1.unique ⟨r1,r2⟩;have g1:=Iv f s;have sm:=ahU (C:=C) 1 o (fun r e=>jd (M.2 r (eo.trans e)) (by decide));rw[eo] at g1;simp only[nH];cases o with
 |none=>
  simp only[yq,still] at e1 sm
  refine⟨some (.im .none),?_⟩
  simp_arith[e1,uC,g1,aea,sm,CP,isNone]
 |some r=>
  have q:(r.length<1000000)=True:=eq_true (by have:=M.2 r eo;omega);simp only[yq,still] at e1 sm
  refine⟨some (.ow (.list (r.map .int++[.int 7]))),?_⟩
  simp_arith[e1,uC,g1,jD,sm,CP,isNone,jX,nu,aX,q]
theorem agS{f:Tb}{h:Str}(M:∀s,Ac ⟨ps',[],lv,[]⟩ (up ps z) n day a1 b1 h s (cM f s)∧∀v,cM f s=some v→v.length≤16)(ss:List Str)(gY iU:Option Vl):∃w13 w14,jn (gNm 13) Oz (ss.map .str) (nH ns v1 b ps v4 lv z a1 b1 n day ⟨ps',[],lv,[]⟩ nv v10 (some (.im (.str h))) (some (.ow (.dict (aR (iZ f))))) gY iU) C=some (.nx,nH ns v1 b ps v4 lv z a1 b1 n day ⟨ps',[],lv,[]⟩ nv v10 (some (.im (.str h))) (some (.ow (.dict (aR (iZ f))))) w13 w14,C):=by
 induction ss generalizing gY iU with
 |nil=>exact⟨gY,iU,rfl⟩
 |cons s ss ih=>
  obtain⟨TJ,e⟩:=akO (C:=C) (ns:=ns) (v1:=v1) (b:=b) (v4:=v4) (nv:=nv) (v10:=v10) hN hP hG (M s) iU
  obtain⟨w13,w14,e2⟩:=ih (some (.im (.str s))) TJ
  refine⟨w13,w14,?_⟩
  rw[cj,jn];simp only[nH,gNm,Uu,Uv] at e e2⊢;simp only[e,e2]
theorem ajq{so:List Str}(sl:so.length≤5)(hv:nv=.ow (.list (so.map .str))∨nv=.im (.list (so.map .str)))(h:Str)(cA gY iU:Option Vl):∃w12 w13 w14,OD (nH ns v1 b ps v4 lv z a1 b1 n day ⟨ps',[],lv,[]⟩ nv v10 (some (.im (.str h))) cA gY iU) C=some (.nx,nH ns v1 b ps v4 lv z a1 b1 n day ⟨ps',[],lv,[]⟩ nv v10 (some (.im (.str h))) w12 w13 w14,C):=by
 obtain⟨f,e1,M⟩:=afQ (C:=C) (ps':=ps') hN hP hG.p8 (show lv.length≤16 from hG.lR) z a1 b1 n day h
 have mu:Ja (.list (so.map .str)) (.int 2)=some (.ow (.list ((so++so).map .str))):=by
  rw[gJ]
  refine(if_pos ⟨by decide,by decide,by rw[aX];omega⟩).trans ?_
  show some (Vl.ow (.list (so.map .str++(so.map .str++[]))))=_;rw[jP]
 obtain⟨w13,w14,e2⟩:=agS (C:=C) (ns:=ns) (v1:=v1) (b:=b) (v4:=v4) (nv:=nv) (v10:=v10) hN hP hG M (so++so) gY iU
 refine⟨some (.ow (.dict (aR (iZ f)))),w13,w14,?_⟩
 generalize so++so=ss at mu e2;simp only[nH] at e2⊢;rcases hv with rfl|rfl
 ·simp_arith[e1,mu,gb,e2]
 ·simp_arith[e1,mu,gb,e2]
theorem afR{so:List Str}(sl:so.length≤5)(hv:nv=.ow (.list (so.map .str))∨nv=.im (.list (so.map .str)))(hs:List Str)(v11 cA gY iU:Option Vl):∃w11 w12 w13 w14,jn (gNm 11) OD (hs.map .str) (nH ns v1 b ps v4 lv z a1 b1 n day ⟨ps',[],lv,[]⟩ nv v10 v11 cA gY iU) C=some (.nx,nH ns v1 b ps v4 lv z a1 b1 n day ⟨ps',[],lv,[]⟩ nv v10 w11 w12 w13 w14,C):=by
 induction hs generalizing v11 cA gY iU with
 |nil=>exact⟨v11,cA,gY,iU,rfl⟩
 |cons h hs ih=>
  obtain⟨x12,x13,TJ,e⟩:=ajq (C:=C) (ns:=ns) (v1:=v1) (b:=b) (v4:=v4) (v10:=v10) hN hP hG (z:=z) (a1:=a1) (b1:=b1) (n:=n) (day:=day) sl hv h cA gY iU
  obtain⟨w11,w12,w13,w14,e2⟩:=ih (some (.im (.str h))) x12 x13 TJ
  refine⟨w11,w12,w13,w14,?_⟩
  rw[cj,jn];simp only[nH,gNm,Uu,Uv] at e e2⊢;simp only[e,e2]
end
theorem ah1(ns:List Int)(h:ns.length≤63):∃C',z9 [.sc ns] []=some (.im (.bool true),C'):=by
 obtain⟨m,hm,m1,m2⟩:∃m:Int,(1+if(ns.length:Int)<5 then(ns.length:Int) else 5)=m∧0≤m∧m≤6:=⟨_,rfl,by split<;>omega,by split<;>omega⟩
 obtain⟨env',C',e,he⟩:=zp (g:=gNm 1) (body:=OJ) (its:=gR 0 m.toNat) (env:=[some (.sc ns),none,none,none,none,none,none,none,none,none,none,none,none,none,none]) (C:=[])
  (fun i env C1=>∃v1 v2 v3 v4 v5 v6 v7 v8 v9 v10 v11 cA gY iU,env=[some (.sc ns),v1,v2,v3,v4,v5,v6,v7,v8,v9,v10,v11,cA,gY,iU]) ⟨_,_,_,_,_,_,_,_,_,_,_,_,_,_,rfl⟩ (fun i d env C1 hd hI=>by
   obtain⟨v1,v2,v3,v4,v5,v6,v7,v8,v9,v10,v11,cA,gY,iU,rfl⟩:=hI
   obtain⟨rfl,hi⟩:=Cg hd
   refine hide fun GG gg=>?_
   obtain⟨x,y,hb,x0⟩:=ahL (C:=C1) (ns:=ns) (k:=0+(i:Int)) (by omega) (by omega)
   have hB:=akv (y:=y) C1 x0
   obtain⟨zs,ps,pe,lv,z,a1,b1,n,day,C2,e2,K,hB2⟩:=ajo (most:=16) (j:=799540) hB (by decide) (by decide)
   obtain⟨ps',p1,e3⟩:=afa (C:=C2) K.p0 K.p8 lv
   have hG:qj zs ps ⟨ps',[],lv,[]⟩:=akH p1 K.p8 K.lR (fun r h=>(K.leaves r h).1) (K.rise.imp fun h=>Int.ne_of_lt h);have kf:=K.few
   obtain⟨ys,C3,e4,_,hB3⟩:=agR (C:=C2) (b:=C1.length) (L:=C1.length+1) (j:=799500) (pe:=pe) (fun z hz=>K.names.2 z (K.alo z hz)) (by omega) (hB2.mono (by omega))
   obtain⟨so,c1,sl,_⟩:=al4 ys
   obtain⟨t,st⟩:=ajj K.names K.parts hG K.al1 K.al2 K.al3 K.n0 (show n<10^12 by have:=K.n1;omega)
   have sn:=ne_strs t t;rw[decide_eq_true rfl] at sn
   obtain⟨w11,w12,w13,w14,e5⟩:=afR (C:=C3) (ns:=ns) (v1:=some (.im (.int (0+(i:Int))))) (b:=C1.length) (v4:=some (.im (.list (pe.map .str)))) (nv:=.im (.list (so.map .str))) (v10:=some (.im (.str t))) K.names K.parts hG (z:=z) (a1:=a1) (b1:=b1) (n:=n) (day:=day) sl (.inr rfl) so v11 cA gY iU
   refine gg ⟨_,.nx,nH ns (some (.im (.int (0+(i:Int))))) C1.length ps (some (.im (.list (pe.map .str)))) lv z a1 b1 n day ⟨ps',[],lv,[]⟩ (.im (.list (so.map .str))) (some (.im (.str t))) w11 w12 w13 w14,C3,rfl,?_,.inl rfl,_,_,_,_,_,_,_,_,_,_,_,_,_,_,rfl⟩;simp only[nH] at e5⊢;simp_arith[OJ,Dz,hb,intsOf,e2,e3,ajh,e4,fW,eV,iT,lQ,c1,st,gb,e5,sn])
 refine⟨C'.take 0,?_⟩
 unfold z9 fN;rw[if_pos (show[Vl.sc ns].length=1 from rfl),show([Vl.sc ns].map some++cH (15-[Vl.sc ns].length) none)=[some (.sc ns),none,none,none,none,none,none,none,none,none,none,none,none,none,none] from rfl];simp_arith[Ru,gb,gW,vN,rW,hm,vY (m:=m) (by omega) (by omega),e,zX]
theorem all_mk{l:Ve}{w:aY}{K:aC}{h:aU}{mg:Str→Option Value}{fa:aa}(X:K.In h)(G:h.Ns fZ mg)(hfa:mg "law"=some (.ref fa))
  (d0:fX K "parts_over" Gx)
  (d1:fX K "row_of" Ox)
  (d2:fX K "is_side" Np)
  (d3:fX K "ways_on" Hj)
  (d4:fX K "first_row" Ma)
  (d5:fX K "nearer_way" Gy)
  (d6:fX K "steps_to" G6)
  (d7:fX K "_law_mix" QT)
  (d8:fX K "_law_drawn_from" Le)
  (d9:fX K "_law_pick" P0)
  (d10:fX K "_law_same" Ck)
  (d11:fX K "_law_some_names" uY)
  (d12:fX K "_law_shuffled" Mf)
  (d13:fX K "_law_two_days" Mg)
  (d14:fX K "_law_some_sum" Mh)
  (d15:fX K "_law_some_parts" Lf)
  (d16:fX K "_law_parts_over" Lg)
  (d17:fX K "_law_rising" Nq)
  (d18:fX K "_law_some_leaves" K1)
  (d19:fX K "_law_house_of" Mi)
  (d20:fX K "_law_case" Qa)
  (d21:fX K "_law_lets" Qc)
  (d22:fX K "_law_all_rows" GF)
  (d23:fX K "law" Rp)
  (Jl:mq K fZ "abs"=some none)
  (Rq:mq K fZ "all"=some none)
  (CZ:mq K fZ "bool"=some none)
  (Mj:mq K fZ "enumerate"=some none)
  (z8:mq K fZ "int"=some none)
  (m8:mq K fZ "isinstance"=some none)
  (jV:mq K fZ "len"=some none)
  (zP:mq K fZ "list"=some none)
  (Rr:mq K fZ "max"=some none)
  (xW:mq K fZ "min"=some none)
  (pH:mq K fZ "range"=some none)
  (zu:mq K fZ "sorted"=some none)
  (xX:mq K fZ "str"=some none)
  (xu:mq K fZ "tuple"=some none)
  (Rt:mq K fZ "zip"=some none)
  :∃fd:dg,(∀(s:au)(v:Value),xm s fd ⟨[v],[]⟩ [("_law_script",v)])∧∀base:aU,K.In base→base.Ns fZ mg→cY l.prog w K mg base eO 6 fa fd ["_law_script"] (spT K z9):=by
 have T:Txt K mg:=⟨m6 X G Jl,m6 X G Rq,m6 X G CZ,m6 X G Mj,m6 X G z8,m6 X G m8,m6 X G jV,m6 X G zP,m6 X G Rr,m6 X G xW,m6 X G pH,m6 X G zu,m6 X G xX,m6 X G xu,m6 X G Rt⟩
 refine d23.law X G hfa (fun base f fd F=>?_) (fun _ _ _ _ _ _=>(bZ fun _=>(iW rfl)));have Lz:=d0.has X G (fun f fd F=>aer (P:=l.prog) (w:=w) (base:=base) F T) (fun _ _ _ _ _ _=>(bZ fun _=>(bZ fun _=>(iW rfl))));have vg:=d2.has X G (fun f fd F=>afL (P:=l.prog) (w:=w) (base:=base) F T) (fun _ _ _ _ _ _=>(bZ fun _=>(bZ fun _=>(iW rfl))));have Nv:=d3.has X G (fun f fd F=>afM (P:=l.prog) (w:=w) (base:=base) F T Lz vg) (fun _ _ _ _ _ _=>(bZ fun _=>(bZ fun _=>(bZ fun _=>(iW rfl)))));have MT:=d6.has X G (fun f fd F=>ae8 (P:=l.prog) (w:=w) (base:=base) F T) (fun _ _ _ _ _ _=>(bZ fun _=>(bZ fun _=>(iW rfl))));have LC:=d5.has X G (fun f fd F=>aes (P:=l.prog) (w:=w) (base:=base) F T) (fun _ _ _ _ _ _=>(bZ fun _=>(bZ fun _=>(bZ fun _=>(iW rfl)))));have Mr:=d4.has X G (fun f fd F=>aeO (P:=l.prog) (w:=w) (base:=base) F T MT LC) (fun _ _ _ _ _ _=>(bZ fun _=>(bZ fun _=>(bZ fun _=>(iW rfl)))));have O1:=d1.has X G (fun f fd F=>agI (P:=l.prog) (w:=w) (base:=base) F T vg Nv Mr) (fun _ _ _ _ _ _=>(bZ fun _=>(bZ fun _=>(bZ fun _=>(bZ fun _=>(bZ fun _=>(iW rfl)))))));have Jd:=d7.has X G (fun f fd F=>ajd (P:=l.prog) (w:=w) (base:=base) F T) (fun _ _ _ _ _ _=>(bZ fun _=>(bZ fun _=>(iW rfl))));have Lp:=d8.has X G (fun f fd F=>aef (P:=l.prog) (w:=w) (base:=base) F T) (fun _ _ _ _ _ _=>(bZ fun _=>(bZ fun _=>(iW rfl))));have bY:=d9.has X G (fun f fd F=>ahH (P:=l.prog) (w:=w) (base:=base) F T Jd) (fun _ _ _ _ _ _=>(bZ fun _=>(bZ fun _=>(iW rfl))));have Cm:=d10.alX X G (fun f fd hm hk hb F=>XF (P:=l.prog) (w:=w) (base:=base) hm hk hb F T 3) (fun _ _ _ _ _ _=>(bZ fun _=>(bZ fun _=>(iW rfl))));have Lk:=d11.has X G (fun f fd F=>aeg (P:=l.prog) (w:=w) (base:=base) F T bY) (fun _ _ _ _ _ _=>(bZ fun _=>(bZ fun _=>(iW rfl))));have Ms:=d12.has X G (fun f fd F=>aeP (P:=l.prog) (w:=w) (base:=base) F T bY) (fun _ _ _ _ _ _=>(bZ fun _=>(bZ fun _=>(iW rfl))));have zg:=d13.has X G (fun f fd F=>aeQ (P:=l.prog) (w:=w) (base:=base) F T bY) (fun _ _ _ _ _ _=>(bZ fun _=>(iW rfl)));have zj:=d14.has X G (fun f fd F=>aeR (P:=l.prog) (w:=w) (base:=base) F T bY) (fun _ _ _ _ _ _=>(bZ fun _=>(iW rfl)));have Ln:=d15.has X G (fun f fd F=>aeh (P:=l.prog) (w:=w) (base:=base) F T bY) (fun _ _ _ _ _ _=>(bZ fun _=>(bZ fun _=>(iW rfl))));have yW:=d16.has X G (fun f fd F=>aei (P:=l.prog) (w:=w) (base:=base) F T) (fun _ _ _ _ _ _=>(bZ fun _=>(bZ fun _=>(iW rfl))));have Nx:=d17.has X G (fun f fd F=>afN (P:=l.prog) (w:=w) (base:=base) F T bY) (fun _ _ _ _ _ _=>(bZ fun _=>(bZ fun _=>(iW rfl))));have K7:=d18.has X G (fun f fd F=>ad7 (P:=l.prog) (w:=w) (base:=base) F T bY zg zj yW Nx) (fun _ _ _ _ _ _=>(bZ fun _=>(bZ fun _=>(bZ fun _=>(bZ fun _=>(bZ fun _=>(bZ fun _=>(iW rfl))))))));have Mt:=d19.has X G (fun f fd F=>aeS (P:=l.prog) (w:=w) (base:=base) F T) (fun _ _ _ _ _ _=>(bZ fun _=>(bZ fun _=>(iW rfl))));have Qg:=d20.has X G (fun f fd F=>ahJ (P:=l.prog) (w:=w) (base:=base) F T bY Lk zg zj Ln K7) (fun _ _ _ _ _ _=>(bZ fun _=>(bZ fun _=>(iW rfl))));have Qf:=d21.has X G (fun f fd F=>ahK (P:=l.prog) (w:=w) (base:=base) F T yW) (fun _ _ _ _ _ _=>(bZ fun _=>(bZ fun _=>(bZ fun _=>(bZ fun _=>(iW rfl))))));have Mu:=d22.has X G (fun f fd F=>aeT (P:=l.prog) (w:=w) (base:=base) F T Qf) (fun _ _ _ _ _ _=>(bZ fun _=>(bZ fun _=>(bZ fun _=>(bZ fun _=>(bZ fun _=>(iW rfl)))))));exact akB F T O1 Lp Cm Ms Mt Qg Mu
theorem walk{l:Ve}{q:bf}{loose:List Str}{XP:(Str→Option Value)→aU→Prop}{YP:aY→aU→Prop}{d:DefRec}{K:Params→aC}(hn:l.most=some 63)(hdf:d.params.defaults=[])
  (hY:∀(w:aY)(h:aU),YP w h→(K w.params).In h)
  (F:∀(w:aY)(mg:Str→Option Value)(fa:aa)(h:aU),(K w.params).In h→h.Ns fZ mg→mg d.name=some (.ref fa)→
   ∃fd:dg,(∀(s:au)(u:Value),xm s fd ⟨[u],[]⟩ [("_law_script",u)])∧∀base:aU,(K w.params).In base→base.Ns fZ mg→cY l.prog w (K w.params) mg base eO 6 fa fd ["_law_script"] (spT (K w.params) z9)):
  aek q loose XP YP l.row.toRowW d [] (fun f vs=>Wx f vs):=
 L2.aim (n:=63) (k:=6) (x:="_law_script") (CX:=fun _=>eO) (sp:=fun w=>spT (K w.params) z9) hn (by decide) hdf ⟨rfl,by decide,by decide,rfl⟩ hY F (fun _ _ a ns hl _ hS=>let ⟨_,h⟩:=ah1 ns hl;akg hS h) fun _ _ _ _ _ z=>z
end Tj
namespace PySem.W.Fast
def tw10258395232563456717:=0
def tw10785124590337540450:=0
def tw1083145952648025028:=0
def tw10875105321784979465:=0
def tw12128707263682090938:=0
def tw12245664474743532488:=0
def tw13031974098757254388:=0
def tw13349631446931550908:=0
def tw13455001707224943001:=0
def tw13479709037528933569:=0
def tw13857869486179000043:=0
def tw15071120377608502715:=0
def tw15129141549066353068:=0
def tw15229483912104315301:=0
def tw15502894486898159416:=0
def tw16042492973672372159:=0
def tw16334123015306774595:=0
def tw1758036834722272336:=0
def tw18162067889449251286:=0
def tw18168233322890381519:=0
def tw1828985719164964712:=0
def tw2802007134134319652:=0
def tw3193956779751198008:=0
def tw3786490380427366345:=0
def tw4347023441496836364:=0
def tw4564605275679774917:=0
def tw4568790958758871567:=0
def tw5102908890996398908:=0
def tw5365733001899807997:=0
def tw5809429259156077451:=0
def tw6019259379264104659:=0
def tw6078701308763959487:=0
def tw6240651609501998567:=0
def tw6506743916493248954:=0
def tw6553689372670248305:=0
def tw6592141223953497602:=0
def tw6690380556928331391:=0
def tw6796697158516690533:=0
def tw6953063058226053095:=0
def tw6974641644040069062:=0
def tw7462340007182829824:=0
def tw7649253548449365644:=0
def tw8541898595948474032:=0
def tw8602029036510302827:=0
def tw9243912132789802128:=0
def tw934259835393755132:=0
def tw9387627777974143985:=0
def tw9809036155183027055:=0
def tw9989126070403749715:=0
end PySem.W.Fast
open PySem PySem.W PyProof.Rows
set_option maxRecDepth 100000 in
set_option maxHeartbeats 0 in
theorem PySem.Challenge.cw_rankseals_k15_shortest_and_first_rows_holds : PySem.Challenge.rw_rankseals_k15_shortest_and_first_rows.Holds := by
 w_on;o_law;k_head;(case hw=>w_witness2)
 k_fill
 refine Tj.walk (l:=PySem.Challenge.rw_rankseals_k15_shortest_and_first_rows) rfl rfl (fun w h Y=>PySem.W.kIn_of Y) ?F
 case F=>
  intro w mg fa h KX G hmg
  refine' Tj.all_mk KX G hmg ?_ ?_ ?_ ?_ ?_ ?_ ?_ ?_ ?_ ?_ ?_ ?_ ?_ ?_ ?_ ?_ ?_ ?_ ?_ ?_ ?_ ?_ ?_ ?_ ?_ ?_ ?_ ?_ ?_ ?_ ?_ ?_ ?_ ?_ ?_ ?_ ?_ ?_ ?_
  all_goals try first|exact .mk (by k_is) (by k_is) (by k_is) (by k_is)|k_is
