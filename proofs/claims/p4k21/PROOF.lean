import PyProof.Rows.All
import Wide.All
import OpenK.AllK
import Wide.FinOn
import Lean
import PyProof.EqAt
import PyProof.EqKinds
import PyProof.TupleCall
import PySem.Challenge.RW_rankseals_k21_sums_that_rows_let
set_option Elab.async false
set_option linter.all false
set_option maxRecDepth 100000
set_option maxHeartbeats 4000000
set_option autoImplicit true
open PySem.Value renaming isInt→aeo,isStrOf→Vj,int→Ml,str→Mm,isStrOf_shape→acE,none→pP,bool→Aw,float→aes,ref→fG,type→Ax,notImplemented→TV
open PySem renaming World→aY,Program→bf,KeyKind→wj,Addr→aa,Heap→aV,sizeLine→bM,sysModules→qY,tupleKind→Ay,Within→adX,mainGlobals→gC,bootBuiltins→sY,Around→bU,Shared→au,Scope→iJ,Drawn→wW,wpAny→aM,spliced→Bo,backTo→eO,starEach→aZ,Stmt→cP,wpAny_mono→mW,wpAny_Name→V6,wpAny_loadName_local→acz,wpAny_loadName_cell→acF,wpAny_truthy_bool→yh,wpAny_execs_nil→J7,wpAny_execs_cons→ada,swapsWith→rm,assignInOrder→Aj,assignEach→qZ,wpAny_assign_Name→Eo,holding→oO,standAt→rD,wpAny_bind→aC,wpAny_holding→lW,wpAny_standAt→sV,swapsWithSole→wz,swappedStores→wA,wpAny_pure→aW,wpAny_newObj_type→lU,bindName→tH,wpAny_rule→wH,wpAny_bindName→Ez,PassesOwn→Mr,wpAny_passesOwn→yu,pyNext→nH,letOwnedTupleGo→vY,pyIter→BJ,wpAny_load→Gm,rawInt→iW,wpAny_pyIter_list→acT,foldedSetIterable→sO,binaryOp→nG,compareOp→dH,behindInMarks→Ak,lastMarks→Ms,sizeLine_eq→iT,cLine→dY,Result→pZ,FuncData→di,BindsTo→wM,codeAny→jN,codeAny_mono→Fv,wpAny_Call_Name_kw→z9,Keyword→lG,NameKind→yO,bindL→wX,bindC→wY,mem_of_lookup→uB,concat_meets→Vw,noFill_tuple_add→Ug,seq_tuple_add→Vk,IsPart→rF,wpAny_field→V0,getItem→uP,wpAny_sequenceKey→acZ,wpAny_callSpecial?_slot→z7,wpAny_call_entry→pL,wpAny_typeOf→Fw,seqIndex?→Mt,seqIndex_of→V2,seqIndex_neg→Vx,subscripted→V3,typeIs_str→V9,sliceBounds→yI,attributeBase→sW,backToKw→wK,keywordEach→wC,call_meets→Wa,valueAt→yS,atKey→u5,tupleKind_room_in1→El,callerA→yU,call→Wc,compEnvC→Ni,compTurn→Be,newFunctionEnv→U5,wpAny_newFunctionEnv→TJ,lookup_relabel_local→TQ,wpAny_comprehension_free→JN,compPost→Nk,exec_Assign_Name_used→acr,comprehension→Vo,PyData→ao,Builtin→jX,wpAny_newList→Ky,codeAny_builtin→uE,plainId_quiet→sX,richCompare→Aq,wpAny_loadPart'→nu,wpAny_forIn_list→adf,richCompare_meets_room→Tw,SetTable→tK,relayAll→EY,scanBound→oK,wpAny_setState_of→Ad,wpAny_storeSet_of→ac2,fits_of_scanBound→Ua,builtinLookup_eq_fast→acu,isSubtype_type→U8,entryFor→Nt,argsOk→BW,wpAny_pyIter_slot→ac3,setNext→Bq,wpAny_attempt→Kz,wpAny_fieldsOf→Ke,wpAny_setEntries_of→Ei,wpAny_setField→Ah,wpAny_isInstance→adg,setsByText→Wh,wpAny_askSetting→J2,wpAny_ite_split→J8,pickOrder→wJ,wpAny_seqItems→Fb,wpAny_setEpoch_of→ac4,updateSeq→Mz,wpAny_updateSeq→Ey,checkCount→Wi,strKind→Fg,wpAny_Call_method→ac6,argBest→kj,wpAny_tryCatch→Kg,wpAny_letGo→Lg,wpAny_pyIter_enum→ac8
open Sum renaming inl→jM,inr→iU
open Sum.inl renaming inj→VP
open Sum.inr renaming inj→aep
open PySem.SeqAt.EqAt renaming int_str→acJ,str_int→acK,same→ado,int_int→acM
open Option.some renaming inj→fW,injEq→JZ
open PySem.W renaming instObj→Ut,methodObj→T7,Frag→aH,lookIn→U3,plainGet→adb,findIn→yw,takerIn→adn,specialIn→acV,isFn→adZ,keepIn→yx,kitOne→U4,kia_one→qW,kitx_list→acW,kitx_dict→acX,cellsFrom_some→ach,fnOf→wB,codeIn→Kd,OpenLaw→Uv,WalkO→adL,nsIn→nD,mg_of→Vp,mg_none_of→pK
open PySem.Heap renaming lt_size→cz,SameBut→yG,get?_push_of_some→cB,get?_push_size→gP,get?_update_self→ye,get?_update_other→qQ,size_push→wg
open Nat renaming lt_of_lt_of_le→mU,lt_irrefl→wu,ne_of_lt→dM,le_trans→jL,le_of_lt→uG,ne_of_gt→yH,le_refl→bK,le_succ→wF,succ_le_succ→Ui,lt_trans→FJ,zero_le→lF,sub_self→VB,lt_succ_of_lt→vW,add_zero→VD,lt_succ_self→Um,lt_trichotomy→ac5,zero_add→FP,not_lt_zero→vZ,le_of_ble_eq_true→yf,succ_pos→FQ,not_succ_le_zero→acD,le_add_right→J6,min_eq_left→UW,lt_or_eq_of_le→acQ,le_of_lt_succ→ac9,le_succ_of_le→Ue
open Array renaming append_assoc→acL,length_toList→jm,toList→adY,getElem?_toList→JS,getD→aeP,getD_eq_getD_getElem?→qP,getElem?_eq_getElem→lR,toList_push→ac1,getElem?_eq_none→acn,mem_of_getElem?→acw,size_append→Uc
open List renaming range→dG,mem_filter→pM,mem_range→qX,filterMap_cons→TX,mem_cons_self→dR,mem_cons_of_mem→eZ,mem_cons→bN,mem_append→cL,mem_append_left→gf,getElem?_eq_some_iff→jf,getElem?_set_self→acg,getElem?_set_ne→uy,set_comm→Ku,mem_filterMap→JW,mem_append_right→dF,size_toArray→fD,any_eq_false→acU,append_nil→j6,nodup_cons→jB,of_mem_zip→Uu,replicate→gH,length→oG,length_take→mV,getElem?_append_right→m7,getElem?_replicate→Tr,getElem?_append_left→m8,getElem?_map→gh,getElem?_take_of_lt→Tj,take_sublist→Er,mem_of_getElem?→m9,length_append→fP,length_map→aX,length_replicate→acq,length_drop→Ae,map_nil→jq,map_cons→bY,length_set→uD,all_cons→Kv,any_cons→Ff,reverse_cons→JX,find?_cons→nq,length_cons→cR,length_nil→Ag,filter_cons→J1,lookup_cons→yo,append_assoc→j4,map_map→dU,all_eq_true→qU,ext_getElem→yp,getD→tG,length_range→j5,getElem_mem→yq,getElem?_eq_getElem→jg,map_congr_left→yg,zip_cons_cons→Em,getElem?_set→Ac,pairwise_iff_getElem→Ec,pairwise_lt_range→JR,pairwise_append→JT,getElem_of_mem→vV,getElem_take→ac0,pairwise_cons→qR,foldl_cons→Ex,nodup_append→jV,mem_singleton→jn,length_eq_zero_iff→acd,length_eraseIdx→acB,not_mem_nil→nj,take_zero→adC,Sublist→VG,nodup_nil→oF,any_map→ad8,length_zip→Uw,getElem?_range→TY,getElem?_eq_none→Ef,getElem?_eq_none_iff→Ti,drop_length→adh,drop_eq_getElem_cons→ab4,getElem?_mapIdx→acC,sublist_nil→adi,getElem?_take→T4,map_id→Lf,sum_cons→adQ,any_eq_true→adk,mem_map→dW,ext_getElem?→ac7,mem_of_mem_take→uA,map_append→gU,find?_map→U9,isEmpty_nil→Uo,getElem_map→adm,find?_eq_none→T5,nodup_iff_pairwise_ne→Tf,cons_append→jo,nil_append→iC,getElem?_drop→acP,mem_of_mem_drop→Eh,length_flatMap→acH,length_pos_of_mem→acp,length_reverse→acI,pairwise_reverse→acy,filter_eq_self→Ek,range_succ→UT,map_take→Vv,length_filter_le→Eg,length_pos_iff→JV,getD_eq_getElem?_getD→JK,map_drop→adW,map_const'→adz,set_cons_succ→acR,set_cons_zero→acS
open Ne renaming symm→jC
open PySem.Calls renaming Name_function_global→ab0,spliced_nil→Ep,spliced_cons→z8,callWith_builtin→aci,evalArgs_plain→acA,call_function_entry→Th
open False renaming elim→pQ
open PySem.Flow renaming next→Mq
open Bool renaming false_ne_true→iz,false_and→U0,eq_iff_iff→pN,and_eq_true→gQ,not_eq_true→Uj,false_eq_true→oE,not_true→adP,not_false→adA,not_eq_true'→Ub
open Int renaming mul_one→VR,toNat_natCast→Ab,le_refl→sZ,emod_eq_emod_iff_emod_sub_eq_zero→abT,emod_eq_of_lt→J0,emod_nonneg→lV,emod_lt_of_pos→qT,ediv_nonneg→ady,zero_add→aem,le_trans→aen
open PySem.Builtin.Range renaming rangeSize→amY
open PyProof.Rows renaming callWith_type1→JG,callWith_builtin1→Te,slot_tuple_getitem→JF,boot_enumerate→amt,evalArgs_none→amw
open PySem.EqNone renaming eq_none_none→amx,eq_none_bool→amy,eq_none_int→amI,eq_none_str→amJ,eq_bool_none→amz,eq_int_none→amK,eq_str_none→amM,ne_none_none→amC,ne_none_bool→amD,ne_none_int→amO,ne_none_str→amP,ne_bool_none→amE,ne_int_none→amQ,ne_str_none→amS
open PySem.EqMixed renaming eq_bool_str→amA,eq_int_str→amL,eq_str_bool→amB,eq_str_int→amN,ne_bool_str→amF,ne_int_str→amR,ne_str_bool→amG,ne_str_int→amT
open True renaming intro→oJ
open Option renaming isSome_iff_exists→sI,getD_none→ade,isSome_some→Aa,isSome_map→Es,map_eq_some_iff→Ed,none→lX,map_some→jW,bind_some→gR,getD_some→Ul,some_ne_none→uC,map→Wj,map_map→Ai,bind_eq_some_iff→j0,map_eq_none_iff→aco,isSome_none→T6,not_isSome_iff_eq_none→abV
open PySem.F renaming slot_tuple_add→Tv,entry_tuple_add→Tt,args_tuple_add_2→Tn,slot_list_append→T3,slot_list_extend→acN,slot_list_pop→adp,slot_dict_get→TF,entry_dict_get→acj,args_dict_get_3→ab8,plain_proto_collect→abW,plain_list_iadd→JP,slot_tuple_lt→acs,entry_tuple_lt→ack,args_tuple_lt_2→ab9,slot_set_iter→adw,plain_extend_loop→ab3,plainAttrs_list→JQ,type_list_append→ab7,plainAttrs_dict→ace,entry_min_loop→Tz,plain_min_loop→yc,slot_dict_items→acf
open PySem.Builtin.Slice renaming sliceAdjust→Tg,slicePlaces→JL,slicePartIndex→ams,sliceApplied→ab1,sliceFields→amH
open PySem.Str renaming ofString→fj
open PySem.Builtin.Tuple renaming tupleItemsOf→ab2,tupleExact→JM,tupleCompareSizes→abU,tupleIsExact→amu
open PySem.Heap.IsSliceOf renaming new→am1
open PySem.Obj renaming mapSeq→j7,putSet→LR,data_mapFields→acO
open PySem.SeqAt renaming EqAt→Gp,shaped→lC
open PySem.Builtin.List renaming listTooLong→Tp,listExtendWith→JH,listLengthHint→abX,listSameRef→Tq
open List.Pairwise renaming nil→yj,filterMap→amZ,imp_of_mem→amX,imp→am2
open Or renaming inl→cJ,inr→kE
open PySem.NameKind renaming free→nC,cell→Kw
open ForInStep renaming yield→adt
open PySem.Code renaming compLoop→Al
open List.Perm renaming refl→yz,of_eq→adu,swap→Kf,append_left→acv
open List.cons renaming inj→yD,injEq→Uy
open PySem.Heap.SameBut renaming update→sJ,refl→T9
open PySem.Around renaming under_plainId→uz
open PySem.AutoSeq1 renaming sub_tuple_tuple→ab6
open PySem.SetTable.below renaming go→Et
open PySem.SetTable renaming below→iD,has→ad6,slot→adN,grown→yC
open PySem.SetTable.probe renaming go→T8
open PySem.SetTable.Met.empty renaming injEq→amU
open Prod.mk renaming injEq→adO
open PySem.pickOrder renaming go→VF
open PySem.Builtin.Frozenset renaming slot0→am0,sizeOf→amV,oneOther→amv,addrOf→amW
open PySem.Bind renaming checkArgs→adB
open PySem.PyData renaming int→j8,str→cU,eqv→Gr,tuple→uH,strOk→K4,canLayAll0→Ud,depthAll→Ux,canLay0→adD,depth→aea,list→V5
open List.Sublist renaming refl→ym,append→Ej
open PySem.Builtin.Str renaming strSliceIndices→abY
open PySem.Builtin.Builtins renaming bindParams→abZ
open Classical renaming byContradiction→ab5,propDecidable→Tu
open PySem.StrLaws renaming seqIndex_nonneg→amr
open Nat.succ renaming inj→K5
open PySem.PassesOwn renaming never→lD
noncomputable section
namespace L2
open PySem PySem.Spec PyProof.Rows
abbrev Key:=Sum Int Str
def zx:Key→Value→Bool
 |.inl k,v=>aeo k v
 |.inr x,v=>Vj x v
def akJ(w:aY):Key→Int
 |.inl k=>hashInt k
 |.inr x=>hashStr w x
theorem pO:∀{k:Key}{v:Value},zx k v=true→(∃i t,k=jM i∧v=Ml i t)∨(∃x t,k=iU x∧v=Mm x t)
 |.inl i,v,h=>by
  obtain⟨t,e⟩:=Value.isInt_shape (k:=i) (v:=v) h
  exact .inl ⟨i,t,rfl,e⟩
 |.inr x,v,h=>by
  obtain⟨t,e⟩:=acE (x:=x) (v:=v) h
  exact .inr ⟨x,t,rfl,e⟩
theorem afj(i:Int)(t:Tok):zx (.inl i) (.int i t)=true:=by simp[zx,aeo]
theorem afk(x:Str)(t:Tok):zx (.inr x) (.str x t)=true:=by simp[zx,Vj]
theorem aiL(a b:Int):decide ((jM a:Key)=jM b)=(a==b):=by
 by_cases e:a=b
 ·subst e;simp
 ·have h:¬(jM a:Key)=jM b:=fun q=>e (VP q)
  rw[decide_eq_false h]
  exact(beq_eq_false_iff_ne.mpr e).symm
theorem aiM(a b:Str):decide ((iU a:Key)=iU b)=decide (a=b):=by
 by_cases e:a=b
 ·subst e;simp
 ·have h:¬(iU a:Key)=iU b:=fun q=>e (aep q)
  rw[decide_eq_false h,decide_eq_false e]
theorem aiN(a:Int)(b:Str):decide ((jM a:Key)=iU b)=false:=decide_eq_false (fun q=>nomatch q)
theorem aiO(a:Str)(b:Int):decide ((iU a:Key)=jM b)=false:=decide_eq_false (fun q=>nomatch q)
def gY(prog:bf)(w:aY):wj prog w Key where
 is:=zx
 hash:=akJ w
 inj:=fun v a b ha hb=>by
  rcases pO ha with⟨i,t,rfl,rfl⟩|⟨x,t,rfl,rfl⟩
  ·rcases pO hb with⟨j,u,rfl,e⟩|⟨y,u,rfl,e⟩
   ·injection e with e1 _;rw[e1]
   ·exact nomatch e
  ·rcases pO hb with⟨j,u,rfl,e⟩|⟨y,u,rfl,e⟩
   ·exact nomatch e
   ·injection e with e1 _;rw[e1]
 byValue:=fun k v h=>by
  rcases pO h with⟨i,t,rfl,rfl⟩|⟨x,t,rfl,rfl⟩<;>rfl
 pyHash:=fun hv h=>by
  rcases pO hv with⟨i,t,rfl,rfl⟩|⟨x,t,rfl,rfl⟩
  ·exact wpAny_pyHash_int h
  ·exact wpAny_pyHash_str h
 eqBool:=fun hu hv h=>by
  rcases pO hu with⟨i,t,rfl,rfl⟩|⟨x,t,rfl,rfl⟩
  ·rcases pO hv with⟨j,u,rfl,rfl⟩|⟨y,u,rfl,rfl⟩
   ·rw[aiL] at h;exact wpAny_eqBool_int h
   ·rw[aiN] at h;exact acJ i t y u _ _ _ _ h
  ·rcases pO hv with⟨j,u,rfl,rfl⟩|⟨y,u,rfl,rfl⟩
   ·rw[aiO] at h;exact acK x t j u _ _ _ _ h
   ·rw[aiM] at h;exact wpAny_eqBool_str h
 «strs»:=fun k x t v h=>by
  rcases pO h with⟨i,u,rfl,e⟩|⟨y,u,rfl,e⟩
  ·exact nomatch e
  ·injection e with e1 _
   subst e1;cases v<;>rfl
theorem aeq(prog:bf)(w:aY)(i:Int)(t:Tok):(gY prog w).is (.inl i) (.int i t)=true:=afj i t
theorem aer(prog:bf)(w:aY)(x:Str)(t:Tok):(gY prog w).is (.inr x) (.str x t)=true:=afk x t
inductive V where
 |non|bl (b:Bool)|int (i:Int)|str (x:Str)|n6 (b:Array UInt8)|flt (b:UInt64)|ref (a:aa)|ty (n:String)
 deriving DecidableEq
def RelV:V→Value→Prop
 |.non,u=>u=pP
 |.bl b,u=>u=Aw b
 |.int i,u=>∃t,u=Ml i t
 |.str x,u=>∃t,u=Mm x t
 |.n6 b,u=>∃t,u=Value.bytes b t
 |.flt b,u=>∃t,u=aes b t
 |.ref a,u=>u=fG a
 |.ty n,u=>u=Ax n
abbrev Vals:List V→List Value→Prop:=Paired RelV
theorem Vals.length{xs:List V}{us:List Value}(r:Vals xs us):xs.length=us.length:=Paired.length r
theorem Vals.get:∀{xs:List V}{us:List Value}{i:Nat}{x:V},Vals xs us→xs[i]?=some x→∃u,us[i]?=some u∧RelV x u
 |_,_,_,_,.nil,e=>by simp at e
 |_,_,0,_,.cons r _,e=>by simp at e;subst e;exact⟨_,rfl,r⟩
 |_,_,i+1,x,.cons _ t,e=>by
  obtain⟨u,h1,h2⟩:=Vals.get (i:=i) (x:=x) t (by simpa using e)
  exact⟨u,by simpa using h1,h2⟩
theorem Vals.set{x:V}{u:Value}(r:RelV x u):∀{xs:List V}{us:List Value}(i:Nat),Vals xs us→Vals (xs.set i x) (us.set i u)
 |_,_,_,.nil=>.nil
 |_,_,0,.cons _ t=>.cons r t
 |_,_,i+1,.cons q t=>.cons q (Vals.set r i t)
theorem Vals.append:∀{xs ys:List V}{us ws:List Value},Vals xs us→Vals ys ws→Vals (xs++ys) (us++ws)
 |_,_,_,_,.nil,s=>s
 |_,_,_,_,.cons r t,s=>.cons r (Vals.append t s)
theorem Vals.take:∀{xs:List V}{us:List Value}(n:Nat),Vals xs us→Vals (xs.take n) (us.take n)
 |_,_,0,_=>.nil
 |_,_,_+1,.nil=>.nil
 |_,_,n+1,.cons r t=>.cons r (Vals.take n t)
theorem Vals.drop:∀{xs:List V}{us:List Value}(n:Nat),Vals xs us→Vals (xs.drop n) (us.drop n)
 |_,_,0,r=>r
 |_,_,_+1,.nil=>.nil
 |_,_,n+1,.cons _ t=>Vals.drop n t
def nT:Option V→Option Value→Prop
 |some v,some u=>RelV v u
 |none,none=>True
 |_,_=>False
def KV{κ:Type}:List (κ×V)→List (κ×Value)→Prop:=Paired fun(p:κ×V)(q:κ×Value)=>p.1=q.1∧RelV p.2 q.2
def kV:Key→V
 |.inl i=>.int i
 |.inr x=>.str x
inductive HO where
 |lst (xs:List V)
 |tup (xs:List V)
 |dK (kvs:List (Key×V))|dT (kvs:List (List Key×V))
 |set (S:Int→Bool) (n:Nat)
 |ins (C dx:aa) (fs:List (Str×V))
 |own (x:aa)
 |xd (fs:List (Str×V))
 |met (f x:aa)
 |Dl (lo hi:Int)
 |lM (o:Obj) (u:HO)
 |xO (ps:Array Value)
 |ext (φ:aV→Prop)
abbrev Hp:=aa→Option HO
def upd(H:Hp)(a:aa)(o:HO):Hp:=fun b=>if b=a then some o else H b
theorem eN{H:Hp}{a:aa}{o:HO}:upd H a o a=some o:=by unfold upd;rw[if_pos rfl]
theorem cN{H:Hp}{a b:aa}{o:HO}(h:b≠a):upd H a o b=H b:=by unfold upd;rw[if_neg h]
theorem Yl{H:Hp}{a:aa}{o u:HO}:upd (upd H a o) a u=upd H a u:=by
 funext b;unfold upd;split<;>rfl
theorem QF{H:Hp}{a b:aa}{o u:HO}(h:H a=some o)(h':H b=some u)(d:o≠u):a≠b:=by
 intro e;subst e;rw[h] at h';exact d (fW h')
theorem oH{H:Hp}{a b:aa}{o:HO}(h:H a=some o)(h':H b=none):a≠b:=by
 intro e;subst e;rw[h] at h';cases h'
section
variable(P:bf)(w:aY)
def fM(H:Hp)(h:aV)(a:aa):HO→Prop
 |.lst xs=>xs.length≤bM∧∃(its:List Value)(n:Nat),Vals xs its∧h.get? a=some {cls:=.type "list",data:=.seq its.toArray n}
 |.tup xs=>xs.length≤bM∧∃its:List Value,Vals xs its∧IsTup h a its.toArray
 |.dK kvs=>kvs.length≤bM∧(a==qY)=false∧∃vs,KV kvs vs∧h.DictOf (gY P w) a vs
 |.dT kvs=>kvs.length≤bM∧(a==qY)=false∧∃xs:List (List Key×aa×Value),
   Paired (fun(p:List Key×V)(q:List Key×aa×Value)=>p.1=q.1∧H q.2.1=some (.tup (p.1.map kV))∧RelV p.2 q.2.2) kvs xs∧
   ∃o es ep,h.get? a=some o∧o.ExactDict∧o.data=.dict es ep∧es.toList=xs.map (entryOfKey (Ay (gY P w)))∧(xs.map (·.1)).Nodup
 |.set S n=>h.SetOf (intKind P w) a S n
 |.ins C dx fs=>H dx=some (.own a)∧fs.length≤1000∧dx≠a∧h.get? a=some (Ut C dx)∧
   ∃mA,h.Ns1 dx mA∧(∀f,nT (fs.lookup f) (mA f))∧adX mA (fs.map (·.1))
 |.own _=>∃o,h.get? a=some o
 |.xd fs=>∃mA,h.Ns1 a mA∧∀f,nT (fs.lookup f) (mA f)
 |.Dl lo hi=>∃t u v,h.get? a=some {cls:=.type "range",data:=.fields #[.int lo t,.int hi u,.int 1 v]}
 |.lM o u=>h.get? a=some o∧fM H h a u
 |.xO ps=>h.get? a=some {cls:=.none,data:=.fields ps}
 |.met f x=>h.get? a=some (T7 (.ref f) (.ref x))
 |.ext φ=>φ h∧(∃o,h.get? a=some o)∧∀h1 h2:aV,φ h1→(∀o,h1.get? a=some o→h2.get? a=some o)→φ h2
def gb(H:Hp)(h:aV):Prop:=∀a o,H a=some o→fM P w H h a o
end
section
variable{P:bf}{w:aY}{H H':Hp}{h h':aV}{a:aa}{o:HO}
theorem fM.lt(x:fM P w H h a o):a<h.objs.size:=by
 cases o with
 |lst xs=>obtain⟨_,_,_,_,e⟩:=x;exact cz e
 |tup xs=>obtain⟨_,_,_,p⟩:=x;exact p.lt
 |dK kvs=>obtain⟨_,_,_,_,o,_,_,e,_⟩:=x;exact cz e
 |dT kvs=>obtain⟨_,_,_,_,o,_,_,e,_⟩:=x;exact cz e
 |set S n=>obtain⟨o,_,_,_,e,_⟩:=x;exact cz e
 |ins C dx fs=>obtain⟨_,_,_,e,_⟩:=x;exact cz e
 |own y=>obtain⟨_,e⟩:=x;exact cz e
 |xd fs=>obtain⟨_,⟨_,_,_,e,_⟩,_⟩:=x;exact cz e
 |Dl lo hi=>obtain⟨_,_,_,e⟩:=x;exact cz e
 |lM ob u=>obtain⟨e,_⟩:=x;exact cz e
 |xO ps=>exact cz (show h.get? a=some _ from x)
 |met f y=>exact cz (show h.get? a=some _ from x)
 |ext φ=>obtain⟨_,⟨_,e⟩,_⟩:=x;exact cz e
theorem Paired.Q7{α β:Type}{F G:α→β→Prop}:∀{l₁:List α}{l₂:List β},Paired F l₁ l₂→(∀a b,F a b→G a b)→Paired G l₁ l₂
 |_,_,.nil,_=>.nil
 |_,_,.cons r t,f=>.cons (f _ _ r) (Paired.Q7 t f)
theorem fM.stay(x:fM P w H h a o)(k:∀b u,(b=a∨H b=some (.own a))→h.get? b=some u→h'.get? b=some u)
  (ho:∀b,H b=some (.own a)→H' b=some (.own a))(ht:∀b xs,H b=some (.tup xs)→H' b=some (.tup xs)):fM P w H' h' a o:=by
 induction o with
 |lst xs=>obtain⟨z,its,n,r,e⟩:=x;exact⟨z,its,n,r,k _ _ (.inl rfl) e⟩
 |tup xs=>obtain⟨z,its,r,ob,e,c⟩:=x;exact⟨z,its,r,ob,k _ _ (.inl rfl) e,c⟩
 |dK kvs=>obtain⟨z,y,vs,r,ob,es,ep,e,c⟩:=x;exact⟨z,y,vs,r,ob,es,ep,k _ _ (.inl rfl) e,c⟩
 |dT kvs=>
  obtain⟨z,y,xs,r,ob,es,ep,e,c⟩:=x
  exact⟨z,y,xs,Paired.Q7 r fun p q z=>⟨z.1,ht _ _ z.2.1,z.2.2⟩,ob,es,ep,k _ _ (.inl rfl) e,c⟩
 |set S n=>obtain⟨ob,es,ep,t,e,c⟩:=x;exact⟨ob,es,ep,t,k _ _ (.inl rfl) e,c⟩
 |ins C dx fs=>
  obtain⟨d,z,ne,e,mA,⟨od,es,ep,e2,c⟩,r⟩:=x
  exact⟨ho _ d,z,ne,k _ _ (.inl rfl) e,mA,⟨od,es,ep,k _ _ (.inr d) e2,c⟩,r⟩
 |own y=>obtain⟨ob,e⟩:=x;exact⟨ob,k _ _ (.inl rfl) e⟩
 |xd fs=>obtain⟨mA,⟨od,es,ep,e,c⟩,r⟩:=x;exact⟨mA,⟨od,es,ep,k _ _ (.inl rfl) e,c⟩,r⟩
 |Dl lo hi=>obtain⟨t,u,v,e⟩:=x;exact⟨t,u,v,k _ _ (.inl rfl) e⟩
 |lM ob u ih=>obtain⟨e,q⟩:=x;exact⟨k _ _ (.inl rfl) e,ih q⟩
 |xO ps=>
  have e:h.get? a=some {cls:=.none,data:=.fields ps}:=x;show h'.get? a=some {cls:=.none,data:=.fields ps};exact k a _ (.inl rfl) e
 |met f y=>
  have e:h.get? a=some (T7 (.ref f) (.ref y)):=x;show h'.get? a=some (T7 (.ref f) (.ref y));exact k a _ (.inl rfl) e
 |ext φ=>obtain⟨p,⟨o,e⟩,st⟩:=x;exact⟨st _ _ p fun o q=>k _ _ (.inl rfl) q,⟨o,k _ _ (.inl rfl) e⟩,st⟩
theorem gb.lt(x:gb P w H h)(e:H a=some o):a<h.objs.size:=(x a o e).lt
theorem gb.fresh(x:gb P w H h)(e:h.objs.size≤a):H a=none:=by
 cases q:H a with
 |none=>rfl
 |some u=>exact absurd (mU (x.lt q) e) (wu _)
theorem gb.kept(x:gb P w H h)(k:∀b u,h.get? b=some u→h'.get? b=some u):gb P w H h':=fun a o e=>
 (x a o e).stay (fun b u _ q=>k b u q) (fun _ q=>q) fun _ _ q=>q
theorem gb.laid(x:gb P w H h)(k:∀b u,h.get? b=some u→h'.get? b=some u)(hp:h.objs.size≤a)(new:fM P w (upd H a o) h' a o):gb P w (upd H a o) h':=fun b u e=>by
 have hn:=x.fresh hp;by_cases hb:b=a
 ·subst hb;rw[eN] at e;cases e;exact new
 ·rw[cN hb] at e
  exact(x b u e).stay (fun c v _ q=>k c v q) (fun c q=>by rw[cN (oH q hn)];exact q) fun c xs q=>by rw[cN (oH q hn)];exact q
end
def Rd(H:Hp)(a:aa)(u:HO):Prop:=H a=some u∨∃o,H a=some (.lM o u)
theorem Rd.of{H:Hp}{a:aa}{u:HO}(h:H a=some u):Rd H a u:=.inl h
theorem Rd.ok{P:bf}{w:aY}{H:Hp}{h:aV}{a:aa}{u:HO}(r:Rd H a u)(x:gb P w H h):fM P w H h a u:=by
 rcases r with r|⟨o,r⟩
 ·exact x a u r
 ·obtain⟨_,q⟩:=x a _ r
  exact q
def Dm:Option HO→Prop
 |some (.lst _)=>True
 |some (.dK _)=>True
 |some (.dT _)=>True
 |some (.set _ _)=>True
 |some (.ins _ _ _)=>True
 |some (.ext _)=>True
 |_=>False
section
variable{P:bf}{w:aY}{H:Hp}{h h':aV}{x e:aa}{o':HO}
theorem gb.write(ok:gb P w H h)(mu:Dm (H x))(he:e=x∨H e=some (.own x))(k:∀b u,b≠e→h.get? b=some u→h'.get? b=some u)(heo:∃u,h'.get? e=some u)
  (new:fM P w (upd H x o') h' x o'):gb P w (upd H x o') h':=fun b u q=>by
 have aaE:∀c y,H c=some (.own y)→c≠x:=fun c y r z=>by subst z;rw[r] at mu;exact mu
 have akK:∀c xs,H c=some (.tup xs)→c≠x:=fun c xs r z=>by subst z;rw[r] at mu;exact mu
 by_cases hb:b=x
 ·subst hb;rw[eN] at q;cases q;exact new
 ·rw[cN hb] at q;by_cases hbe:b=e
  ·have q':H b=some (.own x):=by
    rcases he with z|z
    ·exact absurd (hbe.trans z) hb
    ·rw[hbe];exact z
   rw[q] at q';cases q'
   obtain⟨v,hv⟩:=heo
   exact⟨v,by rw[hbe];exact hv⟩
  ·refine(ok b u q).stay (fun c v hc r=>k c v ?_ r) (fun c r=>by rw[cN (aaE c b r)];exact r) fun c xs r=>by rw[cN (akK c xs r)];exact r
   rcases hc with rfl|hc
   ·exact hbe
   ·rintro rfl;rcases he with z|z
    ·exact aaE c b hc z
    ·rw[hc] at z;cases z;exact hb rfl
end
structure Un(fs ex:List aa)(H H':Hp)(h h':aV):Prop where
 keep:∀b o,h.get? b=some o→H b=none→b∉fs→b∉ex→h'.get? b=some o
 slot:∀b o,h.get? b=some o→H b=none→b∈fs→b∉ex→∃sl,h'.get? b=some {o with slots:=sl}
 free:∀b o,h.get? b=some o→H b=none→b∉ex→H' b=none
 there:∀b o,h.get? b=some o→b∉ex→∃o',h'.get? b=some o'
 tups:∀b xs,H b=some (.tup xs)→H' b=some (.tup xs)
 nU:∀b o u,H b=some (.lM o u)→H' b=some (.lM o u)
 o8:∀b ps,H b=some (.xO ps)→∃more,H' b=some (.xO (ps++more))
section
variable{fs fs' ex ex':List aa}{H H1 H2:Hp}{h h1 h2 h':aV}{a x e:aa}{o:HO}
theorem Un.any(u:Un fs ex H H1 h h1){b:aa}{ob:Obj}(q:h.get? b=some ob)(n:H b=none)(hx:b∉ex):∃sl,h1.get? b=some {ob with slots:=sl}:=by
 by_cases hb:b∈fs
 ·exact u.slot b ob q n hb hx
 ·exact⟨ob.slots,u.keep b ob q n hb hx⟩
theorem Un.trans(a:Un fs ex H H1 h h1)(b:Un fs ex H1 H2 h1 h2):Un fs ex H H2 h h2 where
 keep:=fun c ob q n hc hx=>b.keep c ob (a.keep c ob q n hc hx) (a.free c ob q n hx) hc hx
 slot:=fun c ob q n hc hx=>by
  obtain⟨sl,e1⟩:=a.slot c ob q n hc hx
  obtain⟨sl',e2⟩:=b.slot c _ e1 (a.free c ob q n hx) hc hx
  exact⟨sl',e2⟩
 free:=fun c ob q n hx=>by
  obtain⟨o',e1⟩:=a.there c ob q hx
  exact b.free c o' e1 (a.free c ob q n hx) hx
 there:=fun c ob q hx=>by
  obtain⟨o',e1⟩:=a.there c ob q hx
  exact b.there c o' e1 hx
 tups:=fun c xs q=>b.tups c xs (a.tups c xs q)
 nU:=fun c ob xs q=>b.nU c ob xs (a.nU c ob xs q)
 o8:=fun c ps q=>by
  obtain⟨m1,e1⟩:=a.o8 c ps q
  obtain⟨m2,e2⟩:=b.o8 c _ e1
  exact⟨m1++m2,by rw[e2,acL]⟩
theorem Un.kept(k:∀b u,h.get? b=some u→h'.get? b=some u):Un fs ex H H h h':=
 ⟨fun b ob q _ _ _=>k b ob q,fun b ob q _ _ _=>⟨ob.slots,k b ob q⟩,fun _ _ _ n _=>n,fun b ob q _=>⟨ob,k b ob q⟩,fun _ _ q=>q,fun _ _ _ q=>q,fun _ ps q=>⟨#[],by rw[q];simp⟩⟩
theorem Un.refl:Un fs ex H H h h:=Un.kept fun _ _ q=>q
theorem Un.laid(k:∀b u,h.get? b=some u→h'.get? b=some u)(hp:h.objs.size≤a)(hn:H a=none):Un fs ex H (upd H a o) h h' where
 keep:=fun b u q _ _ _=>k b u q
 slot:=fun b u q _ _ _=>⟨u.slots,k b u q⟩
 free:=fun b u q n _=>by rw[cN (dM (mU (cz q) hp))];exact n
 there:=fun b u q _=>⟨u,k b u q⟩
 tups:=fun b xs q=>by rw[cN (oH q hn)];exact q
 nU:=fun b u xs q=>by rw[cN (oH q hn)];exact q
 o8:=fun b ps q=>⟨#[],by rw[cN (oH q hn),q];simp⟩
theorem Un.write(mu:Dm (H x))(he:e=x∨H e=some (.own x))(k:∀b u,b≠e→h.get? b=some u→h'.get? b=some u)(heo:∃u,h'.get? e=some u):Un fs ex H (upd H x o) h h':=by
 have hx:∀b,H b=none→b≠x:=fun b n z=>by subst z;rw[n] at mu;exact mu
 have hb:∀b,H b=none→b≠e:=fun b n z=>by
  subst z;rcases he with r|r
  ·exact hx b n r
  ·rw[n] at r;cases r
 have hm:∀b u,H b=some u→¬Dm (some u)→b≠x:=fun b u q nm z=>by subst z;rw[q] at mu;exact nm mu
 refine⟨fun b u q n _ _=>k b u (hb b n) q,fun b u q n _ _=>⟨u.slots,k b u (hb b n) q⟩,fun b u q n _=>by rw[cN (hx b n)];exact n,fun b u q _=>?_,
  fun b xs q=>by rw[cN (hm b _ q fun z=>z)];exact q,fun b u xs q=>by rw[cN (hm b _ q fun z=>z)];exact q,fun b ps q=>⟨#[],by rw[cN (hm b _ q fun z=>z),q];simp⟩⟩
 by_cases hbe:b=e
 ·subst hbe;exact heo
 ·exact⟨u,k b u hbe q⟩
theorem Un.mono(u:Un fs ex H H1 h h1)(hs:∀b∈fs,b∈fs')(hx:∀b∈ex,b∈ex'):Un fs' ex' H H1 h h1:=
 ⟨fun b ob q n hb he=>u.keep b ob q n (fun z=>hb (hs b z)) fun z=>he (hx b z),fun _ _ q n _ he=>u.any q n fun z=>he (hx _ z),fun b ob q n he=>u.free b ob q n fun z=>he (hx b z),fun b ob q he=>u.there b ob q fun z=>he (hx b z),u.tups,u.nU,u.o8⟩
end
def Jg(h:aV)(H:Hp):List aa:=(dG h.objs.size).filter fun a=>(H a).isSome
def tZ(h:aV)(H:Hp):aV:=PySem.W.hideAll h (Jg h H)
theorem afl(h:aV)(H:Hp):(tZ h H).objs.size=h.objs.size:=PySem.W.hideAll_size _ _
theorem agj{h:aV}{H:Hp}{b:aa}{o:Obj}(e:h.get? b=some o)(n:H b=none):(tZ h H).get? b=some o:=
 PySem.W.hideAll_get _ e fun hm=>by
  have q:(H b).isSome=true:=(pM.mp hm).2;rw[n] at q;simp at q
theorem ahv{h:aV}{H:Hp}{b:aa}{o:Obj}(e:(tZ h H).get? b=some o):h.get? b=some o∧H b=none:=by
 have e':h.get? b=some o:=PySem.W.of_hideAll (Jg h H) e
 refine⟨e',?_⟩
 cases q:H b with
 |none=>rfl
 |some x=>
  have hm:b∈Jg h H:=pM.mpr ⟨qX.mpr (cz e'),by simp[q]⟩;have z:(tZ h H).get? b=none:=PySem.W.hideAll_none (Jg h H) hm;rw[z] at e;cases e
def ahw(g h:aV)(L:aa):List (aa×Obj):=(dG h.objs.size).filterMap fun a=>if a=L∨(g.get? a).isSome=true then none else(h.get? a).map fun o=>(a,o)
def rest(g h:aV)(L d:aa):List (aa×Obj):=(ahw g h L).filter fun p=>decide (p.1≠d)
structure Mod(K:aH)(mg:Str→Option Value)(base:aV):Prop where
 Rv:K.In base
 glob:base.Ns gC mg
 blt:∃mb,base.Ns builtinsNs mb∧∀x:Str,x≠"__name__"→mb x=sY x
 nolimit:base.NoLimit
structure Cx where
 prog:bf
 w:aY
 K:aH
 mg:Str→Option Value
 base:aV
 A:bU
 N:List Str
 s₀:au
 H₀:Hp
 env:Env
 outer:List Env
 stack:List Env
 ex:List aa
 fn:Str→Bool
 calm:Bool
 pn:List (aa×Obj)
 xe:Value→au→Prop
def frs(l:List Env):List aa:=l.filterMap (·.frame)
abbrev Cx.fs(X:Cx):List aa:=frs X.outer
def Jh(sc:iJ)(x:Str):Prop:=sc.names.lookup x=some .local∨sc.names.lookup x=some .cell∨sc.names.lookup x=some .free
def Loc(sc:iJ)(x:Str):Prop:=sc.names.lookup x=some .local∨sc.names.lookup x=some .cell
def Look(env:Env)(h:aV)(m:Str→Option Value)(x:Str)(u:Value):Prop:=
 (env.kindOf x=some .local∧m x=some u)∨((env.kindOf x=some .cell∨env.kindOf x=some .free)∧∃c,env.cells.lookup x=some c∧h.IsCell c (some u))
structure Cx.Ok(X:Cx):Prop where
 mod:Mod X.K X.mg X.base
 kind:X.env.scope.kind=.function
 glob:X.env.globals=gC
 blt:X.env.builtins=builtinsNs
 above:X.s₀.heap.objs.size≤X.env.locals
 inj:∀x y c,X.env.cells.lookup x=some c→X.env.cells.lookup y=some c→x=y
 has:∀x,(X.env.kindOf x=some .cell∨X.env.kindOf x=some .free)→∃c,X.env.cells.lookup x=some c
 cab:∀x c,X.fn x=true→X.env.cells.lookup x=some c→X.s₀.heap.objs.size≤c
 hd:X.calm=true→X.A.handled=none
 frames:X.A.frames=some X.stack
 stk:X.stack=X.outer∨(X.stack=X.env::X.outer∧X.env.frame=some X.env.locals)
 exf:∀b∈X.ex,b≠X.env.locals∧∀x c,X.env.cells.lookup x=some c→c≠b
 bs:∀b o,X.base.get? b=some o→X.s₀.heap.get? b=some o∧X.H₀ b=none
 su:X.base.objs.size≤X.s₀.heap.objs.size
 Dc:∀b o,X.base.get? b=some o→b∉X.ex
 IK:∀b∈X.ex,b∉X.fs
 o9:X.s₀.heap.FunFrames X.base X.outer
 xP:∀b∈X.fs,X.H₀ b=none
structure Inv(X:Cx)(pins:List (aa×Obj))(σ:List (Option V))(H:Hp)(s:au):Prop where
 ok:X.Ok
 os:s.os=X.s₀.os
 bare:AllBare s.gens
 base:Un X.fs X.ex X.H₀ H X.s₀.heap s.heap
 loc:∃m,s.heap.Ns X.env.locals m∧∀(i:Nat)(x:Str)(v:V),X.N[i]?=some x→σ[i]?=some (some v)→Jh X.env.scope x→∃u,RelV v u∧Look X.env s.heap m x u
 cell:∀x c,X.env.cells.lookup x=some c→∃v,s.heap.IsCell c v
 free:H X.env.locals=none
 qg:∀x c,X.env.cells.lookup x=some c→H c=none
 pin:∀p∈X.pn++pins,s.heap.get? p.1=some p.2∧H p.1=none∧p.1≠X.env.locals∧p.1∉X.fs∧∀v,p.2.data≠.cell v
 hok:gb X.prog X.w H s.heap
 len:σ.length=X.N.length
section
variable{X:Cx}{pins:List (aa×Obj)}{σ:List (Option V)}{H H':Hp}{s:au}{h':aV}
theorem Cx.Ok.akL(ok:X.Ok){b:aa}{o:Obj}(e:X.base.get? b=some o):b∉X.fs:=fun hb=>by
 have:=(ok.o9.mem hb).1;rw[e] at this;cases this
theorem Inv.bs(I:Inv X pins σ H s):∀b o,X.base.get? b=some o→s.heap.get? b=some o∧H b=none:=fun b o e=>
 ⟨I.base.keep b o (I.ok.bs b o e).1 (I.ok.bs b o e).2 (I.ok.akL e) (I.ok.Dc b o e),I.base.free b o (I.ok.bs b o e).1 (I.ok.bs b o e).2 (I.ok.Dc b o e)⟩
theorem Inv.bk(I:Inv X pins σ H s):∀b o,X.base.get? b=some o→s.heap.get? b=some o:=fun b o e=>(I.bs b o e).1
theorem Inv.mod(I:Inv X pins σ H s):Mod X.K X.mg X.base:=I.ok.mod
theorem Inv.lA(I:Inv X pins σ H s):X.K.In s.heap:=I.ok.mod.Rv.keeps I.bk
theorem Inv.nolimit(I:Inv X pins σ H s):s.heap.NoLimit:=I.ok.mod.nolimit.keeps I.bk
theorem Inv.fr(I:Inv X pins σ H s):∃m,Fr X.base X.env.locals s.heap m:=
 let ⟨m,hn,_⟩:=I.loc
 ⟨m,hn,I.bk,jL I.ok.su I.ok.above⟩
theorem Inv.lt(I:Inv X pins σ H s):X.env.locals<s.heap.objs.size:=let ⟨_,hn,_⟩:=I.loc;hn.lt
theorem Inv.sz(I:Inv X pins σ H s):X.s₀.heap.objs.size≤s.heap.objs.size:=jL I.ok.above (uG I.lt)
theorem Inv.akM(I:Inv X pins σ H s){a:aa}(h:s.heap.objs.size≤a):a∉X.fs:=fun hb=>by
 obtain⟨_,o,ho,_⟩:=I.ok.o9.mem hb
 exact absurd (mU (cz ho) (jL I.sz h)) (wu _)
theorem Inv.xQ(I:Inv X pins σ H s):∀x c,X.env.cells.lookup x=some c→c≠X.env.locals:=fun x c e z=>by
 obtain⟨v,o,ho,hd⟩:=I.cell x c e
 obtain⟨m,⟨o',es,ep,ho',hd',_⟩,_⟩:=I.loc
 rw[z,ho'] at ho;cases ho;rw[hd'] at hd;cases hd
theorem Inv.o9(I:Inv X pins σ H s):s.heap.FunFrames X.base X.outer:=by
 have all:∀(l:List Env),(∀b∈frs l,b∈X.fs)→X.s₀.heap.FunFrames X.base l→s.heap.FunFrames X.base l:=by
  intro l;induction l with
  |nil=>intro _ _;trivial
  |cons env r ih=>
   intro hs hl
   obtain⟨hk,⟨L,o,hf,hn,ho,hd⟩,hr⟩:=hl
   have hL:L∈X.fs:=hs L (by unfold frs;rw[TX,hf];exact dR)
   obtain⟨sl,e⟩:=I.base.slot L o ho (I.ok.xP L hL) hL fun z=>I.ok.IK L z hL
   exact⟨hk,⟨L,_,hf,hn,e,hd⟩,ih (fun b hb=>hs b (by unfold frs;rw[TX,hf];exact eZ _ hb)) hr⟩
 exact all X.outer (fun _ hb=>hb) I.ok.o9
theorem Inv.stack(I:Inv X pins σ H s):s.heap.FunFrames X.base X.stack:=by
 rcases I.ok.stk with e|⟨e,hf⟩
 ·rw[e];exact I.o9
 ·rw[e]
  obtain⟨m,hn,_⟩:=I.loc
  refine .cons (by rw[I.ok.kind];decide) hf hn ?_ I.o9;exact Heap.get?_none_of_le (jL I.ok.su I.ok.above)
theorem Inv.zb(I:Inv X pins σ H s):∀b∈frs X.stack,b∈X.env.locals::X.fs:=fun b hb=>by
 rcases I.ok.stk with e|⟨e,hf⟩
 ·rw[e] at hb;exact eZ _ hb
 ·rw[e] at hb;unfold frs at hb;rw[TX,hf] at hb;exact hb
theorem Inv.Ym(I:Inv X pins σ H s):∀b∈frs X.stack,H b=none:=fun b hb=>by
 rcases bN.mp (I.zb b hb) with e|hb
 ·rw[e];exact I.free
 ·obtain⟨_,o,ho,_⟩:=I.ok.o9.mem hb
  exact I.base.free b o ho (I.ok.xP b hb) fun z=>I.ok.IK b z hb
theorem Inv.step{g':Array GenState}{t':Nat}{d':wW}{ch:List aa}(I:Inv X pins σ H s)
  (hch:∀b∈ch,(b∈X.ex∨X.s₀.heap.objs.size≤b)∧b≠X.env.locals∧(∀x c,X.env.cells.lookup x=some c→c≠b)∧∀p∈X.pn++pins,p.1≠b)
  (keep:∀b o,b≠X.env.locals→b∉X.fs→b∉ch→s.heap.get? b=some o→H b=none→h'.get? b=some o)
  (slot:∀b o,b≠X.env.locals→b∈X.fs→b∉ch→s.heap.get? b=some o→H b=none→∃sl,h'.get? b=some {o with slots:=sl})(free:∀b o,b∉ch→s.heap.get? b=some o→H b=none→H' b=none)
  (there:∀b o,b∉ch→s.heap.get? b=some o→∃o',h'.get? b=some o')
  (tups:∀b xs,H b=some (.tup xs)→H' b=some (.tup xs))(nU:∀b o u,H b=some (.lM o u)→H' b=some (.lM o u))(o8:∀b ps,H b=some (.xO ps)→∃more,H' b=some (.xO (ps++more)))
  (ns:∀m,s.heap.Ns X.env.locals m→h'.Ns X.env.locals m)(hok:gb X.prog X.w H' h')(hg:AllBare g'):
  Inv X pins σ H' {s with heap:=h',gens:=g',drawn:=d',toks:=t'}:=by
 have neL:∀b o,X.s₀.heap.get? b=some o→b≠X.env.locals:=fun b o e=>dM (mU (cz e) I.ok.above)
 have Ji:∀b o,X.s₀.heap.get? b=some o→b∉X.ex→b∉ch:=fun b o e hx hb=>by
  rcases(hch b hb).1 with z|z
  ·exact hx z
  ·exact absurd (mU (cz e) z) (wu _)
 have cellK:∀x c,X.env.cells.lookup x=some c→∀v,s.heap.IsCell c v→h'.IsCell c v:=fun x c e v aJ=>by
  obtain⟨o,ho,hd⟩:=aJ
  have Dp:c∉ch:=fun z=>(hch c z).2.2.1 x c e rfl
  by_cases hc:c∈X.fs
  ·obtain⟨sl,q⟩:=slot c o (I.xQ x c e) hc Dp ho (I.qg x c e)
   exact⟨_,q,hd⟩
  ·exact⟨o,keep c o (I.xQ x c e) hc Dp ho (I.qg x c e),hd⟩
 refine⟨I.ok,I.os,hg,⟨fun b o e n hb hx=>?_,fun b o e n hb hx=>?_,fun b o e n hx=>?_,fun b o e hx=>?_,fun b xs e=>tups b xs (I.base.tups b xs e),fun b o xs e=>nU b o xs (I.base.nU b o xs e),fun b ps e=>?_⟩,?_,fun x c e=>?_,?_,fun x c e=>?_,fun p hp=>?_,hok,I.len⟩
 ·exact keep b o (neL b o e) hb (Ji b o e hx) (I.base.keep b o e n hb hx) (I.base.free b o e n hx)
 ·obtain⟨sl,e1⟩:=I.base.slot b o e n hb hx
  obtain⟨sl',e2⟩:=slot b _ (neL b o e) hb (Ji b o e hx) e1 (I.base.free b o e n hx)
  exact⟨sl',e2⟩
 ·obtain⟨o',e1⟩:=I.base.there b o e hx
  exact free b o' (Ji b o e hx) e1 (I.base.free b o e n hx)
 ·obtain⟨o',e1⟩:=I.base.there b o e hx
  exact there b o' (Ji b o e hx) e1
 ·obtain⟨m1,e1⟩:=I.base.o8 b ps e
  obtain⟨m2,e2⟩:=o8 b _ e1
  exact⟨m1++m2,by rw[e2,acL]⟩
 ·obtain⟨m,hn,hl⟩:=I.loc
  refine⟨m,ns m hn,fun i x v e1 e2 e3=>?_⟩
  obtain⟨u,r,l⟩:=hl i x v e1 e2 e3
  refine⟨u,r,?_⟩
  rcases l with l|⟨k,c,e,z⟩
  ·exact .inl l
  ·exact .inr ⟨k,c,e,cellK x c e _ z⟩
 ·obtain⟨v,z⟩:=I.cell x c e
  exact⟨v,cellK x c e v z⟩
 ·obtain⟨m,⟨o,_,_,ho,_⟩,_⟩:=I.loc
  exact free _ o (fun z=>(hch _ z).2.1 rfl) ho I.free
 ·obtain⟨v,o,ho,hd⟩:=I.cell x c e
  exact free c o (fun z=>(hch c z).2.2.1 x c e rfl) ho (I.qg x c e)
 ·obtain⟨e,n,ne,nf,d⟩:=I.pin p hp
  have Dp:p.1∉ch:=fun z=>(hch p.1 z).2.2.2 p hp rfl
  exact⟨keep p.1 p.2 ne nf Dp e n,free p.1 p.2 Dp e n,ne,nf,d⟩
theorem Inv.un{t':Nat}(I:Inv X pins σ H s)(u:Un X.fs [] H H' s.heap h')(hok:gb X.prog X.w H' h'):Inv X pins σ H' {s with heap:=h',toks:=t'}:=by
 obtain⟨m,⟨o,es,ep,ho,r⟩,_⟩:=id I.loc
 obtain⟨sl,hL⟩:=u.any ho I.free (by simp)
 exact I.step (g':=s.gens) (d':=s.drawn) (ch:=[]) (fun _ z=>nomatch z) (fun b o _ hb _ e n=>u.keep b o e n hb (by simp)) (fun b o _ hb _ e n=>u.slot b o e n hb (by simp)) (fun b o _ e n=>u.free b o e n (by simp)) (fun b o _ e=>u.there b o e (by simp)) u.tups u.nU u.o8 (fun m' hm=>by
  obtain⟨o',es',ep',ho',r'⟩:=hm
  rw[ho] at ho';cases ho'
  exact⟨_,es',ep',hL,r'⟩) hok I.bare
theorem Inv.call{g':Array GenState}{t':Nat}{d':wW}{ch:List aa}(I:Inv X pins σ H s)(u:Un (frs X.stack) ch H H' s.heap h')(hok:gb X.prog X.w H' h')(hg:AllBare g')
  (hch:∀b∈ch,(b∈X.ex∨X.s₀.heap.objs.size≤b)∧b≠X.env.locals∧(∀x c,X.env.cells.lookup x=some c→c≠b)∧∀p∈X.pn++pins,p.1≠b):
  Inv X pins σ H' {s with heap:=h',gens:=g',drawn:=d',toks:=t'}:=by
 obtain⟨m,⟨o,es,ep,ho,r⟩,_⟩:=id I.loc
 obtain⟨sl,hL⟩:=u.any ho I.free fun z=>(hch _ z).2.1 rfl
 exact I.step (ch:=ch) hch (fun b o hL hb hc e n=>u.keep b o e n (fun z=>(bN.mp (I.zb b z)).elim hL hb) hc) (fun b o _ _ hc e n=>u.any e n hc) (fun b o hc e n=>u.free b o e n hc) (fun b o hc e=>u.there b o e hc) u.tups u.nU u.o8 (fun m' hm=>by
  obtain⟨o',es',ep',ho',r'⟩:=hm
  rw[ho] at ho';cases ho'
  exact⟨_,es',ep',hL,r'⟩) hok hg
theorem Inv.turned{t':Nat}{it:aa}(I:Inv X pins σ H s)(k:∀b o,b≠it→s.heap.get? b=some o→h'.get? b=some o)(hn:H it=none)(hL:it≠X.env.locals)
  (h1:it∈X.ex∨X.s₀.heap.objs.size≤it)(h2:∀x c,X.env.cells.lookup x=some c→c≠it)(h3:∀p∈X.pn++pins,p.1≠it):Inv X pins σ H {s with heap:=h',toks:=t'}:=by
 have Dq:∀b u,H b=some u→b≠it:=fun b u e z=>by rw[z,hn] at e;cases e
 refine I.step (g':=s.gens) (d':=s.drawn) (ch:=[it]) (fun b hb=>?_) (fun b o _ _ hc e _=>k b o (fun z=>hc (by simp[z])) e) (fun b o _ _ hc e _=>⟨o.slots,k b o (fun z=>hc (by simp[z])) e⟩) (fun _ _ _ _ n=>n)
  (fun b o hc e=>⟨o,k b o (fun z=>hc (by simp[z])) e⟩) (fun _ _ e=>e) (fun _ _ _ e=>e) (fun b ps e=>⟨#[],by rw[e];simp⟩) (fun m hm=>?_) (fun b u e=>?_) I.bare
 ·have e:b=it:=by simpa using hb
  subst e
  exact⟨h1,hL,h2,h3⟩
 ·obtain⟨o,es,ep,ho,r⟩:=hm
  exact⟨o,es,ep,k _ o (jC hL) ho,r⟩
 ·refine(I.hok b u e).stay (fun c v hc q=>k c v ?_ q) (fun _ q=>q) fun _ _ q=>q
  rcases hc with z|z
  ·rw[z];exact Dq b u e
  ·exact Dq c _ z
theorem Inv.tok(I:Inv X pins σ H s)(t:Nat):Inv X pins σ H {s with toks:=t}:=I.un (h':=s.heap) (t':=t) Un.refl I.hok
theorem Inv.kept{t':Nat}(I:Inv X pins σ H s)(k:∀b u,s.heap.get? b=some u→h'.get? b=some u):Inv X pins σ H {s with heap:=h',toks:=t'}:=I.un (Un.kept k) (I.hok.kept k)
theorem Inv.laid{a:aa}{o:HO}{t':Nat}(I:Inv X pins σ H s)(k:∀b u,s.heap.get? b=some u→h'.get? b=some u)(hp:s.heap.objs.size≤a)(new:fM X.prog X.w (upd H a o) h' a o):
  Inv X pins σ (upd H a o) {s with heap:=h',toks:=t'}:=I.un (Un.laid k hp (I.hok.fresh hp)) (I.hok.laid k hp new)
theorem Inv.write{x e:aa}{o:HO}{t':Nat}(I:Inv X pins σ H s)(mu:Dm (H x))(he:e=x∨H e=some (.own x))(k:∀b u,b≠e→s.heap.get? b=some u→h'.get? b=some u)(heo:∃u,h'.get? e=some u)
  (new:fM X.prog X.w (upd H x o) h' x o):Inv X pins σ (upd H x o) {s with heap:=h',toks:=t'}:=I.un (Un.write mu he k heo) (I.hok.write mu he k heo new)
theorem Inv.weak{σ':List (Option V)}(I:Inv X pins σ H s)(hl:σ'.length=σ.length)(w:∀(i:Nat) v,σ'[i]?=some (some v)→σ[i]?=some (some v)):Inv X pins σ' H s:=
 ⟨I.ok,I.os,I.bare,I.base,let ⟨m,hn,hl'⟩:=I.loc;⟨m,hn,fun i x v e1 e2 e3=>hl' i x v e1 (w i v e2) e3⟩,I.cell,I.free,I.qg,I.pin,I.hok,hl.trans I.len⟩
theorem Inv.Yn{QG:List (aa×Obj)}(I:Inv X pins σ H s)(h:∀p∈QG,s.heap.get? p.1=some p.2∧H p.1=none∧p.1≠X.env.locals∧p.1∉X.fs∧∀v,p.2.data≠.cell v):Inv X QG σ H s:=
 ⟨I.ok,I.os,I.bare,I.base,I.loc,I.cell,I.free,I.qg,fun p hp=>(cL.mp hp).elim (fun z=>I.pin p (gf _ z)) (h p),I.hok,I.len⟩
theorem Xc{N:List Str}(hN:N.Nodup){i j:Nat}{x:Str}(a:N[i]?=some x)(b:N[j]?=some x):i=j:=by
 obtain⟨h1,e1⟩:=jf.mp a
 obtain⟨h2,e2⟩:=jf.mp b
 exact(List.getElem_inj hN).mp (e1.trans e2.symm)
theorem Mp{M:Model}{A:bU}{E:Value→au→Prop}{i:Nat}{x:Str}{v:V}{u:Value}{Q:Unit→au→Prop}(I:Inv X pins σ H s)(hN:X.N.Nodup)(hi:X.N[i]?=some x)(hx:Loc X.env.scope x)(r:RelV v u)
  (h:∀s',Inv X pins (σ.set i (some v)) H s'→(∃a,yG a s.heap s'.heap∧(a=X.env.locals∨X.env.cells.lookup x=some a))→Q () s')(hf:X.fn x=true∨X.env.scope.names.lookup x=some .local:=by first|exact .inl rfl|exact .inr rfl|assumption):aM M A (storeName X.env x u) Q E s:=by
 obtain⟨m,hn,hl⟩:=id I.loc
 have hcls:(X.env.scope.kind==.class||(X.env.scope.kind==.module&&X.env.locals != X.env.globals))=false:=by rw[I.ok.kind];rfl
 have hiσ:i<σ.length:=by rw[I.len];exact(jf.mp hi).1
 have xQ:=I.xQ;have tracked:∀{a:aa}{h':aV},(∃o,s.heap.get? a=some o∧H a=none)→yG a s.heap h'→gb X.prog X.w H h':=fun{a h'} ha hs b ob e=>by
  obtain⟨_,_,hfree⟩:=ha
  refine(I.hok b ob e).stay (fun c w' hc q=>(hs.2 c ?_).trans q) (fun _ q=>q) fun _ _ q=>q
  rintro rfl;rcases hc with rfl|hc
  ·rw[hfree] at e;cases e
  ·rw[hfree] at hc;cases hc
 rcases hx with hk|hk
 ·refine wpAny_storeName_local hk hn (fun h' hn' hs=>?_) hcls
  obtain⟨oL,_,_,hoL,_⟩:=id hn
  refine h _ ⟨I.ok,I.os,I.bare,⟨fun b o e n hb hx=>?_,fun b o e n hb hx=>?_,I.base.free,fun b o e hx=>?_,I.base.tups,I.base.nU,I.base.o8⟩,⟨_,hn',fun j y v' e1 e2 e3=>?_⟩,fun y c e=>?_,I.free,I.qg,fun p hp=>?_,tracked ⟨oL,hoL,I.free⟩ hs,by simpa using I.len⟩ ⟨_,hs,.inl rfl⟩
  ·exact(hs.2 b (dM (mU (cz e) I.ok.above))).trans (I.base.keep b o e n hb hx)
  ·obtain⟨sl,e1⟩:=I.base.slot b o e n hb hx
   exact⟨sl,(hs.2 b (dM (mU (cz e) I.ok.above))).trans e1⟩
  ·obtain⟨o',e1⟩:=I.base.there b o e hx
   exact⟨o',(hs.2 b (dM (mU (cz e) I.ok.above))).trans e1⟩
  ·by_cases hj:j=i
   ·subst hj;rw[hi] at e1;cases e1;rw[acg hiσ] at e2;cases e2
    exact⟨u,r,.inl ⟨hk,by simp⟩⟩
   ·rw[uy (jC hj)] at e2
    obtain⟨u',r',q⟩:=hl j y v' e1 e2 e3
    refine⟨u',r',?_⟩
    rcases q with⟨k,e⟩|⟨k,c,e,z⟩
    ·refine .inl ⟨k,?_⟩;have:y≠x:=fun e=>hj (Xc hN e1 (e▸hi))
     simp[this,e]
    ·exact .inr ⟨k,c,e,z.sameBut hs (xQ y c e)⟩
  ·obtain⟨w',z⟩:=I.cell y c e
   exact⟨w',z.sameBut hs (xQ y c e)⟩
  ·obtain⟨e,n,ne,nf,d⟩:=I.pin p hp
   exact⟨(hs.2 p.1 ne).trans e,n,ne,nf,d⟩
 ·have hfn:X.fn x=true:=by
   rcases hf with z|z
   ·exact z
   ·rw[z] at hk;cases hk
  obtain⟨c,hc⟩:=I.ok.has x (.inl hk)
  obtain⟨w',z⟩:=I.cell x c hc
  refine wpAny_storeName_cell I.ok.kind hk hc z (fun h' hc' hs=>?_)
  obtain⟨oc,hoc,akN⟩:=id z
  refine h {s with heap:=h'} ⟨I.ok,I.os,I.bare,⟨fun b o e n hb hx=>?_,fun b o e n hb hx=>?_,I.base.free,fun b o e hx=>?_,I.base.tups,I.base.nU,I.base.o8⟩,⟨m,hn.sameBut hs (jC (xQ x c hc)),fun j y v' e1 e2 e3=>?_⟩,fun y c' e=>?_,I.free,I.qg,fun p hp=>?_,tracked ⟨oc,hoc,I.qg x c hc⟩ hs,by simpa using I.len⟩ ⟨c,hs,.inr hc⟩
  ·exact(hs.2 b (dM (mU (cz e) (I.ok.cab x c hfn hc)))).trans (I.base.keep b o e n hb hx)
  ·obtain⟨sl,e1⟩:=I.base.slot b o e n hb hx
   exact⟨sl,(hs.2 b (dM (mU (cz e) (I.ok.cab x c hfn hc)))).trans e1⟩
  ·obtain⟨o',e1⟩:=I.base.there b o e hx
   exact⟨o',(hs.2 b (dM (mU (cz e) (I.ok.cab x c hfn hc)))).trans e1⟩
  ·by_cases hj:j=i
   ·subst hj;rw[hi] at e1;cases e1;rw[acg hiσ] at e2;cases e2
    exact⟨u,r,.inr ⟨.inl hk,c,hc,hc'⟩⟩
   ·rw[uy (jC hj)] at e2
    obtain⟨u',r',q⟩:=hl j y v' e1 e2 e3
    refine⟨u',r',?_⟩
    rcases q with q|⟨k,c',e,z'⟩
    ·exact .inl q
    ·refine .inr ⟨k,c',e,z'.sameBut hs ?_⟩;rintro rfl;exact hj (Xc hN e1 (I.ok.inj _ _ _ e hc▸hi))
  ·by_cases hcc:c'=c
   ·subst hcc;exact⟨_,hc'⟩
   ·obtain⟨w2,z2⟩:=I.cell y c' e
    exact⟨w2,z2.sameBut hs hcc⟩
  ·obtain⟨e,n,ne,nf,d⟩:=I.pin p hp
   refine⟨(hs.2 p.1 ?_).trans e,n,ne,nf,d⟩
   intro q;rw[q,hoc] at e;have q':oc=p.2:=fW e;exact d w' (by rw[←q'];exact akN)
theorem rA{M:Model}{A:bU}{E:Value→au→Prop}{i:Nat}{x:Str}{v:V}{u:Value}{Q:Unit→au→Prop}(I:Inv X pins σ H s)(hN:X.N.Nodup)(hi:X.N[i]?=some x)(hx:Loc X.env.scope x)(r:RelV v u)
  (h:∀s',Inv X pins (σ.set i (some v)) H s'→Q () s')(hf:X.fn x=true∨X.env.scope.names.lookup x=some .local:=by first|exact .inl rfl|exact .inr rfl|assumption):aM M A (storeName X.env x u) Q E s:=
 Mp I hN hi hx r (fun s' I' _=>h s' I') hf
theorem Inv.call'{s':au}{ch:List aa}(I:Inv X pins σ H s)(ho:s'.os=s.os)(u:Un (frs X.stack) ch H H' s.heap s'.heap)(hok:gb X.prog X.w H' s'.heap)(hg:AllBare s'.gens)
  (hch:∀b∈ch,(b∈X.ex∨X.s₀.heap.objs.size≤b)∧b≠X.env.locals∧(∀x c,X.env.cells.lookup x=some c→c≠b)∧∀p∈X.pn++pins,p.1≠b):Inv X pins σ H' s':=by
 obtain⟨h',g',d',t',o'⟩:=s'
 have e:o'=s.os:=ho;subst e;exact I.call (g':=g') (t':=t') (d':=d') u hok hg hch
end
abbrev XK:=Value→Option aa→Hp→Prop
abbrev St:=List (Option V)
abbrev VK:=V→Hp→Prop
abbrev TE:=St→Hp→VK→Prop
abbrev TT:=St→Hp→(Bool→Hp→Prop)→Prop
abbrev TA:=St→Hp→(List V→Hp→Prop)→Prop
structure Ends where
 nx:St→Hp→Prop
 rt:VK
 bk:St→Hp→Prop:=fun _ _=>False
 ct:St→Hp→Prop:=fun _ _=>False
abbrev TS:=Ends→St→Hp→Prop
def EP(X:Cx)(pins:List (aa×Obj))(σ:St)(Q:VK)(u:Value)(s':au):Prop:=∃v H',Inv X pins σ H' s'∧RelV v u∧Q v H'
def TP(X:Cx)(pins:List (aa×Obj))(σ:St)(Q:Bool→Hp→Prop)(b:Bool)(s':au):Prop:=∃H',Inv X pins σ H' s'∧Q b H'
def AP(X:Cx)(pins:List (aa×Obj))(σ:St)(Q:List V→Hp→Prop)(us:List Value)(s':au):Prop:=∃vs H',Inv X pins σ H' s'∧Vals vs us∧Q vs H'
def SP(X:Cx)(pins:List (aa×Obj))(D:Ends)(f:Flow)(s':au):Prop:=
 match f with
 |.next=>∃σ' H',Inv X pins σ' H' s'∧D.nx σ' H'
 |.brk=>∃σ' H',Inv X pins σ' H' s'∧D.bk σ' H'
 |.cont=>∃σ' H',Inv X pins σ' H' s'∧D.ct σ' H'
 |.ret u=>∃v σ' H',Inv X pins σ' H' s'∧RelV v u∧D.rt v H'
def PE(X:Cx)(e:Expr)(t:TE):Prop:=
 ∀(pins:List (aa×Obj))(s:au)(σ:St)(H:Hp)(Q:VK),Inv X pins σ H s→t σ H Q→aM (model X.prog X.w) X.A (eval e X.env) (EP X pins σ Q) X.xe s
def PT(X:Cx)(e:Expr)(t:TT):Prop:=
 ∀(pins:List (aa×Obj))(s:au)(σ:St)(H:Hp)(Q:Bool→Hp→Prop),Inv X pins σ H s→t σ H Q→aM (model X.prog X.w) X.A (isTrue e X.env (eval e X.env)) (TP X pins σ Q) X.xe s
def PW(X:Cx)(e:Expr)(t:TT):Prop:=
 ∀(whole:Sem Value)(pins:List (aa×Obj))(s:au)(σ:St)(H:Hp)(Q:Bool→Hp→Prop),Inv X pins σ H s→t σ H Q→aM (model X.prog X.w) X.A (isTrue e X.env whole) (TP X pins σ Q) X.xe s
theorem PW.pt{X:Cx}{e:Expr}{t:TT}(h:PW X e t):PT X e t:=h _
def PA(X:Cx)(es:List Expr)(t:TA):Prop:=
 ∀(pos:Pos)(pins:List (aa×Obj))(s:au)(σ:St)(H:Hp)(Q:List V→Hp→Prop),Inv X pins σ H s→t σ H Q→aM (model X.prog X.w) X.A (Bo (eO pos (aZ es X.env))) (AP X pins σ Q) X.xe s
def PS(X:Cx)(st:cP)(t:TS):Prop:=
 ∀(pins:List (aa×Obj))(s:au)(σ:St)(H:Hp)(D:Ends),Inv X pins σ H s→t D σ H→aM (model X.prog X.w) X.A (exec st X.env) (SP X pins D) X.xe s
def ir(X:Cx)(st:List cP)(t:TS):Prop:=
 ∀(pins:List (aa×Obj))(s:au)(σ:St)(H:Hp)(D:Ends),Inv X pins σ H s→t D σ H→aM (model X.prog X.w) X.A (execs st X.env) (SP X pins D) X.xe s
theorem bh{α:Type}{t:Sem α}{Q Q':α→au→Prop}{M:Model}{A:bU}{E:Value→au→Prop}{s:au}(h:aM M A t Q E s)(hQ:∀a s,Q a s→Q' a s):aM M A t Q' E s:=mW h hQ fun _ _ x=>x
section
variable{X:Cx}
def nW(i:Nat):TE:=fun σ H Q=>∃v,σ[i]?=some (some v)∧Q v H
def tC(v:V):TE:=fun _ H Q=>Q v H
theorem aiP{i:Nat}{x:Str}{pos:Pos}(hN:X.N[i]?=some x)(hv:Jh X.env.scope x)(hd:(x==("__debug__":Str))=false:=by decide)(hcd:(x==("__classdict__":Str))=false:=by decide):PE X (.Name x pos) (nW i):=by
 intro pins s σ H Q I h
 obtain⟨v,e,h⟩:=h
 obtain⟨m,hn,hl⟩:=I.loc
 obtain⟨u,r,l⟩:=hl i x v hN e hv
 have fin:EP X pins σ Q u s:=⟨v,H,I,r,h⟩
 rcases l with⟨hk,hm⟩|⟨hk,c,hc,hcell⟩
 ·exact V6 (acz I.ok.kind hk hn hm fin) hd
 ·rcases hk with hk|hk
  ·exact V6 (acF I.ok.kind hk hc hcell fin) hd
  ·exact V6 (wpAny_loadName_free I.ok.kind hk hc hcell fin hcd) hd
theorem aN{i j pos}:PE X (.Constant (.int i) j pos) (tC (.int i)):=fun _ _ _ H _ I h=>wpAny_Constant_int ⟨.int i,H,I.tok _,⟨_,rfl⟩,h⟩
theorem rN{b j pos}:PE X (.Constant (.bool b) j pos) (tC (.bl b)):=fun _ _ _ H _ I h=>Constant_bool ⟨.bl b,H,I,rfl,h⟩
theorem pW{j pos}:PE X (.Constant .none j pos) (tC .non):=fun _ _ _ H _ I h=>Constant_none ⟨.non,H,I,rfl,h⟩
theorem By{x j pos}:PE X (.Constant (.str x) j pos) (tC (.str x)):=fun _ _ _ H _ I h=>Calls.Constant_str ⟨.str x,H,I.tok _,⟨_,rfl⟩,h⟩
def Gl(X:Cx)(x:Str):Prop:=X.env.kindOf x=some .globalImplicit
theorem Yo{E:Value→au→Prop}{pins:List (aa×Obj)}{s:au}{σ:St}{H:Hp}{x:Str}{u:Value}{pos:Pos}{Q:Value→au→Prop}(I:Inv X pins σ H s)(hg:Gl X x)(hm:X.mg x=some u)(h:Q u s)
  (hd:(x==("__debug__":Str))=false:=by decide):aM (model X.prog X.w) X.A (eval (.Name x pos) X.env) Q E s:=
 ab0 I.ok.kind hg (Calls.loadGlobal_global (by rw[I.ok.glob];exact I.mod.glob.keeps I.bk) hm h) hd
theorem tR{E:Value→au→Prop}{pins:List (aa×Obj)}{s:au}{σ:St}{H:Hp}{x:Str}{u:Value}{pos:Pos}{Q:Value→au→Prop}(I:Inv X pins σ H s)(hg:Gl X x)(hm:X.mg x=none)(hv:sY x=some u)(h:Q u s)
  (hn:x≠"__name__":=by decide)(hd:(x==("__debug__":Str))=false:=by decide):aM (model X.prog X.w) X.A (eval (.Name x pos) X.env) Q E s:=by
 obtain⟨mb,h1,h2⟩:=I.mod.blt
 exact ab0 I.ok.kind hg (Calls.loadGlobal_builtin (by rw[I.ok.glob];exact I.mod.glob.keeps I.bk) hm (by rw[I.ok.blt];exact h1.keeps I.bk) ((h2 x hn).trans hv) h) hd
theorem Yp{x:Str}{v:V}{u:Value}{pos:Pos}(hg:Gl X x)(hm:X.mg x=some u)(r:RelV v u)(hd:(x==("__debug__":Str))=false:=by decide):PE X (.Name x pos) (tC v):=
 fun _ _ _ H _ I h=>Yo I hg hm ⟨v,H,I,r,h⟩ hd
theorem Yq{x:Str}{v:V}{u:Value}{pos:Pos}(hg:Gl X x)(hm:X.mg x=none)(hv:sY x=some u)(r:RelV v u)(hn:x≠"__name__":=by decide)(hd:(x==("__debug__":Str))=false:=by decide):PE X (.Name x pos) (tC v):=
 fun _ _ _ H _ I h=>tR I hg hm hv ⟨v,H,I,r,h⟩ hn hd
variable{a b:Expr}{ta tb:TE}{pos:Pos}
def tB(t:TE):TT:=fun σ H Q=>t σ H fun x H1=>∃c,x=.bl c∧Q c H1
variable{tA Jj:TT}{rest:List Expr}
def aaF(t u:TT):TT:=fun σ H Q=>t σ H fun c H1=>if c=true then u σ H1 Q else Q false H1
def tOr(t u:TT):TT:=fun σ H Q=>t σ H fun c H1=>if c=true then Q true H1 else u σ H1 Q
def akO(t:TT):TT:=fun σ H Q=>t σ H fun c H1=>Q (!c) H1
theorem pw_and1(ha:PT X a tA):PW X (.BoolOp .And [a] pos) tA:=by
 intro wh pins s σ H Q I h;refine isTrue_and (bh (ha pins s σ H Q I h) fun c s1 e=>?_);cases c with
 |true=>exact isTrue_and_nil e
 |false=>exact e
theorem pw_or1(ha:PT X a tA):PW X (.BoolOp .Or [a] pos) tA:=by
 intro wh pins s σ H Q I h;refine isTrue_or (bh (ha pins s σ H Q I h) fun c s1 e=>?_);cases c with
 |false=>exact isTrue_or_nil e
 |true=>exact e
theorem pw_and(ha:PT X a tA)(hb:PW X (.BoolOp .And (b::rest) pos) Jj):PW X (.BoolOp .And (a::b::rest) pos) (aaF tA Jj):=by
 intro wh pins s σ H Q I h;refine isTrue_and (bh (ha pins s σ H _ I h) fun c s1 aJ=>?_)
 obtain⟨H1,I1,q1⟩:=aJ
 cases c with
 |true=>exact hb wh pins s1 σ H1 Q I1 q1
 |false=>exact⟨H1,I1,q1⟩
theorem pw_or(ha:PT X a tA)(hb:PW X (.BoolOp .Or (b::rest) pos) Jj):PW X (.BoolOp .Or (a::b::rest) pos) (tOr tA Jj):=by
 intro wh pins s σ H Q I h;refine isTrue_or (bh (ha pins s σ H _ I h) fun c s1 aJ=>?_)
 obtain⟨H1,I1,q1⟩:=aJ
 cases c with
 |true=>exact⟨H1,I1,q1⟩
 |false=>exact hb wh pins s1 σ H1 Q I1 q1
theorem aiQ(ha:PT X a tA):PT X (.UnaryOp .Not a pos) (akO tA):=by
 intro pins s σ H Q I h;exact isTrue_not (ha pins s σ H (fun c H1=>Q (!c) H1) I h)
def aj7(ta tb:TE):TE:=fun σ H Q=>ta σ H fun x H1=>∃c,x=.bl c∧if c=true then tb σ H1 Q else Q (.bl false) H1
theorem aiR{op}{t:TE}(h:PE X a t):PE X (.BoolOp op [a] pos) t:=fun pins s σ H Q I hw=>BoolOp_one (h pins s σ H Q I hw)
theorem aiS(ha:PE X a ta)(hb:PE X (.BoolOp .And (b::rest) pos) tb):PE X (.BoolOp .And (a::b::rest) pos) (aj7 ta tb):=by
 intro pins s σ H Q I h;refine BoolOp_and (bh (ha pins s σ H _ I h) fun v s1 aJ=>?_)
 obtain⟨x,H1,I1,r1,q1⟩:=aJ
 obtain⟨c,rfl,q1⟩:=q1
 cases r1;refine yh ?_;cases c with
 |true=>exact hb pins s1 σ H1 Q I1 q1
 |false=>exact⟨.bl false,H1,I1,rfl,q1⟩
def tIf(t:TT)(ta tb:TE):TE:=fun σ H Q=>t σ H fun c H1=>if c=true then ta σ H1 Q else tb σ H1 Q
theorem agk{c:Expr}(hc:PT X c tA)(ha:PE X a ta)(hb:PE X b tb):PE X (.IfExp c a b pos) (tIf tA ta tb):=by
 intro pins s σ H Q I h;refine wpAny_IfExp (bh (hc pins s σ H _ I h) fun d s1 aJ=>?_)
 obtain⟨H1,I1,q1⟩:=aJ
 cases d with
 |true=>exact ha pins s1 σ H1 Q I1 q1
 |false=>exact hb pins s1 σ H1 Q I1 q1
end
def bO(K:aH)(H:Hp)(a:aa)(xs:List V):Prop:=
 Rd H a (.lst xs)∨
  ∃(o:Obj)(its:Array Value)(n:Nat),K.lookup a=some o∧o.cls=.type "list"∧o.dict=none∧o.data=.seq its n∧its.size≤bM∧Vals xs its.toList
def cI(K:aH)(H:Hp)(a:aa)(xs:List V):Prop:=
 Rd H a (.tup xs)∨
  ∃(o:Obj)(its:Array Value)(n:Nat),K.lookup a=some o∧o.cls=.type "tuple"∧o.data=.seq its n∧its.size≤bM∧Vals xs its.toList
def akP:Value→Option V
 |.none=>some .non
 |.bool b=>some (.bl b)
 |.int i _=>some (.int i)
 |.str x _=>some (.str x)
 |.bytes b _=>some (.n6 b)
 |.float b _=>some (.flt b)
 |.ref a=>some (.ref a)
 |.type n=>some (.ty n)
 |_=>none
theorem RelV.abs{x:V}{u:Value}(r:RelV x u):akP u=some x:=by
 cases x with
 |non=>cases r;rfl
 |bl _=>cases r;rfl
 |int _=>obtain⟨t,rfl⟩:=r;rfl
 |str _=>obtain⟨t,rfl⟩:=r;rfl
 |n6 _=>obtain⟨t,rfl⟩:=r;rfl
 |flt _=>obtain⟨t,rfl⟩:=r;rfl
 |ref _=>cases r;rfl
 |ty _=>cases r;rfl
theorem RelV.inj{x y:V}{u:Value}(r:RelV x u)(q:RelV y u):x=y:=fW (r.abs.symm.trans q.abs)
theorem Vals.inj:∀{xs ys:List V}{us:List Value},Vals xs us→Vals ys us→xs=ys
 |_,_,_,.nil,.nil=>rfl
 |_,_,_,.cons r t,.cons r' t'=>by rw[r.inj r',Vals.inj t t']
section
variable{X:Cx}{pins:List (aa×Obj)}{σ:St}{H:Hp}{s:au}{a:aa}{xs ys:List V}
theorem bO.of{K:aH}(h:H a=some (.lst xs)):bO K H a xs:=.inl (.inl h)
theorem cI.of{K:aH}(h:H a=some (.tup xs)):cI K H a xs:=.inl (.inl h)
theorem Inv.list(I:Inv X pins σ H s)(h:bO X.K H a xs):∃its:List Value,Vals xs its∧PlainL s.heap a its.toArray∧xs.length≤bM:=by
 rcases h with h|⟨o,its,n,hk,hc,hd,hs,hz,r⟩
 ·obtain⟨z,its,n,r,e⟩:=h.ok I.hok
  exact⟨its,r,⟨_,n,e,rfl,rfl,rfl⟩,z⟩
 ·refine⟨its.toList,r,⟨o,n,I.lA a o hk,hc,hd,by simpa using hs⟩,?_⟩
  have e:=r.length;simp only[jm] at e;omega
theorem Inv.tuple(I:Inv X pins σ H s)(h:cI X.K H a xs):∃its:List Value,Vals xs its∧IsTup s.heap a its.toArray∧xs.length≤bM:=by
 rcases h with h|⟨o,its,n,hk,hc,hs,hz,r⟩
 ·obtain⟨z,its,r,p⟩:=h.ok I.hok
  exact⟨its,r,p,z⟩
 ·refine⟨its.toList,r,⟨o,I.lA a o hk,hc,n,by simpa using hs⟩,?_⟩
  have e:=r.length;simp only[jm] at e;omega
theorem Inv.Xd(I:Inv X pins σ H s)(h:bO X.K H a xs)(h':bO X.K H a ys):xs=ys:=by
 obtain⟨its,r,⟨o,n,e,_,_,d⟩,_⟩:=I.list h
 obtain⟨its',r',⟨o',n',e',_,_,d'⟩,_⟩:=I.list h'
 rw[e] at e';cases e';rw[d] at d';injection d' with d1 _
 have:its=its':=by simpa using congrArg adY d1
 subst this;exact r.inj r'
theorem Inv.afm(I:Inv X pins σ H s)(h:cI X.K H a xs)(h':cI X.K H a ys):xs=ys:=by
 obtain⟨its,r,⟨o,e,_,n,d⟩,_⟩:=I.tuple h
 obtain⟨its',r',⟨o',e',_,n',d'⟩,_⟩:=I.tuple h'
 rw[e] at e';cases e';rw[d] at d';injection d' with d1 _
 have:its=its':=by simpa using congrArg adY d1
 subst this;exact r.inj r'
end
abbrev Cx.wish(X:Cx)(E:Value→au→Prop):Cx:={X with xe:=E}
abbrev Cx.uo(X:Cx):Cx:=X.wish fun _ _=>False
theorem Cx.Ok.wish{X:Cx}(ok:X.Ok)(E:Value→au→Prop):(X.wish E).Ok:=
 ⟨ok.mod,ok.kind,ok.glob,ok.blt,ok.above,ok.inj,ok.has,ok.cab,ok.hd,ok.frames,ok.stk,ok.exf,ok.bs,ok.su,ok.Dc,ok.IK,ok.o9,ok.xP⟩
theorem Cx.Ok.rE{X:Cx}{E:Value→au→Prop}(ok:(X.wish E).Ok):X.Ok:=
 ⟨ok.mod,ok.kind,ok.glob,ok.blt,ok.above,ok.inj,ok.has,ok.cab,ok.hd,ok.frames,ok.stk,ok.exf,ok.bs,ok.su,ok.Dc,ok.IK,ok.o9,ok.xP⟩
section
variable{X:Cx}{pins:List (aa×Obj)}{σ:St}{H:Hp}{s:au}{E:Value→au→Prop}
theorem Inv.wish(I:Inv X pins σ H s)(E:Value→au→Prop):Inv (X.wish E) pins σ H s:=⟨I.ok.wish E,I.os,I.bare,I.base,I.loc,I.cell,I.free,I.qg,I.pin,I.hok,I.len⟩
theorem Inv.rE(I:Inv (X.wish E) pins σ H s):Inv X pins σ H s:=⟨I.ok.rE,I.os,I.bare,I.base,I.loc,I.cell,I.free,I.qg,I.pin,I.hok,I.len⟩
theorem SP.rE{D:Ends}{f:Flow}{s':au}(h:SP (X.wish E) pins D f s'):SP X pins D f s':=by
 cases f with
 |next=>obtain⟨σ',H',I,q⟩:=h;exact⟨σ',H',I.rE,q⟩
 |brk=>obtain⟨σ',H',I,q⟩:=h;exact⟨σ',H',I.rE,q⟩
 |cont=>obtain⟨σ',H',I,q⟩:=h;exact⟨σ',H',I.rE,q⟩
 |ret u=>obtain⟨v,σ',H',I,r,q⟩:=h;exact⟨v,σ',H',I.rE,r,q⟩
theorem PE.uo{e:Expr}{t:TE}(h:PE X.uo e t):PE X e t:=fun pins s σ H Q I hw=>
 mW (h pins s σ H Q (I.wish _) hw) (fun _ _ ⟨v,H',I',r,q⟩=>⟨v,H',I'.rE,r,q⟩) fun _ _ z=>pQ z
theorem PT.uo{e:Expr}{t:TT}(h:PT X.uo e t):PT X e t:=fun pins s σ H Q I hw=>
 mW (h pins s σ H Q (I.wish _) hw) (fun _ _ ⟨H',I',q⟩=>⟨H',I'.rE,q⟩) fun _ _ z=>pQ z
theorem ir.uo{st:List cP}{t:TS}(h:ir X.uo st t):ir X st t:=fun pins s σ H D I hw=>
 mW (h pins s σ H D (I.wish _) hw) (fun _ _ q=>q.rE) fun _ _ z=>pQ z
end
section
variable{X:Cx}{st:cP}{rest:List cP}{t u:TS}{e:Expr}{te:TE}{pos:Pos}
def aj8:TS:=fun D σ H=>D.nx σ H
def aaG(t u:TS):TS:=fun D σ H=>t {D with nx:=u D} σ H
theorem ahx:ir X [] aj8:=fun _ _ σ H _ I h=>J7 ⟨σ,H,I,h⟩
theorem agl(h1:PS X st t)(h2:ir X rest u):ir X (st::rest) (aaG t u):=by
 intro pins s σ H D I h;refine ada (bh (h1 pins s σ H {D with nx:=u D} I h) fun f s1 q=>?_);cases f with
 |next=>
  obtain⟨σ',H',I',q⟩:=q
  exact h2 pins s1 σ' H' D I' q
 |ret v=>exact q
 |brk=>exact q
 |cont=>exact q
theorem ahy(h1:PS X st t):ir X [st] t:=by
 intro pins s σ H D I h;refine ada (bh (h1 pins s σ H D I h) fun f s1 q=>?_);cases f with
 |next=>exact J7 q
 |ret v=>exact q
 |brk=>exact q
 |cont=>exact q
theorem Inv.quiet{pins:List (aa×Obj)}{σ:St}{H:Hp}{s:au}(I:Inv X pins σ H s):interactive X.env=false:=by simp[interactive,I.ok.kind]
def aj9(te:TE):TS:=fun D σ H=>te σ H fun _ H1=>D.nx σ H1
theorem Ou(he:PE X e te)(hs:rm e none pos.line X.env=pure false:=by rfl):PS X (.Expr e pos) (aj9 te):=by
 intro pins s σ H D I h;exact wpAny_Expr_any (bh (he pins s σ H _ I h) fun v s1 ⟨x,H1,I1,r1,q1⟩=>⟨σ,H1,I1,q1⟩) I.quiet hs
def akQ(te:TE):TS:=fun D σ H=>te σ H D.rt
theorem Zq(he:PE X e te):PS X (.Return (some e) pos) (akQ te):=by
 intro pins s σ H D I h;exact wpAny_Return_some (bh (he pins s σ H _ I h) fun v s1 ⟨x,H1,I1,r1,q1⟩=>⟨x,σ,H1,I1,r1,q1⟩)
def akR(c:TT)(t u:TS):TS:=fun D σ H=>c σ H fun b H1=>if b=true then t D σ H1 else u D σ H1
theorem aka{c:Expr}{a b:List cP}{tc:TT}(hc:PT X c tc)(ha:ir X a t)(hb:ir X b u):PS X (.If c a b pos) (akR tc t u):=by
 intro pins s σ H D I h;refine wpAny_If (bh (hc pins s σ H _ I h) fun d s1 aJ=>?_)
 obtain⟨H1,I1,q1⟩:=aJ
 cases d with
 |true=>exact ha pins s1 σ H1 D I1 q1
 |false=>exact hb pins s1 σ H1 D I1 q1
end
abbrev TG:=V→St→Hp→(St→Hp→Prop)→Prop
abbrev uq:=List V→St→Hp→(St→Hp→Prop)→Prop
def PG(X:Cx)(target:Expr)(t:TG):Prop:=
 ∀(pins:List (aa×Obj))(s:au)(σ:St)(H:Hp)(v:V)(u:Value)(Q:St→Hp→Prop),Inv X pins σ H s→RelV v u→t v σ H Q→
  aM (model X.prog X.w) X.A (assign target X.env u) (fun _ s'=>∃σ' H',Inv X pins σ' H' s'∧Q σ' H') X.xe s
def Jk(X:Cx)(ts:List Expr)(t:uq):Prop:=
 ∀(pins:List (aa×Obj))(s:au)(σ:St)(H:Hp)(vs:List V)(us:List Value)(Q:St→Hp→Prop),Inv X pins σ H s→Vals vs us→t vs σ H Q→
  aM (model X.prog X.w) X.A (Aj ((qZ ts X.env).map (·.2)) us) (fun _ s'=>∃σ' H',Inv X pins σ' H' s'∧Q σ' H') X.xe s
abbrev Q8:=V→V→V→Hp→(Hp→Prop)→Prop
def uc(X:Cx)(t:Q8):Prop:=
 ∀(pins:List (aa×Obj))(s:au)(σ:St)(H:Hp)(o i v:V)(ov iv u:Value)(Q:Hp→Prop),Inv X pins σ H s→RelV o ov→RelV i iv→RelV v u→t o i v H Q→
  aM (model X.prog X.w) X.A (setItem ov iv u) (fun _ s'=>∃H',Inv X pins σ H' s'∧Q H') X.xe s
abbrev Jl:=V→V→Hp→VK→Prop
def PIp(X:Cx)(op:Operator)(t:Jl):Prop:=
 ∀(pins:List (aa×Obj))(s:au)(σ:St)(H:Hp)(x y:V)(v u:Value)(Q:VK),Inv X pins σ H s→RelV x v→RelV y u→t x y H Q→
  aM (model X.prog X.w) X.A (inplaceOp op v u) (EP X pins σ Q) X.xe s
section
variable{X:Cx}{pos:Pos}
def uY(i:Nat):TG:=fun v σ H Q=>Q (σ.set i (some v)) H
theorem gJ{i:Nat}{x:Str}(hN:X.N.Nodup)(hi:X.N[i]?=some x)(hx:Loc X.env.scope x)(hf:X.fn x=true∨X.env.scope.names.lookup x=some .local:=by first|exact .inl rfl|exact .inr rfl|assumption):PG X (.Name x pos) (uY i):=by
 intro pins s σ H v u Q I r h;exact Eo (rA I hN hi hx r (fun s' I'=>⟨_,H,I',h⟩) hf)
def Q9:uq:=fun vs σ H Q=>vs=[]∧Q σ H
def QH(t:TG)(u:uq):uq:=fun vs σ H Q=>∃v r,vs=v::r∧t v σ H fun σ' H'=>u r σ' H' Q
theorem yR:Jk X [] Q9:=by
 intro pins s σ H vs us Q I r h
 obtain⟨e,h⟩:=h
 subst e;cases r;exact assignInOrder_nil ⟨σ,H,I,h⟩
theorem lY{e:Expr}{es:List Expr}{t:TG}{u:uq}(h1:PG X e t)(h2:Jk X es u)
  (hs:(qZ (e::es) X.env).map (·.2)=assign e X.env::(qZ es X.env).map (·.2):=by rfl):Jk X (e::es) (QH t u):=by
 intro pins s σ H vs us Q I r h
 obtain⟨v,vr,e1,h⟩:=h
 subst e1;cases r with
 |cons r rr=>
  rw[hs];refine assignInOrder_cons (bh (h1 pins s σ H _ _ _ I r h) fun _ s1 aJ=>?_)
  obtain⟨σ1,H1,I1,q1⟩:=aJ
  exact h2 pins s1 σ1 H1 _ _ Q I1 rr q1
def Ra(K:aH)(n:Nat)(t:uq):TG:=fun v σ H Q=>∃a xs,v=.ref a∧cI K H a xs∧xs.length=n∧t xs σ H Q
theorem zc{es:List Expr}{k:Nat}{t:uq}{n:Nat}(hc:X.calm=true)(h:Jk X es t)
  (hn:(qZ es X.env).length=n:=by rfl)(hst:(qZ es X.env).findIdx? (·.1)=none:=by rfl):PG X (.Tuple es k pos) (Ra X.K n t):=by
 intro pins s σ H v u Q I r hw
 obtain⟨a,xs,e1,hq,hl,hw⟩:=hw
 subst e1;cases r
 obtain⟨its,rv,ht,hz⟩:=I.tuple hq
 refine assign_Tuple_tuple (I.ok.hd hc) ht (by simp[hn,←hl,rv.length]) hst fun h' hx=>?_
 have I1:Inv X pins σ H {s with heap:=h'}:=I.kept (t':=s.toks) fun b o e=>hx b o (dM (cz e)) e
 exact h pins _ σ H xs _ Q I1 (by simpa using rv) hw
def akS(to ti:TE)(t:Q8):TG:=fun v σ H Q=>to σ H fun o H1=>ti σ H1 fun i H2=>t o i v H2 fun H3=>Q σ H3
theorem aiT{o i:Expr}{to ti:TE}{t:Q8}(ho:PE X o to)(hi:PE X i ti)(hs:uc X t)
  (ha:∀v,assign (.Subscript o i pos) X.env v=(do
   let ov ←oO [v] (eval o X.env)
   let iv ←oO [v,ov] (eval i X.env)
   rD pos
   oO [v,ov,iv] (setItem ov iv v)
   release [v,ov,iv] []):=by intro _;rfl):PG X (.Subscript o i pos) (akS to ti t):=by
 intro pins s σ H v u Q I r h;rw[ha];refine aC (lW (bh (ho pins s σ H _ I h) fun ov s1 aJ=>?_))
 obtain⟨x,H1,I1,r1,q1⟩:=aJ
 refine aC (lW (bh (hi pins s1 σ H1 _ I1 q1) fun iv s2 aJ=>?_))
 obtain⟨y,H2,I2,r2,q2⟩:=aJ
 refine aC (sV (aC (lW (bh (hs pins s2 σ H2 x y v ov iv u _ I2 r1 r2 r q2) fun _ s3 aJ=>?_))))
 obtain⟨H3,I3,q3⟩:=aJ
 exact wpAny_release ⟨σ,H3,I3,q3⟩
def zM(te:TE)(g:TG):TS:=fun D σ H=>te σ H fun x H1=>g x σ H1 D.nx
theorem Qc{tg e:Expr}{te:TE}{g:TG}(he:PE X e te)(hg:PG X tg g)(hs:wz [tg] e pos.line X.env=pure false:=by rfl)(hw:wA [tg] e X.env=pure none:=by rfl)
  (h1:(qZ [tg] X.env).map (·.2)=[assign tg X.env]:=by rfl):PS X (.Assign [tg] e pos) (zM te g):=by
 intro pins s σ H D I h;refine wpAny_Assign_stores (bh (he pins s σ H _ I h) fun v s1 aJ=>?_) hs hw
 obtain⟨x,H1,I1,r1,q1⟩:=aJ
 rw[h1];exact bh (hg pins s1 σ H1 x v _ I1 r1 q1) fun _ s2 q=>q
theorem Zr{i:Nat}{x:Str}{e:Expr}{te:TE}{pos':Pos}(hN:X.N.Nodup)(hi:X.N[i]?=some x)(hx:Loc X.env.scope x)(he:PE X e te)(hs:rm e (some (.Name x pos')) pos.line X.env=pure false:=by rfl)(hf:X.fn x=true∨X.env.scope.names.lookup x=some .local:=by first|exact .inl rfl|exact .inr rfl|assumption):
  PS X (.Assign [.Name x pos'] e pos) (zM te (uY i)):=by
 intro pins s σ H D I h;refine wpAny_Assign_Name (bh (he pins s σ H _ I h) fun v s1 aJ=>?_) hs
 obtain⟨y,H1,I1,r1,q1⟩:=aJ
 exact rA I1 hN hi hx r1 (fun s2 I2=>⟨_,H1,I2,q1⟩) hf
def akT(i j:Nat)(ta:TA):TS:=fun D σ H=>ta σ H fun vs H1=>∃v w,vs=[v,w]∧D.nx ((σ.set i (some v)).set j (some w)) H1
theorem aiU{i j:Nat}{x y:Str}{a b:Expr}{ta:TA}{px py pt:Pos}{kt k2 mL}(hc:X.calm=true)(hN:X.N.Nodup)(hi:X.N[i]?=some x)(hj:X.N[j]?=some y)(hij:i≠j)
  (hx:X.env.scope.names.lookup x=some .local)(hy:X.env.scope.names.lookup y=some .local)(ha:PA X [a,b] ta)
  (hw:wA [.Tuple [.Name x px,.Name y py] kt pt] (.Tuple [a,b] k2 mL) X.env=pure (some [x,y]))
  (hs:wz [.Tuple [.Name x px,.Name y py] kt pt] (.Tuple [a,b] k2 mL) pos.line X.env=pure false:=by rfl):
  PS X (.Assign [.Tuple [.Name x px,.Name y py] kt pt] (.Tuple [a,b] k2 mL) pos) (akT i j ta):=by
 intro pins s σ H D I h;rw[exec_Assign_arm];refine aC (sV ?_);rw[hs];refine aC (aW ?_);rw[if_neg (by decide)];refine aC (Tuple_ (bh (ha _ pins s σ H _ I h) fun us s1 aJ=>?_))
 obtain⟨vs,H1,I1,r1,q1⟩:=aJ
 obtain⟨v,w,e1,q1⟩:=q1
 subst e1
 obtain⟨u1,u2,rfl,rv,rw'⟩:∃u1 u2,us=[u1,u2]∧RelV v u1∧RelV w u2:=by
  cases r1 with
  |cons p q=>
   cases q with
   |cons p' q'=>
    cases q'
    exact⟨_,_,rfl,p,p'⟩
 refine lU ?_ (by show 2≤bM;decide);have I2:Inv X pins σ H1 {s1 with heap:=s1.heap.push {cls:=.type "tuple",data:=.seq [u1,u2].toArray}}:=I1.kept (t':=s1.toks) fun b o e=>cB _ e
 rw[hw];refine aC (aW ?_);show aM (model X.prog X.w) X.A (do rule "assign.swapped-stores";let items ←unpackItems (.ref s1.heap.objs.size) 2 none;Aj [fun v=>tH X.env y v,fun v=>tH X.env x v] items.reverse;pure Mq) _ _ _;refine aC (wH (aC (unpackItems_tuple (items:=#[u1,u2]) (I.ok.hd hc) (IsTup.new s1.heap _) fun h' hx'=>?_)));have I3:=I2.kept (h':=h') (t':=s1.toks) fun b o e=>hx' b o (dM (cz e)) e
 show aM _ _ (Aj [fun v=>tH X.env y v,fun v=>tH X.env x v] [u2,u1] >>= fun _=>pure Mq) _ _ _;refine aC (assignInOrder_cons (Ez (rA I3 hN hj (.inl hy) rw' (fun s2 I4=>?_) (.inr hy))));refine assignInOrder_cons (Ez (rA I4 hN hi (.inl hx) rv (fun s3 I5=>assignInOrder_nil (aW ?_)) (.inr hx)));rw[Ku _ _ (jC hij)] at I5
 exact⟨_,H1,I5,q1⟩
def akU(i:Nat)(te:TE)(ti:Jl):TS:=fun D σ H=>∃x,σ[i]?=some (some x)∧te σ H fun y H1=>ti x y H1 fun z H2=>D.nx (σ.set i (some z)) H2
theorem aiV{i:Nat}{x:Str}{e:Expr}{te:TE}{op:Operator}{ti:Jl}{pos':Pos}(hN:X.N.Nodup)(hi:X.N[i]?=some x)(hx:Loc X.env.scope x)(he:PE X e te)(ho:PIp X op ti)(hf:X.fn x=true∨X.env.scope.names.lookup x=some .local:=by first|exact .inl rfl|exact .inr rfl|assumption):
  PS X (.AugAssign (.Name x pos') op e pos) (akU i te ti):=by
 intro pins s σ H D I h
 obtain⟨v,e1,h⟩:=h
 obtain⟨m,hn,hl⟩:=I.loc
 have vis:Jh X.env.scope x:=by rcases hx with k|k;exact .inl k;exact .inr (.inl k)
 obtain⟨u,r,l⟩:=hl i x v hi e1 vis
 refine wpAny_AugAssign_Name ?_;have go:aM (model X.prog X.w) X.A (eval e X.env) (fun w s₂=>aM (model X.prog X.w) X.A (inplaceOp op u w) (fun r s₃=>aM (model X.prog X.w) X.A (storeName X.env x r) (fun _=>SP X pins D .next) X.xe s₃) X.xe s₂) X.xe s:=by
  refine bh (he pins s σ H _ I h) fun w s1 aJ=>?_
  obtain⟨y,H1,I1,r1,q1⟩:=aJ
  refine bh (ho pins s1 σ H1 v y u w _ I1 r r1 q1) fun z s2 aJ=>?_
  obtain⟨zv,H2,I2,r2,q2⟩:=aJ
  exact rA I2 hN hi hx r2 (fun s3 I3=>⟨_,H2,I3,q2⟩) hf
 rcases l with⟨hk,hm⟩|⟨hk,c,hc,hcell⟩
 ·exact acz I.ok.kind hk hn hm go
 ·rcases hk with hk|hk
  ·exact acF I.ok.kind hk hc hcell go
  ·rcases hx with k|k
   ·have:X.env.scope.names.lookup x=some .free:=hk;rw[k] at this;cases this
   ·have:X.env.scope.names.lookup x=some .free:=hk;rw[k] at this;cases this
def ipI(f:Int→Int→Int):Jl:=fun x y H Q=>∃i j,x=.int i∧y=.int j∧Q (.int (f i j)) H
theorem aiW:PIp X .Add (ipI fun i j=>i+j):=by
 intro pins s σ H x y v u Q I r1 r2 h
 obtain⟨i,j,e1,e2,q⟩:=h
 subst e1;subst e2
 obtain⟨t,rfl⟩:=r1
 obtain⟨t',rfl⟩:=r2
 exact iadd_int ⟨.int _,H,I.tok _,⟨_,rfl⟩,q⟩
end
section
variable{X:Cx}{pos:Pos}
def Zt(c:TT)(tb:TS):TS:=fun D σ H=>∃W:Nat→St→Hp→Prop,(∃m,W m σ H)∧∀m σ H,W m σ H→
 c σ H fun b H1=>if b=true then ∃N:St→Hp→Prop,(∀σ' H',N σ' H'→∃m',m'<m∧W m' σ' H')∧tb {D with nx:=N,ct:=N,bk:=D.nx} σ H1 else D.nx σ H1
theorem agm{c:Expr}{body:List cP}{tc:TT}{tb:TS}(hp:Mr (model X.prog X.w) X.A X.env X.xe)(hc:PT X c tc)(hb:ir X body tb):PS X (.While c body [] pos) (Zt tc tb):=by
 intro pins s σ H D I h
 obtain⟨W,⟨m0,w0⟩,turn⟩:=h
 refine wpAny_While (codeAny_whileLoop (fun n s'=>∃σ' H',Inv X pins σ' H' s'∧W n σ' H') ?_ m0 ⟨σ,H,I,w0⟩);rintro n s1 ⟨σ1,H1,I1,w1⟩;refine yu hp (bh (hc pins s1 σ1 H1 _ I1 (turn n σ1 H1 w1)) fun b s2 aJ=>?_)
 obtain⟨H2,I2,q2⟩:=aJ
 cases b with
 |true=>
  obtain⟨N,hN,q2⟩:=q2
  rw[if_pos rfl];refine yu hp (bh (hb pins s2 σ1 H2 _ I2 q2) fun f s3 q3=>?_);cases f with
  |next=>
   obtain⟨σ3,H3,I3,n3⟩:=q3
   obtain⟨m',hm,w3⟩:=hN σ3 H3 n3
   exact⟨m',hm,σ3,H3,I3,w3⟩
  |cont=>
   obtain⟨σ3,H3,I3,n3⟩:=q3
   obtain⟨m',hm,w3⟩:=hN σ3 H3 n3
   exact⟨m',hm,σ3,H3,I3,w3⟩
  |brk=>exact q3
  |ret v=>exact q3
 |false=>
  rw[if_neg iz];exact J7 ⟨σ1,H2,I2,q2⟩
end
structure It where
 go:Nat→Hp→Prop
 vH:Nat→Hp→V→Hp→Prop
 stop:Nat→Hp→Prop
def jD(X:Cx)(pins:List (aa×Obj))(H:Hp)(b:aa):Prop:=
 H b=none∧b≠X.env.locals∧b∉X.fs∧(b∈X.ex∨X.s₀.heap.objs.size≤b)∧(∀x c,X.env.cells.lookup x=some c→c≠b)∧∀p∈X.pn++pins,p.1≠b
theorem Inv.vp{X:Cx}{pins:List (aa×Obj)}{σ:St}{H H':Hp}{s:au}{b:aa}(I:Inv X pins σ H s)(hb:s.heap.objs.size≤b)(hn:H' b=none):jD X pins H' b:=by
 refine⟨hn,yH (mU I.lt hb),I.akM hb,.inr (jL I.sz hb),fun x c e z=>?_,fun p hp z=>?_⟩
 ·obtain⟨v,q⟩:=I.cell x c e
  exact absurd (mU q.lt (by rw[z];exact hb)) (wu _)
 ·exact absurd (mU (cz (I.pin p hp).1) (by rw[z];exact hb)) (wu _)
structure Turn(P:bf)(w:aY)(K:aH)(tg:Expr)(J:It)(fp:List aa)(it:aa)(tn:Nat→aV→Prop):Prop where
 mem:it∈fp
 obj:∀i h,tn i h→∀b∈fp,∃o,h.get? b=some o∧∀v,o.data≠.cell v
 keep:∀i h h',tn i h→(∀b∈fp,∀o,h.get? b=some o→h'.get? b=some o)→tn i h'
 item:∀(X:Cx),X.prog=P→X.w=w→X.K=K→X.calm=true→∀(i:Nat)(pins:List (aa×Obj))(s:au)(σ:St)(H:Hp)(E:Value→au→Prop),Inv X pins σ H s→(∀b∈fp,jD X pins H b)→tn i s.heap→J.go i H→
  aM (model P w) X.A (nH (.ref it)) (fun r s1=>∃u,r=some u∧
   aM (model P w) X.A (vY tg (.ref it) u) (fun _ s2=>∃x H',Inv X pins σ H' s2∧RelV x u∧J.vH i H x H'∧tn (i+1) s2.heap∧∀b∈fp,H' b=none) E s1) E s
 done:∀(X:Cx),X.prog=P→X.w=w→X.K=K→X.calm=true→∀(i:Nat)(pins:List (aa×Obj))(s:au)(σ:St)(H:Hp)(E:Value→au→Prop),Inv X pins σ H s→(∀b∈fp,jD X pins H b)→tn i s.heap→J.stop i H→
  aM (model P w) X.A (nH (.ref it)) (fun r s1=>r=none∧Inv X pins σ H s1) E s
 self:∀(A:bU)(i:Nat)(s:au)(Q:Value→au→Prop)(E:Value→au→Prop),tn i s.heap→Q (.ref it) s→aM (model P w) A (BJ (.ref it)) Q E s
abbrev TI:=St→Hp→(It→Hp→Prop)→Prop
def PIE(X:Cx)(pins:List (aa×Obj))(σ:St)(tg:Expr)(R:It→Hp→Prop)(itv:Value)(s2:au):Prop:=
 ∃(it:aa)(fp:List aa)(tn:Nat→aV→Prop)(J:It)(H':Hp),itv=.ref it∧Inv X pins σ H' s2∧Turn X.prog X.w X.K tg J fp it tn∧tn 0 s2.heap∧(∀b∈fp,jD X pins H' b)∧R J H'
def PI(X:Cx)(tg iter:Expr)(wi:TI):Prop:=
 ∀(pins:List (aa×Obj))(s:au)(σ:St)(H:Hp)(R:It→Hp→Prop),Inv X pins σ H s→wi σ H R→
  aM (model X.prog X.w) X.A (eval iter X.env) (fun v s1=>aM (model X.prog X.w) X.A (BJ v) (PIE X pins σ tg R) X.xe s1) X.xe s
theorem QJ{M:Model}{A:bU}{E:Value→au→Prop}{s:au}{tg:Expr}{it:aa}{u:Value}{o:Obj}{n:String}{vs:Array Value}{Q:Unit→au→Prop}(ho:s.heap.get? it=some o)(hc:o.cls=.type n)(hd:o.data=.fields vs)
  (hn:["enumerate","zip","dict_itemiterator","dict_reverseitemiterator","odict_iterator","itertools.zip_longest","itertools.pairwise"].contains n=false)(hQ:Q () s):aM M A (vY tg (.ref it) u) Q E s:=by
 unfold vY;cases tg<;>first
  |exact aW hQ
  |(cases u<;>first
    |exact aW hQ
    |(refine aC (Gm ho ?_)
      rw[hc,hd];show aM M A (if(["enumerate","zip","dict_itemiterator","dict_reverseitemiterator","odict_iterator","itertools.zip_longest","itertools.pairwise"].contains n&&vs[0]?==some (iW _))=true then _ else _) Q E s;rw[if_neg (by intro h;rw[hn,U0] at h;cases h)];exact aW hQ))
def Rw(K:aH)(a:aa):It:=
 ⟨fun i H=>∃xs x,bO K H a xs∧xs[i]?=some x,fun i H x H'=>H'=H∧∀xs,bO K H a xs→xs[i]?=some x,fun i H=>∃xs,bO K H a xs∧xs.length≤i⟩
def Rx(K:aH)(a:aa):It:=
 ⟨fun i H=>∃xs x,cI K H a xs∧xs[i]?=some x,fun i H x H'=>H'=H∧∀xs,cI K H a xs→xs[i]?=some x,fun i H=>∃xs,cI K H a xs∧xs.length≤i⟩
def Dr(lo:Int)(n:Nat):It:=⟨fun i _=>i<n,fun i H x H'=>H'=H∧x=.int (lo+i),fun i _=>n≤i⟩
theorem afn{P:bf}{w:aY}{K:aH}{tg:Expr}(a it:aa):Turn P w K tg (Rw K a) [it] it (fun i h=>h.IsListIter it a i) where
 mem:=by simp
 obj:=fun i h st b hb=>by
  have e:b=it:=by simpa using hb
  subst e
  obtain⟨o,e,c,d⟩:=st
  exact⟨o,e,fun v z=>by rw[d] at z;cases z⟩
 keep:=fun i h h' st k=>st.at fun o e=>k it (by simp) o e
 item:=by
  intro X hP hw hK hc i pins s σ H E I hf st hg;subst hP hw hK
  obtain⟨xs,x,hq,hx⟩:=hg
  obtain⟨its,rv,p,hz⟩:=I.list hq
  obtain⟨u,hu,ru⟩:=rv.get hx
  obtain⟨f0,f1,f2,f3,f4,f5⟩:=hf it (by simp)
  refine wpAny_pyNext_list_item st p.isList (x:=u) (by simpa using hu) fun h' st' sb=>?_
  have I1:Inv X pins σ H {s with heap:=h'}:=I.turned (t':=s.toks) (fun b o hb e=>(sb.2 b hb).trans e) f0 f1 f3 f4 f5
  obtain⟨o,e,c,d⟩:=id st'
  exact⟨u,rfl,QJ (s:={s with heap:=h'}) e c d (by decide) ⟨x,H,I1,ru,⟨rfl,fun ys hy=>by rw[I.Xd hy hq];exact hx⟩,st',fun b hb=>(hf b hb).1⟩⟩
 done:=by
  intro X hP hw hK hc i pins s σ H E I hf st hg;subst hP hw hK
  obtain⟨xs,hq,hx⟩:=hg
  obtain⟨its,rv,p,hz⟩:=I.list hq
  obtain⟨f0,f1,f2,f3,f4,f5⟩:=hf it (by simp)
  have hl:=rv.length;exact wpAny_pyNext_list_end (I.ok.hd hc) st p.isList (by simp;omega) fun h' eb=>⟨rfl,I.turned (t':=s.toks) (fun b o hb e=>eb b o hb e) f0 f1 f3 f4 f5⟩
 self:=fun _ _ _ _ _ st h=>wpAny_pyIter_listiter st h
theorem aeG{P:bf}{w:aY}{K:aH}{tg:Expr}(a it:aa):Turn P w K tg (Rx K a) [it] it (fun i h=>h.IsTupleIter it a i) where
 mem:=by simp
 obj:=fun i h st b hb=>by
  have e:b=it:=by simpa using hb
  subst e
  obtain⟨o,e,c,d⟩:=st
  exact⟨o,e,fun v z=>by rw[d] at z;cases z⟩
 keep:=fun i h h' st k=>st.at fun o e=>k it (by simp) o e
 item:=by
  intro X hP hw hK hc i pins s σ H E I hf st hg;subst hP hw hK
  obtain⟨xs,x,hq,hx⟩:=hg
  obtain⟨its,rv,p,hz⟩:=I.tuple hq
  obtain⟨u,hu,ru⟩:=rv.get hx
  obtain⟨f0,f1,f2,f3,f4,f5⟩:=hf it (by simp)
  refine wpAny_pyNext_tuple_item st (show s.heap.IsTuple a its.toArray from p) (x:=u) (by simpa using hu) fun h' st' sb=>?_
  have I1:Inv X pins σ H {s with heap:=h'}:=I.turned (t':=s.toks) (fun b o hb e=>(sb.2 b hb).trans e) f0 f1 f3 f4 f5
  obtain⟨o,e,c,d⟩:=id st'
  exact⟨u,rfl,QJ (s:={s with heap:=h'}) e c d (by decide) ⟨x,H,I1,ru,⟨rfl,fun ys hy=>by rw[I.afm hy hq];exact hx⟩,st',fun b hb=>(hf b hb).1⟩⟩
 done:=by
  intro X hP hw hK hc i pins s σ H E I hf st hg;subst hP hw hK
  obtain⟨xs,hq,hx⟩:=hg
  obtain⟨its,rv,p,hz⟩:=I.tuple hq
  obtain⟨f0,f1,f2,f3,f4,f5⟩:=hf it (by simp)
  have hl:=rv.length;exact wpAny_pyNext_tuple_end (I.ok.hd hc) st (show s.heap.IsTuple a its.toArray from p) (by simp;omega) fun h' eb=>⟨rfl,I.turned (t':=s.toks) (fun b o hb e=>eb b o hb e) f0 f1 f3 f4 f5⟩
 self:=fun _ _ _ _ _ st h=>wpAny_pyIter_tupleiter st h
theorem aeH{P:bf}{w:aY}{K:aH}{tg:Expr}(it:aa)(lo:Int)(n:Nat):Turn P w K tg (Dr lo n) [it] it (fun i h=>IsRangeIter h it (lo+(i:Nat)*1) ((n:Int)-(i:Nat)) 1) where
 mem:=by simp
 obj:=fun i h st b hb=>by
  have e:b=it:=by simpa using hb
  subst e
  exact⟨_,st,fun v z=>by
   have z':Data.fields _=Data.cell v:=z;cases z'⟩
 keep:=fun i h h' st k=>k it (by simp) _ st
 item:=by
  intro X hP hw hK hc i pins s σ H E I hf st hg;subst hP hw hK
  obtain⟨f0,f1,f2,f3,f4,f5⟩:=hf it (by simp)
  have W:=Walks.range (prog:=X.prog) (w:=X.w) (I.ok.hd hc) it lo 1 n;refine W.item i s _ _ hg st fun v h' tk hv st' kk=>?_
  obtain⟨t,rfl⟩:=hv
  have I1:Inv X pins σ H {s with heap:=h',toks:=tk}:=I.turned (fun b o hb e=>kk b o (by simpa using hb) e) f0 f1 f3 f4 f5
  refine⟨_,rfl,QJ (s:={s with heap:=h',toks:=tk}) (n:="range_iterator") st' rfl rfl (by decide) ⟨.int (lo+i),H,I1,⟨t,?_⟩,⟨rfl,rfl⟩,st',fun b hb=>(hf b hb).1⟩⟩
  rw[VR]
 done:=by
  intro X hP hw hK hc i pins s σ H E I hf st hg;subst hP hw hK
  obtain⟨f0,f1,f2,f3,f4,f5⟩:=hf it (by simp)
  exact wpAny_pyNext_range_end (I.ok.hd hc) st (by have:n≤i:=hg;omega) fun h' eb=>⟨rfl,I.turned (t':=s.toks) (fun b o hb e=>eb b o hb e) f0 f1 f3 f4 f5⟩
 self:=fun _ _ _ _ _ st h=>wpAny_pyIter_rangeiter st h
section
variable{X:Cx}{tg:Expr}
def akb(K:aH)(tl:TE):TI:=fun σ H R=>tl σ H fun x H1=>∃a,x=.ref a∧(∃xs,bO K H1 a xs)∧R (Rw K a) H1
def akV(K:aH)(tl:TE):TI:=fun σ H R=>tl σ H fun x H1=>∃a,x=.ref a∧(∃xs,cI K H1 a xs)∧R (Rx K a) H1
theorem Ov{l:Expr}{tl:TE}(hl:PE X l tl):PI X tg l (akb X.K tl):=by
 intro pins s σ H R I h;refine bh (hl pins s σ H _ I h) fun v s1 aJ=>?_
 obtain⟨x,H1,I1,r1,q1⟩:=aJ
 obtain⟨a,e,⟨xs,hq⟩,q⟩:=q1
 subst e;cases r1
 obtain⟨its,rv,p,hz⟩:=I1.list hq
 refine acT p.isList ?_
 refine⟨s1.heap.objs.size,[s1.heap.objs.size],_,_,H1,rfl,I1.kept (t':=s1.toks) fun b o e=>cB _ e,afn a _,⟨_,gP _ rfl,rfl,rfl⟩,fun b hb=>?_,q⟩
 have e:b=s1.heap.objs.size:=by simpa using hb
 subst e;exact I1.vp (bK _) (I1.hok.fresh (bK _))
theorem Qd{l:Expr}{tl:TE}(hl:PE X l tl):PI X tg l (akV X.K tl):=by
 intro pins s σ H R I h;refine bh (hl pins s σ H _ I h) fun v s1 aJ=>?_
 obtain⟨x,H1,I1,r1,q1⟩:=aJ
 obtain⟨a,e,⟨xs,hq⟩,q⟩:=q1
 subst e;cases r1
 obtain⟨its,rv,p,hz⟩:=I1.tuple hq
 refine wpAny_pyIter_tuple (show s1.heap.IsTuple a its.toArray from p) ?_
 refine⟨s1.heap.objs.size,[s1.heap.objs.size],_,_,H1,rfl,I1.kept (t':=s1.toks) fun b o e=>cB _ e,aeG a _,⟨_,gP _ rfl,rfl,rfl⟩,fun b hb=>?_,q⟩
 have e:b=s1.heap.objs.size:=by simpa using hb
 subst e;exact I1.vp (bK _) (I1.hok.fresh (bK _))
theorem Xe{pins:List (aa×Obj)}{σ:St}{H:Hp}{s:au}{R:It→Hp→Prop}{E:Value→au→Prop}{lo hi:Int}{t u v:Tok}{tk:Nat}(I:Inv X pins σ H s)(h1:-(2^62)≤lo)(h2:lo<2^62)(h3:-(2^62)≤hi)(h4:hi<2^62)
  (q:R (Dr lo (hi-lo).toNat) H):aM (model X.prog X.w) X.A (BJ (.ref s.heap.objs.size)) (PIE X pins σ tg R) E {s with heap:=s.heap.push {cls:=.type "range",data:=.fields #[.int lo t,.int hi u,.int 1 v]},toks:=tk}:=by
 refine wpAny_pyIter_range (IsRange.new ..) (small_one h1 h2 h3 h4) ?_;have I1:Inv X pins σ H {s with heap:=s.heap.push {cls:=.type "range",data:=.fields #[.int lo t,.int hi u,.int 1 v]},toks:=tk}:=I.kept fun b o e=>cB _ e
 refine⟨(s.heap.push {cls:=.type "range",data:=.fields #[.int lo t,.int hi u,.int 1 v]}).objs.size,[(s.heap.push {cls:=.type "range",data:=.fields #[.int lo t,.int hi u,.int 1 v]}).objs.size],_,_,H,rfl,
  I1.kept (t':=tk) fun b o e=>cB _ e,aeH _ lo (hi-lo).toNat,?_,fun b hb=>?_,q⟩
 ·have e1:lo+((0:Nat):Int)*1=lo:=by simp
  have e2:(((hi-lo).toNat:Nat):Int)-((0:Nat):Int)=amY lo hi 1:=by rw[rangeSize_one];split<;>omega
  show IsRangeIter _ _ (lo+((0:Nat):Int)*1) ((((hi-lo).toNat:Nat):Int)-((0:Nat):Int)) 1;rw[e1,e2];exact gP _ rfl
 ·have e:b=(s.heap.push {cls:=.type "range",data:=.fields #[.int lo t,.int hi u,.int 1 v]}).objs.size:=by simpa using hb
  subst e;exact I1.vp (bK _) (I1.hok.fresh (bK _))
def akc(ta:TA):TI:=fun σ H R=>ta σ H fun vs H1=>∃j:Int,vs=[.int j]∧-(2^62)≤j∧j<2^62∧R (Dr 0 j.toNat) H1
def akd(ta:TA):TI:=fun σ H R=>ta σ H fun vs H1=>∃i j:Int,vs=[.int i,.int j]∧(-(2^62)≤i∧i<2^62∧-(2^62)≤j∧j<2^62)∧R (Dr i (j-i).toNat) H1
theorem afo{a:Expr}{ta:TA}{p pos:Pos}(hg:Gl X "range")(hm:X.mg "range"=none)(ha:PA X [a] ta)(hs:aZ [a] X.env=[(false,eval a X.env)]:=by rfl):PI X tg (.Call (.Name "range" p) [a] [] pos) (akc ta):=by
 intro pins s σ H R I h;refine Call_ (tR I hg hm boot_range (JG (bh (ha pos pins s σ H _ I h) fun us s1 aJ=>?_) hs rfl))
 obtain⟨vs,H1,I1,r1,q1⟩:=aJ
 obtain⟨j,e,q1,q2,q⟩:=q1
 subst e;cases r1 with
 |cons r rr=>
  cases rr
  obtain⟨t,rfl⟩:=r
  exact call_range_1 (Xe I1 (by omega) (by omega) q1 q2 (by simpa using q))
theorem afp{a b:Expr}{ta:TA}{p pos:Pos}(hg:Gl X "range")(hm:X.mg "range"=none)(ha:PA X [a,b] ta)(hs:aZ [a,b] X.env=[(false,eval a X.env),(false,eval b X.env)]:=by rfl)(hs2:aZ [b] X.env=[(false,eval b X.env)]:=by rfl):
  PI X tg (.Call (.Name "range" p) [a,b] [] pos) (akd ta):=by
 intro pins s σ H R I h;refine Call_ (tR I hg hm boot_range (JG (bh (ha pos pins s σ H _ I h) fun us s1 aJ=>?_) (by rw[hs,hs2]) (by rw[hs2];rfl)))
 obtain⟨vs,H1,I1,r1,q1⟩:=aJ
 obtain⟨i,j,e,⟨q1,q2,q3,q4⟩,q⟩:=q1
 subst e;cases r1 with
 |cons r rr=>
  cases rr with
  |cons r' rr=>
   cases rr
   obtain⟨t,rfl⟩:=r
   obtain⟨t',rfl⟩:=r'
   exact call_range_2 (Xe I1 q1 q2 q3 q4 q)
def aaH(wi:TI)(g:TG)(tb:TS):TS:=fun D σ H=>wi σ H fun J H1=>∃W:Nat→Nat→St→Hp→Prop,(∃m,W 0 m σ H1)∧∀i m σ H,W i m σ H→
 (J.stop i H∧D.nx σ H)∨(J.go i H∧∃N:St→Hp→Prop,(∀σ' H',N σ' H'→∃m',m'<m∧W (i+1) m' σ' H')∧∀x H',J.vH i H x H'→g x σ H' fun σ2 H2=>tb {D with nx:=N,ct:=N,bk:=D.nx} σ2 H2)
def BK(fp:List aa)(h:aV):List (aa×Obj):=fp.filterMap fun b=>(h.get? b).map fun o=>(b,o)
theorem Gn{fp:List aa}{h:aV}{b:aa}{o:Obj}(hb:b∈fp)(e:h.get? b=some o):(b,o)∈BK fp h:=JW.mpr ⟨b,hb,by rw[e];rfl⟩
theorem afq{fp:List aa}{h:aV}{p:aa×Obj}(hp:p∈BK fp h):p.1∈fp∧h.get? p.1=some p.2:=by
 obtain⟨b,hb,e⟩:=JW.mp hp
 cases q:h.get? b with
 |none=>rw[q] at e;cases e
 |some o=>
  rw[q] at e;have e':(b,o)=p:=fW e;subst e'
  exact⟨hb,q⟩
theorem Inv.pinned{pins:List (aa×Obj)}{σ:St}{H:Hp}{s:au}{fp:List aa}(I:Inv X pins σ H s)(hf:∀b∈fp,jD X pins H b)(ho:∀b∈fp,∃o,s.heap.get? b=some o∧∀v,o.data≠.cell v):Inv X (pins++BK fp s.heap) σ H s:=
 I.Yn fun p hp=>(cL.mp hp).elim (fun z=>I.pin p (dF _ z)) fun z=>by
  obtain⟨hb,e⟩:=afq z
  obtain⟨f0,f1,f2,_⟩:=hf p.1 hb
  obtain⟨o,e',d⟩:=ho p.1 hb
  rw[e] at e';cases e'
  exact⟨e,f0,f1,f2,d⟩
theorem Inv.GJ{pins pl:List (aa×Obj)}{σ:St}{H:Hp}{s:au}(I:Inv X (pins++pl) σ H s):Inv X pins σ H s:=I.Yn fun p hp=>I.pin p (dF _ (gf _ hp))
theorem aiX{iter:Expr}{body:List cP}{wi:TI}{g:TG}{tb:TS}{pos:Pos}(hp:Mr (model X.prog X.w) X.A X.env X.xe)(hc:X.calm=true)(hi:PI X tg iter wi)(hg:PG X tg g)(hb:ir X body tb)
  (hs:∀x,sO iter X.env x=pure x:=by intro _;rfl):PS X (.For tg iter body [] pos) (aaH wi g tb):=by
 intro pins s σ H D I h;refine wpAny_For (bh (hi pins s σ H _ I h) fun v s1 h1=>bh h1 fun itv s2 h2=>?_) hs
 obtain⟨it,fp,tn,J,H2,e,I2,T,st2,f2,W,⟨m0,w0⟩,turn⟩:=h2
 subst e;have stat:∀{H':Hp},(∀b∈fp,H' b=none)→∀b∈fp,jD X pins H' b:=fun hn b hb=>⟨hn b hb,(f2 b hb).2⟩
 refine codeAny_forLoop_any (fun n s'=>∃i σ' H',Inv X pins σ' H' s'∧tn i s'.heap∧(∀b∈fp,H' b=none)∧W i n σ' H') ?_ m0 ⟨0,σ,H2,I2,st2,fun b hb=>(f2 b hb).1,w0⟩;rintro n s3 ⟨i,σ3,H3,I3,st3,Ds,w3⟩;rcases turn i n σ3 H3 w3 with⟨stop,qn⟩|⟨go,N,hN,step⟩
 ·refine yu hp (bh (T.done X rfl rfl rfl hc i pins s3 σ3 H3 X.xe I3 (stat Ds) st3 stop) fun r s4 aJ=>?_)
  obtain⟨hr,I4⟩:=aJ
  subst hr;exact J7 ⟨σ3,H3,I4,qn⟩
 ·refine yu hp (bh (T.item X rfl rfl rfl hc i pins s3 σ3 H3 X.xe I3 (stat Ds) st3 go) fun r s4 aJ=>?_)
  obtain⟨u,hr,h4⟩:=aJ
  subst hr;refine yu hp (bh h4 fun _ s5 aJ=>?_)
  obtain⟨x,H5,I5,r5,y5,xR,Ry⟩:=aJ
  have Rz:=I5.pinned (stat Ry) (T.obj _ _ xR);refine yu hp (bh (hg _ s5 σ3 H5 x u _ Rz r5 (step x H5 y5)) fun _ s6 aJ=>?_)
  obtain⟨σ6,H6,I6,q6⟩:=aJ
  refine yu hp (bh (hb _ s6 σ6 H6 _ I6 q6) fun f s7 q7=>?_);have again:∀{σ7:St}{H7:Hp},Inv X (pins++BK fp s5.heap) σ7 H7 s7→N σ7 H7→∃m,m<n∧∃i σ' H',Inv X pins σ' H' s7∧tn i s7.heap∧(∀b∈fp,H' b=none)∧W i m σ' H':=fun{σ7 H7} I7 n7=>by
   obtain⟨m',hm,w7⟩:=hN σ7 H7 n7
   refine⟨m',hm,i+1,σ7,H7,I7.GJ,T.keep _ _ _ xR fun b hb o e=>(I7.pin (b,o) (dF _ (dF _ (Gn hb e)))).1,fun b hb=>?_,w7⟩
   obtain⟨o,e,d⟩:=T.obj _ _ xR b hb
   exact(I7.pin (b,o) (dF _ (dF _ (Gn hb e)))).2.1
  cases f with
  |next=>obtain⟨σ7,H7,I7,n7⟩:=q7;exact again I7 n7
  |cont=>obtain⟨σ7,H7,I7,n7⟩:=q7;exact again I7 n7
  |brk=>obtain⟨σ7,H7,I7,q7⟩:=q7;exact⟨σ7,H7,I7.GJ,q7⟩
  |ret v=>obtain⟨x7,σ7,H7,I7,r7,q7⟩:=q7;exact⟨x7,σ7,H7,I7.GJ,r7,q7⟩
end
abbrev R2:=V→V→Hp→VK→Prop
def cA(X:Cx)(f:Value→Value→Sem Value)(r:R2):Prop:=
 ∀(pins:List (aa×Obj))(s:au)(σ:St)(H:Hp)(x y:V)(v u:Value)(Q:VK),Inv X pins σ H s→RelV x v→RelV y u→r x y H Q→
  aM (model X.prog X.w) X.A (f v u) (EP X pins σ Q) X.xe s
def jb(X:Cx)(f:Value)(r:List V→Hp→VK→Prop):Prop:=
 ∀(pins:List (aa×Obj))(s:au)(σ:St)(H:Hp)(xs:List V)(us:List Value)(Q:VK),Inv X pins σ H s→Vals xs us→r xs H Q→
  aM (model X.prog X.w) X.A (call f us) (EP X pins σ Q) X.xe s
def akW(X:Cx)(r:V→Hp→(Bool→Hp→Prop)→Prop):Prop:=
 ∀(pins:List (aa×Obj))(s:au)(σ:St)(H:Hp)(x:V)(v:Value)(Q:Bool→Hp→Prop),Inv X pins σ H s→RelV x v→r x H Q→
  aM (model X.prog X.w) X.A (truthy v) (TP X pins σ Q) X.xe s
def Dt(r:R2)(ta tb:TE):TE:=fun σ H Q=>ta σ H fun x H1=>tb σ H1 fun y H2=>r x y H2 Q
def rI(C:Int→Int→Prop)(g:Int→Int→V):R2:=fun x y H Q=>∃i j,x=.int i∧y=.int j∧C i j∧Q (g i j) H
def oh(g:Int→Int→V):R2:=fun x y H Q=>∃i j,x=.int i∧y=.int j∧Q (g i j) H
section
variable{X:Cx}{a b c:Expr}{ta tb tc:TE}{pos:Pos}
theorem Rb(ha:PE X a ta)(hb:PE X b tb){pins:List (aa×Obj)}{s:au}{σ:St}{H:Hp}{R:V→V→Hp→Prop}(I:Inv X pins σ H s)
  (h:ta σ H fun x H1=>tb σ H1 fun y H2=>R x y H2){Q:Value→au→Prop}{f:Value→Value→Sem Value}
  (hf:∀v u s2 x y H2,Inv X pins σ H2 s2→RelV x v→RelV y u→R x y H2→aM (model X.prog X.w) X.A (f v u) Q X.xe s2):
  aM (model X.prog X.w) X.A (eval a X.env) (fun v s₁=>aM (model X.prog X.w) X.A (eval b X.env) (fun u s₂=>aM (model X.prog X.w) X.A (f v u) Q X.xe s₂) X.xe s₁) X.xe s:=by
 refine bh (ha pins s σ H _ I h) fun v s1 aJ=>?_
 obtain⟨x,H1,I1,r1,q1⟩:=aJ
 refine bh (hb pins s1 σ H1 _ I1 q1) fun u s2 aJ=>?_
 obtain⟨y,H2,I2,r2,q2⟩:=aJ
 exact hf v u s2 x y H2 I2 r1 r2 q2
theorem ake{op:Operator}{r:R2}(ho:cA X (nG op) r)(ha:PE X a ta)(hb:PE X b tb):PE X (.BinOp a op b pos) (Dt r ta tb):=by
 intro pins s σ H Q I h;exact wpAny_BinOp (Rb ha hb I h fun v u s2 x y H2 I2 rx ry q=>ho pins s2 σ H2 x y v u Q I2 rx ry q)
theorem Jm{f:Value→Value→Sem Value}{C:Int→Int→Prop}{g:Int→Int→Int}
  (rule:∀(i j:Int)(t u:Tok)(s:au)(Q:Value→au→Prop)(E:Value→au→Prop),C i j→Q (.int (g i j) s.toks) {s with toks:=s.toks+1}→aM (model X.prog X.w) X.A (f (.int i t) (.int j u)) Q E s):
  cA X f (rI C fun i j=>.int (g i j)):=by
 intro pins s σ H x y v u Q I rx ry h
 obtain⟨i,j,rfl,rfl,hc,q⟩:=h
 obtain⟨t,rfl⟩:=rx
 obtain⟨t',rfl⟩:=ry
 exact rule i j t t' s _ _ hc ⟨.int (g i j),H,I.tok _,⟨_,rfl⟩,q⟩
theorem aaI{f:Value→Value→Sem Value}{g:Int→Int→Int}
  (rule:∀(i j:Int)(t u:Tok)(s:au)(Q:Value→au→Prop)(E:Value→au→Prop),Q (.int (g i j) s.toks) {s with toks:=s.toks+1}→aM (model X.prog X.w) X.A (f (.int i t) (.int j u)) Q E s):
  cA X f (oh fun i j=>.int (g i j)):=by
 intro pins s σ H x y v u Q I rx ry h
 obtain⟨i,j,rfl,rfl,q⟩:=h
 obtain⟨t,rfl⟩:=rx
 obtain⟨t',rfl⟩:=ry
 exact rule i j t t' s _ _ ⟨.int (g i j),H,I.tok _,⟨_,rfl⟩,q⟩
theorem Rc{f:Value→Value→Sem Value}{g:Int→Int→Bool}
  (rule:∀(i j:Int)(t u:Tok)(s:au)(Q:Value→au→Prop)(E:Value→au→Prop),Q (.bool (g i j)) s→aM (model X.prog X.w) X.A (f (.int i t) (.int j u)) Q E s):
  cA X f (oh fun i j=>.bl (g i j)):=by
 intro pins s σ H x y v u Q I rx ry h
 obtain⟨i,j,rfl,rfl,q⟩:=h
 obtain⟨t,rfl⟩:=rx
 obtain⟨t',rfl⟩:=ry
 exact rule i j t t' s _ _ ⟨.bl (g i j),H,I,rfl,q⟩
def aaJ(i j:Int):Prop:=0<j∧j<1073741824
def aaK(i j:Int):Prop:=0≤j∧j≤1000000∧i.natAbs<2^64
def IV(i j:Int):Prop:=(-(2^64)<i∧i<2^64)∨(-(2^64)<j∧j<2^64)
theorem IV.ok{i j:Int}(h:IV i j):IntMulOk i j:=by
 rcases h with⟨h1,h2⟩|⟨h1,h2⟩
 ·exact .of_left (intBits_le_64 h1 h2)
 ·exact .of_right (intBits_le_64 h1 h2)
theorem aiY:cA X (nG .Add) (oh fun i j=>.int (i+j)):=aaI fun _ _ _ _ _ _ _ q=>add_int q
theorem BL:cA X (nG .Sub) (oh fun i j=>.int (i-j)):=aaI fun _ _ _ _ _ _ _ q=>sub_int q
theorem oW:cA X (nG .Mult) (rI IV fun i j=>.int (i*j)):=Jm fun _ _ _ _ _ _ _ hc q=>mul_int q hc.ok
theorem Ow:cA X (nG .FloorDiv) (rI aaJ fun i j=>.int (i / j)):=Jm fun i j _ _ _ _ _ hc q=>by
 have h1:(0:Int)<j:=hc.1;have h2:j<1073741824:=hc.2;exact floordiv_int (by omega) (by rw[Int.fdiv_eq_ediv_of_nonneg i (by omega)];exact q) (.inl (PyProof.noPylong_small (by omega)))
theorem pX:cA X (nG .Mod) (rI (fun _ j=>0<j) fun i j=>.int (i%j)):=Jm fun i j _ _ _ _ _ hc q=>by
 have h1:(0:Int)<j:=hc;exact mod_int' (by omega) (by rw[Int.fmod_eq_emod_of_nonneg i (by omega)];exact q)
theorem BP:cA X (nG .Pow) (rI aaK fun i j=>.int (i^j.toNat)):=Jm fun _ _ _ _ _ _ _ hc q=>pow_int_small hc.1 hc.2.1 hc.2.2 q
end
def Rf:V→V→Bool
 |.non,.non=>true|.non,.int _=>true|.int _,.non=>true|.non,.bl _=>true|.bl _,.non=>true|.non,.str _=>true|.str _,.non=>true
 |.int _,.int _=>true|.bl _,.bl _=>true|.str _,.str _=>true|.n6 _,.n6 _=>true
 |.int _,.str _=>true|.str _,.int _=>true|.bl _,.str _=>true|.str _,.bl _=>true
 |_,_=>false
def rEq:R2:=fun x y H Q=>Rf x y=true∧Q (.bl (decide (x=y))) H
def rNe:R2:=fun x y H Q=>Rf x y=true∧Q (.bl (!decide (x=y))) H
theorem Ox{i j:Int}:decide (V.int i=V.int j)=(i==j):=by
 rw[pN];simp
theorem Qe{i j:Bool}:decide (V.bl i=V.bl j)=(i==j):=by
 rw[pN];simp
theorem Oz{i j:Str}:decide (V.str i=V.str j)=(i==j):=by
 rw[pN];simp
theorem Yr{i j:Array UInt8}:decide (V.n6 i=V.n6 j)=(i.toList==j.toList):=by
 rw[pN];cases i;cases j;simp
section
variable{X:Cx}{a b c:Expr}{ta tb tc:TE}{pos:Pos}
theorem fB{pins:List (aa×Obj)}{σ:St}{H:Hp}{s:au}{Q:VK}{k k':Bool}(I:Inv X pins σ H s)(q:Q (.bl k) H)(e:k=k'):EP X pins σ Q (.bool k') s:=by
 subst e
 exact⟨.bl k,H,I,rfl,q⟩
theorem akf:cA X (dH .Eq) rEq:=by
 intro pins s σ H x y v u Q I rx ry h
 obtain⟨hs,q⟩:=h
 cases x with
 |non=>
  cases rx;cases y with
  |non=>cases ry;exact amx (fB I q (by simp))
  |bl j=>cases ry;exact amy (fB I q (by simp))
  |int j=>obtain⟨t',rfl⟩:=ry;exact amI (fB I q (by simp))
  |str j=>obtain⟨t',rfl⟩:=ry;exact amJ (fB I q (by simp))
  |_=>exact absurd (show false=true from hs) iz
 |bl i=>
  cases rx;cases y with
  |non=>cases ry;exact amz (fB I q (by simp))
  |bl j=>cases ry;exact eq_bool (fB I q Qe)
  |str j=>obtain⟨t',rfl⟩:=ry;exact amA (fB I q (by simp))
  |_=>exact absurd (show false=true from hs) iz
 |int i=>
  obtain⟨t,rfl⟩:=rx
  cases y with
  |non=>cases ry;exact amK (fB I q (by simp))
  |int j=>obtain⟨t',rfl⟩:=ry;exact eq_int (fB I q Ox)
  |str j=>obtain⟨t',rfl⟩:=ry;exact amL (fB I q (by simp))
  |_=>exact absurd (show false=true from hs) iz
 |str i=>
  obtain⟨t,rfl⟩:=rx
  cases y with
  |non=>cases ry;exact amM (fB I q (by simp))
  |bl j=>cases ry;exact amB (fB I q (by simp))
  |int j=>obtain⟨t',rfl⟩:=ry;exact amN (fB I q (by simp))
  |str j=>obtain⟨t',rfl⟩:=ry;exact eq_str (fB I q Oz)
  |_=>exact absurd (show false=true from hs) iz
 |n6 i=>
  obtain⟨t,rfl⟩:=rx
  cases y with
  |n6 j=>obtain⟨t',rfl⟩:=ry;exact PySem.W.eq_bytes (fB I q Yr)
  |_=>exact absurd (show false=true from hs) iz
 |_=>cases y<;>exact absurd (show false=true from hs) iz
theorem akg:cA X (dH .NotEq) rNe:=by
 intro pins s σ H x y v u Q I rx ry h
 obtain⟨hs,q⟩:=h
 cases x with
 |non=>
  cases rx;cases y with
  |non=>cases ry;exact amC (fB I q (by simp))
  |bl j=>cases ry;exact amD (fB I q (by simp))
  |int j=>obtain⟨t',rfl⟩:=ry;exact amO (fB I q (by simp))
  |str j=>obtain⟨t',rfl⟩:=ry;exact amP (fB I q (by simp))
  |_=>exact absurd (show false=true from hs) iz
 |bl i=>
  cases rx;cases y with
  |non=>cases ry;exact amE (fB I q (by simp))
  |bl j=>cases ry;exact ne_bool (fB I q (congrArg not Qe))
  |str j=>obtain⟨t',rfl⟩:=ry;exact amF (fB I q (by simp))
  |_=>exact absurd (show false=true from hs) iz
 |int i=>
  obtain⟨t,rfl⟩:=rx
  cases y with
  |non=>cases ry;exact amQ (fB I q (by simp))
  |int j=>obtain⟨t',rfl⟩:=ry;exact ne_int (fB I q (congrArg not Ox))
  |str j=>obtain⟨t',rfl⟩:=ry;exact amR (fB I q (by simp))
  |_=>exact absurd (show false=true from hs) iz
 |str i=>
  obtain⟨t,rfl⟩:=rx
  cases y with
  |non=>cases ry;exact amS (fB I q (by simp))
  |bl j=>cases ry;exact amG (fB I q (by simp))
  |int j=>obtain⟨t',rfl⟩:=ry;exact amT (fB I q (by simp))
  |str j=>obtain⟨t',rfl⟩:=ry;exact ne_str (fB I q (congrArg not Oz))
  |_=>exact absurd (show false=true from hs) iz
 |n6 i=>
  obtain⟨t,rfl⟩:=rx
  cases y with
  |n6 j=>obtain⟨t',rfl⟩:=ry;exact PySem.W.ne_bytes (fB I q (congrArg not Yr))
  |_=>exact absurd (show false=true from hs) iz
 |_=>cases y<;>exact absurd (show false=true from hs) iz
theorem akh:cA X (dH .LtE) (oh fun i j=>.bl (decide (i≤j))):=Rc fun _ _ _ _ _ _ _ q=>le_int q
theorem Cr:cA X (dH .Gt) (oh fun i j=>.bl (decide (j<i))):=Rc fun _ _ _ _ _ _ _ q=>gt_int q
theorem aki:cA X (dH .GtE) (oh fun i j=>.bl (decide (j≤i))):=Rc fun _ _ _ _ _ _ _ q=>ge_int q
theorem HJ:cA X (dH .Is) (fun x y H Q=>y=.non∧Q (.bl (decide (x=.non))) H):=by
 intro pins s σ H x y v u Q I rx ry h
 obtain⟨rfl,q⟩:=h
 cases ry;refine is_none_gen (fB I q ?_);cases x<;>first
  |(cases rx;rfl)
  |(obtain⟨t,rfl⟩:=rx;rfl)
theorem OD:cA X (dH .IsNot) (fun x y H Q=>y=.non∧Q (.bl (!decide (x=.non))) H):=by
 intro pins s σ H x y v u Q I rx ry h
 obtain⟨rfl,q⟩:=h
 cases ry;refine isnot_none_gen (fB I q ?_);cases x<;>first
  |(cases rx;rfl)
  |(obtain⟨t,rfl⟩:=rx;rfl)
theorem cA.or{f:Value→Value→Sem Value}{r r':R2}(h:cA X f r)(h':cA X f r'):cA X f (fun x y H Q=>r x y H Q∨r' x y H Q):=by
 intro pins s σ H x y v u Q I rx ry q;rcases q with q|q
 ·exact h pins s σ H x y v u Q I rx ry q
 ·exact h' pins s σ H x y v u Q I rx ry q
theorem fZ(b:Expr){op:CmpOp}(h:op≠.In:=by decide)(h2:op≠.NotIn:=by decide):Ak op b=false:=by
 have e1:(op==CmpOp.In)=false:=by cases op<;>first|rfl|exact absurd rfl h
 have e2:(op==CmpOp.NotIn)=false:=by cases op<;>first|rfl|exact absurd rfl h2
 cases b<;>simp[Ak,e1,e2]
theorem ahz{op:CmpOp}{r:R2}(ho:cA X (dH op) r)(ha:PE X a ta)(hb:PE X b tb)(hm:Ak op b=false):PE X (.Compare a [op] [b] pos) (Dt r ta tb):=by
 intro pins s σ H Q I h;exact wpAny_Compare1 (Rb ha hb I h fun v u s2 x y H2 I2 rx ry q=>ho pins s2 σ H2 x y v u Q I2 rx ry q) hm
def QK(t:TE):TT:=fun σ H Q=>t σ H fun x H'=>∃k,x=.bl k∧Q k H'
theorem ahA{op:CmpOp}{r:R2}(ho:cA X (dH op) r)(ha:PE X a ta)(hb:PE X b tb)(hm:Ak op b=false):PT X (.Compare a [op] [b] pos) (QK (Dt r ta tb)):=by
 intro pins s σ H Q I h;refine wpAny_isTrue_Compare1 (bh (ha pins s σ H _ I h) fun v s1 ⟨x,H1,I1,r1,q1⟩=>bh (hb pins s1 σ H1 _ I1 q1) fun u s2 ⟨y,H2,I2,r2,q2⟩=>
  bh (ho pins s2 σ H2 x y v u _ I2 r1 r2 q2) fun c s3 ⟨z,H3,I3,r3,k,e,q3⟩=>?_) hm
 subst e;cases r3;exact yh ⟨H3,I3,q3⟩
def Qf(r r':R2)(ta tb tc:TE):TE:=fun σ H Q=>ta σ H fun x H1=>tb σ H1 fun y H2=>r x y H2 fun z H3=>∃k,z=.bl k∧
 (if k=true then tc σ H3 fun w' H4=>r' y w' H4 Q else Q (.bl false) H3)
theorem agn{op op':CmpOp}{r r':R2}(ho:cA X (dH op) r)(ho':cA X (dH op') r')(ha:PE X a ta)(hb:PE X b tb)(hc:PE X c tc)
  (hm:Ms [op,op'] [b,c]=false:=by with_unfolding_all rfl):PE X (.Compare a [op,op'] [b,c] pos) (Qf r r' ta tb tc):=by
 intro pins s σ H Q I h;refine Compare_chain (bh (ha pins s σ H _ I h) fun v s1 ⟨x,H1,I1,r1,q1⟩=>chain_link (bh (hb pins s1 σ H1 _ I1 q1) fun u s2 ⟨y,H2,I2,r2,q2⟩=>
  bh (ho pins s2 σ H2 x y v u _ I2 r1 r2 q2) fun d s3 ⟨z,H3,I3,r3,k,e,q3⟩=>?_)) hm
 subst e;cases r3;refine yh ?_;cases k with
 |false=>exact ite_ff ⟨.bl false,H3,I3,rfl,q3⟩
 |true=>exact ite_tt (chain_last (bh (hc pins s3 σ H3 _ I3 q3) fun w' s4 ⟨z',H4,I4,r4,q4⟩=>ho' pins s4 σ H4 y z' u w' Q I4 r2 r4 q4))
theorem ago{op op':CmpOp}{r r':R2}(ho:cA X (dH op) r)(ho':cA X (dH op') r')(ha:PE X a ta)(hb:PE X b tb)(hc:PE X c tc)
  (hm:Ms [op,op'] [b,c]=false:=by with_unfolding_all rfl):PT X (.Compare a [op,op'] [b,c] pos) (QK (Qf r r' ta tb tc)):=by
 intro pins s σ H Q I h;refine isTrue_chain (bh (ha pins s σ H _ I h) fun v s1 ⟨x,H1,I1,r1,q1⟩=>test_link (bh (hb pins s1 σ H1 _ I1 q1) fun u s2 ⟨y,H2,I2,r2,q2⟩=>
  bh (ho pins s2 σ H2 x y v u _ I2 r1 r2 q2) fun d s3 ⟨z,H3,I3,r3,k,e,q3⟩=>?_)) hm
 subst e;cases r3;refine yh ?_;cases k with
 |false=>
  obtain⟨k',e',q'⟩:=q3
  cases e';exact ite_ff ⟨H3,I3,q'⟩
 |true=>
  refine ite_tt (test_last (bh (hc pins s3 σ H3 _ I3 q3) fun w' s4 ⟨z',H4,I4,r4,q4⟩=>bh (ho' pins s4 σ H4 y z' u w' _ I4 r2 r4 q4) fun d' s5 aJ=>?_))
  obtain⟨z2,H5,I5,r5,k2,e2,q5⟩:=aJ
  subst e2;cases r5;exact yh ⟨H5,I5,q5⟩
def Rg(K:aH)(x:V)(H:Hp)(k:Bool):Prop:=
 match x with
 |.non=>k=false
 |.bl b=>k=b
 |.int i=>k=(i != 0)
 |.str y=>y.length≤bM∧k=((y.length:Int) != 0)
 |.n6 y=>y.size≤bM∧k=((y.size:Int) != 0)
 |.ref p=>(∃xs,bO K H p xs∧k=!xs.isEmpty)∨(∃xs,cI K H p xs∧k=!xs.isEmpty)∨∃kvs,H p=some (.dK kvs)∧k=!kvs.isEmpty
 |_=>False
theorem aeI{κ:Type}{kvs:List (κ×V)}{vs:List (κ×Value)}(r:KV kvs vs):(!vs.isEmpty)=!kvs.isEmpty:=by
 cases r<;>rfl
theorem V7{xs:List V}{its:List Value}(r:Vals xs its):(!its.toArray.isEmpty)=!xs.isEmpty:=by
 cases r<;>simp
theorem wQ:(bM:Nat)<2^63:=by rw[iT];decide
theorem aiZ:akW X (fun x H Q=>∃k,Rg X.K x H k∧Q k H):=by
 intro pins s σ H x v Q I rx h
 obtain⟨k,e,q⟩:=h
 have hl:=wQ;have hs:bM=16777216:=iT;cases x with
 |non=>
  cases rx;have e':k=false:=e;subst e';exact truthy_none ⟨H,I,q⟩
 |bl b=>
  cases rx;have e':k=b:=e;subst e';exact yh ⟨H,I,q⟩
 |int i=>
  obtain⟨t,rfl⟩:=rx
  have e':k=(i != 0):=e;subst e';exact PySem.P.truthy_int ⟨H,I,q⟩
 |str y=>
  obtain⟨t,rfl⟩:=rx
  obtain⟨hy,e'⟩:y.length≤bM∧k=((y.length:Int) != 0):=e
  subst e';exact PySem.P.truthy_str (by omega) ⟨H,I.tok _,q⟩
 |n6 y=>
  obtain⟨t,rfl⟩:=rx
  obtain⟨hy,e'⟩:y.size≤bM∧k=((y.size:Int) != 0):=e
  subst e';exact PySem.W.truthy_bytes (by omega) ⟨H,I.tok _,q⟩
 |ref p=>
  cases rx;have e':(∃xs,bO X.K H p xs∧k=!xs.isEmpty)∨(∃xs,cI X.K H p xs∧k=!xs.isEmpty)∨∃kvs,H p=some (.dK kvs)∧k=!kvs.isEmpty:=e;rcases e' with⟨xs,hx,e'⟩|⟨xs,hx,e'⟩|⟨kvs,hx,e'⟩
  ·subst e'
   obtain⟨its,r,pl,hz⟩:=I.list hx
   have hlen:=r.length;exact wpAny_truthy_list pl.isList (by simp only[fD];omega) ⟨H,I.tok _,by rw[V7 r];exact q⟩
  ·subst e'
   obtain⟨its,r,pl,hz⟩:=I.tuple hx
   have hlen:=r.length;exact truthy_tuple pl (by simp only[fD];omega) ⟨H,I.tok _,by rw[V7 r];exact q⟩
  ·subst e'
   obtain⟨hz,hS,vs,r,m⟩:kvs.length≤bM∧(p==qY)=false∧∃vs,KV kvs vs∧s.heap.DictOf (gY X.prog X.w) p vs:=I.hok p _ hx
   have hlen:kvs.length=vs.length:=Paired.length r;exact wpAny_truthy_dict hS m (by omega) ⟨H,I.tok _,by rw[aeI r];exact q⟩
 |_=>exact(show False from e).elim
theorem agp(ha:PE X a ta)(he:∀whole,isTrue a X.env whole=(do let v ←whole;rD a.pos;oO [v] (truthy v))):
  PT X a (fun σ H Q=>ta σ H fun x H'=>∃k,Rg X.K x H' k∧Q k H'):=by
 intro pins s σ H Q I h;exact isTrue_plain (bh (ha pins s σ H _ I h) fun v s1 ⟨x,H1,I1,r1,q1⟩=>aiZ pins s1 σ H1 x v Q I1 r1 q1) (he _)
theorem aeJ:cA X (nG .Add) (fun x y H Q=>∃i j,x=.str i∧y=.str j∧i.length+j.length≤bM∧Q (.str (i++j)) H):=by
 intro pins s σ H x y v u Q I rx ry h
 obtain⟨i,j,rfl,rfl,hz,q⟩:=h
 obtain⟨t,rfl⟩:=rx
 obtain⟨t',rfl⟩:=ry
 exact add_str (fun t' tk=>⟨.str (i++j),H,I.tok _,⟨_,rfl⟩,q⟩) hz
theorem vals1{x:V}{us:List Value}(r:Vals [x] us):∃u,us=[u]∧RelV x u:=by
 cases r with
 |cons r1 r2=>cases r2;exact⟨_,rfl,r1⟩
theorem vals2{x y:V}{us:List Value}(r:Vals [x,y] us):∃u w',us=[u,w']∧RelV x u∧RelV y w':=by
 cases r with
 |cons r1 r2=>
  cases r2 with
  |cons r3 r4=>cases r4;exact⟨_,_,rfl,r1,r3⟩
theorem Xf:jb X (.builtin "abs") (fun xs H Q=>∃i,xs=[.int i]∧Q (.int (if i<0 then -i else i)) H):=by
 intro pins s σ H xs us Q I r h
 obtain⟨i,rfl,q⟩:=h
 obtain⟨u,rfl,t,rfl⟩:=vals1 r
 exact call_abs_int fun u tk=>⟨.int (if i<0 then -i else i),H,I.tok _,⟨_,rfl⟩,q⟩
theorem afr(hc:X.calm=true):jb X (.builtin "max") (fun xs H Q=>∃i j,xs=[.int i,.int j]∧Q (.int (if j>i then j else i)) H):=by
 intro pins s σ H xs us Q I r h
 obtain⟨i,j,rfl,q⟩:=h
 obtain⟨u,w',rfl,⟨t,rfl⟩,⟨t',rfl⟩⟩:=vals2 r
 refine max_two_ints (I.ok.hd hc) fun h' tk k=>⟨_,H,I.kept k,?_,q⟩
 by_cases hj:j>i
 ·rw[if_pos hj,if_pos hj];exact⟨_,rfl⟩
 ·rw[if_neg hj,if_neg hj];exact⟨_,rfl⟩
theorem Az(hc:X.calm=true):jb X (.builtin "min") (fun xs H Q=>∃i j,xs=[.int i,.int j]∧Q (.int (if j<i then j else i)) H):=by
 intro pins s σ H xs us Q I r h
 obtain⟨i,j,rfl,q⟩:=h
 obtain⟨u,w',rfl,⟨t,rfl⟩,⟨t',rfl⟩⟩:=vals2 r
 refine min_two_ints (I.ok.hd hc) fun h' tk k=>⟨_,H,I.kept k,?_,q⟩
 by_cases hj:j<i
 ·rw[if_pos hj,if_pos hj];exact⟨_,rfl⟩
 ·rw[if_neg hj,if_neg hj];exact⟨_,rfl⟩
theorem Ba:jb X (.type "int") (fun xs H Q=>(∃i,xs=[.int i]∧Q (.int i) H)∨∃k,xs=[.bl k]∧Q (.int (if k then 1 else 0)) H):=by
 intro pins s σ H xs us Q I r h;rcases h with⟨i,rfl,q⟩|⟨k,rfl,q⟩
 ·obtain⟨u,rfl,t,rfl⟩:=vals1 r
  exact call_int_int ⟨.int i,H,I,⟨_,rfl⟩,q⟩
 ·obtain⟨u,rfl,r1⟩:=vals1 r
  cases r1;exact call_int_bool ⟨.int (if k then 1 else 0),H,I.tok _,⟨_,rfl⟩,q⟩
end
structure Rh(h:aV)(x dx C:aa)(mA:Str→Option Value):Prop where
 obj:h.get? x=some (Ut C dx)
 ns:h.Ns1 dx mA
 ne:dx≠x
theorem afs{h:aV}{dx:aa}{mA:Str→Option Value}(n:h.Ns1 dx mA):∃od,h.get? dx=some od∧∀name,U3 name od=some (mA name):=by
 obtain⟨o,es,ep,ho,hd,hk,_,hm⟩:=n
 refine⟨o,ho,fun name=>?_⟩
 have e:=hm name;unfold nsFind findBy at e;rw[←Array.find?_toList] at e;unfold U3;rw[hd];dsimp only;split
 ·rename_i y q;rw[q] at e;exact congrArg some e
 ·rename_i q;rw[q] at e;have a:es.toList.any (·.refKey)=false:=by
   rw[acU];intro y hy
   obtain⟨z,t,hkey⟩:=hk y (Array.mem_toList_iff.mp hy)
   simp[DictEntry.refKey,hkey]
  have a':¬es.toList.any (·.refKey)=true:=by rw[a];exact iz
  rw[if_neg a'];exact congrArg some e
theorem Rh.look{h:aV}{x dx C:aa}{mA:Str→Option Value}(I:Rh h x dx C mA):∃od,PySem.W.InstAt h x (Ut C dx) C (some od)∧∀name,U3 name od=some (mA name):=
 let ⟨od,ho,hl⟩:=afs I.ns
 ⟨od,⟨I.obj,rfl,rfl,ho⟩,hl⟩
section
variable{prog:bf}{w:aY}{A:bU}{E:Value→au→Prop}{s:au}{K:aH}{x dx C f:aa}{mA:Str→Option Value}{name:Str}{v:Value}
end
theorem nT.some_of{v:V}{o:Option Value}(r:nT (some v) o):∃u,o=some u∧RelV v u:=by
 cases o with
 |none=>exact(show False from r).elim
 |some u=>exact⟨u,rfl,r⟩
section
variable{P:bf}{w:aY}{H H':Hp}{h h':aV}{a C dx:aa}{fs fs':List (Str×V)}
theorem ahB(hok:gb P w H h)(e:H a=some (.ins C dx fs)):∃mA,Rh h a dx C mA∧(∀f,nT (fs.lookup f) (mA f))∧adX mA (fs.map (·.1))∧fs.length≤1000∧H dx=some (.own a):=by
 obtain⟨d,z,ne,ob,mA,n,r,q⟩:=(show fM P w H h a (.ins C dx fs) from hok a _ e)
 exact⟨mA,⟨ob,n,ne⟩,r,q,z,d⟩
end
structure RB(K:aH)(C:aa):Prop where
 pg:adb K C Str.empty=true
 hd:PySem.W.hasDictIn K C=true
 po:PySem.W.plainOver K C=true
 sa:yw K (.ref C) "__setattr__"=some (some (.builtin "object.__setattr__"))
theorem RB.get{K:aH}{C:aa}(c:RB K C)(f:Str):adb K C f=true:=c.pg
def Zu(K:aH)(C:aa)(f:Str):Prop:=yw K (.ref C) f=some none
theorem Zu.taker{K:aH}{C:aa}{f:Str}(n:Zu K C f):adn K C f=some none:=by
 unfold adn;rw[show yw K (.ref C) f=some none from n];rfl
structure Con(K:aH)(C:aa)(f:Str)(v:V)(u:Value):Prop where
 at_:yw K (.ref C) f=some (some u)
 rel:RelV v u
 get:acV K u "__get__"=some none
 cp:PySem.W.copiedNames.contains f=false
structure Meth(K:aH)(C:aa)(m:Str)(f:aa):Prop where
 at_:yw K (.ref C) m=some (some (.ref f))
 fn:adZ K (.ref f)=true
 kp:yx K (.ref f)=true
section
variable{X:Cx}{pins:List (aa×Obj)}{σ:St}{H:Hp}{s:au}{a C dx:aa}{fs:List (Str×V)}{f:Str}{v:V}{A:bU}{E:Value→au→Prop}
end
section
variable{X:Cx}{o e value:Expr}{f:Str}{pos pos' tpos:Pos}{ta tv:TE}
end
section
variable{X:Cx}{pins:List (aa×Obj)}{σ:St}{H:Hp}{s:au}{A:bU}{E:Value→au→Prop}{Q:Value→au→Prop}{c:Value}{b:Bool}
inductive mH(K:aH)(H:Hp):V→Value→Prop where
 |non:mH K H .non (.type "NoneType")
 |bl (x:Bool):mH K H (.bl x) (.type "bool")
 |int (i:Int):mH K H (.int i) (.type "int")
 |str (x:Str):mH K H (.str x) (.type "str")
 |flt (x:UInt64):mH K H (.flt x) (.type "float")
 |lst {a:aa} {xs:List V} (e:H a=some (.lst xs)):mH K H (.ref a) (.type "list")
 |lM {a:aa} {o:Obj} {xs:List V} (e:H a=some (.lM o (.lst xs))):mH K H (.ref a) (.type "list")
 |tup {a:aa} {xs:List V} (e:H a=some (.tup xs)):mH K H (.ref a) (.type "tuple")
 |dK {a:aa} {kvs:List (Key×V)} (e:H a=some (.dK kvs)):mH K H (.ref a) (.type "dict")
 |dT {a:aa} {kvs:List (List Key×V)} (e:H a=some (.dT kvs)):mH K H (.ref a) (.type "dict")
 |ins {a C dx:aa} {fs:List (Str×V)} (e:H a=some (.ins C dx fs)) (cl:RB K C) (ha:yw K (.ref C) "__class__"=some (some (.builtin "object.__class__")))
   (hn:acV K (.builtin "object.__class__") "__get__"=some (some (.builtin "getset_descriptor.__get__"))) (htk:PySem.W.takesIn K (.builtin "object.__class__")=some true)
   (hm:PySem.W.mroIn K C (.type "object")=some true):mH K H (.ref a) (.ref C)
theorem aft{x:V}{u t:Value}(I:Inv X pins σ H s)(rx:RelV x u)(ty:mH X.K H x t)(e:U4 X.K t c=some b)(h:∀tk,Q (.bool b) {s with toks:=tk}):
  aM (model X.prog X.w) A (call (.builtin "isinstance") [u,c]) Q E s:=by
 cases ty with
 |non=>cases(show u=pP from rx);exact qW PySem.W.kitx_none I.lA oJ e (fun z=>nomatch z) h
 |bl y=>cases(show u=Aw y from rx);exact qW PySem.W.kitx_bool I.lA oJ e (fun z=>nomatch z) h
 |int i=>obtain⟨t,q⟩:=(show ∃t,u=Ml i t from rx);cases q;exact qW PySem.W.kitx_int I.lA oJ e (fun z=>nomatch z) h
 |str y=>obtain⟨t,q⟩:=(show ∃t,u=Mm y t from rx);cases q;exact qW PySem.W.kitx_str I.lA oJ e (fun z=>nomatch z) h
 |flt y=>obtain⟨t,q⟩:=(show ∃t,u=aes y t from rx);cases q;exact qW PySem.W.kitx_float I.lA oJ e (fun z=>nomatch z) h
 |@lst a xs ea=>
  cases(show u=fG a from rx)
  obtain⟨_,_,n,_,h1⟩:=(show fM X.prog X.w H s.heap a (.lst xs) from I.hok a _ ea)
  exact qW acW I.lA ⟨_,h1,rfl⟩ e (fun z=>nomatch z) h
 |@lM a ob xs ea=>
  cases(show u=fG a from rx)
  obtain⟨_,_,_,n,_,h1⟩:=(show fM X.prog X.w H s.heap a (.lM ob (.lst xs)) from I.hok a _ ea)
  exact qW acW I.lA ⟨_,h1,rfl⟩ e (fun z=>nomatch z) h
 |@tup a xs ea=>
  cases(show u=fG a from rx)
  obtain⟨_,_,_,p⟩:=(show fM X.prog X.w H s.heap a (.tup xs) from I.hok a _ ea)
  obtain⟨o,h1,h2,_⟩:=p
  exact qW PySem.W.kitx_tuple I.lA ⟨o,h1,h2⟩ e (fun z=>nomatch z) h
 |@dK a kvs ea=>
  cases(show u=fG a from rx)
  obtain⟨_,_,vs,_,p⟩:=(show fM X.prog X.w H s.heap a (.dK kvs) from I.hok a _ ea)
  obtain⟨o,es,ep,h1,h2,_⟩:=p
  exact qW acX I.lA ⟨o,h1,h2.1⟩ e (fun z=>nomatch z) h
 |@dT a kvs ea=>
  cases(show u=fG a from rx)
  obtain⟨_,_,xs,_,o,es,ep,h1,h2,_⟩:=(show fM X.prog X.w H s.heap a (.dT kvs) from I.hok a _ ea)
  exact qW acX I.lA ⟨o,h1,h2.1⟩ e (fun z=>nomatch z) h
 |@ins a C dx fs ea cl ha hn htk hm=>
  cases(show u=fG a from rx)
  obtain⟨mA,O,_⟩:=ahB I.hok ea
  obtain⟨od,J,_⟩:=O.look
  exact qW (PySem.W.kitx_own (cl.get _) cl.hd ha hn htk hm) I.lA J e (fun z=>nomatch z) h
end
structure gG(k:Nat)(A:bU):Prop where
 hd:A.handled=none
 dp:A.depth+3*k+5<recursionLimit
 un:A.units+16*k+200<dY
 gd:A.guards=some []
theorem gG.mono{j k:Nat}{A:bU}(r:gG k A)(h:j≤k):gG j A:=⟨r.hd,by have:=r.dp;omega,by have:=r.un;omega,r.gd⟩
theorem gG.deeper{k:Nat}{A:bU}(r:gG (k+1) A)(env:Env):gG k (A.deeper env):=
 ⟨r.hd,by have:=r.dp;show A.depth+1+3*k+5<_;omega,by have:=r.un;show A.units+3+16*k+200<_;omega,r.gd⟩
theorem gG.in1{k:Nat}{A:bU}(r:gG (k+1) A):gG k A.in1:=
 ⟨r.hd,by have:=r.dp;show A.depth+3*k+5<_;omega,by have:=r.un;show A.units+1+16*k+200<_;omega,r.gd⟩
theorem gG.depth{k:Nat}{A:bU}(r:gG k A):A.depth<recursionLimit:=by have:=r.dp;omega
theorem gG.units{k:Nat}{A:bU}(r:gG k A):A.units+64<dY:=by have:=r.un;omega
theorem gG.Qg{k:Nat}{A:bU}(r:gG k A):A.units<dY:=by have:=r.un;omega
def akX:TA:=fun _ H Q=>Q [] H
def akj(ta:TE)(tr:TA):TA:=fun σ H Q=>ta σ H fun x H1=>tr σ H1 fun xs H2=>Q (x::xs) H2
section
variable{X:Cx}{e:Expr}{es:List Expr}{te:TE}{t:TA}{pos:Pos}
theorem pY:PA X [] akX:=fun _ _ _ _ H Q I h=>Ep ⟨[],H,I,.nil,h⟩
theorem oR(ha:PE X e te)(hr:PA X es t)(hs:aZ (e::es) X.env=(false,eval e X.env)::aZ es X.env:=by rfl):PA X (e::es) (akj te t):=by
 intro pos pins s σ H Q I h;rw[hs];show aM _ _ (Bo ((false,eval e X.env)::eO pos (aZ es X.env))) _ _ s;refine z8 (bh (ha pins s σ H _ I h) fun u s1 aJ=>?_)
 obtain⟨x,H1,I1,r1,q1⟩:=aJ
 exact bh (hr pos pins s1 σ H1 _ I1 q1) fun us s2 ⟨xs,H2,I2,r2,q2⟩=>⟨x::xs,H2,I2,.cons r1 r2,q2⟩
def akY(t:TA):TE:=fun σ H Q=>t σ H fun xs H1=>xs.length≤bM∧∀p,H1 p=none→Q (.ref p) (upd H1 p (.tup xs))
def akZ(t:TA):TE:=fun σ H Q=>t σ H fun xs H1=>xs.length≤bM∧∀p,H1 p=none→Q (.ref p) (upd H1 p (.lst xs))
theorem Zv{x1}(h:PA X es t):PE X (.Tuple es x1 pos) (akY t):=by
 intro pins s σ H Q I hq;refine wpAny_Tuple_spliced (bh (h pos pins s σ H _ I hq) fun us s1 ⟨xs,H1,I1,r,z,q⟩=>⟨by rw[←r.length];exact z,?_⟩);have hf:H1 s1.heap.objs.size=none:=I1.hok.fresh (bK _)
 refine⟨.ref s1.heap.objs.size,upd H1 s1.heap.objs.size (.tup xs),I1.laid (t':=s1.toks) (fun b u e=>cB _ e) (bK _) ?_,rfl,q _ hf⟩
 exact⟨z,us,r,⟨_,gP _ rfl,rfl,_,rfl⟩⟩
theorem ai0(h:PA X es t):PE X (.List es pos) (akZ t):=by
 intro pins s σ H Q I hq;refine wpAny_List_spliced (bh (h pos pins s σ H _ I hq) fun us s1 ⟨xs,H1,I1,r,z,q⟩=>⟨by rw[←r.length];exact z,?_⟩);have hf:H1 s1.heap.objs.size=none:=I1.hok.fresh (bK _)
 refine⟨.ref s1.heap.objs.size,upd H1 s1.heap.objs.size (.lst xs),I1.laid (t':=s1.toks) (fun b u e=>cB _ e) (bK _) ?_,rfl,q _ hf⟩
 exact⟨z,us,0,r,gP _ rfl⟩
end
abbrev Sp:=List V→Hp→VK→XK→Prop
abbrev ou:=List Env→Hp→au→XK→Value→au→Prop
structure xq(P:bf)(w:aY)(K:aH)(mg:Str→Option Value)(base:aV)(A:bU)(outer:List Env)(s:au)(H:Hp):Prop where
 frames:A.frames=some outer
 mod:Mod K mg base
 bs:∀b o,base.get? b=some o→s.heap.get? b=some o∧H b=none
 su:base.objs.size≤s.heap.objs.size
 o9:s.heap.FunFrames base outer
 xP:∀b∈frs outer,H b=none
 hok:gb P w H s.heap
 bare:AllBare s.gens
def CE(outer:List Env)(P:bf)(w:aY)(H:Hp)(s:au)(Q:VK)(u:Value)(s':au):Prop:=
 ∃v H',s'.os=s.os∧AllBare s'.gens∧Un (frs outer) [] H H' s.heap s'.heap∧gb P w H' s'.heap∧RelV v u∧Q v H'
def CR(CX:ou)(outer:List Env)(P:bf)(w:aY)(H:Hp)(s:au)(Q:VK)(E:XK)(r:pZ)(s':au):Prop:=
 match r with
 |.ok (.ret u)=>CE outer P w H s Q u s'
 |.ok _=>False
 |.error e=>CX outer H s E e s'
structure cW(P:bf)(w:aY)(K:aH)(mg:Str→Option Value)(base:aV)(CX:ou)(k:Nat)(f:aa)(fd:di)(ps:List Str)(sp:Sp):Prop where
 len:∀vs H Q E,sp vs H Q E→vs.length=ps.length
 run:∀(A:bU)(outer:List Env)(s:au)(H:Hp)(args:Args)(us:List Value)(vs:List V)(Q:VK)(E:XK),gG k A→xq P w K mg base A outer s H→wM s fd args (ps.zip us)→Vals vs us→sp vs H Q E→
  jN (model P w) A (.call (.ref f) args) (CR CX outer P w H s Q E) s
theorem cW.mono{P:bf}{w:aY}{K:aH}{mg:Str→Option Value}{base:aV}{CX:ou}{j k:Nat}{f:aa}{fd:di}{ps:List Str}{sp:Sp}(F:cW P w K mg base CX j f fd ps sp)(h:j≤k):
  cW P w K mg base CX k f fd ps sp:=⟨F.len,fun A outer s H args us vs Q E hr=>F.run A outer s H args us vs Q E (hr.mono h)⟩
theorem cW.imp{P:bf}{w:aY}{K:aH}{mg:Str→Option Value}{base:aV}{CX:ou}{k:Nat}{f:aa}{fd:di}{ps:List Str}{sp sp':Sp}(F:cW P w K mg base CX k f fd ps sp)
  (h:∀vs H Q E,sp' vs H Q E→sp vs H Q E):cW P w K mg base CX k f fd ps sp':=
 ⟨fun vs H Q E q=>F.len vs H Q E (h _ _ _ _ q),fun A outer s H args us vs Q E hr he hb hv hs=>F.run A outer s H args us vs Q E hr he hb hv (h _ _ _ _ hs)⟩
theorem xq.in1{P:bf}{w:aY}{K:aH}{mg:Str→Option Value}{base:aV}{A:bU}{outer:List Env}{s:au}{H:Hp}(e:xq P w K mg base A outer s H):
  xq P w K mg base A.in1 outer s H:=⟨e.frames,e.mod,e.bs,e.su,e.o9,e.xP,e.hok,e.bare⟩
section
variable{X:Cx}{pins:List (aa×Obj)}{σ:St}{H:Hp}{s s':au}
theorem Inv.env0(I:Inv X pins σ H s):xq X.prog X.w X.K X.mg X.base X.A X.stack s H:=
 ⟨I.ok.frames,I.ok.mod,I.bs,jL I.ok.su I.sz,I.stack,I.Ym,I.hok,I.bare⟩
theorem Inv.after{Q:VK}{u:Value}(I:Inv X pins σ H s)(h:CE X.stack X.prog X.w H s Q u s'):EP X pins σ Q u s':=by
 obtain⟨v,H',os,bare,un,hok,r,q⟩:=h
 obtain⟨hh,g,d,t,os'⟩:=s'
 obtain rfl:os'=s.os:=os
 exact⟨v,H',I.call (h':=hh) (g':=g) (d':=d) (t':=t) (ch:=[]) un hok bare (fun b z=>absurd z (by simp)),r,q⟩
end
def QL(sp:Sp)(vI:List V)(E:XK)(t:TA):TE:=fun σ H Q=>t σ H fun vs H1=>sp (vs++vI) H1 Q E
def Binds(K:aH)(fd:di)(ps:List Str)(ds:List Value):Prop:=
 ∀(s:au)(us:List Value),K.In s.heap→(us++ds).length=ps.length→wM s fd ⟨us,[]⟩ (ps.zip (us++ds))
theorem Binds.all{K:aH}{fd:di}{ps:List Str}(h:∀us:List Value,us.length=ps.length→bindArgs fd ⟨us,[]⟩=pure (ps.zip us)):Binds K fd ps []:=fun s us _ hl=>by
 rw[j6] at hl⊢;exact .of_eq (h us hl)
def Passes(CX:ou)(X:Cx)(E:XK):Prop:=∀(pins:List (aa×Obj))(σ:St)(H:Hp)(s:au)(e:Value)(s':au),Inv X pins σ H s→CX X.stack H s E e s'→X.xe e s'
section
variable{X:Cx}{CX:ou}{k:Nat}{f C:aa}{fd:di}{ps:List Str}{sp:Sp}{vI:List V}{ds:List Value}{E:XK}{x m:Str}{p pos apos:Pos}{e o:Expr}{es:List Expr}{ta:TE}{t:TA}
theorem ai1{pins:List (aa×Obj)}{σ:St}{H:Hp}{s:au}{Q:VK}{us:List Value}{vs:List V}(F:cW X.prog X.w X.K X.mg X.base CX k f fd ps sp)(hr:gG k X.A)(hb:Binds X.K fd ps ds)(hd:Vals vI ds)(hx:Passes CX X E)
  (I:Inv X pins σ H s)(r:Vals vs us)(h:sp (vs++vI) H Q E):aM (model X.prog X.w) X.A (call (.ref f) us) (EP X pins σ Q) X.xe s:=by
 have r2:Vals (vs++vI) (us++ds):=r.append hd;have hl:(us++ds).length=ps.length:=by rw[←r2.length];exact F.len _ _ _ _ h
 refine wpAny_call (Fv (F.run X.A X.stack s H ⟨us,[]⟩ (us++ds) (vs++vI) Q E hr I.env0 (hb s us I.lA hl) r2 h) fun r s' hq=>?_);cases r with
 |error e=>exact hx pins σ H s e s' I hq
 |ok fl=>
  cases fl with
  |ret u=>exact I.after hq
  |next=>exact pQ hq
  |brk=>exact pQ hq
  |cont=>exact pQ hq
theorem ahC(F:cW X.prog X.w X.K X.mg X.base CX k f fd ps sp)(hr:gG k X.A)(hg:Gl X x)(hm:X.mg x=some (.ref f))(hk:yx X.K (.ref f)=true)(hb:Binds X.K fd ps ds)(hd:Vals vI ds)(hx:Passes CX X E)
  (ha:PA X (e::es) t)(hdb:(x==("__debug__":Str))=false:=by decide)(he:aZ (e::es) X.env=(false,eval e X.env)::aZ es X.env:=by rfl)(hpl:(eO pos (aZ es X.env)).any (·.1)=false:=by rfl):
  PE X (.Call (.Name x p) (e::es) [] pos) (QL sp vI E t):=by
 intro pins s σ H Q I h;refine z9 (Yo I hg hm ?_ hdb);refine PySem.W.callWith_K (h₀:=X.base) I.ok.mod.Rv hk (bh (ha pos pins s σ H _ I h) fun us s1 ⟨vs,H1,I1,r,q⟩=>⟨I1.lA,?_⟩) he hpl;exact ai1 F hr hb hd hx I1 r q
structure Mk(K:aH)(C f:aa):Prop where
 makes:PySem.W.makesIn K C=true
 init:yw K (.ref C) "__init__"=some (some (.ref f))
 fn:adZ K (.ref f)=true
 kp:yx K (.ref C)=true
end
section
variable{X:Cx}{CX:ou}{k:Nat}{f C:aa}{fd:di}{ps ks:List Str}{sp:Sp}{E:XK}{x m:Str}{p pos apos kpos:Pos}{e o:Expr}{es:List Expr}{kws:List lG}{te ta:TE}{t tk:TA}{nm:Option Str}
structure am3(K:aH)(fd:di)(ps ks:List Str)(g:List Value→List Value→List Value)(gV:List V→List V→List V):Prop where
 to:∀(s:au)(us ws:List Value),K.In s.heap→(g us ws).length=ps.length→wM s fd ⟨us,ks.zip ws⟩ (ps.zip (g us ws))
 rel:∀{vs:List V}{us:List Value}{zs:List V}{ws:List Value},Vals vs us→Vals zs ws→Vals (gV vs zs) (g us ws)
variable{g:List Value→List Value→List Value}{gV:List V→List V→List V}
end
structure gj(N P:List Str)(sc:iJ):Prop where
 kind:sc.kind=.function
 co:sc.isCoroutine=false
 gen:sc.isGenerator=false
 nd:N.Nodup
 pre:N.take P.length=P
 par:∀x∈P,sc.names.lookup x=some .local∨sc.names.lookup x=some .cell
 ai2:∀y∈sc.names,y.2≠.free
theorem Ww{kindOf:Str→Option yO}{x:Str}:∀{binds:List (Str×Value)}{m:Str→Option Value},(∀v,(x,v)∉binds)→wX kindOf binds m x=m x
 |[],_,_=>rfl
 |(n,v)::r,m,h=>by
  unfold wX;rw[Ww fun w hw=>h w (eZ _ hw)];split
  ·have:x≠n:=by rintro rfl;exact h v dR
   simp[this]
  ·rfl
theorem Wx{kindOf:Str→Option yO}{x:Str}:∀{binds:List (Str×Value)}{m:Str→Option Value},(∀v,(x,v)∉binds)→wY kindOf binds m x=m x
 |[],_,_=>rfl
 |(n,v)::r,m,h=>by
  unfold wY;rw[Wx fun w hw=>h w (eZ _ hw)];split
  ·rfl
  ·have:x≠n:=by rintro rfl;exact h v dR
   simp[this]
theorem Wy{kindOf:Str→Option yO}{x:Str}{v:Value}:∀{P:List Str}{vs:List Value}{i:Nat}{m:Str→Option Value},P.Nodup→P[i]?=some x→vs[i]?=some v→kindOf x=some .local→
  wX kindOf (P.zip vs) m x=some v
 |[],_,_,_,_,h,_,_=>by simp at h
 |_::_,[],_,_,_,_,h,_=>by simp at h
 |p::P,w::vs,0,m,nd,h1,h2,hk=>by
  simp at h1 h2;subst h1;subst h2;show wX kindOf ((p,w)::P.zip vs) m p=_;unfold wX;rw[Ww fun v hv=>(jB.mp nd).1 (Uu hv).1,if_pos hk];simp
 |p::P,w::vs,i+1,m,nd,h1,h2,hk=>by
  show wX kindOf ((p,w)::P.zip vs) m x=_;unfold wX;exact Wy (i:=i) (jB.mp nd).2 (by simpa using h1) (by simpa using h2) hk
theorem Wz{kindOf:Str→Option yO}{x:Str}{v:Value}:∀{P:List Str}{vs:List Value}{i:Nat}{m:Str→Option Value},P.Nodup→P[i]?=some x→vs[i]?=some v→kindOf x≠some .local→
  wY kindOf (P.zip vs) m x=some v
 |[],_,_,_,_,h,_,_=>by simp at h
 |_::_,[],_,_,_,_,h,_=>by simp at h
 |p::P,w::vs,0,m,nd,h1,h2,hk=>by
  simp at h1 h2;subst h1;subst h2;show wY kindOf ((p,w)::P.zip vs) m p=_;unfold wY;rw[Wx fun v hv=>(jB.mp nd).1 (Uu hv).1,if_neg hk];simp
 |p::P,w::vs,i+1,m,nd,h1,h2,hk=>by
  show wY kindOf ((p,w)::P.zip vs) m x=_;unfold wY;exact Wz (i:=i) (jB.mp nd).2 (by simpa using h1) (by simpa using h2) hk
def start(N:List Str)(vs:List V):St:=vs.map some++gH (N.length-vs.length) none
def xr(CX:ou)(P:bf)(w:aY)(K:aH)(mg:Str→Option Value)(base:aV)(N:List Str)(qual:Str)(scope:iJ)(f:aa)(cd:Value)(A:bU)(outer:List Env)(s:au)(H:Hp)(E:XK):Cx where
 prog:=P
 w:=w
 K:=K
 mg:=mg
 base:=base
 A:=A.deeper (envOfC qual scope s.heap.objs.size f cd)
 N:=N
 s₀:=s
 H₀:=H
 env:=envOfC qual scope s.heap.objs.size f cd
 outer:=outer
 stack:=envOfC qual scope s.heap.objs.size f cd::outer
 ex:=[]
 calm:=true
 fn:=fun _=>true
 pn:=[]
 xe:=fun e s'=>aM (model P w) (A.deeper (envOfC qual scope s.heap.objs.size f cd)) (leaving (envOfC qual scope s.heap.objs.size f cd) e) (fun _ s''=>CX outer H s E e s'') (fun e' s''=>CX outer H s E e' s'') s'
theorem Xg{sc:iJ}{n:Nat}{x:Str}(h:sc.names.lookup x=some .cell):∃c,(cellsFrom n sc.names []).lookup x=some c:=by
 have q:=ach sc.names n [] (.inl h);exact sI.mp q
theorem afu{CX:ou}{P:bf}{w:aY}{K:aH}{mg:Str→Option Value}{base:aV}{N ps:List Str}{qual:Str}{scope:iJ}{f:aa}{cd:Value}{A:bU}{outer:List Env}{s s1:au}{H:Hp}{E:XK}{us:List Value}{vs:List V}
  (S:gj N ps scope)(hd:A.handled=none)(e0:xq P w K mg base A outer s H)(hl:vs.length=ps.length)(r:Vals vs us)
  (x:InCallC s s.heap.objs.size (wX (envOfC qual scope s.heap.objs.size f cd).kindOf (ps.zip us) fun _=>none) (cellsFrom (s.heap.objs.size+1) scope.names []) (wY (envOfC qual scope s.heap.objs.size f cd).kindOf (ps.zip us) fun _=>none) s1):
  Inv (xr CX P w K mg base N qual scope f cd A outer s H E) [] (start N vs) H s1:=by
 have hpl:ps.length≤N.length:=by have:=congrArg oG S.pre;rw[mV] at this;omega
 obtain⟨h1,tk,rfl,hk⟩:=x.done
 have Du:∀b:aa,b∉(xr CX P w K mg base N qual scope f cd A outer s H E).ex:=fun b z=>absurd (show b∈([]:List aa) from z) (by simp)
 refine⟨⟨e0.mod,S.kind,rfl,rfl,bK _,fun y z c h1 h2=>?_,fun y hy=>?_,fun y c _ h=>?_,fun _=>hd,Around.frames_deeper e0.frames,.inr ⟨rfl,rfl⟩,fun b z=>absurd z (Du b),e0.bs,e0.su,fun b _ _=>Du b,fun b z=>absurd z (Du b),e0.o9,e0.xP⟩,
  rfl,e0.bare,Un.kept hk,⟨_,x.toInCall.ns,fun i y v h1 h2 h3=>?_⟩,fun y c h=>⟨_,x.cell y c h⟩,e0.hok.fresh (bK _),fun y c h=>?_,fun p hp=>absurd (show p∈([]:List (aa×Obj)) from hp) (by simp),e0.hok.kept hk,?_⟩
 ·exact name_of_addr x.apart (uB h1) (uB h2)
 ·have hy:scope.names.lookup y=some .cell∨scope.names.lookup y=some .free:=hy;rcases hy with hy|hy
  ·exact Xg hy
  ·exact absurd rfl (S.ai2 _ (uB hy))
 ·exact uG (x.above y c (uB h))
 ·have hi:i<vs.length:=by
   unfold start at h2;by_cases hi:i<vs.length
   ·exact hi
   ·rw[m7 (by simpa using hi)] at h2;rw[Tr] at h2;split at h2<;>cases h2
  have ha:vs[i]?=some v:=by
   unfold start at h2;rw[m8 (by simpa using hi),gh] at h2;cases e:vs[i]? with
   |none=>rw[e] at h2;cases h2
   |some a=>rw[e] at h2;cases h2;rfl
  obtain⟨u,hu,rv⟩:=r.get ha
  have hp:ps[i]?=some y:=by
   rw[←S.pre,Tj (by omega)];exact h1
  have ndP:ps.Nodup:=by rw[←S.pre];exact S.nd.sublist (Er _ _)
  refine⟨u,rv,?_⟩
  rcases S.par y (m9 hp) with k|k
  ·exact .inl ⟨k,Wy ndP hp hu k⟩
  ·obtain⟨c,e⟩:=Xg (n:=s.heap.objs.size+1) k
   refine .inr ⟨.inl k,c,e,?_⟩;have q:=x.cell y c e;rw[Wz ndP hp hu (by show scope.names.lookup y≠_;rw[k];decide)] at q;exact q
 ·exact e0.hok.fresh (uG (x.above y c (uB h)))
 ·unfold start;show _=N.length;rw[fP,aX,acq];omega
theorem akk{CX:ou}{P:bf}{w:aY}{K:aH}{mg:Str→Option Value}{base:aV}{k:Nat}{f:aa}{name qual:Str}{params:Arguments}{body:List cP}{scope:iJ}{dV kV doc pm cdv ct oc:Value}{an od:Option aa}
  {osl:Array (Option Value)}{N ps:List Str}{sp:Sp}(lk:K.lookup f=some ⟨oc,od,.func (wB name qual params body scope dV kV doc pm an cdv ct),osl⟩)(hcd:Kd K cdv qual=true)(S:gj N ps scope)
  (len:∀vs H Q E,sp vs H Q E→vs.length=ps.length)
  (hbody:∀(A:bU)(outer:List Env)(s:au)(H:Hp)(vs:List V)(Q:VK)(E:XK),gG k (A.deeper (envOfC qual scope s.heap.objs.size f cdv))→sp vs H Q E→
   ∃t,ir (xr CX P w K mg base N qual scope f cdv A outer s H E) body t∧t {nx:=fun _ H'=>Q .non H',rt:=Q} (start N vs) H):
  cW P w K mg base CX (k+1) f (wB name qual params body scope dV kV doc pm an cdv ct) ps sp:=by
 refine⟨len,fun A outer s H args us vs Q E hr e0 hb r hsp=>?_⟩
 have hl:=len _ _ _ _ hsp;have KX:K.In s.heap:=e0.mod.Rv.keeps fun b o e=>(e0.bs b o e).1
 have lim:s.heap.NoLimit:=e0.mod.nolimit.keeps fun b o e=>(e0.bs b o e).1
 have hkind:∀y∈ps.zip us,scope.names.lookup y.1=some .local∨(scope.names.lookup y.1=some .cell∧((cellsFrom (s.heap.objs.size+1) scope.names []).lookup y.1).isSome=true):=fun⟨n,v⟩ hy=>by
  rcases S.par n (Uu hy).1 with q|q
  ·exact .inl q
  ·exact .inr ⟨q,ach _ _ _ (.inl q)⟩
 refine codeAny_call_function hr.depth (KX _ _ lk) rfl S.co S.gen rfl (PySem.W.codeRec_of KX hcd) (hb _ _ _ _ ?_);refine wpAny_newFunctionEnv_cells S.kind hkind fun env he s1 x=>?_
 subst he
 refine⟨lim.keeps x.toInCall.keep,codeAny_func ?_⟩
 obtain⟨t,ht,hq⟩:=hbody A outer s H vs Q E (hr.deeper _) hsp
 have I:Inv (xr CX P w K mg base N qual scope f cdv A outer s H E) [] (start N vs) H s1:=afu S hr.hd e0 hl r x;refine mW (ht [] s1 (start N vs) H _ I hq) (fun fl s' hs=>?_) fun e s' hs=>hs
 have fin:∀{σ':St}{H':Hp}{v:V}{u:Value},Inv (xr CX P w K mg base N qual scope f cdv A outer s H E) [] σ' H' s'→RelV v u→Q v H'→CE outer P w H s Q u s':=
  fun{σ' H' v u} J rv q=>⟨v,H',J.os,J.bare,J.base,J.hok,rv,q⟩
 cases fl with
 |ret u=>
  obtain⟨v,σ',H',J,rv,q⟩:=hs
  exact fin J rv q
 |next=>
  obtain⟨σ',H',J,q⟩:=hs
  exact fin (v:=V.non) (u:=pP) J rfl q
 |brk=>
  obtain⟨_,_,_,q⟩:=hs
  exact pQ q
 |cont=>
  obtain⟨_,_,_,q⟩:=hs
  exact pQ q
section
variable{X:Cx}{x:Str}{p pos:Pos}{e:Expr}{es:List Expr}{t:TA}{id T:String}{r:List V→Hp→VK→Prop}
def RC(r:List V→Hp→VK→Prop)(t:TA):TE:=fun σ H Q=>t σ H fun vs H1=>r vs H1 Q
theorem Ng(hc:jb X (.builtin id) r)(hg:Gl X x)(hm:X.mg x=none)(hv:sY x=some (.builtin id))(ha:PA X (e::es) t)(hn:x≠"__name__":=by decide)(hdb:(x==("__debug__":Str))=false:=by decide)
  (he:aZ (e::es) X.env=(false,eval e X.env)::aZ es X.env:=by rfl)(hpl:(eO pos (aZ es X.env)).any (·.1)=false:=by rfl):PE X (.Call (.Name x p) (e::es) [] pos) (RC r t):=by
 intro pins s σ H Q I h;refine z9 (tR I hg hm hv ?_ hn hdb);exact Te (bh (ha pos pins s σ H _ I h) fun us s1 ⟨vs,H1,I1,r1,q1⟩=>hc pins s1 σ H1 vs us Q I1 r1 q1) he hpl
theorem afv(hc:jb X (.type T) r)(hg:Gl X x)(hm:X.mg x=none)(hv:sY x=some (.type T))(ha:PA X (e::es) t)(hn:x≠"__name__":=by decide)(hdb:(x==("__debug__":Str))=false:=by decide)
  (he:aZ (e::es) X.env=(false,eval e X.env)::aZ es X.env:=by rfl)(hpl:(eO pos (aZ es X.env)).any (·.1)=false:=by rfl):PE X (.Call (.Name x p) (e::es) [] pos) (RC r t):=by
 intro pins s σ H Q I h;refine z9 (tR I hg hm hv ?_ hn hdb);exact JG (bh (ha pos pins s σ H _ I h) fun us s1 ⟨vs,H1,I1,r1,q1⟩=>hc pins s1 σ H1 vs us Q I1 r1 q1) he hpl
end
end L2
namespace HT
open PySem PyProof.Rows
section
open PySem.SeqAt
open PySem.AutoSeq1 (wpAny_loadPart')
open PySem.MeetsSeq PySem.MeetsSeq2 PySem.MeetsSeq3
end
section
variable{prog:bf}{w:aY}{A:bU}{E:Value→au→Prop}{s:au}
theorem ahD{t b:aa}{vs ws:List Value}{Q:Value→au→Prop}(ht:IsTup s.heap t vs.toArray)(hb:IsTup s.heap b ws.toArray)(hv:vs≠[])
  (h1:ws=[]→Q (.ref t) s)(h2:ws≠[]→Q (.ref s.heap.objs.size) {s with heap:=s.heap.push {cls:=.type "tuple",data:=.seq (vs++ws).toArray}})
  (hsz:vs.length+ws.length≤bM):aM (model prog w) A (nG .Add (.ref t) (.ref b)) Q E s:=by
 obtain⟨⟨cls,dd,data,sl⟩,ho,hc,n,hd⟩:=id ht
 obtain⟨⟨cls2,dd2,data2,sl2⟩,ho2,hc2,n2,hd2⟩:=id hb
 simp only at hc hd hc2 hd2;subst hc hd hc2 hd2;have e:vs.toArray++ws.toArray=(vs++ws).toArray:=by simp
 by_cases hw:ws=[]
 ·exact Vw ⟨_,ho,rfl⟩ ⟨_,ho2,rfl⟩ Ug Vk Tv Tt (Tn _ _)
   (tuple_addW1 t b vs.toArray ws.toArray n n2 dd dd2 sl sl2 (by simpa using hv) (by simp[hw])) ⟨ho,ho2,h1 hw⟩
 ·refine Vw ⟨_,ho,rfl⟩ ⟨_,ho2,rfl⟩ Ug Vk Tv Tt (Tn _ _)
   (tuple_addW2 t b vs.toArray ws.toArray n n2 dd dd2 sl sl2 (by simpa using hv) (by simpa using hw) (by rw[fD,fD];exact hsz)) ⟨ho,ho2,?_⟩
  rw[e];exact h2 hw
def bR(n d:Nat):Option Int→Nat
 |none=>d
 |some v=>if v<0 then(v+(n:Int)).toNat else min v.toNat n
theorem G9(n d k:Nat):bR n d (some (k:Int))=min k n:=by
 show(if(k:Int)<0 then((k:Int)+(n:Int)).toNat else min (k:Int).toNat n)=min k n
 rw[if_neg (by omega),Ab]
theorem ai3(n d:Nat)(hd:d≤n)(o:Option Int):bR n d o≤n:=by
 cases o with
 |none=>exact hd
 |some v=>
  show(if v<0 then(v+(n:Int)).toNat else min v.toNat n)≤n
  by_cases hv:v<0
  ·rw[if_pos hv];omega
  ·rw[if_neg hv];exact Nat.min_le_right _ _
theorem Ys(v:Int)(n d:Nat):(if v<0 then max (v+(n:Int)) 0 else min v (n:Int))=((bR n d (some v):Nat):Int):=by
 show(if v<0 then max (v+(n:Int)) 0 else min v (n:Int))=(((if v<0 then(v+(n:Int)).toNat else min v.toNat n):Nat):Int)
 by_cases hv:v<0
 ·simp only[if_pos hv];omega
 ·simp only[if_neg hv];omega
theorem aeK(lo hi:Option Int)(n:Nat):Tg lo hi 1 (n:Int)=(((bR n 0 lo:Nat):Int),((bR n n hi:Nat):Int)):=by
 have h1:¬((1:Int)<0):=by omega
 unfold Tg;simp only[h1,if_false];refine Prod.ext ?_ ?_
 ·cases lo with
  |none=>rfl
  |some v=>exact Ys v n 0
 ·cases hi with
  |none=>rfl
  |some v=>exact Ys v n n
theorem aeL(i j:Nat):JL (i:Int) (j:Int) 1=j-i:=by
 unfold JL;have h1:(1:Int)>0:=by omega
 simp only[h1,if_true,Int.ediv_one];split<;>omega
theorem V8{v:Value}{o:Option Int}{Q:Option Int→au→Prop}(p:rF v o)(h:Q o s):aM (model prog w) A (ams v) Q E s:=by
 cases p with
 |none=>exact slicePart_none h
 |int i t=>exact slicePart_int h
theorem Uh{sl:aa}{vl vu:Value}{lo hi:Option Int}{n:Nat}{Q:Int×Int×Nat→au→Prop}(hs:s.heap.IsSliceOf sl vl vu .none)(pl:rF vl lo)(pu:rF vu hi)
  (h:Q (((bR n 0 lo:Nat):Int),1,bR n n hi-bR n 0 lo) s):aM (model prog w) A (ab1 (.ref sl) (pure (n:Int))) Q E s:=by
 obtain⟨os,hos,hcs,hds⟩:=id hs
 unfold ab1 amH;refine aC (aC (V0 hos hds (x:=vl) rfl (aC (V0 hos hds (x:=vu) rfl (aC (V0 hos hds (x:=.none) rfl (aW ?_)))))));refine aC (slicePart_none ?_);show aM _ _ (if((1:Int)==0)=true then _ else _) _ _ s;rw[if_neg (by decide)];refine aC (V8 pl (aC (V8 pu (aC (aW ?_)))));show aM _ _ (match Tg lo hi 1 (n:Int) with|(lo,hi)=>pure (lo,(1:Int),JL lo hi 1)) _ _ s;rw[aeK lo hi n];show aM _ _ (pure (((bR n 0 lo:Nat):Int),(1:Int),JL ((bR n 0 lo:Nat):Int) ((bR n n hi:Nat):Int) 1)) _ _ s;rw[aeL];exact aW h
theorem agq(xs:Array Value)(i k:Nat):((dG k).filterMap fun(m:Nat)=>xs[((i:Int)+(m:Int)*1).toNat]?).toArray=((xs.toList.drop i).take k).toArray:=by
 have e:(fun(m:Nat)=>xs[((i:Int)+(m:Int)*1).toNat]?)=fun m=>xs[i+m]?:=by
  funext m;have:((i:Int)+(m:Int)*1).toNat=i+m:=by omega
  rw[this]
 rw[e];have:=pick_run xs i k;rw[List.filterMap_map] at this;have e2:((fun x=>xs[x]?) ∘ fun x=>i+x)=fun m=>xs[i+m]?:=rfl
 rw[e2] at this;rw[this]
theorem acY{t sl:aa}{items:Array Value}{vl vu:Value}{lo hi:Option Int}{Q:Value→au→Prop}(ht:IsTup s.heap t items)(hs:s.heap.IsSliceOf sl vl vu .none)(pl:rF vl lo)(pu:rF vu hi)
  (hw:¬(bR items.size 0 lo=0∧bR items.size items.size hi=items.size))
  (h:Q (.ref s.heap.objs.size) {s with heap:=s.heap.push {cls:=.type "tuple",data:=.seq ((items.toList.drop (bR items.size 0 lo)).take (bR items.size items.size hi-bR items.size 0 lo)).toArray}})
  (hsz:items.size≤bM):aM (model prog w) A (uP (.ref t) (.ref sl)) Q E s:=by
 have Ih:sizeOk (.seq ((items.toList.drop (bR items.size 0 lo)).take (bR items.size items.size hi-bR items.size 0 lo)).toArray):=by
  show((items.toList.drop (bR items.size 0 lo)).take (bR items.size items.size hi-bR items.size 0 lo)).toArray.size≤bM
  rw[fD,mV,Ae,jm];omega
 have hj:bR items.size items.size hi≤items.size:=ai3 _ _ (bK _) hi
 obtain⟨os,hos,hcs,hds⟩:=id hs
 have hTs:s.TypeIs (.ref sl) "slice":=⟨os,hos,hcs⟩
 unfold uP
 try with_reducible refine lW ?_
 first|refine aC (aW ?_)|skip
 refine aC (acZ ht.typeIs (by decide) ?_);refine aC (z7 (name:=fj "__getitem__") ht.typeIs JF
  (pL JF ht.typeIs entry_tuple_getitem ?_ (args_tuple_getitem _ _)))
 show aM _ _ (ab2 (.ref t) >>= _) _ _ s;refine aC (tupleItemsOf_ ht ?_);refine aC (Fw hTs ?_);rw[if_pos (by decide)];refine aC (Uh hs pl pu ?_);have hno:¬((((bR items.size 0 lo:Nat):Int)==0&&(1:Int)==1&&(bR items.size items.size hi-bR items.size 0 lo)==items.size)=true):=by
  intro q;rw[gQ,gQ] at q;have q1:((bR items.size 0 lo:Nat):Int)=0:=eq_of_beq q.1.1;have q2:bR items.size items.size hi-bR items.size 0 lo=items.size:=eq_of_beq q.2;exact hw ⟨by omega,by omega⟩
 show aM _ _ (if(((bR items.size 0 lo:Nat):Int)==0&&(1:Int)==1&&(bR items.size items.size hi-bR items.size 0 lo)==items.size)=true then _ else _) _ _ s;rw[if_neg hno,agq]
 first
  |exact aC (m:=JM _) (lU (aW ⟨_,rfl,aW h⟩) Ih)
  |exact aC (m:=JM _) (lU (aC (aW (aW ⟨_,rfl,aW h⟩))) Ih)
  |exact aC (aC (m:=JM _) (lU (aW (aW ⟨_,rfl,aW h⟩)) Ih))
  |exact aC (aC (m:=JM _) (lU (aW ⟨_,rfl,aW h⟩) Ih))
end
end HT
namespace L2
open PySem PySem.Spec PyProof.Rows
abbrev TO:=St→Hp→(Option Int→Hp→Prop)→Prop
def PO(X:Cx)(e:Option Expr)(t:TO):Prop:=
 ∀(pins:List (aa×Obj))(s:au)(σ:St)(H:Hp)(Q:Option Int→Hp→Prop),Inv X pins σ H s→t σ H Q→
  aM (model X.prog X.w) X.A (evalPart e X.env) (fun u s'=>∃o H',Inv X pins σ H' s'∧rF u o∧Q o H') X.xe s
def ahE:TO:=fun _ H Q=>Q none H
def akl(t:TE):TO:=fun σ H Q=>t σ H fun x H1=>∃i,x=.int i∧Q (some i) H1
theorem intsAre_of{ns:List Int}:∀{us:List Value},Vals (ns.map V.int) us→IntsAre us ns:=by
 induction ns with
 |nil=>intro us r;rw[jq] at r;cases r;exact .nil
 |cons n ns ih=>
  intro us r;rw[bY] at r;cases r with
  |cons r1 r2=>
   obtain⟨t,e⟩:=r1
   subst e;exact .cons n t (ih r2)
section
variable{X:Cx}{e:Expr}{te:TE}{lo hi:Option Expr}{tl th:TO}{pos p2:Pos}
theorem ahF:PO X none ahE:=by
 intro pins s σ H Q I h;rw[evalPart_none];exact aW ⟨none,H,I,.none,h⟩
theorem ahG(h:PE X e te):PO X (some e) (akl te):=by
 intro pins s σ H Q I hw;rw[evalPart_some];refine bh (h pins s σ H _ I hw) fun u s1 aJ=>?_
 obtain⟨x,H1,I1,r1,q1⟩:=aJ
 obtain⟨i,rfl,q⟩:=q1
 obtain⟨t,rfl⟩:=r1
 exact⟨some i,H1,I1,.int i t,q⟩
def ur(X:Cx)(r:V→Option Int→Option Int→Hp→VK→Prop):Prop:=
 ∀(pins:List (aa×Obj))(s:au)(σ:St)(H:Hp)(x:V)(v vl vu:Value)(lo hi:Option Int)(sl:aa)(Q:VK),Inv X pins σ H s→RelV x v→s.heap.IsSliceOf sl vl vu .none→rF vl lo→rF vu hi→r x lo hi H Q→
  ∃T id,typeLookup (.type T) "__getitem__"=pure (some (.builtin id))∧s.TypeIs v T∧aM (model X.prog X.w) X.A (uP v (.ref sl)) (EP X pins σ Q) X.xe s
theorem ur.or{r r':V→Option Int→Option Int→Hp→VK→Prop}(h:ur X r)(h':ur X r'):ur X (fun x lo hi H Q=>r x lo hi H Q∨r' x lo hi H Q):=by
 intro pins s σ H x v vl vu lo hi sl Q I rx hs pl pu q;rcases q with q|q
 ·exact h pins s σ H x v vl vu lo hi sl Q I rx hs pl pu q
 ·exact h' pins s σ H x v vl vu lo hi sl Q I rx hs pl pu q
def tSl(r:V→Option Int→Option Int→Hp→VK→Prop)(te:TE)(tl th:TO):TE:=fun σ H Q=>te σ H fun x H1=>tl σ H1 fun l H2=>th σ H2 fun u H3=>r x l u H3 Q
theorem agr{r:V→Option Int→Option Int→Hp→VK→Prop}(hr:ur X r)(he:PE X e te)(hl:PO X lo tl)(hu:PO X hi th):PE X (.Subscript e (.Slice lo hi none p2) pos) (tSl r te tl th):=by
 intro pins s σ H Q I h;refine Subscript_ (bh (he pins s σ H _ I h) fun v s1 aJ=>?_)
 obtain⟨x,H1,I1,r1,q1⟩:=aJ
 refine wpAny_Slice (bh (hl pins s1 σ H1 _ I1 q1) fun vl s2 ⟨l,H2,I2,pl,q2⟩=>bh (hu pins s2 σ H2 _ I2 q2) fun vu s3 aJ=>?_)
 obtain⟨u,H3,I3,pu,q3⟩:=aJ
 rw[evalPart_none];refine aW ?_;have I4:Inv X pins σ H3 {s3 with heap:=s3.heap.push {cls:=.type "slice",data:=.fields #[vl,vu,.none]}}:=I3.kept (t':=s3.toks) fun b ob q=>cB _ q
 obtain⟨T,id,hT,ht,hg⟩:=hr pins {s3 with heap:=s3.heap.push {cls:=.type "slice",data:=.fields #[vl,vu,.none]}} σ H3 x v vl vu l u s3.heap.objs.size Q I4 r1 (am1 ..) pl pu q3
 show aM (model X.prog X.w) X.A (subscriptTail e (.Slice lo hi none p2) v (.ref s3.heap.objs.size)) (EP X pins σ Q) X.xe {s3 with heap:=s3.heap.push {cls:=.type "slice",data:=.fields #[vl,vu,.none]}};exact tail_any (ops:=[.ref s3.heap.objs.size,v]) ht hT hg (by with_unfolding_all rfl)
def qC(xs:List V)(lo hi:Option Int):List V:=(xs.drop (HT.bR xs.length 0 lo)).take (HT.bR xs.length xs.length hi-HT.bR xs.length 0 lo)
theorem V1(xs:List V)(lo hi:Option Int):(qC xs lo hi).length≤xs.length:=by
 unfold qC;rw[mV,Ae];omega
def ak0(K:aH):V→Option Int→Option Int→Hp→VK→Prop:=fun x lo hi H Q=>∃a xs,x=.ref a∧cI K H a xs∧
 ¬(HT.bR xs.length 0 lo=0∧HT.bR xs.length xs.length hi=xs.length)∧∀p,H p=none→Q (.ref p) (upd H p (.tup (qC xs lo hi)))
theorem ai4:ur X (ak0 X.K):=by
 intro pins s σ H x v vl vu lo hi sl Q I rx hs pl pu h
 obtain⟨a,xs,rfl,hx,hw,q⟩:=h
 cases rx
 obtain⟨its,r,ht,hz⟩:=I.tuple hx
 have hlen:its.toArray.size=xs.length:=by rw[fD];exact r.length.symm
 refine⟨"tuple",_,PyProof.Rows.slot_tuple_getitem.lookup,ht.typeIs,?_⟩
 refine HT.acY ht hs pl pu (by rw[hlen];exact hw) ?_ (by rw[hlen];exact hz);rw[hlen]
 refine⟨.ref s.heap.objs.size,_,I.laid (t':=s.toks) (o:=.tup (qC xs lo hi)) (fun b ob q=>cB _ q) (bK _) ?_,rfl,q _ (I.hok.fresh (bK _))⟩
 exact⟨jL (V1 xs lo hi) hz,_,(r.drop (HT.bR xs.length 0 lo)).take (HT.bR xs.length xs.length hi-HT.bR xs.length 0 lo),IsTup.new _ _⟩
def aam(K:aH):R2:=fun x y H Q=>∃a b xs ys,x=.ref a∧y=.ref b∧cI K H a xs∧cI K H b ys∧xs≠[]∧xs.length+ys.length≤bM∧
 (ys=[]→Q (.ref a) H)∧(ys≠[]→∀p,H p=none→Q (.ref p) (upd H p (.tup (xs++ys))))
theorem Vals.OJ{xs:List V}{us:List Value}(r:Vals xs us):us=[]↔xs=[]:=by
 cases r with
 |nil=>simp
 |cons _ _=>simp
theorem ahH:cA X (nG .Add) (aam X.K):=by
 intro pins s σ H x y v u Q I rx ry h
 obtain⟨a,b,xs,ys,rfl,rfl,ha,hb,hx,hz,q1,q2⟩:=h
 cases rx;cases ry
 obtain⟨its,r1,p1,_⟩:=I.tuple ha
 obtain⟨its2,r2,p2,_⟩:=I.tuple hb
 refine HT.ahD p1 p2 (fun z=>hx (r1.OJ.mp z)) (fun z=>⟨.ref a,H,I,rfl,q1 (r2.OJ.mp z)⟩) (fun z=>?_) (by rw[←r1.length,←r2.length];exact hz)
 refine⟨.ref s.heap.objs.size,_,I.laid (t':=s.toks) (o:=.tup (xs++ys)) (fun b ob q=>cB _ q) (bK _) ?_,rfl,q2 (fun w=>z (r2.OJ.mpr w)) _ (I.hok.fresh (bK _))⟩
 exact⟨by rw[fP];exact hz,_,r1.append r2,IsTup.new _ _⟩
end
def mO(n:Nat)(i:Int):Option Nat:=if 0≤i then(if i<n then some i.toNat else none) else if -(n:Int)≤i then some (i+n).toNat else none
def dJ{α:Type}(xs:List α)(i:Int):Option α:=(mO xs.length i).bind fun j=>xs[j]?
theorem Yt{n:Nat}{i:Int}{j:Nat}(h:mO n i=some j):Mt i n=some j∧j<n∧-(n:Int)≤i∧i<n:=by
 unfold mO at h;by_cases h0:0≤i
 ·rw[if_pos h0] at h;by_cases h1:i<n
  ·rw[if_pos h1] at h;have e:i.toNat=j:=fW h
   exact⟨by rw[V2 h0 h1,e],by omega,by omega,h1⟩
  ·rw[if_neg h1] at h;cases h
 ·rw[if_neg h0] at h;by_cases h1:-(n:Int)≤i
  ·rw[if_pos h1] at h;have e:(i+n).toNat=j:=fW h
   exact⟨by rw[Vx (by omega) h1,e],by omega,h1,by omega⟩
  ·rw[if_neg h1] at h;cases h
theorem O1{α:Type}{xs:List α}{i:Int}{v:α}(h:dJ xs i=some v):∃j,Mt i xs.length=some j∧xs[j]?=some v∧j<xs.length∧-(xs.length:Int)≤i∧i<xs.length:=by
 unfold dJ at h;cases e:mO xs.length i with
 |none=>rw[e] at h;cases h
 |some j=>
  rw[e] at h
  obtain⟨h1,h2,h3,h4⟩:=Yt e
  exact⟨j,h1,h,h2,h3,h4⟩
theorem uQ{α:Type}{xs:List α}{j:Nat}{v:α}(h:xs[j]?=some v):dJ xs (j:Int)=some v:=by
 have hj:j<xs.length:=(jf.mp h).1;have e:mO xs.length (j:Int)=some j:=by
  unfold mO;rw[if_pos (by omega),if_pos (by omega)];simp
 unfold dJ;rw[e];exact h
def Hf(b:Expr):Prop:=∀o i,V3 b false o i=operate [o,i] (uP o i)
def pD(X:Cx)(r:R2):Prop:=
 ∀(value slice:Expr)(pins:List (aa×Obj))(s:au)(σ:St)(H:Hp)(x y:V)(v u:Value)(Q:VK),Inv X pins σ H s→RelV x v→RelV y u→r x y H Q→
  V3 slice false v u=operate [v,u] (uP v u)→aM (model X.prog X.w) X.A (subscriptTail value slice v u) (EP X pins σ Q) X.xe s
def zU(X:Cx)(id:String)(r:V→List V→Hp→VK→Prop):Prop:=
 ∀(pins:List (aa×Obj))(s:au)(σ:St)(H:Hp)(x:V)(xs:List V)(v:Value)(us:List Value)(Q:VK),Inv X pins σ H s→RelV x v→Vals xs us→r x xs H Q→
  aM (model X.prog X.w) X.A (call (.builtin id) (v::us)) (EP X pins σ Q) X.xe s
section
variable{X:Cx}{a b:Expr}{ta tb:TE}{pos:Pos}
theorem pD.or{r r':R2}(h:pD X r)(h':pD X r'):pD X (fun x y H Q=>r x y H Q∨r' x y H Q):=by
 intro value slice pins s σ H x y v u Q I rx ry q hs;rcases q with q|q
 ·exact h value slice pins s σ H x y v u Q I rx ry q hs
 ·exact h' value slice pins s σ H x y v u Q I rx ry q hs
theorem zU.or{id:String}{r r':V→List V→Hp→VK→Prop}(h:zU X id r)(h':zU X id r'):zU X id (fun x xs H Q=>r x xs H Q∨r' x xs H Q):=by
 intro pins s σ H x xs v us Q I rx rs q;rcases q with q|q
 ·exact h pins s σ H x xs v us Q I rx rs q
 ·exact h' pins s σ H x xs v us Q I rx rs q
theorem QM{r:R2}(hr:pD X r)(ha:PE X a ta)(hb:PE X b tb)(hs:Hf b):PE X (.Subscript a b pos) (Dt r ta tb):=by
 intro pins s σ H Q I h;exact Subscript_ (Rb ha hb I h fun v u s2 x y H2 I2 rx ry q=>hr a b pins s2 σ H2 x y v u Q I2 rx ry q (hs _ _))
def aaL(K:aH):R2:=fun x y H Q=>∃p xs i v,x=.ref p∧y=.int i∧bO K H p xs∧dJ xs i=some v∧Q v H
def aaM(K:aH):R2:=fun x y H Q=>∃p xs i v,x=.ref p∧y=.int i∧cI K H p xs∧dJ xs i=some v∧Q v H
def aaN:R2:=fun x y H Q=>∃z i c,x=.str z∧y=.int i∧z.length≤bM∧dJ z.cps.toList i=some c∧Q (.str ⟨#[c]⟩) H
theorem O2:pD X (aaL X.K):=by
 intro value slice pins s σ H x y v u Q I rx ry h hs
 obtain⟨p,xs,i,z,rfl,rfl,hq,he,q⟩:=h
 cases rx
 obtain⟨t,rfl⟩:=ry
 obtain⟨its,r,pl,hz⟩:=I.list hq
 obtain⟨j,h1,h2,h3,h4,h5⟩:=O1 he
 obtain⟨w,ew,rw'⟩:=r.get h2
 have hl:=r.length;have hn:=wQ;have fin:EP X pins σ Q w s:=⟨z,H,I,rw',q⟩
 by_cases h0:0≤i
 ·have hj:i.toNat=j:=by
   rw[V2 h0 h5] at h1;exact fW h1
  exact item_listR pl.isList h0 (by omega) (by rw[hj];simpa using ew) fin hs
 ·have hj:(i+(its.toArray.size:Int)).toNat=j:=by
   rw[Vx (by omega) h4] at h1;rw[fD,←hl];exact fW h1
  exact subscriptTail_builtinR (x:=w) pl.isList.typeIs slot_list_getitem.lookup
   (wpAny_getItem_list_neg (Q:=fun r s'=>r=w∧EP X pins σ Q r s') pl.isList (by omega) (by rw[fD]<;>omega) (by omega) (by rw[hj];simpa using ew) ⟨rfl,fin⟩) hs
theorem ai5:pD X (aaM X.K):=by
 intro value slice pins s σ H x y v u Q I rx ry h hs
 obtain⟨p,xs,i,z,rfl,rfl,hq,he,q⟩:=h
 cases rx
 obtain⟨t,rfl⟩:=ry
 obtain⟨its,r,pl,hz⟩:=I.tuple hq
 obtain⟨j,h1,h2,h3,h4,h5⟩:=O1 he
 obtain⟨w,ew,rw'⟩:=r.get h2
 have hl:=r.length;have hn:=wQ;have fin:EP X pins σ Q w s:=⟨z,H,I,rw',q⟩
 exact subscriptTail_builtinR (x:=w) pl.typeIs slot_tuple_getitem.lookup
  (getItem_tuple (j:=j) (Q:=fun r s'=>r=w∧EP X pins σ Q r s') pl (by omega) (by omega) (by rw[fD,←hl];exact h1) (by simpa using ew) ⟨rfl,fin⟩) hs
theorem ai6:pD X aaN:=by
 intro value slice pins s σ H x y v u Q I rx ry h hs
 obtain⟨z,i,c,rfl,rfl,hz,he,q⟩:=h
 obtain⟨t,rfl⟩:=rx
 obtain⟨t',rfl⟩:=ry
 obtain⟨j,h1,h2,h3,h4,h5⟩:=O1 he
 have hl:z.cps.toList.length=z.length:=by simp[Str.length]
 rw[hl] at h1 h4 h5;have hn:=wQ;exact tail_any (V9 s z t) slot_str_getitem.lookup (getItem_str (c:=c) (by
  have e1:decide (i< -(2^63:Int))=false:=decide_eq_false (by omega);have e2:decide (i≥2^63)=false:=decide_eq_false (by omega);rw[e1,e2,Bool.or_false]) (by rw[h1];simpa using h2) ⟨.str ⟨#[c]⟩,H,I.tok _,⟨_,rfl⟩,q⟩) hs
def rIx(K:aH):R2:=fun x y H Q=>aaL K x y H Q∨aaM K x y H Q∨aaN x y H Q
theorem ai7:pD X (rIx X.K):=O2.or (ai5.or ai6)
theorem aeM(its:List Value)(n j:Nat)(u:Value):j7 (·.setIfInBounds j u) {cls:=.type "list",data:=.seq its.toArray n}={cls:=.type "list",data:=.seq (its.set j u).toArray n}:=by
 simp[j7]
theorem Inv.lst{pins:List (aa×Obj)}{σ:St}{H:Hp}{s:au}{p:aa}{xs:List V}(I:Inv X pins σ H s)(h:H p=some (.lst xs)):
  ∃(its:List Value)(n:Nat),Vals xs its∧s.heap.get? p=some {cls:=.type "list",data:=.seq its.toArray n}∧xs.length≤bM:=by
 obtain⟨z,its,n,r,e⟩:=I.hok p _ h
 exact⟨its,n,r,e,z⟩
theorem Inv.ai8{pins:List (aa×Obj)}{σ:St}{H:Hp}{s:au}{p:aa}{xs ys:List V}{its its':List Value}{n n':Nat}{f:Obj→Obj}(I:Inv X pins σ H s)(h:H p=some (.lst xs))
  (ho:s.heap.get? p=some {cls:=.type "list",data:=.seq its.toArray n})(hf:f {cls:=.type "list",data:=.seq its.toArray n}={cls:=.type "list",data:=.seq its'.toArray n'})(r:Vals ys its')(hz:ys.length≤bM)(t:Nat):
  Inv X pins σ (upd H p (.lst ys)) {s with heap:=s.heap.update p f,toks:=t}:=by
 have e:(s.heap.update p f).get? p=some {cls:=.type "list",data:=.seq its'.toArray n'}:=by
  rw[ye f ho (by rw[hf]<;>rfl),hf]
 refine I.write (x:=p) (e:=p) (by rw[h];trivial) (.inl rfl) (fun b u hb q=>(qQ _ _ (jC hb)).trans q) ⟨_,e⟩ ?_
 exact⟨hz,its',n',r,e⟩
def QS:V→V→V→Hp→(Hp→Prop)→Prop:=fun o i v H Q=>∃p xs k j,o=.ref p∧i=.int k∧H p=some (.lst xs)∧mO xs.length k=some j∧Q (upd H p (.lst (xs.set j v)))
theorem set_list:uc X QS:=by
 intro pins s σ H o i v ov iv u Q I ro ri rv h
 obtain⟨p,xs,k,j,rfl,rfl,hp,hj,q⟩:=h
 cases ro
 obtain⟨t,rfl⟩:=ri
 obtain⟨its,n,r,ho,hz⟩:=I.lst hp
 obtain⟨h1,h2,h3,h4⟩:=Yt hj
 have hl:=r.length;have hn:=wQ;have I':Inv X pins σ (upd H p (.lst (xs.set j v))) {s with heap:=s.heap.update p (j7 (·.setIfInBounds j u))}:=
  I.ai8 hp ho (aeM its n j u) (r.set rv j) (by rw[uD];exact hz) s.toks
 by_cases h0:0≤k
 ·have hk:k.toNat=j:=by
   rw[V2 h0 h4] at h1;exact fW h1
  exact PySem.W.ki_setAt ho h0 (by omega) (by rw[fD,←hl];exact h4) (by rw[hk];exact⟨_,I',q⟩)
 ·have hk:(k+(its.toArray.size:Int)).toNat=j:=by
   rw[Vx (by omega) h3] at h1;rw[fD,←hl];exact fW h1
  exact PySem.W.ki_setBack ho (by omega) (by rw[fD,←hl];exact h3) (by omega) (by rw[hk];exact⟨_,I',q⟩)
theorem ad0(lo hi:Option Int)(n:Nat):(yI lo hi none n).1=((HT.bR n 0 lo:Nat):Int)∧(yI lo hi none n).2.1=((HT.bR n n hi:Nat):Int)∧(yI lo hi none n).2.2=1:=by
 refine⟨?_,?_,rfl⟩
 ·cases lo with
  |none=>simp[yI,HT.bR]
  |some i=>
   simp only[yI,HT.bR,ade,show(1:Int)>0 by decide,if_true];by_cases h:i<0
   ·simp only[h,if_true]<;>omega
   ·simp only[h,if_false]<;>omega
 ·cases hi with
  |none=>simp[yI,HT.bR]
  |some i=>
   simp only[yI,HT.bR,ade,show(1:Int)>0 by decide,if_true];by_cases h:i<0
   ·simp only[h,if_true]<;>omega
   ·simp only[h,if_false]<;>omega
theorem adK(its:List Value)(lo hi:Option Int):slicePick its.toArray lo hi none=((its.drop (HT.bR its.length 0 lo)).take (HT.bR its.length its.length hi-HT.bR its.length 0 lo)).toArray:=by
 obtain⟨h1,h2,h3⟩:=ad0 lo hi its.toArray.size
 unfold slicePick;rw[h1,h2,h3];simp only[sliceRange_one,pick_run,fD]<;>rfl
def ak1(K:aH):V→Option Int→Option Int→Hp→VK→Prop:=fun x lo hi H Q=>∃a xs,x=.ref a∧bO K H a xs∧∀p,H p=none→Q (.ref p) (upd H p (.lst (qC xs lo hi)))
theorem ahI:ur X (ak1 X.K):=by
 intro pins s σ H x v vl vu lo hi sl Q I rx hs pl pu h
 obtain⟨a,xs,rfl,hx,q⟩:=h
 cases rx
 obtain⟨its,r,ht,hz⟩:=I.list hx
 have hlen:=r.length
 refine⟨"list",_,slot_list_getitem.lookup,ht.isList.typeIs,?_⟩
 refine wpAny_getItem_list_slice ht.isList hs pl pu .none (by simp) ?_ (by rw[fD]<;>omega);rw[adK,←hlen]
 refine⟨.ref s.heap.objs.size,_,I.laid (t':=s.toks) (o:=.lst (qC xs lo hi)) (fun b ob q=>cB _ q) (bK _) ?_,rfl,q _ (I.hok.fresh (bK _))⟩
 exact⟨jL (V1 xs lo hi) hz,_,0,(r.drop (HT.bR xs.length 0 lo)).take (HT.bR xs.length xs.length hi-HT.bR xs.length 0 lo),gP _ rfl⟩
def nM:V→Bool
 |.non=>true
 |.bl _=>true
 |.int _=>true
 |.str _=>true
 |_=>false
def qH:V→V→Bool
 |.non,.non=>true
 |.bl a,.bl b=>a==b
 |.bl a,.int b=>(if a then 1 else 0)==b
 |.int a,.bl b=>a==(if b then 1 else 0)
 |.int a,.int b=>a==b
 |.str a,.str b=>a==b
 |_,_=>false
theorem Qh{A:bU}{s:au}{y x:V}{u v:Value}(ry:RelV y u)(rx:RelV x v)(fy:nM y=true)(fx:nM x=true):Gp A s u v (qH y x):=by
 cases y with
 |non=>
  cases ry;cases x with
  |non=>cases rx;exact ado _
  |bl b=>cases rx;exact SeqAt.EqAt.none_bool b
  |int b=>obtain⟨t,rfl⟩:=rx;exact SeqAt.EqAt.none_int b t
  |str b=>obtain⟨t,rfl⟩:=rx;exact SeqAt.EqAt.none_str b t
  |_=>exact absurd (show false=true from fx) iz
 |bl a=>
  cases ry;cases x with
  |non=>cases rx;exact SeqAt.EqAt.bool_none a
  |bl b=>cases rx;exact SeqAt.EqAt.bool_bool a b
  |int b=>obtain⟨t,rfl⟩:=rx;exact SeqAt.EqAt.bool_int a b t
  |str b=>obtain⟨t,rfl⟩:=rx;exact SeqAt.EqAt.bool_str a b t
  |_=>exact absurd (show false=true from fx) iz
 |int a=>
  obtain⟨t',rfl⟩:=ry
  cases x with
  |non=>cases rx;exact SeqAt.EqAt.int_none a t'
  |bl b=>cases rx;exact SeqAt.EqAt.int_bool a t' b
  |int b=>obtain⟨t,rfl⟩:=rx;exact acM a t' b t
  |str b=>obtain⟨t,rfl⟩:=rx;exact acJ a t' b t
  |_=>exact absurd (show false=true from fx) iz
 |str a=>
  obtain⟨t',rfl⟩:=ry
  cases x with
  |non=>cases rx;exact SeqAt.EqAt.str_none a t'
  |bl b=>cases rx;exact SeqAt.EqAt.str_bool a t' b
  |int b=>obtain⟨t,rfl⟩:=rx;exact acK a t' b t
  |str b=>obtain⟨t,rfl⟩:=rx;exact SeqAt.EqAt.str_str a t' b t
  |_=>exact absurd (show false=true from fx) iz
 |_=>exact absurd (show false=true from fy) iz
def mQ(x:V)(u:Value):Bool:=match u with
 |.none=>qH .non x
 |.bool b=>qH (.bl b) x
 |.int i _=>qH (.int i) x
 |.str z _=>qH (.str z) x
 |_=>false
theorem Zw{x y:V}{u:Value}(r:RelV y u)(f:nM y=true):mQ x u=qH y x:=by
 cases y with
 |non=>cases r;rfl
 |bl b=>cases r;rfl
 |int i=>obtain⟨t,rfl⟩:=r;rfl
 |str z=>obtain⟨t,rfl⟩:=r;rfl
 |_=>exact absurd (show false=true from f) iz
theorem Bp{x:V}:∀{xs:List V}{us:List Value},Vals xs us→xs.all nM=true→us.any (mQ x)=xs.any fun y=>qH y x
 |_,_,.nil,_=>rfl
 |y::xs,u::us,.cons r t,f=>by
  rw[Kv,gQ] at f;rw[Ff,Ff,Zw r f.1,Bp t f.2]
theorem Bd{A:bU}{s:au}{x:V}{v:Value}(rx:RelV x v)(fx:nM x=true):∀{xs:List V}{us:List Value},Vals xs us→xs.all nM=true→∀u∈us,Gp A s u v (mQ x u)
 |_,_,.nil,_=>fun u hu=>by cases hu
 |y::xs,u::us,.cons r t,f=>fun u' hu=>by
  rw[Kv,gQ] at f;rcases bN.mp hu with rfl|hu
  ·rw[Zw r f.1];exact Qh r rx f.1 fx
  ·exact Bd rx fx t f.2 u' hu
def inV(x:V)(xs:List V):Bool:=xs.any fun y=>qH y x
def Jo(K:aH)(neg:Bool):R2:=fun x y H Q=>∃p xs,y=.ref p∧(bO K H p xs∨cI K H p xs)∧nM x=true∧xs.all nM=true∧Q (.bl (if neg then !inV x xs else inV x xs)) H
theorem afw:cA X (dH .In) (Jo X.K false):=by
 intro pins s σ H x y v u Q I rx ry h
 obtain⟨p,xs,rfl,hq,fx,fs,q⟩:=h
 cases ry;rcases hq with hq|hq
 ·obtain⟨its,r,pl,hz⟩:=I.list hq
  refine SeqAt.in_listAt (mQ x) pl.isList (fun w hw=>Bd rx fx r fs w (by simpa using hw)) ⟨.bl _,H,I,rfl,?_⟩;rw[show its.toArray.any (mQ x)=its.any (mQ x) by simp,Bp r fs];exact q
 ·obtain⟨its,r,pl,hz⟩:=I.tuple hq
  refine SeqAt.in_tupleAt (mQ x) pl (fun w hw=>Bd rx fx r fs w (by simpa using hw)) ⟨.bl _,H,I,rfl,?_⟩;rw[show its.toArray.any (mQ x)=its.any (mQ x) by simp,Bp r fs];exact q
theorem ad3:cA X (dH .NotIn) (Jo X.K true):=by
 intro pins s σ H x y v u Q I rx ry h
 obtain⟨p,xs,rfl,hq,fx,fs,q⟩:=h
 cases ry;rcases hq with hq|hq
 ·obtain⟨its,r,pl,hz⟩:=I.list hq
  refine SeqAt.notIn_listAt (mQ x) pl.isList (fun w hw=>Bd rx fx r fs w (by simpa using hw)) ⟨.bl _,H,I,rfl,?_⟩;rw[show its.toArray.any (mQ x)=its.any (mQ x) by simp,Bp r fs];exact q
 ·obtain⟨its,r,pl,hz⟩:=I.tuple hq
  refine SeqAt.notIn_tupleAt (mQ x) pl (fun w hw=>Bd rx fx r fs w (by simpa using hw)) ⟨.bl _,H,I,rfl,?_⟩;rw[show its.toArray.any (mQ x)=its.any (mQ x) by simp,Bp r fs];exact q
theorem Vy:jb X (.builtin "len") (fun xs H Q=>∃p ys,xs=[.ref p]∧(bO X.K H p ys∨cI X.K H p ys)∧Q (.int ys.length) H):=by
 intro pins s σ H xs us Q I r h
 obtain⟨p,ys,rfl,hq,q⟩:=h
 obtain⟨u,rfl,rx⟩:=vals1 r
 cases rx;have hn:=wQ;rcases hq with hq|hq
 ·obtain⟨its,r',pl,hz⟩:=I.list hq
  have hlen:=r'.length;exact Calls.call_len_list pl.isList (by simp only[fD]<;>omega) ⟨.int ys.length,H,I.tok _,⟨s.toks+1,by rw[fD,hlen]⟩,q⟩
 ·obtain⟨its,r',pl,hz⟩:=I.tuple hq
  have hlen:=r'.length;exact len_tuple pl (by simp only[fD]<;>omega) ⟨.int ys.length,H,I.tok _,⟨s.toks+1,by rw[fD,hlen]⟩,q⟩
theorem ad4:jb X (.builtin "len") (fun xs H Q=>∃z,xs=[.str z]∧z.length≤bM∧Q (.int z.length) H):=by
 intro pins s σ H xs us Q I r h
 obtain⟨z,rfl,hz,q⟩:=h
 obtain⟨u,rfl,t,rfl⟩:=vals1 r
 have hn:=wQ;exact len_str (by omega) ⟨.int z.length,H,I.tok _,⟨_,rfl⟩,q⟩
theorem jb.or{f:Value}{r r':List V→Hp→VK→Prop}(h:jb X f r)(h':jb X f r'):jb X f (fun xs H Q=>r xs H Q∨r' xs H Q):=by
 intro pins s σ H xs us Q I rs q;rcases q with q|q
 ·exact h pins s σ H xs us Q I rs q
 ·exact h' pins s σ H xs us Q I rs q
theorem ad5:jb X (.type "list") (fun xs H Q=>∃p ys,xs=[.ref p]∧(bO X.K H p ys∨cI X.K H p ys)∧∀l,H l=none→Q (.ref l) (upd H l (.lst ys))):=by
 intro pins s σ H xs us Q I r h
 obtain⟨p,ys,rfl,hq,q⟩:=h
 obtain⟨u,rfl,rx⟩:=vals1 r
 cases rx;have fin:∀(its:List Value),Vals ys its→ys.length≤bM→∀(h':aV)(c':Nat),(∀b o',s.heap.get? b=some o'→h'.get? b=some o')→
   h'.get? s.heap.objs.size=some {cls:=.type "list",dict:=none,data:=.seq its.toArray c',slots:=#[]}→EP X pins σ Q (.ref s.heap.objs.size) {s with heap:=h'}:=fun its r' hz h' c' kp e=>
  ⟨.ref s.heap.objs.size,_,I.laid (t':=s.toks) kp (bK _) (show fM X.prog X.w _ h' _ (.lst ys) from⟨hz,its,c',r',e⟩),rfl,q _ (I.hok.fresh (bK _))⟩
 rcases hq with hq|hq
 ·obtain⟨its,r',pl,hz⟩:=I.list hq
  have hlen:=r'.length
  obtain⟨o,ho,hc,n,hd⟩:=pl.isList
  exact call_list_seq p (.inl rfl) ho hc hd (fun h' c' kp e=>fin its r' hz h' c' kp e) (by simp only[fD]<;>omega)
 ·obtain⟨its,r',pl,hz⟩:=I.tuple hq
  have hlen:=r'.length
  obtain⟨o,ho,hc,n,hd⟩:=pl
  exact call_list_seq p (.inr rfl) ho hc hd (fun h' c' kp e=>fin its r' hz h' c' kp e) (by simp only[fD]<;>omega)
theorem Vm:jb X (.type "tuple") (fun xs H Q=>∃p ys,xs=[.ref p]∧((bO X.K H p ys∧∀l,H l=none→Q (.ref l) (upd H l (.tup ys)))∨(cI X.K H p ys∧Q (.ref p) H))):=by
 intro pins s σ H xs us Q I r h
 obtain⟨p,ys,rfl,h⟩:=h
 obtain⟨u,rfl,rx⟩:=vals1 r
 cases rx;rcases h with⟨hq,q⟩|⟨hq,q⟩
 ·obtain⟨its,r',pl,hz⟩:=I.list hq
  have hlen:=r'.length;refine call_tuple_list pl.isList (fun h' kp=>?_) (by simp only[fD]<;>omega);have I1:Inv X pins σ H {s with heap:=h'}:=I.kept (t':=s.toks) kp;have I2:Inv X pins σ (upd H h'.objs.size (.tup ys)) {s with heap:=h'.push {cls:=.type "tuple",data:=.seq its.toArray}}:=
   I1.laid (t':=s.toks) (fun b o e=>cB _ e) (bK _) (show fM X.prog X.w _ _ _ (.tup ys) from⟨hz,its,r',IsTup.new _ _⟩)
  exact⟨.ref h'.objs.size,_,I2,rfl,q _ (I1.hok.fresh (bK _))⟩
 ·obtain⟨its,r',pl,hz⟩:=I.tuple hq
  exact call_tuple_same pl ⟨.ref p,H,I,rfl,q⟩
def tyV(K:aH)(T:String)(x:V)(H:Hp):Prop:=match x with
 |.str _=>T="str"
 |.int _=>T="int"
 |.ref p=>(T="list"∧∃xs,bO K H p xs)∨(T="tuple"∧∃o,K.lookup p=some o∧o.cls=.type "tuple"∧o.dict=none)∨
   (T="dict"∧((∃kvs,H p=some (.dK kvs))∨∃kvs,H p=some (.dT kvs)))∨(T="set"∧∃S n,H p=some (.set S n))
 |_=>False
theorem ai9{pins:List (aa×Obj)}{σ:St}{H:Hp}{s:au}{T:String}{x:V}{v:Value}(I:Inv X pins σ H s)(r:RelV x v)(ty:tyV X.K T x H):
  s.TypeIs v T∧∀a,v=.ref a→∃ob,s.heap.get? a=some ob∧ob.dict=none:=by
 cases x with
 |str z=>
  obtain⟨t,rfl⟩:=r
  cases(show T="str" from ty)
  exact⟨V9 s z t,fun _ e=>nomatch e⟩
 |int i=>
  obtain⟨t,rfl⟩:=r
  cases(show T="int" from ty)
  exact⟨typeIs_int s i t,fun _ e=>nomatch e⟩
 |ref p=>
  cases r;rcases ty with⟨rfl,xs,hq⟩|⟨rfl,o,hk,hc,hd⟩|⟨rfl,hk⟩|⟨rfl,S,n,hk⟩
  ·obtain⟨its,_,pl,_⟩:=I.list hq
   refine⟨pl.isList.typeIs,fun a e=>?_⟩
   cases e
   obtain⟨o,n,e,c,hd,_⟩:=pl
   exact⟨o,e,hd⟩
  ·refine⟨⟨o,I.lA p o hk,hc⟩,fun a e=>?_⟩
   cases e
   exact⟨o,I.lA _ o hk,hd⟩
  ·have z:∃o,s.heap.get? p=some o∧o.ExactDict:=by
    rcases hk with⟨kvs,hk⟩|⟨kvs,hk⟩
    ·obtain⟨_,_,_,_,o,_,_,e,ex,_⟩:=I.hok p _ hk
     exact⟨o,e,ex⟩
    ·obtain⟨_,_,_,_,o,_,_,e,ex,_⟩:=I.hok p _ hk
     exact⟨o,e,ex⟩
   obtain⟨o,e,ex⟩:=z
   refine⟨⟨o,e,ex.1⟩,fun a e2=>?_⟩
   cases e2
   exact⟨o,e,ex.2.1⟩
  ·obtain⟨o,_,_,_,e,ex,_⟩:=I.hok p _ hk
   refine⟨⟨o,e,ex.1⟩,fun a e2=>?_⟩
   cases e2
   exact⟨o,e,ex.2.1⟩
 |_=>exact pQ ty
def tBM(K:aH)(T:String)(r:V→List V→Hp→VK→Prop)(to:TE)(t:TA):TE:=fun σ H Q=>to σ H fun x H1=>tyV K T x H1∧t σ H1 fun xs H2=>r x xs H2 Q
variable{o e:Expr}{es:List Expr}{to:TE}{t:TA}{name:Str}{apos cpos:Pos}{T id:String}{r:V→List V→Hp→VK→Prop}
theorem Cu(pa:PlainAttrs T)(slot:Slot T name id)(hty:typeOf (.builtin id)=pure (.type "method_descriptor"))(hm:zU X id r)(ho:PE X o to)(ha:PA X (e::es) t)
  (hbase:sW o name X.env (eval o X.env)=eval o X.env:=by rfl)
  (hfew:((eO cpos (aZ (e::es) X.env)).all (fun x=>!x.1)&&(wK cpos (wC [] X.env)).all (fun x=>x.1.isSome)
   &&decide ((e::es).length+([]:List lG).length+(if([]:List lG).isEmpty then 0 else 1)<30))=true:=by rfl)
  (hline:(apos.endLine==cpos.line)=true:=by rfl)(hs:aZ (e::es) X.env=(false,eval e X.env)::aZ es X.env:=by rfl)(hplain:(eO cpos (aZ es X.env)).any (·.1)=false:=by rfl):
  PE X (.Call (.Attribute o name apos) (e::es) [] cpos) (tBM X.K T r to t):=by
 intro pins s σ H Q I h;refine wpAny_Call_method_late hbase hfew hline rfl (bh (ho pins s σ H _ I h) fun v s1 aJ=>?_)
 obtain⟨x,H1,I1,r1,ty,q1⟩:=aJ
 obtain⟨h1,h2⟩:=ai9 I1 r1 ty
 refine⟨T,id,pa,slot,hty,h1,h2,?_⟩
 have hA:=ha cpos pins s1 σ H1 _ I1 q1;rw[hs] at hA⊢;refine aci (by show(false||(eO cpos (aZ es X.env)).any (·.1))=false;rw[hplain]<;>rfl) (acA ?_);exact bh hA fun us s2 ⟨vs,H2,I2,r2,q2⟩=>hm pins s2 σ H2 x vs v us Q I2 r1 r2 q2
end
def qI(X:Cx)(id:String)(r:V→List V→Hp→VK→Prop):Prop:=
 ∀(pins:List (aa×Obj))(s:au)(σ:St)(H:Hp)(x:V)(xs:List V)(v:Value)(us:List Value)(Q:VK),Inv X pins σ H s→RelV x v→Vals xs us→r x xs H Q→
  aM (model X.prog X.w) X.A (call (.builtin id) (v::us)) (EP X pins σ Q) X.xe s
theorem Vals.one:∀{x:V}{us:List Value},Vals [x] us→∃u,us=[u]∧RelV x u
 |_,_,.cons r .nil=>⟨_,rfl,r⟩
theorem Vals.two:∀{x y:V}{us:List Value},Vals [x,y] us→∃u v,us=[u,v]∧RelV x u∧RelV y v
 |_,_,_,.cons r (.cons q .nil)=>⟨_,_,rfl,r,q⟩
theorem Vals.eraseIdx:∀{xs:List V}{us:List Value}(i:Nat),Vals xs us→Vals (xs.eraseIdx i) (us.eraseIdx i)
 |_,_,_,.nil=>.nil
 |_,_,0,.cons _ t=>t
 |_,_,i+1,.cons r t=>.cons r (Vals.eraseIdx i t)
theorem Vals.reverse{xs:List V}{us:List Value}(h:Vals xs us):Vals xs.reverse us.reverse:=by
 induction h with
 |nil=>exact .nil
 |cons r t ih=>rw[JX,JX];exact Vals.append ih (.cons r .nil)
theorem WD{α:Type}:∀(l:List α)(i:Nat),(l.eraseIdx i).length≤l.length
 |[],_=>bK _
 |_::_,0=>wF _
 |_::r,i+1=>Ui (WD r i)
section
variable{X:Cx}{pins:List (aa×Obj)}{σ:St}{H:Hp}{s:au}{l b:aa}{xs ys zs:List V}
theorem Inv.Ri{its its':List Value}{n:Nat}{f:Array Value→Array Value}{t':Nat}(I:Inv X pins σ H s)(hH:H l=some (.lst xs))
  (e:s.heap.get? l=some {cls:=.type "list",data:=.seq its.toArray n})(hf:f its.toArray=its'.toArray)(hv:Vals ys its')(hz:ys.length≤bM):
  Inv X pins σ (upd H l (.lst ys)) {s with heap:=s.heap.update l (j7 f),toks:=t'}:=by
 have q:=PySem.IsL.update e f;rw[hf] at q;refine I.write (x:=l) (e:=l) (by rw[hH];exact trivial) (.inl rfl) (fun b' u hb hu=>(qQ s.heap (j7 f) (jC hb)).trans hu) ⟨_,q⟩ ?_
 exact⟨hz,its',_,hv,q⟩
theorem Inv.ak2{its:List Value}{t':Nat}(I:Inv X pins σ H s)(hv:Vals ys its)(hz:ys.length≤bM):
  Inv X pins σ (upd H s.heap.objs.size (.lst ys)) {s with heap:=s.heap.push {cls:=.type "list",data:=.seq its.toArray},toks:=t'}:=
 I.laid (fun _ _ q=>cB _ q) (bK _) ⟨hz,its,0,hv,gP _ rfl⟩
theorem Inv.fresh(I:Inv X pins σ H s):H s.heap.objs.size=none:=I.hok.fresh (bK _)
theorem Inv.zN(I:Inv X pins σ H s)(hH:H l=some (.lst xs)):xs.length≤bM∧∃(its:List Value)(n:Nat),Vals xs its∧xs.length=its.length∧s.heap.get? l=some {cls:=.type "list",data:=.seq its.toArray n}:=by
 obtain⟨z,its,n,r,e⟩:=I.hok l _ hH
 exact⟨z,its,n,r,r.length,e⟩
theorem ags{n:Nat}(h:n≤bM):Tp n=false:=by
 unfold Tp;exact decide_eq_false (by omega)
end
section
variable{X:Cx}
def ahJ:V→List V→Hp→VK→Prop:=fun x vs H Q=>∃l xs y,x=.ref l∧vs=[y]∧H l=some (.lst xs)∧xs.length<bM∧Q .non (upd H l (.lst (xs++[y])))
theorem Mu:qI X "list.append" ahJ:=by
 intro pins s σ H x vs v us Q I rx rv h
 obtain⟨l,xs,y,rfl,rfl,hH,hz,q⟩:=h
 cases rx
 obtain⟨u,rfl,ru⟩:=rv.one
 obtain⟨z,its,n,r,hl,e⟩:=I.zN hH
 refine Wa T3 ⟨_,e,rfl⟩ F.entry_list_append (F.args_list_append_2 _ _) (PySem.list_append l its.toArray n u (by rw[fD];omega)) ⟨e,?_⟩
 refine⟨.non,_,I.Ri (its':=its++[u]) hH e (by simp) (r.append (.cons ru .nil)) ?_,rfl,q⟩
 rw[fP,List.length_singleton];omega
def ahK:V→List V→Hp→VK→Prop:=fun x vs H Q=>∃l b xs zs,x=.ref l∧vs=[.ref b]∧H l=some (.lst xs)∧H b=some (.lst zs)∧xs.length+zs.length≤bM∧Q .non (upd H l (.lst (xs++zs)))
theorem afx:qI X "list.extend" ahK:=by
 intro pins s σ H x vs v us Q I rx rv h
 obtain⟨l,b,xs,zs,rfl,rfl,hH,hB,hz,q⟩:=h
 cases rx
 obtain⟨u,rfl,ru⟩:=rv.one
 cases ru
 obtain⟨z,its,n,r,hl,e⟩:=I.zN hH
 obtain⟨z2,its2,n2,r2,hl2,e2⟩:=I.zN hB
 have hsz:its.toArray.size+its2.toArray.size≤bM:=by rw[fD,fD];omega
 have akm:¬(!its.toArray.isEmpty&&Tp (its.toArray.size+its2.toArray.size))=true:=by
  rw[ags hsz,Bool.and_false];exact iz
 refine Wa acN ⟨_,e,rfl⟩ F.entry_list_extend (F.args_list_extend_2 _ _)
  (AutoSeq1.list_extend_list_list_0 l its.toArray n b its2.toArray n2 akm (by rw[fD];omega) (by omega)) ⟨e,e2,?_⟩
 refine⟨.non,_,I.Ri (its':=its++its2) hH e (by simp) (r.append r2) ?_,rfl,q⟩
 rw[fP];omega
def aja:V→List V→Hp→VK→Prop:=fun x vs H Q=>∃l xs i k y,x=.ref l∧vs=[.int i]∧H l=some (.lst xs)∧-(2^63)≤i∧i<2^63∧Mt i xs.length=some k∧xs[k]?=some y∧Q y (upd H l (.lst (xs.eraseIdx k)))
theorem agt:qI X "list.pop" aja:=by
 intro pins s σ H x vs v us Q I rx rv h
 obtain⟨l,xs,i,k,y,rfl,rfl,hH,h1,h2,hk,hy,q⟩:=h
 cases rx
 obtain⟨u,rfl,ru⟩:=rv.one
 obtain⟨t,rfl⟩:=ru
 obtain⟨z,its,n,r,hl,e⟩:=I.zN hH
 obtain⟨w,hw,rw'⟩:=r.get hy
 refine Wa adp ⟨_,e,rfl⟩ F.entry_list_pop (F.args_list_pop_2 _ _)
  (MeetsSeq.list_pop_at l its.toArray n i t k w (fitsIndex_both h1 h2) (by rw[fD,←hl];exact hk) (by rw[←JS];exact hw) (by rw[fD];omega)) ⟨e,?_⟩
 refine⟨y,_,I.Ri (its':=its.eraseIdx k) hH e ?_ (r.eraseIdx k) ?_,rw',q⟩
 ·show its.toArray.eraseIdxIfInBounds k=(its.eraseIdx k).toArray;rw[List.eraseIdxIfInBounds_toArray]
 ·have:=WD xs k;omega
def aaO:R2:=fun x y H Q=>∃l b xs zs,x=.ref l∧y=.ref b∧H l=some (.lst xs)∧H b=some (.lst zs)∧xs.length+zs.length≤bM∧∀p,H p=none→Q (.ref p) (upd H p (.lst (xs++zs)))
theorem ajb:cA X (nG .Add) aaO:=by
 intro pins s σ H x y v u Q I rx ry h
 obtain⟨l,b,xs,zs,rfl,rfl,hH,hB,hz,q⟩:=h
 cases rx;cases ry
 obtain⟨z,its,n,r,hl,e⟩:=I.zN hH
 obtain⟨z2,its2,n2,r2,hl2,e2⟩:=I.zN hB
 refine PySem.P.add_list e e2 ?_ (by rw[fD,fD];omega);have ea:its.toArray++its2.toArray=(its++its2).toArray:=by simp
 rw[ea]
 exact⟨.ref _,_,I.ak2 (t':=s.toks) (r.append r2) (by rw[fP];omega),rfl,q _ I.fresh⟩
end
section
variable{prog:bf}{w:aY}{A:bU}{E:Value→au→Prop}{s:au}
set_option maxRecDepth 100000 in
end
section
variable{X:Cx}
end
section
variable{κ:Type}[DecidableEq κ]
def lJ(kvs:List (κ×V))(k:κ):Option V:=(kvs.find? fun kv=>decide (kv.1=k)).map (·.2)
def putK(kvs:List (κ×V))(k:κ)(v:V):List (κ×V):=
 if(kvs.any fun kv=>decide (kv.1=k))=true then kvs.map (fun kv=>if kv.1=k then(kv.1,v) else kv) else kvs++[(k,v)]
def aan(kvs:List (κ×V))(k:κ):List (κ×V):=kvs.filter fun kv=>decide (kv.1≠k)
theorem GK{p:κ×V}{r:List (κ×V)}{k:κ}(e:p.1=k):lJ (p::r) k=some p.2:=by simp[lJ,nq,e]
theorem GP{p:κ×V}{r:List (κ×V)}{k:κ}(e:¬p.1=k):lJ (p::r) k=lJ r k:=by simp[lJ,nq,e]
theorem Xh(k:κ):∀kvs:List (κ×V),(kvs.any fun kv=>decide (kv.1=k))=(lJ kvs k).isSome
 |[]=>rfl
 |p::r=>by
  rw[Ff];by_cases e:p.1=k
  ·simp only[GK e,decide_eq_true e,Bool.true_or,Aa]
  ·rw[GP e,decide_eq_false e,Bool.false_or];exact Xh k r
theorem Ge(kvs:List (κ×V))(k:κ)(v:V):(putK kvs k v).length≤kvs.length+1:=by
 unfold putK;split
 ·rw[aX];omega
 ·rw[fP,cR,Ag];omega
theorem nT.Bb{o:Option V}{u:Option Value}(r:nT o u):o.isSome=u.isSome:=by
 cases o with
 |none=>cases u with
  |none=>rfl
  |some _=>exact(show False from r).elim
 |some _=>cases u with
  |none=>exact(show False from r).elim
  |some _=>rfl
theorem nT.getD{o:Option V}{u:Option Value}{d:V}{d':Value}(r:nT o u)(rd:RelV d d'):RelV (o.getD d) (u.getD d'):=by
 cases o with
 |none=>cases u with
  |none=>exact rd
  |some _=>exact(show False from r).elim
 |some _=>cases u with
  |none=>exact(show False from r).elim
  |some _=>exact r
theorem KV.val{kvs:List (κ×V)}{vs:List (κ×Value)}(r:KV kvs vs)(k:κ):nT (lJ kvs k) (yS vs k):=by
 unfold KV at r;induction r with
 |nil=>exact oJ
 |@cons p q ps qs h t ih=>
  obtain⟨h1,h2⟩:=h
  by_cases e:p.1=k
  ·have e':q.1=k:=h1.symm.trans e;have b:yS (q::qs) k=some q.2:=by simp[yS,nq,e']
   rw[GK e,b];exact h2
  ·have e':¬q.1=k:=fun z=>e (h1.trans z)
   have b:yS (q::qs) k=yS qs k:=by simp[yS,nq,e']
   rw[GP e,b];exact ih
theorem KV.any{kvs:List (κ×V)}{vs:List (κ×Value)}(r:KV kvs vs)(k:κ):(kvs.any fun kv=>decide (kv.1=k))=vs.any fun kv=>decide (kv.1=k):=by
 unfold KV at r;induction r with
 |nil=>rfl
 |cons h t ih=>rw[Ff,Ff,ih,h.1]
theorem KV.repl{kvs:List (κ×V)}{vs:List (κ×Value)}(r:KV kvs vs)(k:κ){y:V}{u:Value}(ry:RelV y u):
  KV (kvs.map fun kv=>if kv.1=k then(kv.1,y) else kv) (vs.map fun kv=>if kv.1=k then(kv.1,u) else kv):=by
 unfold KV at r⊢;induction r with
 |nil=>exact .nil
 |@cons p q ps qs h t ih=>
  rw[bY,bY];refine .cons ?_ ih
  obtain⟨h1,h2⟩:=h
  by_cases e:p.1=k
  ·rw[if_pos e,if_pos (h1.symm.trans e)];exact⟨h1,ry⟩
  ·rw[if_neg e,if_neg (fun z=>e (h1.trans z))];exact⟨h1,h2⟩
theorem KV.put{kvs:List (κ×V)}{vs:List (κ×Value)}(r:KV kvs vs)(k:κ){y:V}{u:Value}(ry:RelV y u):KV (putK kvs k y) (stored vs k u):=by
 unfold putK stored;rw[r.any k];by_cases e:(vs.any fun kv=>decide (kv.1=k))=true
 ·rw[if_pos e,if_pos e];exact r.repl k ry
 ·rw[if_neg e,if_neg e];exact Paired.snoc r ⟨rfl,ry⟩
theorem KV.drop{kvs:List (κ×V)}{vs:List (κ×Value)}(r:KV kvs vs)(k:κ):KV (aan kvs k) (without vs k):=by
 unfold KV at r⊢;unfold aan without;induction r with
 |nil=>exact .nil
 |@cons p q ps qs h t ih=>
  obtain⟨h1,h2⟩:=h
  rw[J1,J1];by_cases e:p.1=k
  ·have a:¬decide (p.1≠k)=true:=by simp[e]
   have b:¬decide (q.1≠k)=true:=by simp[h1.symm.trans e]
   rw[if_neg a,if_neg b];exact ih
  ·have e':¬q.1=k:=fun z=>e (h1.trans z)
   have a:decide (p.1≠k)=true:=by simp[e]
   have b:decide (q.1≠k)=true:=by simp[e']
   rw[if_pos a,if_pos b];exact .cons ⟨h1,h2⟩ ih
theorem KV.length{kvs:List (κ×V)}{vs:List (κ×Value)}(r:KV kvs vs):kvs.length=vs.length:=Paired.length r
end
theorem uZ{P:bf}{w:aY}{k:Key}{u:Value}(r:RelV (kV k) u):(gY P w).is k u=true:=by
 cases k with
 |inl i=>obtain⟨t,e⟩:=(show ∃t,u=Ml i t from r);subst e;exact aeq P w i t
 |inr x=>obtain⟨t,e⟩:=(show ∃t,u=Mm x t from r);subst e;exact aer P w x t
theorem ajc{a b:Key}(e:kV a=kV b):a=b:=by
 cases a with
 |inl i=>cases b with
  |inl j=>have e':V.int i=V.int j:=e;injection e' with e';rw[e']
  |inr y=>exact nomatch(show V.int i=V.str y from e)
 |inr x=>cases b with
  |inl j=>exact nomatch(show V.str x=V.int j from e)
  |inr y=>have e':V.str x=V.str y:=e;injection e' with e';rw[e']
theorem Yu:∀{a b:List Key},a.map kV=b.map kV→a=b
 |[],[],_=>rfl
 |[],_::_,e=>by simp at e
 |_::_,[],e=>by simp at e
 |x::xs,y::ys,e=>by
  rw[bY,bY] at e;injection e with e1 e2
  rw[ajc e1,Yu e2]
theorem WK{P:bf}{w:aY}:∀{ks:List Key}{us:List Value},Vals (ks.map kV) us→ItemsAre (gY P w) ks us
 |[],_,r=>by rw[jq] at r;cases r;exact .nil
 |k::ks,_,r=>by
  rw[bY] at r;cases r with
  |cons h t=>exact .cons (uZ h) (WK t)
abbrev KT(H:Hp):List (List Key×V)→List (List Key×aa×Value)→Prop:=Paired fun p q=>p.1=q.1∧H q.2.1=some (.tup (p.1.map kV))∧RelV p.2 q.2.2
theorem KT.val{H:Hp}{kvs:List (List Key×V)}{xs:List (List Key×aa×Value)}(r:KT H kvs xs)(k:List Key):nT (lJ kvs k) ((u5 xs k).map (·.2)):=by
 induction r with
 |nil=>exact oJ
 |@cons p q ps qs h t ih=>
  obtain⟨h1,_,h2⟩:=h
  by_cases e:p.1=k
  ·have e':q.1=k:=h1.symm.trans e;have b:u5 (q::qs) k=some q.2:=by simp[u5,nq,e']
   rw[GK e,b];exact h2
  ·have e':¬q.1=k:=fun z=>e (h1.trans z)
   have b:u5 (q::qs) k=u5 qs k:=by simp[u5,nq,e']
   rw[GP e,b];exact ih
theorem KT.repl{H:Hp}{kvs:List (List Key×V)}{xs:List (List Key×aa×Value)}(r:KT H kvs xs)(k:List Key){y:V}{u:Value}(ry:RelV y u):
  KT H (kvs.map fun kv=>if kv.1=k then(kv.1,y) else kv) (xs.map (putAt k u)):=by
 induction r with
 |nil=>exact .nil
 |@cons p q ps qs h t ih=>
  rw[bY,bY];refine .cons ?_ ih
  obtain⟨h1,h2,h3⟩:=h
  unfold putAt;by_cases e:p.1=k
  ·rw[if_pos e,if_pos (h1.symm.trans e)];exact⟨h1,h2,ry⟩
  ·rw[if_neg e,if_neg (fun z=>e (h1.trans z))];exact⟨h1,h2,h3⟩
theorem KT.put{H:Hp}{kvs:List (List Key×V)}{xs:List (List Key×aa×Value)}(r:KT H kvs xs)(k:List Key){b:aa}{y:V}{u:Value}(hb:H b=some (.tup (k.map kV)))(ry:RelV y u):
  KT H (putK kvs k y) (storedH xs k b u):=by
 have e:(kvs.any fun kv=>decide (kv.1=k))=(u5 xs k).isSome:=by
  rw[Xh,(r.val k).Bb,Es]
 unfold putK storedH;rw[e];by_cases q:(u5 xs k).isSome=true
 ·rw[if_pos q,if_pos q];exact r.repl k ry
 ·rw[if_neg q,if_neg q];exact Paired.snoc r ⟨rfl,hb,ry⟩
theorem KT.keeps{H H':Hp}{kvs:List (List Key×V)}{xs:List (List Key×aa×Value)}(r:KT H kvs xs)(ht:∀b ys,H b=some (.tup ys)→H' b=some (.tup ys)):KT H' kvs xs:=
 Paired.Q7 r fun _ _ z=>⟨z.1,ht _ _ z.2.1,z.2.2⟩
section
variable{P:bf}{w:aY}{H:Hp}{h:aV}{a:aa}
theorem aao{u:HO}(ok:gb P w H h)(e:Rd H a u):fM P w H h a u:=e.ok ok
theorem u6{kvs:List (Key×V)}(ok:gb P w H h)(e:Rd H a (.dK kvs)):kvs.length≤bM∧(a==qY)=false∧∃vs,KV kvs vs∧h.DictOf (gY P w) a vs:=
 show fM P w H h a (.dK kvs) from aao ok e
theorem Ii{kvs:List (Key×V)}(ok:gb P w H h)(e:H a=some (.dK kvs)):kvs.length≤bM∧(a==qY)=false∧∃vs,KV kvs vs∧h.DictOf (gY P w) a vs:=u6 ok (.inl e)
theorem zf{ks:List Key}(ok:gb P w H h)(e:H a=some (.tup (ks.map kV))):(Ay (gY P w)).is h ks a:=by
 obtain⟨_,its,r,o,h1,h2,n,h3⟩:=(show fM P w H h a (.tup (ks.map kV)) from ok a _ e)
 exact⟨o,its.toArray,n,h1,h2,h3,by simpa using WK r⟩
theorem wZ{kvs:List (List Key×V)}(ok:gb P w H h)(e:Rd H a (.dT kvs)):kvs.length≤bM∧(a==qY)=false∧
  ∃xs,KT H kvs xs∧h.DictOfH (Ay (gY P w)) a xs:=by
 obtain⟨z,y,xs,r,o,es,ep,h1,h2,h3,h4,h5⟩:=(show fM P w H h a (.dT kvs) from aao ok e)
 refine⟨z,y,xs,r,o,es,ep,h1,h2,h3,h4,fun x hx=>?_,h5⟩
 have all:∀{l:List (List Key×V)}{m:List (List Key×aa×Value)},KT H l m→∀x∈m,(Ay (gY P w)).is h x.1 x.2.1:=by
  intro l m q;induction q with
  |nil=>intro x hx;exact nomatch hx
  |@cons p q ps qs hq t ih=>
   intro x hx;rcases bN.mp hx with e|hx
   ·subst e;exact zf ok (by rw[←hq.1];exact hq.2.1)
   ·exact ih x hx
 exact all r x hx
theorem akn{kvs:List (List Key×V)}(ok:gb P w H h)(e:H a=some (.dT kvs)):kvs.length≤bM∧(a==qY)=false∧
  ∃xs,KT H kvs xs∧h.DictOfH (Ay (gY P w)) a xs:=wZ ok (.inl e)
end
def kZ(H:Hp)(a:aa)(y:V)(r:Option V):Prop:=
 (∃kvs k,Rd H a (.dK kvs)∧y=kV k∧r=lJ kvs k)∨∃kvs k b,Rd H a (.dT kvs)∧y=.ref b∧H b=some (.tup (k.map kV))∧r=lJ kvs k
def qD(H:Hp)(a:aa)(y v:V)(H':Hp):Prop:=
 (∃kvs k,H a=some (.dK kvs)∧y=kV k∧kvs.length<bM∧H'=upd H a (.dK (putK kvs k v)))∨
 ∃kvs k b,H a=some (.dT kvs)∧y=.ref b∧H b=some (.tup (k.map kV))∧kvs.length<bM∧H'=upd H a (.dT (putK kvs k v))
theorem kZ.k{H:Hp}{a:aa}{kvs:List (Key×V)}{k:Key}(e:H a=some (.dK kvs)):kZ H a (kV k) (lJ kvs k):=.inl ⟨kvs,k,.inl e,rfl,rfl⟩
theorem kZ.t{H:Hp}{a b:aa}{kvs:List (List Key×V)}{k:List Key}(e:H a=some (.dT kvs))(eb:H b=some (.tup (k.map kV))):kZ H a (.ref b) (lJ kvs k):=.inr ⟨kvs,k,b,.inl e,rfl,eb,rfl⟩
theorem qD.k{H:Hp}{a:aa}{kvs:List (Key×V)}{k:Key}{v:V}(e:H a=some (.dK kvs))(hl:kvs.length<bM):qD H a (kV k) v (upd H a (.dK (putK kvs k v))):=.inl ⟨kvs,k,e,rfl,hl,rfl⟩
theorem qD.t{H:Hp}{a b:aa}{kvs:List (List Key×V)}{k:List Key}{v:V}(e:H a=some (.dT kvs))(eb:H b=some (.tup (k.map kV)))(hl:kvs.length<bM):
  qD H a (.ref b) v (upd H a (.dT (putK kvs k v))):=.inr ⟨kvs,k,b,e,rfl,eb,hl,rfl⟩
section
variable{X:Cx}{pins:List (aa×Obj)}{σ:St}{H:Hp}{s:au}{a:aa}{y v:V}{u r:Value}{o:Option V}{A:bU}{E:Value→au→Prop}
theorem Inv.big(I:Inv X pins σ H s):qY<s.heap.objs.size:=by
 have h:gC<s.heap.objs.size:=(I.mod.glob.keeps I.bk).lt;exact FJ (by decide) h
theorem afy{Q:Value→au→Prop}(hu:A.units+1<dY)(I:Inv X pins σ H s)(g:kZ H a y (some v))(ry:RelV y u)(h:∀w' s',Inv X pins σ H s'→RelV v w'→Q w' s'):
  aM (model X.prog X.w) A (uP (.ref a) u) Q E s:=by
 rcases g with⟨kvs,k,e,ey,l⟩|⟨kvs,k,b,e,ey,eb,l⟩
 ·subst ey
  obtain⟨z,hd,vs,rel,dd⟩:=u6 I.hok e
  obtain⟨w',hw,rw'⟩:=nT.some_of (v:=v) (o:=yS vs k) (by rw[l];exact rel.val k)
  exact wpAny_getItem_of (uZ ry) dd.mapOf hw (h w' _ (I.tok _) rw')
 ·subst ey
  cases(show u=fG b from ry)
  obtain⟨z,hd,xs,rel,dd⟩:=wZ I.hok e
  obtain⟨w',hw,rw'⟩:=nT.some_of (v:=v) (o:=(u5 xs k).map (·.2)) (by rw[l];exact rel.val k)
  obtain⟨p,hp,hp2⟩:=Ed.mp hw
  refine wpAny_getItem_heap (El hu) (zf I.hok eb) dd hp ?_;rw[hp2];exact h w' _ (I.tok _) rw'
theorem aaP{Q:Value→au→Prop}(hu:A.units+1<dY)(I:Inv X pins σ H s)(g:kZ H a y o)(ry:RelV y u)(h:∀s',Inv X pins σ H s'→Q (.bool o.isSome) s'):
  aM (model X.prog X.w) A (dH .In u (.ref a)) Q E s:=by
 rcases g with⟨kvs,k,e,ey,l⟩|⟨kvs,k,b,e,ey,eb,l⟩
 ·subst ey
  obtain⟨z,hd,vs,rel,dd⟩:=u6 I.hok e
  refine wpAny_in_of (uZ ry) hd dd.mapOf ?_;rw[←(rel.val k).Bb,←l];exact h _ (I.tok _)
 ·subst ey
  cases(show u=fG b from ry)
  obtain⟨z,hd,xs,rel,dd⟩:=wZ I.hok e
  refine wpAny_in_heap (El hu) (zf I.hok eb) hd dd ?_;have q:=(rel.val k).Bb;rw[Es] at q;rw[←q,←l];exact h _ (I.tok _)
theorem Yv{Q:Value→au→Prop}(hu:A.units+1<dY)(I:Inv X pins σ H s)(g:kZ H a y o)(ry:RelV y u)(h:∀s',Inv X pins σ H s'→Q (.bool (!o.isSome)) s'):
  aM (model X.prog X.w) A (dH .NotIn u (.ref a)) Q E s:=by
 rcases g with⟨kvs,k,e,ey,l⟩|⟨kvs,k,b,e,ey,eb,l⟩
 ·subst ey
  obtain⟨z,hd,vs,rel,dd⟩:=u6 I.hok e
  refine wpAny_notIn_of (uZ ry) hd dd.mapOf ?_;rw[←(rel.val k).Bb,←l];exact h _ (I.tok _)
 ·subst ey
  cases(show u=fG b from ry)
  obtain⟨z,hd,xs,rel,dd⟩:=wZ I.hok e
  refine wpAny_notIn_heap (El hu) (zf I.hok eb) hd dd ?_;have q:=(rel.val k).Bb;rw[Es] at q;rw[←q,←l];exact h _ (I.tok _)
theorem wN{h':aV}{t':Nat}{ob:HO}(I:Inv X pins σ H s)(mu:Dm (H a))(hs:yG a s.heap h')(he:∃q,h'.get? a=some q)(new:fM X.prog X.w (upd H a ob) h' a ob):
  Inv X pins σ (upd H a ob) {s with heap:=h',toks:=t'}:=
 I.write (x:=a) (e:=a) mu (.inl rfl) (fun b q hb z=>(hs.2 b hb).trans z) he new
theorem HN{P:bf}{w:aY}{H':Hp}{h':aV}{kvs:List (Key×V)}{vs:List (Key×Value)}(z:kvs.length≤bM)(hd:(a==qY)=false)(rel:KV kvs vs)(dd:h'.DictOf (gY P w) a vs):
  fM P w H' h' a (.dK kvs):=⟨z,hd,vs,rel,dd⟩
theorem WL{H':Hp}{Q:Unit→au→Prop}(hu:A.units+1<dY)(I:Inv X pins σ H s)(g:qD H a y v H')(ry:RelV y u)(rv:RelV v r)(h:∀s',Inv X pins σ H' s'→Q () s'):
  aM (model X.prog X.w) A (setItem (.ref a) u r) Q E s:=by
 rcases g with⟨kvs,k,e,ey,l,eH⟩|⟨kvs,k,b,e,ey,eb,l,eH⟩
 ·subst ey eH
  obtain⟨z,hd,vs,rel,dd⟩:=Ii I.hok e
  have hz:vs.length≤bM:=by rw[←rel.length];exact z
  have hl:(putK kvs k v).length≤bM:=by have:=Ge kvs k v;omega
  refine wpAny_setItem_pairs (hsz:=hz) (uZ ry) dd fun h' sy hs=>h _ ?_
  have he:∃q,h'.get? a=some q:=let ⟨q,_,_,hq,_⟩:=sy;⟨q,hq⟩
  exact wN I (by rw[e];exact oJ) hs he (HN hl hd (rel.put k rv) sy)
 ·subst ey eH
  cases(show u=fG b from ry)
  obtain⟨z,hd,xs,rel,dd⟩:=akn I.hok e
  have hz:xs.length≤bM:=by rw[←Paired.length rel];exact z
  have hl:(putK kvs k v).length≤bM:=by have:=Ge kvs k v;omega
  refine wpAny_setItem_heap (hsz:=hz) (El hu) (zf I.hok eb) dd fun h' sy hs=>h _ ?_
  obtain⟨q,es,ep,hq,h2,h3,h4,_,h5⟩:=sy
  refine wN I (by rw[e];exact oJ) hs ⟨q,hq⟩ ⟨hl,hd,_,(rel.put k eb rv).keeps fun c ys ec=>?_,q,es,ep,hq,h2,h3,h4,h5⟩;rw[cN (QF ec e (fun z=>nomatch z))];exact ec
end
section
variable{X:Cx}{pins:List (aa×Obj)}{σ:St}{H:Hp}{s:au}{a:aa}{kvs:List (Key×V)}{k:Key}{u:Value}{A:bU}{E:Value→au→Prop}
theorem ako{Q:Value→au→Prop}(I:Inv X pins σ H s)(e:Rd H a (.dK kvs))(h:∀t s',Inv X pins σ H s'→Q (.int kvs.length t) s'):aM (model X.prog X.w) A (call (.builtin "len") [.ref a]) Q E s:=by
 obtain⟨z,hd,vs,rel,dd⟩:=u6 I.hok e
 refine call_len_dict hd dd (by rw[←rel.length];rw[iT] at z;omega) ?_;rw[←rel.length];exact h _ _ (I.tok _)
end
theorem aet{X:Cx}{pins:List (aa×Obj)}{σ:St}{H:Hp}{s:au}{a:aa}{y:V}{o:Option V}(I:Inv X pins σ H s)(g:kZ H a y o):s.TypeIs (.ref a) "dict":=by
 rcases g with⟨kvs,k,e,_,_⟩|⟨kvs,k,b,e,_,_,_⟩
 ·obtain⟨_,_,vs,_,dd⟩:=u6 I.hok e
  exact dd.typeIs
 ·obtain⟨_,_,xs,_,dd⟩:=wZ I.hok e
  exact dd.typeIs
section
variable{X:Cx}{o i e value:Expr}{pos pos' tpos:Pos}{td ty tv:TE}
end
theorem Nh{P:bf}{w:aY}{H:Hp}(h:aV)(hb:qY<h.objs.size):fM P w H (h.push {cls:=.type "dict",data:=.dict #[]}) h.objs.size (.dK []):=
 ⟨lF _,beq_eq_false_iff_ne.mpr (jC (dM hb)),[],.nil,Heap.DictOf.new h⟩
def ajd:TE:=fun _ H Q=>∀p,H p=none→Q (.ref p) (upd H p (.dK []))
section
variable{X:Cx}{pos:Pos}
theorem agu:PE X (.Dict [] [] pos) ajd:=fun pins s σ H Q I h=>
 wpAny_Dict_empty ⟨.ref s.heap.objs.size,_,I.laid (a:=s.heap.objs.size) (o:=.dK []) (t':=s.toks) (fun _ _ q=>cB _ q) (bK _) (Nh s.heap I.big),rfl,h _ (I.hok.fresh (bK _))⟩
end
def Qi:List (TE×TE)→St→Hp→(List (V×V)→Hp→Prop)→Prop
 |[],_,H,Q=>Q [] H
 |(tk,tv)::r,σ,H,Q=>tk σ H fun x H1=>tv σ H1 fun y H2=>Qi r σ H2 fun ps H3=>Q ((x,y)::ps) H3
abbrev VV:List (V×V)→List (Value×Value)→Prop:=Paired fun p q=>RelV p.1 q.1∧RelV p.2 q.2
def Jp(X:Cx)(pos:Pos)(keys:List (Option Expr))(values:List Expr)(uv:List (TE×TE)):Prop:=
 ∀(pins:List (aa×Obj))(s:au)(σ:St)(H:Hp)(Q:List (V×V)→Hp→Prop),Inv X pins σ H s→Qi uv σ H Q→
  aM (model X.prog X.w) X.A (evalPairs (pairTrees keys values X.env pos)) (fun vs s'=>∃ps H',Inv X pins σ H' s'∧VV ps vs∧Q ps H') X.xe s
theorem ahL{X:Cx}{pos:Pos}:Jp X pos [] [] []:=fun pins s σ H Q I h=>pairTrees_nil_walk ⟨[],H,I,.nil,h⟩
theorem agv{X:Cx}{pos:Pos}{k v:Expr}{ks:List (Option Expr)}{vs:List Expr}{tk tv:TE}{uv:List (TE×TE)}(hk:PE X k tk)(hv:PE X v tv)(hr:Jp X pos ks vs uv):
  Jp X pos (some k::ks) (v::vs) ((tk,tv)::uv):=fun pins s σ H Q I h=>
 pairTrees_cons_walk (bh (hk pins s σ H _ I h) fun u s1 ⟨x,H1,I1,rx,q1⟩=>bh (hv pins s1 σ H1 _ I1 q1) fun w2 s2 ⟨y,H2,I2,ry,q2⟩=>
  bh (hr pins s2 σ H2 _ I2 q2) fun ws s3 ⟨ps,H3,I3,rel,q3⟩=>⟨(x,y)::ps,H3,I3,.cons ⟨rx,ry⟩ rel,q3⟩)
def BR(kvs more:List (Key×V)):List (Key×V):=more.foldl (fun acc kv=>putK acc kv.1 kv.2) kvs
theorem KV.merge:∀{more:List (Key×V)}{rs:List (Key×Value)}{kvs:List (Key×V)}{vs:List (Key×Value)},KV more rs→KV kvs vs→KV (BR kvs more) (merged vs rs):=by
 intro more rs kvs vs r;unfold KV at r;induction r generalizing kvs vs with
 |nil=>intro q;exact q
 |@cons p q ps qs h t ih=>
  intro r0;have e:KV (putK kvs p.1 p.2) (stored vs q.1 q.2):=by
   have:=r0.put p.1 h.2;rw[←h.1];exact this
  exact ih e
theorem Vn:∀(more kvs:List (Key×V)),(BR kvs more).length≤kvs.length+more.length
 |[],kvs=>by show kvs.length≤kvs.length+0;omega
 |p::r,kvs=>by
  have h1:=Vn r (putK kvs p.1 p.2);have h2:=Ge kvs p.1 p.2
  show(BR (putK kvs p.1 p.2) r).length≤_
  rw[cR];omega
theorem Wb{P:bf}{w:aY}:∀{kvs:List (Key×V)}{ws:List (Value×Value)},VV (kvs.map fun kv=>(kV kv.1,kv.2)) ws→∃rs,Carries (gY P w) ws rs∧KV kvs rs
 |[],_,r=>by rw[jq] at r;cases r;exact⟨[],oJ,.nil⟩
 |p::kvs,_,r=>by
  rw[bY] at r;cases r with
  |@cons a b as bs h t=>
   obtain⟨rs,c,q⟩:=Wb (P:=P) (w:=w) t
   obtain⟨b1,b2⟩:=b
   exact⟨(p.1,b2)::rs,⟨uZ h.1,rfl,c⟩,.cons ⟨rfl,h.2⟩ q⟩
def akp(uv:List (TE×TE)):TE:=fun σ H Q=>∀p,H p=none→Qi uv σ (upd H p (.dK [])) fun ps H2=>H2 p=some (.dK [])∧∃kvs:List (Key×V),ps=kvs.map (fun kv=>(kV kv.1,kv.2))∧kvs.length≤15∧Q (.ref p) (upd H2 p (.dK (BR [] kvs)))
theorem ahM{X:Cx}{pos:Pos}{keys:List (Option Expr)}{values:List Expr}{uv:List (TE×TE)}(h:Jp X pos keys values uv)(hall:keys.all (·.isSome)=true)(hl:keys.length=values.length)(h0:keys≠[])
  (h15:keys.length≤15):PE X (.Dict keys values pos) (akp uv):=by
 intro pins s σ H Q I q;have hn:=I.hok.fresh (bK s.heap.objs.size);have I1:=I.laid (a:=s.heap.objs.size) (o:=.dK []) (h':=s.heap.push {cls:=.type "dict",data:=.dict #[]}) (t':=s.toks) (fun _ _ q=>cB _ q) (bK _) (Nh s.heap I.big);refine wpAny_Dict_walk (knd:=gY X.prog X.w) hall hl h0 h15 (bh (h pins _ σ _ _ I1 (q _ hn)) fun ws s2 aJ=>?_)
 obtain⟨ps,H2,I2,rel,e,kvs,ep,lk,q2⟩:=aJ
 subst ep
 obtain⟨rs,c,rk⟩:=Wb (P:=X.prog) (w:=X.w) rel
 obtain⟨z,hd,zV,r0,dd⟩:=Ii I2.hok e
 cases r0
 refine⟨rs,c,dd,fun h' sy hs=>⟨.ref s.heap.objs.size,_,?_,rfl,q2⟩⟩
 have hz:(BR [] kvs).length≤bM:=by
  have h1:=Vn kvs [];rw[Ag] at h1;rw[iT];omega
 have he:∃q,h'.get? s.heap.objs.size=some q:=let ⟨q,_,_,hq,_⟩:=sy;⟨q,hq⟩
 exact wN I2 (by rw[e];exact oJ) hs he (HN hz hd (rk.merge .nil) sy)
structure M1(X:Cx)(o:Expr)(m:Str)(apos:Pos)(e:Expr)(cpos:Pos):Prop where
 base:sW o m X.env (eval o X.env)=eval o X.env
 few:((eO cpos (aZ [e] X.env)).all (fun x=>!x.1)&&(wK cpos (wC [] X.env)).all (fun x=>x.1.isSome)
  &&decide (([e]:List Expr).length+([]:List lG).length+(if([]:List lG).isEmpty then 0 else 1)<30))=true
 line:(apos.endLine==cpos.line)=true
 trees:eO cpos (aZ [e] X.env)=[(false,eval e X.env)]
structure M2(X:Cx)(o:Expr)(m:Str)(apos:Pos)(e f:Expr)(cpos:Pos):Prop where
 base:sW o m X.env (eval o X.env)=eval o X.env
 few:((eO cpos (aZ [e,f] X.env)).all (fun x=>!x.1)&&(wK cpos (wC [] X.env)).all (fun x=>x.1.isSome)
  &&decide (([e,f]:List Expr).length+([]:List lG).length+(if([]:List lG).isEmpty then 0 else 1)<30))=true
 line:(apos.endLine==cpos.line)=true
 trees:eO cpos (aZ [e,f] X.env)=[(false,eval e X.env),(false,eval f X.env)]
def IsD(H:Hp)(a:aa):Prop:=(∃kvs,Rd H a (.dK kvs))∨∃kvs,Rd H a (.dT kvs)
theorem aje{X:Cx}{pins:List (aa×Obj)}{σ:St}{H:Hp}{s:au}{a:aa}(I:Inv X pins σ H s)(d:IsD H a):
  s.TypeIs (.ref a) "dict"∧(∀b,fG a=.ref b→∃ob,s.heap.get? b=some ob∧ob.dict=none)∧(a==qY)=false:=by
 rcases d with⟨kvs,e⟩|⟨kvs,e⟩
 ·obtain⟨_,hd,vs,_,dd⟩:=u6 I.hok e
  refine⟨dd.typeIs,fun b q=>?_,hd⟩
  cases q
  obtain⟨ob,_,_,h1,h2,_⟩:=dd
  exact⟨ob,h1,h2.2.1⟩
 ·obtain⟨_,hd,xs,_,dd⟩:=wZ I.hok e
  refine⟨dd.typeIs,fun b q=>?_,hd⟩
  cases q
  obtain⟨ob,_,_,h1,h2,_⟩:=dd
  exact⟨ob,h1,h2.2.1⟩
section
variable{X:Cx}{pins:List (aa×Obj)}{σ:St}{H:Hp}{s:au}{a:aa}{y d:V}{u r:Value}{o:Option V}{A:bU}{E:Value→au→Prop}
theorem Zx{Q:Value→au→Prop}(hu:A.units+1<dY)(I:Inv X pins σ H s)(g:kZ H a y o)(ry:RelV y u)(rd:RelV d r)(h:∀w' s',Inv X pins σ H s'→RelV (o.getD d) w'→Q w' s'):
  aM (model X.prog X.w) A (call (.builtin "dict.get") [.ref a,u,r]) Q E s:=by
 rcases g with⟨kvs,k,e,ey,l⟩|⟨kvs,k,b,e,ey,eb,l⟩
 ·subst ey
  obtain⟨z,hd,vs,rel,dd⟩:=u6 I.hok e
  refine call_meetsIn TF dd.typeIs acj (ab8 _ _ _) (meets_dict_get_default (gY X.prog X.w) a (uZ ry) hd r) ⟨_,dd.mapOf,h _ _ (I.tok _) ?_⟩;rw[l]
  exact(rel.val k).getD rd
 ·subst ey
  cases(show u=fG b from ry)
  obtain⟨z,hd,xs,rel,dd⟩:=wZ I.hok e
  refine call_meetsIn TF dd.typeIs acj (ab8 _ _ _) (meetsH_dict_get_default (Ay (gY X.prog X.w)) a b hd r) ⟨El hu,k,xs,zf I.hok eb,dd,h _ _ (I.tok _) ?_⟩;rw[l]
  exact(rel.val k).getD rd
end
section
variable{X:Cx}{o e f:Expr}{apos cpos:Pos}{td ty tx:TE}
end
section
variable{X:Cx}{pins:List (aa×Obj)}{σ:St}{H:Hp}{s:au}{a:aa}{kvs:List (Key×V)}{A:bU}{E:Value→au→Prop}
end
section
variable{X:Cx}{pins:List (aa×Obj)}{σ:St}{H:Hp}{s:au}{a:aa}{y:V}{u:Value}{A:bU}{E:Value→au→Prop}
end
end L2
namespace Att
open PySem PySem.W PySem.Calls PyProof.Rows
theorem adq{P:Params}{h:aV}:∀(ns:List Int)(vs:List Value),WellAll P h vs (ns.map WData.int)→IntsAre vs ns:=by
 intro ns;induction ns with
 |nil=>
  intro vs w;rw[jq] at w;cases w;exact .nil
 |cons n ns ih=>
  intro vs w;rw[bY] at w;cases w with
  |cons a b=>
   cases a;exact .cons _ _ (ih _ b)
theorem afz{l:OpenLaw}{n:Nat}(hn:l.most=some n){P:Params}{h:aV}{args:List WData}{vals:List Value}
  (hpre:l.row.toRowW.claim.pre args=true)(hwl:WellAll P h vals args):
  ∃a vs ns,vals=[fG a]∧args=[WData.list (ns.map WData.int)]∧h.get? a=some {cls:=.type "list",data:=.seq vs.toArray}∧IntsAre vs ns∧ns.length≤n:=by
 have hsh:WShape.hasAll [] args [.list .int]=true:=(pre_splitW hpre).1;have hc:l.pre.holds [] {args:=args}=true:=(pre_splitW hpre).2
 obtain⟨d,r,rfl,h1,h2⟩:=hasAllW_cons hsh
 obtain rfl:=hasAllW_nil h2
 obtain⟨xs,rfl,h3⟩:=hasW_list h1
 obtain⟨ns,rfl⟩:=items_int h3
 have hlen:ns.length≤n:=by
  unfold OpenLaw.pre at hc;have h4:(WTm.not (.lt (.lit (.int (n:Int))) (.len (.arg 0)))).holds [] {args:=[.list (ns.map .int)]}=true:=by
   have h4:=(holds_andW hc).1;rw[hn] at h4;exact h4
  have h5:=condW_of h4 (w_not (w_lt w_lit (w_len_list (w_arg rfl))));rw[aX] at h5;refine Nat.le_of_not_lt fun q=>?_
  have q':(n:Int)<((ns.length:Nat):Int):=by omega
  first
   |(rw[decide_eq_true q'] at h5;exact absurd h5 (by decide))
   |(simp at h5;omega)
 cases hwl with
 |cons w1 w2=>
  cases w2;cases w1 with
  |list ho hall=>exact⟨_,_,ns,rfl,rfl,ho,adq ns _ hall,hlen⟩
theorem afA(l:OpenLaw)(args:List WData):l.row.toRowW.claim.post args (.bool true) args=true:=
 postW_of (r:=l.row.toRowW) (X:=(true==true))
  (show WShape.has [] (.bool true) .bool=true by first|rfl|decide|simp[WShape.has,WShape.arms,WShape.armsAll])
  (show(WTm.eq .res (.lit (.bool true))).value [] {args:=args,res:=some (.bool true),after:=args}=some (.bool (true==true)) from w_eq_bool (w_res rfl) w_lit) rfl
theorem aeu{l:OpenLaw}{n:Nat}{q:bf}{loose:List Str}{XP:(Str→Option Value)→aV→Prop}{YP:aY→aV→Prop}{d:DefRec}
  (hn:l.most=some n)(hdf:d.params.defaults=[])
  (call:∀(w:aY)(s₀ s₁:au)(mg mb:Str→Option Value)(fa:aa)(o:Obj)(pm cd doc:Value)(a:aa)(vs:List Value)(ns:List Int),
   Ground q loose [] XP w s₀ mg mb s₁.heap→YP w s₁.heap→
   s₁.heap.get? fa=some o→o.data=.func (docDef d.name d.params d.body d.scope pm cd doc)→s₁.heap.CodeRec cd d.name→mg d.name=some (.ref fa)→
   s₁.heap.get? a=some {cls:=.type "list",data:=.seq vs.toArray}→IntsAre vs ns→ns.length≤n→s₁.gens=#[]→
   jN (model l.prog w) yU (.call (.ref fa) ⟨[.ref a],[]⟩) (fun r s'=>r=.ok (.ret (.bool true))∧OldK s₁.heap s'.heap∧s'.os=s₁.os∧AllBare s'.gens) s₁):
  WalkO q loose XP YP l.row.toRowW d [] (fun f vs=>Wc f vs):=by
 intro w s₀ s₁ mg mb G Y fa o pm cd doc dV kV ho hd hcd hD hmg hg args vals as hpre hlay hrd hwl hlo;obtain rfl:dV=.none:=Dflts.none hD hdf;obtain rfl:kV=.none:=Dflts.noKw hD
 obtain⟨a,vs,ns,rfl,rfl,hobj,hints,hlen⟩:=afz hn hpre hwl
 refine enter_call (Fv (call w s₀ s₁ mg mb fa o pm cd doc a vs ns G Y ho (fd_plain hd) hcd hmg hobj hints hlen hg) fun r s' hq=>?_)
 obtain⟨rfl,h2,h3,h4⟩:=hq
 exact⟨.inl ⟨.bool true,.bool true,[],rfl,fun _=>rfl,.bool true,afA l _,fun _=>⟨yj,fun _ hm=>(nomatch hm)⟩⟩,h2,h3,h4⟩
section
variable{prog:bf}{w:aY}{A:bU}{E:Value→au→Prop}{s:au}{K:Frag}
def ledger(h:aV)(L d:aa):List (aa×Obj):=(dG h.objs.size).filterMap fun a=>if a=L∨a=d then none else(h.get? a).map fun o=>(a,o)
end
end Att
namespace L2
open PySem PySem.Spec PyProof.Rows
theorem Mv:∀{vs:List Value}{ns:List Int},IntsAre vs ns→Vals (ns.map V.int) vs
 |_,_,.nil=>.nil
 |_,_,.cons n t h=>.cons ⟨t,rfl⟩ (Mv h)
def Only(H:Hp):Prop:=∀b,H b=none∨∃o xs,H b=some (.lM o (.lst xs))
theorem agw{P:bf}{w:aY}{K:aH}{mg mb:Str→Option Value}{CX:ou}{k:Nat}{fa a:aa}{fd:di}{x:Str}{sp:Sp}{s₁:au}{vs:List Value}{ns:List Int}
  (KX:K.In s₁.heap)(hns:s₁.heap.Ns gC mg)(hb:s₁.heap.Ns builtinsNs mb)(hbb:∀x:Str,x≠"__name__"→mb x=sY x)(hlim:s₁.heap.NoLimit)(hg:s₁.gens=#[])
  (ha:s₁.heap.get? a=some {cls:=.type "list",data:=.seq vs.toArray})(hi:IntsAre vs ns)(hl:ns.length≤bM)(hr:gG k yU)
  (F:∀base:aV,K.In base→base.Ns gC mg→cW P w K mg base CX k fa fd [x] sp)(hbind:∀(s:au)(u:Value),wM s fd ⟨[u],[]⟩ [(x,u)])
  (hsp:∀H:Hp,Only H→bO K H a (ns.map V.int)→sp [.ref a] H (fun v _=>v=.bl true) fun _ _ _=>False)
  (RG:∀H e s',CX [] H s₁ (fun _ _ _=>False) e s'→False):
  jN (model P w) yU (.call (.ref fa) ⟨[.ref a],[]⟩) (fun r s'=>r=.ok (.ret (.bool true))∧OldK s₁.heap s'.heap∧s'.os=s₁.os∧AllBare s'.gens) s₁:=by
 have rv:=Mv hi;have lenV:=hi.length;have core:∀H:Hp,Only H→bO K H a (ns.map V.int)→gb P w H s₁.heap→(∀b,H b≠none→b=a)→(H a≠none→K.lookup a=none)→
   jN (model P w) yU (.call (.ref fa) ⟨[.ref a],[]⟩) (fun r s'=>r=.ok (.ret (.bool true))∧OldK s₁.heap s'.heap∧s'.os=s₁.os∧AllBare s'.gens) s₁:=by
  intro H hO hS hok hA hK;have Yw:∀{b:aa}{o:Obj},s₁.heap.get? b=some o→H b=none→(tZ s₁.heap H).get? b=some o:=fun e n=>agj e n
  have Du:∀{b:aa}{o:Obj}{es:Array DictEntry}{ep:Nat},s₁.heap.get? b=some o→o.data=.dict es ep→H b=none:=fun{b o es ep} e d=>by
   cases q:H b with
   |none=>rfl
   |some u=>
    have e':b=a:=hA b (by rw[q];simp);subst e';rw[ha] at e;cases e;have d':Data.seq vs.toArray _=Data.dict es ep:=d;cases d'
  have Jq:∀{b:aa}{m:Str→Option Value},s₁.heap.Ns b m→(tZ s₁.heap H).Ns b m:=fun{b m} ⟨o,es,ep,e,d,r⟩=>⟨o,es,ep,Yw e (Du e d),d,r⟩
  have hKb:K.In (tZ s₁.heap H):=fun b o e=>Yw (KX b o e) (by
   cases q:H b with
   |none=>rfl
   |some u=>
    have e':b=a:=hA b (by rw[q];simp);subst e';rw[hK (by rw[q];simp)] at e;cases e)
  have hM:Mod K mg (tZ s₁.heap H):=⟨hKb,Jq hns,⟨mb,Jq hb,hbb⟩,let ⟨mc,h1,h2⟩:=hlim;⟨mc,Jq h1,h2⟩⟩
  have e0:xq P w K mg (tZ s₁.heap H) yU [] s₁ H:=⟨rfl,hM,fun b o e=>ahv e,Nat.le_of_eq (afl _ _),trivial,fun b hb=>absurd (show b∈([]:List aa) from hb) (by simp),hok,.of_eq hg⟩
  refine Fv ((F _ hKb (Jq hns)).run yU [] s₁ H ⟨[.ref a],[]⟩ [.ref a] [.ref a] _ _ hr e0 (hbind s₁ (.ref a)) (.cons rfl .nil) (hsp H hO hS)) fun r s' h=>?_
  cases r with
  |error e=>exact(RG H e s' h).elim
  |ok fl=>
   cases fl with
   |next=>exact pQ h
   |brk=>exact pQ h
   |cont=>exact pQ h
   |ret u=>
    obtain⟨v,H',os,bare,un,hok',r',q⟩:=h
    have q':v=.bl true:=q;subst q';obtain rfl:u=Aw true:=r'
    refine⟨rfl,OldK.of_keep fun b o e=>?_,os,bare⟩
    cases q:H b with
    |none=>exact un.keep b o e q (by intro z;exact absurd (show b∈([]:List aa) from z) (by simp)) (by simp)
    |some u=>
     rcases hO b with z|⟨ob,xs,z⟩
     ·rw[q] at z;cases z
     ·have z2:=un.nU b ob _ z
      obtain⟨e1,_⟩:=hok b _ z
      obtain⟨e2,_⟩:=hok' b _ z2
      rw[e] at e1;cases e1;exact e2
 cases hk:K.lookup a with
 |some o=>
  have e:=KX a o hk;rw[ha] at e;cases e;refine core (fun _=>none) (fun _=>.inl rfl) (.inr ⟨_,vs.toArray,_,hk,rfl,rfl,rfl,by rw[fD,lenV];exact hl,by simpa using rv⟩) (fun b u z=>by have z':(none:Option HO)=some u:=z;cases z') (fun b z=>absurd rfl z) fun z=>absurd rfl z
 |none=>
  refine core (fun b=>if b=a then some (.lM {cls:=.type "list",data:=.seq vs.toArray} (.lst (ns.map V.int))) else none) (fun b=>?_) (.inl (.inr ⟨{cls:=.type "list",data:=.seq vs.toArray},if_pos rfl⟩)) (fun b u z=>?_) (fun b z=>?_) fun _=>hk
  ·by_cases hb:b=a
   ·exact .inr ⟨_,_,if_pos hb⟩
   ·exact .inl (if_neg hb)
  ·by_cases hb:b=a
   ·have z':=(if_pos hb).symm.trans z;cases z';subst hb
    exact⟨ha,by rw[aX];exact hl,vs,_,rv,ha⟩
   ·have z':=(if_neg hb).symm.trans z;cases z'
  ·by_cases hb:b=a
   ·exact hb
   ·exact absurd (if_neg hb) z
theorem ahN{l:Uv}{n k:Nat}{q:bf}{loose:List Str}{XP:(Str→Option Value)→aV→Prop}{YP:aY→aV→Prop}{d:DefRec}{K:Params→aH}{CX:aY→ou}{sp:aY→Sp}{x:Str}
  (hn:l.most=some n)(hn2:n≤bM)(hdf:d.params.defaults=[])(hr:gG k yU)
  (hY:∀(w:aY)(h:aV),YP w h→(K w.params).In h)
  (F:∀(w:aY)(mg:Str→Option Value)(fa:aa)(h:aV),(K w.params).In h→h.Ns gC mg→mg d.name=some (.ref fa)→
   ∃fd:di,(∀(s:au)(u:Value),wM s fd ⟨[u],[]⟩ [(x,u)])∧
    ∀base:aV,(K w.params).In base→base.Ns gC mg→cW l.prog w (K w.params) mg base (CX w) k fa fd [x] (sp w))
  (hsp:∀(w:aY)(H:Hp)(a:aa)(ns:List Int),ns.length≤n→Only H→bO (K w.params) H a (ns.map V.int)→sp w [.ref a] H (fun v _=>v=.bl true) fun _ _ _=>False)
  (RG:∀(w:aY)(H:Hp)(s:au)(e:Value)(s':au),CX w [] H s (fun _ _ _=>False) e s'→False):
  adL q loose XP YP l.row.toRowW d [] (fun f vs=>Wc f vs):=by
 refine Att.aeu hn hdf fun w s₀ s₁ mg mb fa o pm cd doc a vs ns G Y ho hd hcd hmg hobj hints hlen hg=>?_
 have KX:=hY w _ Y
 obtain⟨fd,hb,hF⟩:=F w mg fa _ KX G.T.g hmg
 exact agw KX G.T.g G.T.b G.T.builtins G.T.nolimit hg hobj hints (jL hlen hn2) hr hF hb (fun H hO hS=>hsp w H a ns hlen hO hS) fun H e s'=>RG w H s₁ e s'
def yV(s:cP):Arguments:=match s with
 |.FunctionDef _ a _ _ _ _ _ _ _ _=>a
 |_=>{posonlyargs:=[],args:=[],vararg:=none,kwonlyargs:=[],kw_defaults:=[],kwarg:=none,defaults:=[]}
def uR(s:cP):List cP:=match s with
 |.FunctionDef _ _ b _ _ _ _ _ _ _=>b
 |_=>[]
def cM(s:cP):iJ:=match s with
 |.FunctionDef _ _ _ _ _ _ sc _ _ _=>sc
 |_=>{kind:=.function,names:=[],isGenerator:=false,isCoroutine:=false}
abbrev eV:ou:=fun _ _ _ _ _ _=>False
abbrev E0:XK:=fun _ _ _=>False
theorem akq{X:Cx}:Passes eV X E0:=fun _ _ _ _ _ _ _ h=>h.elim
structure fO(K:aH)(x qual:Str)(st:cP)(f:aa)(fd:di):Prop where
 ex:∃(oc:Value)(od:Option aa)(kV doc pm:Value)(an:Option aa)(cdv ct:Value)(osl:Array (Option Value)),
  fd=wB x qual (yV st) (uR st) (cM st) .none kV doc pm an cdv ct∧K.lookup f=some ⟨oc,od,.func fd,osl⟩∧Kd K cdv qual=true
 kp:yx K (.ref f)=true
section
variable{P:bf}{w:aY}{K:aH}{mg:Str→Option Value}{base:aV}
theorem fO.ok{x qual:Str}{st:cP}{f:aa}{fd:di}{N ps:List Str}{k:Nat}{sp:Sp}(F:fO K x qual st f fd)(S:gj N ps (cM st))(len:∀vs H Q E,sp vs H Q E→vs.length=ps.length)
  (hbody:∀(cdv:Value)(A:bU)(outer:List Env)(s:au)(H:Hp)(vs:List V)(Q:VK)(E:XK),gG k (A.deeper (envOfC qual (cM st) s.heap.objs.size f cdv))→sp vs H Q E→
   ∃t,ir (xr eV P w K mg base N qual (cM st) f cdv A outer s H E).uo (uR st) t∧t {nx:=fun _ H'=>Q .non H',rt:=Q} (start N vs) H):cW P w K mg base eV (k+1) f fd ps sp:=by
 obtain⟨oc,od,kV,doc,pm,an,cdv,ct,osl,rfl,lk,hcd⟩:=F.ex
 refine akk lk hcd S len fun A outer s H vs Q E hr hsp=>?_
 obtain⟨t,h,q⟩:=hbody cdv A outer s H vs Q E hr hsp
 exact⟨t,h.uo,q⟩
theorem fO.binds{x qual:Str}{st:cP}{f:aa}{fd:di}{ps:List Str}(F:fO K x qual st f fd)
  (h:∀(kV doc pm:Value)(an:Option aa)(cdv ct:Value)(us:List Value),us.length=ps.length→bindArgs (wB x qual (yV st) (uR st) (cM st) .none kV doc pm an cdv ct) ⟨us,[]⟩=pure (ps.zip us)):Binds K fd ps []:=by
 obtain⟨oc,od,kV,doc,pm,an,cdv,ct,osl,rfl,lk,hcd⟩:=F.ex
 exact .all (h kV doc pm an cdv ct)
theorem Zy{x qual:Str}{st:cP}{f:aa}{oc:Value}{od an:Option aa}{osl:Array (Option Value)}{kV doc pm cdv ct:Value}(l:K.lookup f=some ⟨oc,od,.func (wB x qual (yV st) (uR st) (cM st) .none kV doc pm an cdv ct),osl⟩)
  (c:Kd K cdv qual=true)(k:yx K (.ref f)=true):fO K x qual st f (wB x qual (yV st) (uR st) (cM st) .none kV doc pm an cdv ct):=⟨⟨oc,od,kV,doc,pm,an,cdv,ct,osl,rfl,l,c⟩,k⟩
end
section
variable{X:Cx}
theorem pv(i:Nat){x:Str}{pos:Pos}(hN:X.N[i]?=some x:=by rfl)(hv:Jh X.env.scope x:=by first|exact cJ rfl|exact kE (cJ rfl)|exact kE (kE rfl))(hd:(x==("__debug__":Str))=false:=by decide)
  (hcd:(x==("__classdict__":Str))=false:=by decide):PE X (.Name x pos) (nW i):=aiP hN hv hd hcd
end
theorem vq{A B:Prop}(h:B):if false=true then A else B:=by
 rw[if_neg iz];exact h
theorem vz{A B:Prop}(h:A):if true=true then A else B:=by
 rw[if_pos rfl];exact h
def bw(H H':Hp):Prop:=∀b o,H b=some o→H' b=some o
theorem bw.refl(H:Hp):bw H H:=fun _ _ h=>h
theorem bw.trans{H H1 H2:Hp}(a:bw H H1)(b:bw H1 H2):bw H H2:=fun c o h=>b c o (a c o h)
theorem bw.free{H H':Hp}(e:bw H H'){l:aa}(h:H' l=lX):H l=lX:=by
 cases q:H l with
 |none=>rfl
 |some o=>
  rw[e l o q] at h;cases h
theorem bw.seq{K:aH}{H H':Hp}{a:aa}{xs:List V}(e:bw H H')(h:bO K H a xs):bO K H' a xs:=by
 rcases h with(h|⟨o,h⟩)|h
 ·exact .inl (.inl (e _ _ h))
 ·exact .inl (.inr ⟨o,e _ _ h⟩)
 ·exact .inr h
section
variable{X:Cx}
theorem afB:jb X (.builtin "len") (fun xs H Q=>∃a kvs,xs=[V.ref a]∧H a=some (.dK kvs)∧Q (.int kvs.length) H):=by
 intro pins s σ H xs us Q I r h
 obtain⟨a,kvs,rfl,ha,q⟩:=h
 obtain⟨u,rfl,ru⟩:=vals1 r
 cases ru;exact ako I (.inl ha) fun t s' I'=>⟨.int kvs.length,H,I',⟨t,rfl⟩,q⟩
end
section
variable{κ:Type}[DecidableEq κ]
end
def Cx.blk(X:Cx)(N:List Str)(scope:iJ)(cl:List (Str×aa))(C:aa)(s:au)(H:Hp)(fp:List aa):Cx:=
 {X with N:=N,s₀:=s,H₀:=H,env:=Ni scope cl C X.env,outer:=X.stack,ex:=fp,fn:=fun _=>false,pn:=[],xe:=fun _ _=>False}
theorem Le(f:Str×yO→List (Str×aa)→Sem (ForInStep (List (Str×aa))))
  (hf:∀n k r,f (n,k) r=if k==nC then(do let c ←cellOf env n;pure (.yield ((n,c)::r))) else pure (.yield r)):
  ∀(names:List (Str×yO))(cs:List (Str×aa)),(∀y∈names,y.2=.free→∃c,env.cells.lookup y.1=some c)→(∀n c,cs.lookup n=some c→env.cells.lookup n=some c)→
   ∃cl,(forIn names cs f:Sem (List (Str×aa)))=pure cl∧(∀n c,cl.lookup n=some c→env.cells.lookup n=some c)∧
    ∀n,((∃c,cs.lookup n=some c)∨∃y∈names,y.1=n∧y.2=.free)→∃c,cl.lookup n=some c
 |[],cs,_,h2=>⟨cs,rfl,h2,fun n h=>h.elim id fun⟨_,hy,_⟩=>nomatch hy⟩
 |(n,k)::r,cs,h1,h2=>by
  rw[List.forIn_cons,hf];by_cases hk:k=.free
  ·subst hk
   obtain⟨c,hc⟩:=h1 (n,.free) dR rfl
   have hc':env.cells.lookup n=some c:=hc;have e:cellOf env n=pure c:=by unfold cellOf;rw[hc']
   obtain⟨cl,q1,q2,q3⟩:=Le f hf r ((n,c)::cs) (fun y hy=>h1 y (eZ _ hy)) (fun m d hm=>by
    rw[yo] at hm;by_cases hb:(m==n)=true
    ·rw[hb] at hm;have:=eq_of_beq hb;subst this;cases hm;exact hc'
    ·rw[Uj] at hb;rw[hb] at hm;exact h2 m d hm)
   refine⟨cl,?_,q2,fun m hm=>q3 m ?_⟩
   ·rw[if_pos (show(nC==nC)=true from rfl),e];simp only[pure_bind];exact q1
   ·by_cases hb:m=n
    ·subst hb;exact .inl ⟨c,by simp[yo]⟩
    ·rcases hm with⟨d,hm⟩|⟨y,hy,e1,e2⟩
     ·refine .inl ⟨d,?_⟩;rw[yo,beq_eq_false_iff_ne.mpr hb];exact hm
     ·rcases bN.mp hy with rfl|hy
      ·exact absurd e1.symm hb
      ·exact .inr ⟨y,hy,e1,e2⟩
  ·have hb:(k==nC)=false:=beq_eq_false_iff_ne.mpr hk
   obtain⟨cl,q1,q2,q3⟩:=Le f hf r cs (fun y hy=>h1 y (eZ _ hy)) h2
   refine⟨cl,?_,q2,fun m hm=>q3 m ?_⟩
   ·rw[hb];simp only[oE,if_false,pure_bind];exact q1
   ·rcases hm with hm|⟨y,hy,e1,e2⟩
    ·exact .inl hm
    ·rcases bN.mp hy with rfl|hy
     ·exact absurd e2 hk
     ·exact .inr ⟨y,hy,e1,e2⟩
theorem Gq(h1:∀y∈scope.names,y.2=.free→∃c,env.cells.lookup y.1=some c):
  ∃cl,closureFor scope env=pure cl∧(∀n c,cl.lookup n=some c→env.cells.lookup n=some c)∧∀y∈scope.names,y.2=.free→∃c,cl.lookup y.1=some c:=by
 unfold closureFor
 obtain⟨cl,q1,q2,q3⟩:=Le (env:=env) (fun x r=>if(x.2==nC)=true then(do let c ←cellOf env x.1;pure (.yield ((x.1,c)::r))) else pure (.yield r)) (fun n k r=>rfl) scope.names [] h1 (fun n c h=>by simp at h)
 have q:=congrArg (fun t:Sem (List (Str×aa))=>t >>= fun cs=>pure cs) q1;simp only[pure_bind] at q
 exact⟨cl,q,q2,fun y hy e=>q3 y.1 (.inr ⟨y,hy,rfl,e⟩)⟩
theorem Vz{scope:iJ}{env:Env}{x:Str}:∀{names:List (Str×yO)},
  (names.map fun(n,k)=>if(k==nC&&env.scope.kind==.function&&env.kindOf n==some .cell) then(n,Kw) else(n,k)).lookup x=
   (names.lookup x).map fun k=>if(k==nC&&env.scope.kind==.function&&env.kindOf x==some .cell) then Kw else k
 |[]=>rfl
 |(n,k)::r=>by
  have ih:=@Vz scope env x r;show List.lookup x ((if(k==nC&&env.scope.kind==.function&&env.kindOf n==some .cell)=true then(n,Kw) else(n,k))::_)=_;cases hx:x==n with
  |true=>
   have e:=eq_of_beq hx;subst e;by_cases hc:(k==nC&&env.scope.kind==.function&&env.kindOf x==some .cell)=true
   ·rw[if_pos hc];simp only[yo,beq_self_eq_true,jW,hc,if_true]
   ·rw[if_neg hc];simp only[yo,beq_self_eq_true,jW,hc,if_false];rfl
  |false=>
   by_cases hc:(k==nC&&env.scope.kind==.function&&env.kindOf n==some .cell)=true
   ·rw[if_pos hc];simp only[yo,hx];exact ih
   ·rw[if_neg hc];simp only[yo,hx];exact ih
def frees(js:List Nat)(σ:St):St:=js.map fun j=>(σ[j]?).join
section
variable{X:Cx}{pins:List (aa×Obj)}{σ:St}{H:Hp}{s s1:au}{NT NF:List Str}{js:List Nat}{scope:iJ}{cl:List (Str×aa)}{fp:List aa}
structure nO(X:Cx)(NT NF:List Str)(js:List Nat)(scope:iJ):Prop where
 kind:scope.kind=.function
 names:∀y∈scope.names,y.2=.local→scope.names.lookup y.1=some .local
 cell:∀y∈scope.names,y.2≠.cell
 free:∀y∈scope.names,y.2=.free→X.env.scope.names.lookup y.1=some .cell∨X.env.scope.names.lookup y.1=some .free
 len:js.length=NF.length
 fr:∀(k:Nat)(j:Nat)(x:Str),js[k]?=some j→NF[k]?=some x→X.N[j]?=some x∧scope.names.lookup x=some .free
 tg:∀x∈NT,scope.names.lookup x=some .local
 nd:(NT++NF).Nodup
theorem Inv.blk(I:Inv X pins σ H s)(B:nO X NT NF js scope)(q2:∀n c,cl.lookup n=some c→X.env.cells.lookup n=some c)(q3:∀y∈scope.names,y.2=.free→∃c,cl.lookup y.1=some c)
  (hf:∀b∈fp,jD X pins H b)(hlt:∀b∈fp,b<s.heap.objs.size){m:Str→Option Value}(hns:s1.heap.Ns s.heap.objs.size m)(keep:∀b o,s.heap.get? b=some o→s1.heap.get? b=some o)
  (hos:s1.os=s.os)(hg:AllBare s1.gens):
  Inv (X.blk (NT++NF) scope cl s.heap.objs.size s H fp) [] (gH NT.length none++frees js σ) H s1:=by
 have look:∀x,(X.blk (NT++NF) scope cl s.heap.objs.size s H fp).env.kindOf x=(scope.names.lookup x).map fun k=>if(k==nC&&X.env.scope.kind==.function&&X.env.kindOf x==some .cell) then Kw else k:=fun x=>Vz (scope:=scope)
 have ajf:∀x,((X.blk (NT++NF) scope cl s.heap.objs.size s H fp).env.kindOf x=some .cell∨(X.blk (NT++NF) scope cl s.heap.objs.size s H fp).env.kindOf x=some .free)→scope.names.lookup x=some .free:=fun x h=>by
  rw[look] at h;cases e:scope.names.lookup x with
  |none=>rw[e] at h;simp at h
  |some k=>
   rw[e] at h;by_cases hk:k=.free
   ·rw[hk]
   ·have hb:(k==nC)=false:=beq_eq_false_iff_ne.mpr hk;simp only[jW,hb,U0,oE,if_false,JZ] at h;rcases h with h|h
    ·subst h;exact absurd rfl (B.cell _ (uB e))
    ·exact absurd h hk
 have ltC:∀c x,X.env.cells.lookup x=some c→c<s.heap.objs.size:=fun c x e=>by
  obtain⟨v,q⟩:=I.cell x c e
  exact q.lt
 refine⟨⟨I.ok.mod,B.kind,I.ok.glob,I.ok.blt,bK _,fun x y c h1 h2=>I.ok.inj x y c (q2 x c h1) (q2 y c h2),fun x hx=>?_,fun x c h _=>(nomatch(show false=true from h)),I.ok.hd,I.ok.frames,.inl rfl,fun b hb=>⟨dM (hlt b hb),fun x c e=>(hf b hb).2.2.2.2.1 x c (q2 x c e)⟩,I.bs,jL I.ok.su I.sz,fun b o e hb=>?_,fun b hb hb2=>?_,I.stack,I.Ym⟩,
  hos,hg,Un.kept keep,⟨m,hns,fun i x v h1 h2 h3=>?_⟩,fun x c e=>?_,I.hok.fresh (bK _),fun x c e=>I.qg x c (q2 x c e),fun p hp=>(nomatch(show p∈([]:List (aa×Obj)) from hp)),I.hok.kept keep,?_⟩
 ·exact q3 _ (uB (ajf x hx)) rfl
 ·rcases(hf b hb).2.2.2.1 with z|z
  ·exact I.ok.Dc b o e z
  ·exact absurd (mU (cz e) (jL I.ok.su z)) (wu _)
 ·obtain⟨_,f1,f2,_⟩:=hf b hb
  rcases bN.mp (I.zb b hb2) with z|z
  ·exact f1 z
  ·exact f2 z
 ·have h1':(NT++NF)[i]?=some x:=h1;by_cases hi:i<NT.length
  ·rw[m8 (by simpa using hi),Tr] at h2;split at h2<;>cases h2
  ·have hi':NT.length≤i:=by omega
   rw[m7 (by simpa using hi')] at h2;rw[m7 hi'] at h1';simp only[acq] at h2;unfold frees at h2;rw[gh] at h2;cases ej:js[i-NT.length]? with
   |none=>rw[ej] at h2;cases h2
   |some j=>
    rw[ej] at h2;have h2':(σ[j]?).join=some v:=by simpa using h2
    obtain⟨g1,g2⟩:=B.fr _ j x ej h1'
    have hj:σ[j]?=some (some v):=by
     cases e:σ[j]? with
     |none=>rw[e] at h2';cases h2'
     |some o=>rw[e] at h2';simp at h2';rw[h2']
    have hk:=B.free _ (uB g2) rfl;have hk':X.env.scope.names.lookup x=some .cell∨X.env.scope.names.lookup x=some .free:=hk
    obtain⟨m0,hn0,hl0⟩:=I.loc
    obtain⟨u,r,l⟩:=hl0 j x v g1 hj (.inr hk')
    refine⟨u,r,.inr ⟨?_,?_⟩⟩
    ·rw[look,g2];by_cases hc:(nC==nC&&X.env.scope.kind==.function&&X.env.kindOf x==some .cell)=true
     ·left;simp only[jW,hc,if_true]
     ·right;simp only[jW,hc,if_false];rfl
    ·rcases l with⟨k0,_⟩|⟨_,c,e,z⟩
     ·have k0':X.env.scope.names.lookup x=some .local:=k0;rcases hk' with z|z<;>rw[z] at k0'<;>cases k0'
     ·obtain⟨c',hc'⟩:=q3 _ (uB g2) rfl
      have hc2:cl.lookup x=some c':=hc';have e2:=q2 x c' hc2;rw[e] at e2;cases e2
      obtain⟨o,ho,hd⟩:=z
      exact⟨c,hc2,o,keep c o ho,hd⟩
 ·obtain⟨v,o,ho,hd⟩:=I.cell x c (q2 x c e)
  exact⟨v,o,keep c o ho,hd⟩
 ·show(gH NT.length none++frees js σ).length=(NT++NF).length
  unfold frees;simp[B.len]
theorem Inv.QT(I:Inv X pins σ H s)(hf:∀b∈fp,jD X pins H b)(J:Inv (X.blk N scope cl s.heap.objs.size s H fp) QG σ' H' s'):Inv X pins σ H' s':=
 I.call' J.os J.base J.hok J.bare fun b hb=>⟨(hf b hb).2.2.2.1,(hf b hb).2.1,(hf b hb).2.2.2.2.1,(hf b hb).2.2.2.2.2⟩
end
theorem ahO(a:List α)(x y:α)(b:List α)(h:a.length=n):(a++x::b).set n y=a++y::b:=by
 subst h;rw[List.set_append_right _ _ (bK _),VB];rfl
inductive fU where
 |one|many (n:Nat)
def vJ(K:aH):fU→V→Hp→List V→Prop
 |.one,x,_,vs=>vs=[x]
 |.many n,x,H,vs=>∃a,x=.ref a∧cI K H a vs∧vs.length=n
def isNm(e:Expr)(x:Str):Prop:=∃pos,e=.Name x pos
def mZ(tg:Expr)(NT:List Str):fU→Prop
 |.one=>∃x,isNm tg x∧NT=[x]
 |.many n=>∃es k pos,tg=.Tuple es k pos∧Paired isNm es NT∧NT.length=n
theorem Wd:∀{es:List Expr}{NT:List Str},Paired isNm es NT→qZ es env=es.map fun e=>(false,assign e env)
 |_,_,.nil=>rfl
 |_,_,.cons ⟨pos,e⟩ t=>by
  subst e
  show(false,assign _ env)::qZ _ env=_
  rw[Wd t];rfl
section
variable{X:Cx}{pins:List (aa×Obj)}{H:Hp}{E:Value→au→Prop}
theorem afC(p:Paired isNm es NT):∀{pre NF:List Str}{σp fs:St}{s:au}{vs:List V}{us:List Value}{Q:Unit→au→Prop},
  X.N=pre++NT++NF→X.N.Nodup→(∀x∈NT,X.env.scope.names.lookup x=some .local)→σp.length=pre.length→vs.length=NT.length→
  Inv X pins (σp++(gH NT.length none++fs)) H s→Vals vs us→(∀s',Inv X pins (σp++(vs.map some++fs)) H s'→Q () s')→
  aM (model X.prog X.w) X.A (Aj (es.map fun e=>assign e X.env) us) Q E s:=by
 induction p with
 |nil=>
  intro pre NF σp fs s vs us Q hN nd hl hp hv I r q;cases vs with
  |cons _ _=>simp at hv
  |nil=>
   cases r;exact assignInOrder_nil (q s I)
 |@cons e x es NT he t ih=>
  intro pre NF σp fs s vs us Q hN nd hl hp hv I r q;cases vs with
  |nil=>simp at hv
  |cons v vs=>
   cases r with
   |cons r rr=>
    obtain⟨pos,rfl⟩:=he
    have hx:=hl x dR;have hi:X.N[pre.length]?=some x:=by
     rw[hN,j4,m7 (bK _)];simp
    refine assignInOrder_cons (Eo (rA I nd hi (.inl hx) r (fun s' I'=>?_) (.inr hx)));have e1:(σp++(gH (x::NT).length none++fs)).set pre.length (some v)=(σp++[some v])++(gH NT.length none++fs):=by
     exact(ahO σp none (some v) (gH NT.length none++fs) hp).trans (List.append_cons σp (some v) (gH NT.length none++fs))
    rw[e1] at I';refine ih (pre:=pre++[x]) (NF:=NF) (σp:=σp++[some v]) (by rw[hN];simp) nd (fun y hy=>hl y (eZ _ hy)) (by simp[hp]) (by simpa using hv) I' rr fun s2 I2=>q s2 ?_
    have e2:σp++[some v]++(vs.map some++fs)=σp++((v::vs).map some++fs):=by simp
    rw[e2] at I2;exact I2
theorem ajg(tk:mZ tg NT T)(hN:X.N=NT++NF)(nd:X.N.Nodup)(hc:X.calm=true)
  (hl:∀x∈NT,X.env.scope.names.lookup x=some .local)(I:Inv X pins (gH NT.length none++fs) H s)(r:RelV v u)(hv:vJ X.K T v H vs)
  (q:∀s',Inv X pins (vs.map some++fs) H s'→Q () s'):aM (model X.prog X.w) X.A (assign tg X.env u) Q E s:=by
 cases T with
 |one=>
  obtain⟨x,⟨pos,rfl⟩,rfl⟩:=tk
  have hv':vs=[v]:=hv;subst hv';have hx:=hl x dR;exact Eo (rA I nd (i:=0) (by rw[hN];rfl) (.inl hx) r (fun s' I'=>q s' I') (.inr hx))
 |many n=>
  obtain⟨es,k,pos,rfl,p,hn⟩:=tk
  obtain⟨a,rfl,hq,hlen⟩:=hv
  cases r
  obtain⟨its,rv,ht,hz⟩:=I.tuple hq
  have e:=Wd (env:=X.env) p;have hpl:=p.length;refine assign_Tuple_tuple (I.ok.hd hc) ht (by rw[e];simp only[aX,fD];rw[←rv.length];omega) (by rw[e];simp) fun h' hx=>?_
  have I1:Inv X pins (gH NT.length none++fs) H {s with heap:=h'}:=I.kept (t':=s.toks) fun b o e=>hx b o (dM (cz e)) e
  rw[e,dU];exact afC p (pre:=[]) (σp:=[]) (by rw[hN];rfl) nd hl rfl (by omega) I1 (by simpa using rv) q
end
def turnOf(target iter:Expr)(ifs:List Expr)(it:Value)(env:Env)(emit:Sem Unit)(more:Sem PySem.Fin):Sem PySem.Fin:=do
 rD iter.pos
 match ←nH it with
 |none=>pure (.done .next)
 |some v=>
  vY target it v
  assign target env v
  let mut ok:=true
  for c in ifs do
   if ok then ok ←isTrue c env (eval c env)
  if ok then emit
  more
theorem aeN(elt target iter:Expr)(ifs:List Expr)(scope:iJ)(pos:Pos)(it acc:Value)(env:Env):
  Be (.ListComp elt [⟨target,iter,ifs,0⟩] scope pos) 0 it acc env=turnOf target iter ifs it env (do let _ ←call (.builtin "list.append") [acc,←eval elt env]) (again (.compLoop (.ListComp elt [⟨target,iter,ifs,0⟩] scope pos) 0 it acc env)):=by rfl
theorem aeO(kx vx target iter:Expr)(ifs:List Expr)(scope:iJ)(pos:Pos)(it:Value)(D:aa)(env:Env):
  Be (.DictComp kx vx [⟨target,iter,ifs,0⟩] scope pos) 0 it (.ref D) env=turnOf target iter ifs it env (do
      let kv ←eval kx env
      let vv ←oO [kv] (eval vx env)
      rD {kx.pos with endLine:=vx.pos.endLine,endCol:=vx.pos.endCol}
      oO [kv,vv] (dictSet D kv vv)) (again (.compLoop (.DictComp kx vx [⟨target,iter,ifs,0⟩] scope pos) 0 it (.ref D) env)):=by rfl
theorem afD(elt target iter:Expr)(ifs:List Expr)(scope:iJ)(pos:Pos)(it acc:Value)(env:Env):
  Be (.SetComp elt [⟨target,iter,ifs,0⟩] scope pos) 0 it acc env=turnOf target iter ifs it env (do let v ←eval elt env;rD elt.pos;let _ ←call (.builtin "set.add") [acc,v]) (again (.compLoop (.SetComp elt [⟨target,iter,ifs,0⟩] scope pos) 0 it acc env)):=by rfl
def lN(X:Cx)(ifs:List Expr)(t:TT):Prop:=
 ∀(pins:List (aa×Obj))(s:au)(σ:St)(H:Hp)(Q:Bool→Hp→Prop),Inv X pins σ H s→t σ H Q→
  aM (model X.prog X.w) X.A (forIn ifs true fun c r=>if r=true then do let ok ←isTrue c X.env (eval c X.env);pure (adt ok) else pure (adt r)) (TP X pins σ Q) X.xe s
def ak3:TT:=fun _ H Q=>Q true H
theorem ahP:lN X [] ak3:=fun _ _ _ H _ I h=>wpAny_tests_nil ⟨H,I,h⟩
theorem ahQ(h:PT X c t):lN X [c] t:=fun pins s σ H Q I q=>wpAny_tests_one (h pins s σ H Q I q)
abbrev TM:=St→Hp→(Hp→Prop)→Prop
def PM(X:Cx)(emit:Sem Unit)(t:TM):Prop:=
 ∀(pins:List (aa×Obj))(s:au)(σ:St)(H:Hp)(Q:Hp→Prop),Inv X pins σ H s→t σ H Q→
  aM (model X.prog X.w) X.A emit (fun _ s'=>∃H',Inv X pins σ H' s'∧Q H') X.xe s
def O3(D:aa)(te:TE):TM:=fun σ H Q=>te σ H fun y H1=>∃xs,H1 D=some (.lst xs)∧xs.length<bM∧Q (upd H1 D (.lst (xs++[y])))
theorem afE(he:PE X elt te):PM X (do let _ ←call (.builtin "list.append") [.ref D,←eval elt X.env]) (O3 D te):=by
 intro pins s σ H Q I h;refine aC (bh (he pins s σ H _ I h) fun v s1 aJ=>?_)
 obtain⟨y,H1,I1,r1,xs,hD,hz,q⟩:=aJ
 refine aC (bh (Mu (X:=X) pins s1 σ H1 (.ref D) [y] (.ref D) [v] (fun _ H'=>Q H') I1 rfl (.cons r1 .nil) ⟨D,xs,y,rfl,rfl,hD,hz,q⟩) fun _ s2 ⟨_,H2,I2,_,q2⟩=>aW ⟨H2,I2,q2⟩)
def vA(K:aH)(T:fU)(ts:TT)(em:TM)(fs:St)(J:It)(H0:Hp)(done:Hp→Prop):Prop:=
 ∃W:Nat→Nat→Hp→Prop,(∃m,W 0 m H0)∧∀i m H,W i m H→
  (J.stop i H∧done H)∨(J.go i H∧∀x H',J.vH i H x H'→∃vs,vJ K T x H' vs∧
   ts (vs.map some++fs) H' fun b H2=>if b=true then em (vs.map some++fs) H2 fun H3=>∃m',m'<m∧W (i+1) m' H3 else ∃m',m'<m∧W (i+1) m' H2)
section
variable{X:Cx}{NT NF:List Str}{tg iter e:Expr}{ifs:List Expr}{T:fU}{ts:TT}{em:TM}{emit:Sem Unit}{acc:Value}{fp:List aa}{it:aa}{J:It}{tn:Nat→aV→Prop}
theorem agx{fs:St}{vs:List V}{pins:List (aa×Obj)}{H:Hp}{s:au}(hv:vs.length=NT.length)(I:Inv X pins (vs.map some++fs) H s):Inv X pins (gH NT.length none++fs) H s:=
 I.weak (by simp[hv]) fun i v h=>by
  by_cases hi:i<NT.length
  ·rw[m8 (by simpa using hi),Tr] at h;split at h<;>cases h
  ·rw[m7 (by simp;omega)] at h⊢;simpa[hv] using h
theorem vJ.len{tg:Expr}{K:aH}{x:V}{H:Hp}{vs:List V}(tk:mZ tg NT T)(h:vJ K T x H vs):vs.length=NT.length:=by
 cases T with
 |one=>obtain⟨y,_,rfl⟩:=tk;rw[show vs=[x] from h];rfl
 |many n=>obtain⟨_,_,_,_,_,e⟩:=tk;obtain⟨_,_,_,e'⟩:=h;omega
theorem Nj{R:pZ→au→Prop}{fs:St}{H:Hp}{s:au}{done:Hp→Prop}(hx:X.xe=fun _ _=>False)(hT:Be e 0 (.ref it) acc X.env=turnOf tg iter ifs (.ref it) X.env emit (again (.compLoop e 0 (.ref it) acc X.env)))
  (hq:(Al e 0 (.ref it) acc X.env).isFrame=false)(hqu:(Al e 0 (.ref it) acc X.env).quiet=true)(hA:X.A.under (Al e 0 (.ref it) acc X.env)=X.A)
  (tk:mZ tg NT T)(hN:X.N=NT++NF)(nd:X.N.Nodup)(hc:X.calm=true)(hl:∀x∈NT,X.env.scope.names.lookup x=some .local)
  (hts:lN X ifs ts)(hem:PM X emit em)(TT:Turn X.prog X.w X.K tg J fp it tn)(hf:∀b∈fp,jD X [] H b)(I:Inv X [] (gH NT.length none++fs) H s)(st:tn 0 s.heap)(hb:vA X.K T ts em fs J H done)
  (hR:∀H' s' σ',Inv X [] σ' H' s'→done H'→R (.ok .next) s'):
  jN (model X.prog X.w) X.A (.compLoop e 0 (.ref it) acc X.env) R s:=by
 obtain⟨W,⟨m0,w0⟩,turn⟩:=hb
 have stat:∀{H':Hp},(∀b∈fp,H' b=none)→∀b∈fp,jD X [] H' b:=fun hn b hb=>⟨hn b hb,(hf b hb).2⟩
 have noE:∀{α:Type}{t:Sem α}{Q:α→au→Prop}{E:Value→au→Prop}{s:au},aM (model X.prog X.w) X.A t Q (fun _ _=>False) s→aM (model X.prog X.w) X.A t Q E s:=fun h=>mW h (fun _ _ z=>z) fun _ _ z=>z.elim
 have noX:∀{α:Type}{t:Sem α}{Q:α→au→Prop}{E:Value→au→Prop}{s:au},aM (model X.prog X.w) X.A t Q X.xe s→aM (model X.prog X.w) X.A t Q E s:=fun h=>noE (by rw[hx] at h;exact h)
 refine codeAny_loop hqu (fun n s'=>∃i H',Inv X [] (gH NT.length none++fs) H' s'∧tn i s'.heap∧(∀b∈fp,H' b=none)∧W i n H') ?_ m0 ⟨0,H,I,st,fun b hb=>(hf b hb).1,w0⟩;rintro n s3 ⟨i,H3,I3,st3,Ds,w3⟩;rw[hA];show aM _ X.A (if(Al e 0 (.ref it) acc X.env).isFrame=true then(Be e 0 (.ref it) acc X.env).onRaise (leaving X.env) else(Be e 0 (.ref it) acc X.env).onRaise (fun x=>do noteFrame x X.env;theTreesLotGoes x)) _ _ s3;rw[hq,if_neg iz];refine wpAny_noted (noE ?_);rw[hT];unfold turnOf;refine aC (sV (aC ?_));rcases turn i n H3 w3 with⟨stop,qn⟩|⟨go,step⟩
 ·refine bh (TT.done X rfl rfl rfl hc i [] s3 _ H3 _ I3 (stat Ds) st3 stop) fun r s4 aJ=>?_
  obtain⟨hr,I4⟩:=aJ
  subst hr;exact aW (hR H3 s4 _ I4 qn)
 ·refine bh (TT.item X rfl rfl rfl hc i [] s3 _ H3 _ I3 (stat Ds) st3 go) fun r s4 aJ=>?_
  obtain⟨u,hr,h4⟩:=aJ
  subst hr;refine aC (bh h4 fun _ s5 aJ=>?_)
  obtain⟨x,H5,I5,r5,y5,xR,Ry⟩:=aJ
  have Rz:=I5.pinned (stat Ry) (TT.obj _ _ xR)
  obtain⟨vs,hv,q5⟩:=step x H5 y5
  have hvl:=vJ.len tk hv;refine aC (ajg tk hN nd hc hl Rz r5 hv fun s6 I6=>?_);refine aC (noX (bh (hts _ s6 _ H5 _ I6 q5) fun b s7 aJ=>?_))
  obtain⟨H7,I7,q7⟩:=aJ
  have Zz:∀{s8:au}{H8:Hp},Inv X ([]++BK fp s5.heap) (vs.map some++fs) H8 s8→(∃m',m'<n∧W (i+1) m' H8)→
    (Al e 0 (.ref it) acc X.env=Al e 0 (.ref it) acc X.env)∧∃m,m<n∧∃i H',Inv X [] (gH NT.length none++fs) H' s8∧tn i s8.heap∧(∀b∈fp,H' b=none)∧W i m H':=fun{s8 H8} I8 n8=>by
   obtain⟨m',hm,w8⟩:=n8
   refine⟨rfl,m',hm,i+1,H8,agx hvl I8.GJ,TT.keep _ _ _ xR fun b hb o e=>(I8.pin (b,o) (dF _ (dF _ (Gn hb e)))).1,fun b hb=>?_,w8⟩
   obtain⟨o,e,d⟩:=TT.obj _ _ xR b hb
   exact(I8.pin (b,o) (dF _ (dF _ (Gn hb e)))).2.1
  cases b with
  |false=>exact aW (Zz I7 q7)
  |true=>exact aC (noX (bh (hem _ s7 _ H7 _ I7 q7) fun _ s8 ⟨H8,I8,q8⟩=>aW (Zz I8 q8)))
end
structure Bk where
 cl:List (Str×aa)
 C:aa
 s:au
 H:Hp
 fp:List aa
abbrev Cx.bk(X:Cx)(N:List Str)(scope:iJ)(b:Bk):Cx:=X.blk N scope b.cl b.C b.s b.H b.fp
section
variable{X:Cx}{NT NF:List Str}{js:List Nat}{elt kx vx tg iter e:Expr}{ifs:List Expr}{T:fU}{wi:TI}{ts:Bk→TT}{te tk' tv:Bk→TE}{scope:iJ}{pos:Pos}
def RJ(K:aH)(wi:TI)(T:fU)(ts:Bk→TT)(te:Bk→TE)(js:List Nat):TE:=fun σ H Q=>wi σ H fun J H1=>∀D,H1 D=none→∀b,vA K T (ts b) (O3 D (te b)) (frees js σ) J (upd H1 D (.lst [])) (Q (.ref D))
theorem ZC{pins:List (aa×Obj)}{σ:St}{s2:au}{H2:Hp}{cl:List (Str×aa)}{it:aa}{fp:List aa}{tn:Nat→aV→Prop}{J:It}{Q:Hp→Prop}{RR:Value→aa→pZ→au→Prop}{E:Value→au→Prop}
  (B:nO X NT NF js scope)(tk:mZ tg NT T)(hc:X.calm=true)
  (hin:∀b,lN (X.bk (NT++NF) scope b) ifs (ts b)∧PE (X.bk (NT++NF) scope b) elt (te b))
  (q2:∀n c,cl.lookup n=some c→X.env.cells.lookup n=some c)(q3:∀y∈scope.names,y.2=.free→∃c,cl.lookup y.1=some c)
  (I2:Inv X pins σ H2 s2)(TT:Turn X.prog X.w X.K tg J fp it tn)(st2:tn 0 s2.heap)(f2:∀b∈fp,jD X pins H2 b)
  (q:∀b,vA X.K T (ts b) (O3 s2.heap.objs.size (te b)) (frees js σ) J (upd H2 s2.heap.objs.size (.lst [])) Q)
  (hR:∀C H' s' m,Inv X pins σ H' s'→jD X pins H' C→s'.heap.Ns C m→Q H'→RR (.ref s2.heap.objs.size) C (.ok .next) s'):
  aM (model X.prog X.w) X.A (newList []) (fun acc s₃=>aM (model X.prog X.w) X.A (U5 scope X.env.globals cl [] X.env.qual none .none (some X.env)) (fun cenv s₄=>
   jN (model X.prog X.w) X.A (.compStart (.ListComp elt [⟨tg,iter,ifs,0⟩] scope pos) 0 (.ref it) acc {cenv with scope:=relabel scope X.env}) (RR acc cenv.locals) s₄) E s₃) E s2:=by
 refine lU ?_;have hD:H2 s2.heap.objs.size=none:=I2.hok.fresh (bK _);have I3:Inv X pins σ (upd H2 s2.heap.objs.size (.lst [])) {s2 with heap:=s2.heap.push {cls:=.type "list",dict:=none,data:=.seq ([]:List Value).toArray}}:=
  I2.laid (t':=s2.toks) (fun b o e=>cB _ e) (bK _) ⟨lF _,[],0,.nil,gP _ rfl⟩
 have hsz:(s2.heap.push {cls:=.type "list",dict:=none,data:=.seq ([]:List Value).toArray}).objs.size=s2.heap.objs.size+1:=wg ..;refine TJ B.cell (by intro y hy;simp at hy) (fun h₁ hns₁ hsb₁=>?_) B.kind;have vK:∀b∈fp,b<s2.heap.objs.size:=fun b hb=>by
  obtain⟨o,e,_⟩:=TT.obj 0 _ st2 b hb
  exact cz e
 have f3:∀b∈fp,jD X pins (upd H2 s2.heap.objs.size (.lst [])) b:=fun b hb=>⟨by rw[cN (dM (vK b hb))];exact(f2 b hb).1,(f2 b hb).2⟩
 have keep:∀b o,(s2.heap.push {cls:=.type "list",dict:=none,data:=.seq ([]:List Value).toArray}).get? b=some o→h₁.get? b=some o:=fun b o e=>
  hsb₁.extBut b o (dM (cz e)) (cB _ e)
 have vL:∀b∈fp,b<(s2.heap.push {cls:=.type "list",dict:=none,data:=.seq ([]:List Value).toArray}).objs.size:=fun b hb=>by have:=vK b hb;rw[hsz];exact vW this
 have I4:=I3.blk (s1:={s2 with heap:=h₁,toks:=s2.toks+([]:List (Str×Value)).length}) B q2 q3 f3 vL hns₁ keep rfl I2.bare;have vM:tn 0 h₁:=TT.keep 0 _ _ st2 fun b _ o e=>keep b o (cB _ e)
 obtain⟨i1,i2⟩:=hin ⟨cl,(s2.heap.push {cls:=.type "list",dict:=none,data:=.seq ([]:List Value).toArray}).objs.size,{s2 with heap:=s2.heap.push {cls:=.type "list",dict:=none,data:=.seq ([]:List Value).toArray}},upd H2 s2.heap.objs.size (.lst []),fp⟩
 have loop:jN (model X.prog X.w) X.A (.compLoop (.ListComp elt [⟨tg,iter,ifs,0⟩] scope pos) 0 (.ref it) (.ref s2.heap.objs.size) (Ni scope cl (s2.heap.push {cls:=.type "list",dict:=none,data:=.seq ([]:List Value).toArray}).objs.size X.env))
   (RR (.ref s2.heap.objs.size) (s2.heap.push {cls:=.type "list",dict:=none,data:=.seq ([]:List Value).toArray}).objs.size) {s2 with heap:=h₁,toks:=s2.toks+([]:List (Str×Value)).length}:=by
  refine Nj (X:=X.blk (NT++NF) scope cl (s2.heap.push {cls:=.type "list",dict:=none,data:=.seq ([]:List Value).toArray}).objs.size {s2 with heap:=s2.heap.push {cls:=.type "list",dict:=none,data:=.seq ([]:List Value).toArray}} (upd H2 s2.heap.objs.size (.lst [])) fp)
   (T:=T) (fs:=frees js σ) (done:=Q) rfl (aeN elt tg iter ifs scope pos _ _ _) rfl rfl rfl tk rfl B.nd hc (fun x hx=>TQ (B.tg x hx)) i1 (afE i2) TT (fun b hb=>?_) I4 vM (q _) fun H' s' σ' J' qd=>?_
  ·exact⟨(f3 b hb).1,dM (vL b hb),fun hb2=>by
    rcases bN.mp (I3.zb b hb2) with z|z
    ·exact(f3 b hb).2.1 z
    ·exact(f3 b hb).2.2.1 z,.inl hb,fun x c e=>(f3 b hb).2.2.2.2.1 x c (q2 x c e),fun p hp=>(nomatch(show p∈([]:List (aa×Obj)) from hp))⟩
  ·obtain⟨m,hn,_⟩:=J'.loc
   exact hR _ H' s' m (I3.QT f3 J') (I3.vp (bK _) J'.free) hn qd
 exact codeAny_compStart_list loop (TT.self _ 0 _ _ _ vM loop)
theorem akr(B:nO X NT NF js scope)(tk:mZ tg NT T)(hc:X.calm=true)(hi:PI X tg iter wi)
  (hin:∀b,lN (X.bk (NT++NF) scope b) ifs (ts b)∧PE (X.bk (NT++NF) scope b) elt (te b))
  (hs:∀x,sO iter X.env x=pure x:=by intro _;rfl):PE X (.ListComp elt [⟨tg,iter,ifs,0⟩] scope pos) (RJ X.K wi T ts te js):=by
 intro pins s σ H Q I h
 obtain⟨cl,hclos,q2,q3⟩:=Gq (env:=X.env) (scope:=scope) fun y hy e=>I.ok.has y.1 (B.free y hy e)
 rw[eval_ListComp];refine JN (use:=none) rfl hs hclos B.kind B.names (bh (hi pins s σ H _ I h) fun v s1 h1=>bh h1 fun itv s2 aJ=>?_)
 obtain⟨it,fp,tn,J,H2,e,I2,TT,st2,f2,q⟩:=aJ
 subst e;refine ZC (Q:=fun H'=>Q (.ref s2.heap.objs.size) H') (RR:=fun acc C=>Nk (model X.prog X.w) X.A X.xe none (EP X pins σ Q) acc C) B tk hc hin q2 q3 I2 TT st2 f2 (q _ (I2.hok.fresh (bK _))) fun C H' s' m I' fC hn qd=>?_
 refine⟨m,hn,fun h' sb=>⟨.ref s2.heap.objs.size,H',?_,rfl,qd⟩⟩
 exact I'.turned (t':=s'.toks) (fun b o hb e=>(sb.2 b hb).trans e) fC.1 fC.2.1 fC.2.2.2.1 fC.2.2.2.2.1 fC.2.2.2.2.2
theorem agy(B:nO X NT NF js scope)(tk:mZ tg NT T)(hc:X.calm=true)(hi:PI X tg iter wi)
  (hin:∀b,lN (X.bk (NT++NF) scope b) ifs (ts b)∧PE (X.bk (NT++NF) scope b) elt (te b))
  (hsw:rm (.ListComp elt [⟨tg,iter,ifs,0⟩] scope pos) (some (.Name y pos')) spos.line X.env=pure true)
  (hN:X.N.Nodup)(hI:X.N[i]?=some y)(hy:X.env.scope.names.lookup y=some .local)
  (hs:∀x,sO iter X.env x=pure x:=by intro _;rfl):PS X (.Assign [.Name y pos'] (.ListComp elt [⟨tg,iter,ifs,0⟩] scope pos) spos) (zM (RJ X.K wi T ts te js) (uY i)):=by
 intro pins s σ H D I h
 obtain⟨cl,hclos,q2,q3⟩:=Gq (env:=X.env) (scope:=scope) fun y hy e=>I.ok.has y.1 (B.free y hy e)
 rw[acr _ _ _ _ hsw];refine aC (sV (aC ?_));show aM _ X.A (do let _ ←Vo (.ListComp elt [⟨tg,iter,ifs,0⟩] scope pos) scope X.env _ (newList []) false (eval iter X.env) (some (assign (.Name y pos') X.env))) _ _ s;refine aC (mW (JN (use:=some (assign (.Name y pos') X.env)) (Q:=fun _ s'=>SP X pins D .next s') rfl hs hclos B.kind B.names
  (bh (hi pins s σ H _ I h) fun v s1 h1=>bh h1 fun itv s2 ⟨it,fp,tn,J,H2,e,I2,TT,st2,f2,q⟩=>?_)) (fun _ s' hq=>aW (aW hq)) fun _ _ e=>e)
 subst e;refine ZC (Q:=fun H'=>D.nx (σ.set i (some (.ref s2.heap.objs.size))) H') (RR:=fun acc C=>Nk (model X.prog X.w) X.A X.xe (some (assign (.Name y pos') X.env)) (fun _ s'=>SP X pins D .next s') acc C) B tk hc hin q2 q3 I2 TT st2 f2 (q _ (I2.hok.fresh (bK _))) fun C H' s' m I' fC hn qd=>?_
 show aM _ X.A (assign (.Name y pos') X.env (.ref s2.heap.objs.size)) _ _ _;refine Eo (Mp I' hN hI (.inl hy) (v:=.ref s2.heap.objs.size) rfl (fun s3 I3 aJ=>?_) (.inr hy))
 obtain⟨a,sb,ha⟩:=aJ
 have RK:C≠a:=by
  rcases ha with z|z
  ·rw[z];exact fC.2.1
  ·exact fun w=>fC.2.2.2.2.1 y a z w.symm
 refine⟨m,hn.sameBut sb RK,fun h' sb'=>⟨_,H',?_,qd⟩⟩
 exact I3.turned (t':=s3.toks) (fun b o hb e=>(sb'.2 b hb).trans e) fC.1 fC.2.1 fC.2.2.2.1 fC.2.2.2.2.1 fC.2.2.2.2.2
end
def RL(z:Str):It:=⟨fun i _=>i<z.cps.size,fun i H x H'=>H'=H∧∃c,z.cps[i]?=some c∧x=.str ⟨#[c]⟩,fun i _=>z.cps.size≤i⟩
theorem agz{P:bf}{w:aY}{K:aH}{tg:Expr}{z:Str}{t:Tok}{ty:String}{it:aa}(hty:ty="str_ascii_iterator"∨ty="str_iterator")(hgo:∀i u,vY tg i u=pure ()):
  Turn P w K tg (RL z) [it] it (fun i h=>h.IsStrIter it ty z t i) where
 mem:=by simp
 obj:=fun i h st b hb=>by
  have e:b=it:=by simpa using hb
  subst e
  obtain⟨o,e,c,d⟩:=st
  exact⟨o,e,fun v q=>by rw[d] at q;cases q⟩
 keep:=fun i h h' st k=>let ⟨o,ho,r⟩:=st;⟨o,k it (by simp) o ho,r⟩
 item:=by
  intro X hP hw hK hc i pins s σ H E I hf st hg;subst hP hw hK
  obtain⟨f0,f1,f2,f3,f4,f5⟩:=hf it (by simp)
  have hi:i<z.cps.size:=hg;have W:Walks X.prog X.w X.A it [it] [it] z.cps.size (SignAt z) (fun i h=>h.IsStrIter it ty z t i):=by
   rcases hty with rfl|rfl
   ·exact Walks.strAscii (I.ok.hd hc) it z t
   ·exact Walks.strWide (I.ok.hd hc) it z t
  refine W.item i s _ _ hi st fun v h' tk hv st' kk=>?_
  obtain⟨c,u,hc',rfl⟩:=hv
  have I1:Inv X pins σ H {s with heap:=h',toks:=tk}:=I.turned (fun b o hb e=>kk b o (by simpa using hb) e) f0 f1 f3 f4 f5
  refine⟨_,rfl,?_⟩
  rw[hgo];exact aW ⟨.str ⟨#[c]⟩,H,I1,⟨u,rfl⟩,⟨rfl,c,hc',rfl⟩,st',fun b hb=>(hf b hb).1⟩
 done:=by
  intro X hP hw hK hc i pins s σ H E I hf st hg;subst hP hw hK
  obtain⟨f0,f1,f2,f3,f4,f5⟩:=hf it (by simp)
  have hi:z.cps.size≤i:=hg;rcases hty with rfl|rfl
  ·exact wpAny_pyNext_ascii_end (I.ok.hd hc) st (by simpa using hi) fun h' eb=>⟨rfl,I.turned (t':=s.toks) (fun b o hb e=>eb b o hb e) f0 f1 f3 f4 f5⟩
  ·exact wpAny_pyNext_wide_end (I.ok.hd hc) st (by simpa using hi) fun h' eb=>⟨rfl,I.turned (t':=s.toks) (fun b o hb e=>eb b o hb e) f0 f1 f3 f4 f5⟩
 self:=fun _ _ _ _ _ st h=>by
  rcases hty with rfl|rfl
  ·exact wpAny_pyIter_striter_ascii st h
  ·exact wpAny_pyIter_striter_wide st h
section
variable{X:Cx}{tg:Expr}
def ak4(tl:TE):TI:=fun σ H R=>tl σ H fun x H1=>∃z,x=.str z∧R (RL z) H1
theorem ZD{l:Expr}{tl:TE}(hl:PE X l tl)(hgo:∀i u,vY tg i u=pure ():=by intro _ _;rfl):PI X tg l (ak4 tl):=by
 intro pins s σ H R I h;refine bh (hl pins s σ H _ I h) fun v s1 aJ=>?_
 obtain⟨x,H1,I1,r1,q1⟩:=aJ
 obtain⟨z,e,q⟩:=q1
 subst e
 obtain⟨t,rfl⟩:=r1
 have fin:∀(o:Obj)(ty:String),(ty="str_ascii_iterator"∨ty="str_iterator")→Heap.IsStrIter (s1.heap.push o) s1.heap.objs.size ty z t 0→PIE X pins σ tg R (.ref s1.heap.objs.size) {s1 with heap:=s1.heap.push o}:=fun o ty hty st=>by
  refine⟨s1.heap.objs.size,[s1.heap.objs.size],_,_,H1,rfl,I1.kept (t':=s1.toks) fun b o e=>cB _ e,agz hty hgo,st,fun b hb=>?_,q⟩
  have e:b=s1.heap.objs.size:=by simpa using hb
  subst e;exact I1.vp (bK _) (I1.hok.fresh (bK _))
 cases ha:z.cps.all (·<128)
 ·exact wpAny_pyIter_wide ha (fin _ _ (.inr rfl) ⟨_,gP _ rfl,rfl,rfl⟩)
 ·exact wpAny_pyIter_ascii ha (fin _ _ (.inl rfl) ⟨_,gP _ rfl,rfl,rfl⟩)
theorem afF:cA X (dH .LtE) (fun x y H Q=>∃i j,x=.str i∧y=.str j∧Q (.bl (!(decide (j.cps.toList<i.cps.toList)))) H):=by
 intro pins s σ H x y v u Q I rx ry h
 obtain⟨i,j,rfl,rfl,q⟩:=h
 obtain⟨t,rfl⟩:=rx
 obtain⟨t',rfl⟩:=ry
 exact PySem.P.le_str (fB I q rfl)
theorem LK:∀{ys:List Str}{us:List Value},Vals (ys.map V.str) us→StrsAre us ys
 |[],_,h=>by cases h;exact .nil
 |y::ys,_,h=>by
  cases h with
  |cons r rr=>
   obtain⟨t,rfl⟩:=r
   exact .cons y t (LK rr)
theorem ahR:qI X "str.join" (fun x xs H Q=>∃z p ys,x=.str z∧xs=[.ref p]∧bO X.K H p (ys.map V.str)∧(ys.map (·.length)).sum+ys.length*z.length≤16777216∧Q (.str (Txt.join z ys)) H):=by
 intro pins s σ H x xs v us Q I rx r h
 obtain⟨z,p,ys,rfl,rfl,hp,hz,q⟩:=h
 obtain⟨t,rfl⟩:=rx
 obtain⟨u,rfl,ru⟩:=vals1 r
 cases ru
 obtain⟨its,rv,pl,_⟩:=I.list hp
 exact join_list pl.isList (by simpa using LK rv) hz fun t' k=>⟨.str _,H,I.tok _,⟨_,rfl⟩,q⟩
end
section
variable{X:Cx}
theorem part_of(h:rF v o):∃l:Option (Int×Tok),v=partValue l∧l.map (·.1)=o:=by
 cases h with
 |none=>exact⟨none,rfl,rfl⟩
 |int i t=>exact⟨some (i,t),rfl,rfl⟩
theorem ajh:ur X (fun x lo hi H Q=>∃z,x=.str z∧z.length≤bM∧Q (.str (Txt.slice z lo hi)) H):=by
 intro pins s σ H x v vl vu lo hi sl Q I rx hs pl pu h
 obtain⟨z,rfl,hz,q⟩:=h
 obtain⟨t,rfl⟩:=rx
 obtain⟨l,rfl,rfl⟩:=part_of pl
 obtain⟨u,rfl,rfl⟩:=part_of pu
 refine⟨"str",_,F.slot_str_getitem.lookup,V9 s z t,?_⟩
 exact wpAny_getItem_str_slice (l:=l) (u:=u) (st:=none) hs rfl (post_val_or_str ⟨jL (Txt.slice_le z _ _) hz,fun t' k=>⟨.str _,H,I.tok _,⟨t',rfl⟩,q⟩⟩)
end
mutual
def RD(K:aH)(H:Hp):ao→V→Prop
 |.none,v=>v=.non
 |.bool b,v=>v=.bl b
 |.int i,v=>v=.int i
 |.str x,v=>v=.str x
 |.tuple ds,v=>∃a vs,v=.ref a∧cI K H a vs∧mR K H ds vs
 |.list ds,v=>∃a vs,v=.ref a∧bO K H a vs∧mR K H ds vs
 |.dict _,_=>False
def mR(K:aH)(H:Hp):List ao→List V→Prop
 |[],vs=>vs=[]
 |d::ds,vs=>∃v r,vs=v::r∧RD K H d v∧mR K H ds r
end
theorem cI.same{K:aH}{H H':Hp}{a:aa}{xs:List V}(e:∀b ys,H b=some (.tup ys)→H' b=some (.tup ys))(ef:∀b o u,H b=some (.lM o u)→H' b=some (.lM o u))(h:cI K H a xs):cI K H' a xs:=by
 rcases h with(h|⟨o,h⟩)|h
 ·exact .inl (.inl (e _ _ h))
 ·exact .inl (.inr ⟨o,ef _ _ _ h⟩)
 ·exact .inr h
mutual
theorem RD.same{K:aH}{H H':Hp}(e:bw H H'):∀{d:ao}{v:V},RD K H d v→RD K H' d v
 |.none,_,h=>h
 |.bool _,_,h=>h
 |.int _,_,h=>h
 |.str _,_,h=>h
 |.tuple ds,v,h=>by
  obtain⟨a,vs,e1,q,r⟩:=h
  exact⟨a,vs,e1,q.same (fun b ys z=>e _ _ z) (fun b o u z=>e _ _ z),mR.same e r⟩
 |.list ds,v,h=>by
  obtain⟨a,vs,e1,q,r⟩:=h
  exact⟨a,vs,e1,e.seq q,mR.same e r⟩
theorem mR.same{K:aH}{H H':Hp}(e:bw H H'):∀{ds:List ao}{vs:List V},mR K H ds vs→mR K H' ds vs
 |[],_,h=>h
 |d::ds,vs,h=>by
  obtain⟨v,r,e1,q,t⟩:=h
  exact⟨v,r,e1,RD.same e q,mR.same e t⟩
end
section
variable{X:Cx}{pins:List (aa×Obj)}{σ:St}{H:Hp}{s:au}
mutual
theorem RD.reads(I:Inv X pins σ H s):∀{d:ao}{v:V}{u:Value},RD X.K H d v→RelV v u→∃as,Reads s.heap u d as
 |.none,_,_,h,r=>by
  cases(show _=V.non from h)
  cases r
  exact⟨_,.none⟩
 |.bool b,_,_,h,r=>by
  cases(show _=V.bl b from h)
  cases r
  exact⟨_,.bool b⟩
 |.int i,_,_,h,r=>by
  cases(show _=V.int i from h)
  obtain⟨t,rfl⟩:=r
  exact⟨_,.int i t⟩
 |.str x,_,_,h,r=>by
  cases(show _=V.str x from h)
  obtain⟨t,rfl⟩:=r
  exact⟨_,.str x t⟩
 |.tuple ds,v,u,h,r=>by
  obtain⟨a,vs,e1,q,t⟩:=h
  subst e1;cases r
  obtain⟨its,rv,⟨o,e,c,n,d⟩,_⟩:=I.tuple q
  obtain⟨as,R⟩:=mR.reads I t rv
  exact⟨_,.tuple e c d (by simpa using R)⟩
 |.list ds,v,u,h,r=>by
  obtain⟨a,vs,e1,q,t⟩:=h
  subst e1;cases r
  obtain⟨its,rv,⟨o,n,e,c,_,d⟩,_⟩:=I.list q
  obtain⟨as,R⟩:=mR.reads I t rv
  exact⟨_,.list e c d (by simpa using R)⟩
theorem mR.reads(I:Inv X pins σ H s):∀{ds:List ao}{vs:List V}{us:List Value},mR X.K H ds vs→Vals vs us→∃as,ReadsAll s.heap us ds as
 |[],_,_,h,r=>by
  cases(show _=[] from h)
  cases r
  exact⟨_,.nil⟩
 |d::ds,vs,us,h,r=>by
  obtain⟨v,rr,e1,q,t⟩:=h
  subst e1;cases r with
  |cons r1 r2=>
   obtain⟨as,R⟩:=RD.reads I q r1
   obtain⟨bs,R2⟩:=mR.reads I t r2
   exact⟨_,.cons R R2⟩
end
end
section
variable{X:Cx}
end
def ZF(lO:iJ)(N0 NT NF:List Str)(js:List Nat)(scope:iJ):Bool:=
 scope.kind==.function&&scope.names.all (fun y=>!(y.2==.local)||scope.names.lookup y.1==some .local)&&scope.names.all (fun y=>!(y.2==.cell))&&
  scope.names.all (fun y=>!(y.2==.free)||(lO.names.lookup y.1==some .cell||lO.names.lookup y.1==some .free))&&js.length==NF.length&&
  (js.zip NF).all (fun p=>N0[p.1]?==some p.2&&scope.names.lookup p.2==some .free)&&NT.all (fun x=>scope.names.lookup x==some .local)&&decide (NT++NF).Nodup
theorem pA.ok(h:ZF lO N0 NT NF js scope=true)(ho:X.env.scope=lO)(hN:X.N=N0):nO X NT NF js scope:=by
 unfold ZF at h;simp only[gQ] at h
 obtain⟨⟨⟨⟨⟨⟨⟨h1,h2⟩,h3⟩,h4⟩,h5⟩,h6⟩,h7⟩,h8⟩:=h
 refine⟨eq_of_beq h1,fun y hy e=>?_,fun y hy e=>?_,fun y hy e=>?_,by simpa using h5,fun k j x ej ex=>?_,fun x hx=>?_,of_decide_eq_true h8⟩
 ·have:=qU.mp h2 y hy;rw[e] at this;simpa using this
 ·have:=qU.mp h3 y hy;rw[e] at this;simp at this
 ·have:=qU.mp h4 y hy;rw[e] at this;rw[ho];simpa using this
 ·have hm:(j,x)∈js.zip NF:=by
   have:(js.zip NF)[k]?=some (j,x):=by
    rw[List.getElem?_zip_eq_some]
    exact⟨ej,ex⟩
   exact m9 this
  have:=qU.mp h6 _ hm;simp only[gQ] at this;rw[hN]
  exact⟨eq_of_beq this.1,eq_of_beq this.2⟩
 ·exact eq_of_beq (qU.mp h7 x hx)
structure dN(P:bf)(w:aY)(K:aH)(mg:Str→Option Value)(base:aV)(x:Str)(k:Nat)(ps:List Str)(sp:Sp):Prop where
 ex:∃(f:aa)(fd:di),mg x=some (.ref f)∧yx K (.ref f)=true∧Binds K fd ps []∧cW P w K mg base eV k f fd ps sp
section
variable{X:Cx}{x:Str}{k:Nat}{ps:List Str}{sp:Sp}{p pos:Pos}{e:Expr}{es:List Expr}{t:TA}
theorem aks(F:dN X.prog X.w X.K X.mg X.base x k ps sp)(hr:gG k X.A)(hg:Gl X x)(ha:PA X (e::es) t)(hdb:(x==("__debug__":Str))=false:=by decide)
  (he:aZ (e::es) X.env=(false,eval e X.env)::aZ es X.env:=by rfl)(hpl:(eO pos (aZ es X.env)).any (·.1)=false:=by rfl):
  PE X (.Call (.Name x p) (e::es) [] pos) (QL sp [] E0 t):=by
 obtain⟨f,fd,h1,h2,h3,h4⟩:=F.ex
 exact ahC h4 hr hg h1 h2 h3 .nil akq ha hdb he hpl
theorem aev:jb X (.builtin "isinstance") (fun xs H Q=>∃x n t b,xs=[x,.ty n]∧mH X.K H x t∧U4 X.K t (.type n)=some b∧Q (.bl b) H):=by
 intro pins s σ H xs us Q I r h
 obtain⟨x,n,t,b,rfl,ty,e,q⟩:=h
 obtain⟨u,u2,rfl,r1,r2⟩:=vals2 r
 cases r2;exact aft I r1 ty e fun tk=>⟨.bl b,H,I.tok tk,rfl,q⟩
end
structure Fx(K:aH)(T:fU)(J:It)(n:Nat)(vs:Nat→List V)(G:Hp→Prop):Prop where
 go:∀i H,i<n→G H→J.go i H
 vH:∀i H x H',i<n→G H→J.vH i H x H'→H'=H∧vJ K T x H (vs i)
 stop:∀H,G H→J.stop n H
section
variable{K:aH}{T:fU}{J:It}{n:Nat}{vs:Nat→List V}{G:Hp→Prop}{ts:TT}{te:TE}{fs:St}{H1:Hp}{D:aa}{done:Hp→Prop}
end
theorem ahS(h:n≤m)(hm:m≤16777216:=by decide):n≤bM:=by rw[iT];omega
section
variable{K:aH}{T:fU}{J:It}{n:Nat}{vs:Nat→List V}{G:Hp→Prop}{te:TE}{fs:St}{H1:Hp}{D:aa}{done:Hp→Prop}
end
section
variable{X:Cx}
theorem qI.r{id:String}{r:V→List V→Hp→VK→Prop}(h:qI X id r):zU X id r:=h
end
def Ext(p:aa)(H H':Hp):Prop:=∀b o,H b=some o→b≠p→H' b=some o
theorem Ext.refl(p:aa)(H:Hp):Ext p H H:=fun _ _ h _=>h
theorem Ext.trans(a:Ext p H H1)(b:Ext p H1 H2):Ext p H H2:=fun c o h hc=>b c o (a c o h hc) hc
theorem bw.ext(s:bw H H'):Ext p H H':=fun b o h _=>s b o h
theorem Ext.upd:Ext p H (upd H p o):=fun b u h hb=>by rw[cN hb];exact h
theorem bw.upd(h:H p=none):bw H (L2.upd H p o):=fun b u e=>by rw[cN (oH e h)];exact e
def Rj(D:aa)(tk tv:TE):TM:=fun σ H Q=>tk σ H fun y H1=>tv σ H1 fun z H2=>∃kvs k,H2 D=some (.dK kvs)∧y=kV k∧kvs.length<bM∧Q (upd H2 D (.dK (putK kvs k z)))
theorem aji(hu:X.A.units+1<dY)(hk:PE X kx tk)(hv:PE X vx tv):PM X (do
      let kv ←eval kx X.env
      let vv ←oO [kv] (eval vx X.env)
      rD {kx.pos with endLine:=vx.pos.endLine,endCol:=vx.pos.endCol}
      oO [kv,vv] (dictSet D kv vv)) (Rj D tk tv):=by
 intro pins s σ H Q I h;refine aC (bh (hk pins s σ H _ I h) fun kv s1 aJ=>?_)
 obtain⟨y,H1,I1,r1,q1⟩:=aJ
 refine aC (lW (bh (hv pins s1 σ H1 _ I1 q1) fun vv s2 aJ=>?_))
 obtain⟨z,H2,I2,r2,kvs,k,hD,ey,hl,q2⟩:=aJ
 subst ey;refine aC (sV (lW ?_))
 obtain⟨z1,hd,vs,rel,dd⟩:=Ii I2.hok hD
 have hz:vs.length≤bM:=by rw[←rel.length];exact z1
 have hl2:(putK kvs k z).length≤bM:=by have:=Ge kvs k z;omega
 refine wpAny_dictSet_pairs (hsz:=hz) (uZ r1) dd fun h' sy hs=>⟨_,?_,q2⟩
 have he:∃q,h'.get? D=some q:=let ⟨q,_,_,hq,_⟩:=sy;⟨q,hq⟩
 exact wN I2 (by rw[hD];exact oJ) hs he (HN hl2 hd (rel.put k r2) sy)
section
variable{X:Cx}{NT NF:List Str}{js:List Nat}{elt kx vx tg iter e:Expr}{ifs:List Expr}{T:fU}{wi:TI}{ts:Bk→TT}{te tk' tv:Bk→TE}{scope:iJ}{pos:Pos}
def tDC(K:aH)(wi:TI)(T:fU)(ts:Bk→TT)(tk' tv:Bk→TE)(js:List Nat):TE:=fun σ H Q=>wi σ H fun J H1=>∀D,H1 D=none→∀b,vA K T (ts b) (Rj D (tk' b) (tv b)) (frees js σ) J (upd H1 D (.dK [])) (Q (.ref D))
theorem ajj{pins:List (aa×Obj)}{σ:St}{s2:au}{H2:Hp}{cl:List (Str×aa)}{it:aa}{fp:List aa}{tn:Nat→aV→Prop}{J:It}{Q:Hp→Prop}{RR:Value→aa→pZ→au→Prop}{E:Value→au→Prop}
  (B:nO X NT NF js scope)(tk:mZ tg NT T)(hc:X.calm=true)(hu:X.A.units+1<dY)
  (hin:∀b,lN (X.bk (NT++NF) scope b) ifs (ts b)∧PE (X.bk (NT++NF) scope b) kx (tk' b)∧PE (X.bk (NT++NF) scope b) vx (tv b))
  (q2:∀n c,cl.lookup n=some c→X.env.cells.lookup n=some c)(q3:∀y∈scope.names,y.2=.free→∃c,cl.lookup y.1=some c)
  (I2:Inv X pins σ H2 s2)(TT:Turn X.prog X.w X.K tg J fp it tn)(st2:tn 0 s2.heap)(f2:∀b∈fp,jD X pins H2 b)
  (q:∀b,vA X.K T (ts b) (Rj s2.heap.objs.size (tk' b) (tv b)) (frees js σ) J (upd H2 s2.heap.objs.size (.dK [])) Q)
  (hR:∀C H' s' m,Inv X pins σ H' s'→jD X pins H' C→s'.heap.Ns C m→Q H'→RR (.ref s2.heap.objs.size) C (.ok .next) s'):
  aM (model X.prog X.w) X.A (newDict) (fun acc s₃=>aM (model X.prog X.w) X.A (U5 scope X.env.globals cl [] X.env.qual none .none (some X.env)) (fun cenv s₄=>
   jN (model X.prog X.w) X.A (.compStart (.DictComp kx vx [⟨tg,iter,ifs,0⟩] scope pos) 0 (.ref it) acc {cenv with scope:=relabel scope X.env}) (RR acc cenv.locals) s₄) E s₃) E s2:=by
 refine lU ?_;have hD:H2 s2.heap.objs.size=none:=I2.hok.fresh (bK _);have I3:Inv X pins σ (upd H2 s2.heap.objs.size (.dK [])) {s2 with heap:=s2.heap.push {cls:=.type "dict",dict:=none,data:=.dict #[]}}:=
  I2.laid (t':=s2.toks) (fun b o e=>cB _ e) (bK _) (Nh s2.heap I2.big)
 have hsz:(s2.heap.push {cls:=.type "dict",dict:=none,data:=.dict #[]}).objs.size=s2.heap.objs.size+1:=wg ..;refine TJ B.cell (by intro y hy;simp at hy) (fun h₁ hns₁ hsb₁=>?_) B.kind;have vK:∀b∈fp,b<s2.heap.objs.size:=fun b hb=>by
  obtain⟨o,e,_⟩:=TT.obj 0 _ st2 b hb
  exact cz e
 have f3:∀b∈fp,jD X pins (upd H2 s2.heap.objs.size (.dK [])) b:=fun b hb=>⟨by rw[cN (dM (vK b hb))];exact(f2 b hb).1,(f2 b hb).2⟩
 have keep:∀b o,(s2.heap.push {cls:=.type "dict",dict:=none,data:=.dict #[]}).get? b=some o→h₁.get? b=some o:=fun b o e=>
  hsb₁.extBut b o (dM (cz e)) (cB _ e)
 have vL:∀b∈fp,b<(s2.heap.push {cls:=.type "dict",dict:=none,data:=.dict #[]}).objs.size:=fun b hb=>by have:=vK b hb;rw[hsz];exact vW this
 have I4:=I3.blk (s1:={s2 with heap:=h₁,toks:=s2.toks+([]:List (Str×Value)).length}) B q2 q3 f3 vL hns₁ keep rfl I2.bare;have vM:tn 0 h₁:=TT.keep 0 _ _ st2 fun b _ o e=>keep b o (cB _ e)
 obtain⟨i1,i2,i3⟩:=hin ⟨cl,(s2.heap.push {cls:=.type "dict",dict:=none,data:=.dict #[]}).objs.size,{s2 with heap:=s2.heap.push {cls:=.type "dict",dict:=none,data:=.dict #[]}},upd H2 s2.heap.objs.size (.dK []),fp⟩
 have loop:jN (model X.prog X.w) X.A (.compLoop (.DictComp kx vx [⟨tg,iter,ifs,0⟩] scope pos) 0 (.ref it) (.ref s2.heap.objs.size) (Ni scope cl (s2.heap.push {cls:=.type "dict",dict:=none,data:=.dict #[]}).objs.size X.env))
   (RR (.ref s2.heap.objs.size) (s2.heap.push {cls:=.type "dict",dict:=none,data:=.dict #[]}).objs.size) {s2 with heap:=h₁,toks:=s2.toks+([]:List (Str×Value)).length}:=by
  refine Nj (X:=X.blk (NT++NF) scope cl (s2.heap.push {cls:=.type "dict",dict:=none,data:=.dict #[]}).objs.size {s2 with heap:=s2.heap.push {cls:=.type "dict",dict:=none,data:=.dict #[]}} (upd H2 s2.heap.objs.size (.dK [])) fp)
   (T:=T) (fs:=frees js σ) (done:=Q) rfl (aeO kx vx tg iter ifs scope pos _ _ _) rfl rfl rfl tk rfl B.nd hc (fun x hx=>TQ (B.tg x hx)) i1 (aji hu i2 i3) TT (fun b hb=>?_) I4 vM (q _) fun H' s' σ' J' qd=>?_
  ·exact⟨(f3 b hb).1,dM (vL b hb),fun hb2=>by
    rcases bN.mp (I3.zb b hb2) with z|z
    ·exact(f3 b hb).2.1 z
    ·exact(f3 b hb).2.2.1 z,.inl hb,fun x c e=>(f3 b hb).2.2.2.2.1 x c (q2 x c e),fun p hp=>(nomatch(show p∈([]:List (aa×Obj)) from hp))⟩
  ·obtain⟨m,hn,_⟩:=J'.loc
   exact hR _ H' s' m (I3.QT f3 J') (I3.vp (bK _) J'.free) hn qd
 exact codeAny_compStart_dict loop (TT.self _ 0 _ _ _ vM loop)
theorem agA(B:nO X NT NF js scope)(tk:mZ tg NT T)(hc:X.calm=true)(hu:X.A.units+1<dY)(hi:PI X tg iter wi)
  (hin:∀b,lN (X.bk (NT++NF) scope b) ifs (ts b)∧PE (X.bk (NT++NF) scope b) kx (tk' b)∧PE (X.bk (NT++NF) scope b) vx (tv b))
  (hsw:rm (.DictComp kx vx [⟨tg,iter,ifs,0⟩] scope pos) (some (.Name y pos')) spos.line X.env=pure true)
  (hN:X.N.Nodup)(hI:X.N[i]?=some y)(hy:X.env.scope.names.lookup y=some .local)
  (hs:∀x,sO iter X.env x=pure x:=by intro _;rfl):PS X (.Assign [.Name y pos'] (.DictComp kx vx [⟨tg,iter,ifs,0⟩] scope pos) spos) (zM (tDC X.K wi T ts tk' tv js) (uY i)):=by
 intro pins s σ H D I h
 obtain⟨cl,hclos,q2,q3⟩:=Gq (env:=X.env) (scope:=scope) fun y hy e=>I.ok.has y.1 (B.free y hy e)
 rw[acr _ _ _ _ hsw];refine aC (sV (aC ?_));show aM _ X.A (do let _ ←Vo (.DictComp kx vx [⟨tg,iter,ifs,0⟩] scope pos) scope X.env _ (newDict) false (eval iter X.env) (some (assign (.Name y pos') X.env))) _ _ s;refine aC (mW (JN (use:=some (assign (.Name y pos') X.env)) (Q:=fun _ s'=>SP X pins D .next s') rfl hs hclos B.kind B.names
  (bh (hi pins s σ H _ I h) fun v s1 h1=>bh h1 fun itv s2 ⟨it,fp,tn,J,H2,e,I2,TT,st2,f2,q⟩=>?_)) (fun _ s' hq=>aW (aW hq)) fun _ _ e=>e)
 subst e;refine ajj (hu:=hu) (Q:=fun H'=>D.nx (σ.set i (some (.ref s2.heap.objs.size))) H') (RR:=fun acc C=>Nk (model X.prog X.w) X.A X.xe (some (assign (.Name y pos') X.env)) (fun _ s'=>SP X pins D .next s') acc C) B tk hc (hin:=hin) q2 q3 I2 TT st2 f2 (q _ (I2.hok.fresh (bK _))) fun C H' s' m I' fC hn qd=>?_
 show aM _ X.A (assign (.Name y pos') X.env (.ref s2.heap.objs.size)) _ _ _;refine Eo (Mp I' hN hI (.inl hy) (v:=.ref s2.heap.objs.size) rfl (fun s3 I3 aJ=>?_) (.inr hy))
 obtain⟨a,sb,ha⟩:=aJ
 have RK:C≠a:=by
  rcases ha with z|z
  ·rw[z];exact fC.2.1
  ·exact fun w=>fC.2.2.2.2.1 y a z w.symm
 refine⟨m,hn.sameBut sb RK,fun h' sb'=>⟨_,H',?_,qd⟩⟩
 exact I3.turned (t':=s3.toks) (fun b o hb e=>(sb'.2 b hb).trans e) fC.1 fC.2.1 fC.2.2.2.1 fC.2.2.2.2.1 fC.2.2.2.2.2
end
section
variable{X:Cx}
end
structure Fy(K:aH)(T:fU)(J:It)(n:Nat)(vs:Nat→List V)(G:Hp→Prop):Prop where
 go:∀i H,i<n→G H→J.go i H
 vH:∀i H x H',i<n→G H→J.vH i H x H'→bw H H'∧vJ K T x H' (vs i)
 stop:∀H,G H→J.stop n H
section
variable{K:aH}{T:fU}{J:It}{n:Nat}{vs:Nat→List V}{G:Hp→Prop}{ts:TT}{te:TE}{fs:St}{H1:Hp}{D:aa}{done:Hp→Prop}
end
theorem Inv.O4{X:Cx}{pins:List (aa×Obj)}{σ:St}{H H':Hp}{s:au}{h':aV}{t':Nat}{ch:List aa}(I:Inv X pins σ H s)(k:∀b o,b∉ch→s.heap.get? b=some o→h'.get? b=some o)(hf:∀b∈ch,jD X pins H b)
  (hs:bw H H')(hfr:∀b o,s.heap.get? b=some o→H b=none→H' b=none)(hn:∀b u,H' b=some u→H b=some u∨fM X.prog X.w H' h' b u):Inv X pins σ H' {s with heap:=h',toks:=t'}:=by
 have Dq:∀b u,H b=some u→b∉ch:=fun b u e z=>by rw[(hf b z).1] at e;cases e
 refine I.step (g':=s.gens) (d':=s.drawn) (ch:=ch) (fun b hb=>⟨(hf b hb).2.2.2.1,(hf b hb).2.1,(hf b hb).2.2.2.2.1,(hf b hb).2.2.2.2.2⟩) (fun b o _ _ hc e _=>k b o hc e) (fun b o _ _ hc e _=>⟨o.slots,k b o hc e⟩) (fun b o _ e n=>hfr b o e n)
  (fun b o hc e=>⟨o,k b o hc e⟩) (fun _ _ e=>hs _ _ e) (fun _ _ _ e=>hs _ _ e) (fun b ps e=>⟨#[],by rw[hs _ _ e];simp⟩) (fun m hm=>?_) (fun b u e=>?_) I.bare
 ·obtain⟨o,es,ep,ho,r⟩:=hm
  exact⟨o,es,ep,k _ o (fun z=>(hf _ z).2.1 rfl) ho,r⟩
 ·rcases hn b u e with z|z
  ·refine(I.hok b u z).stay (fun c v hc q=>k c v ?_ q) (fun _ q=>hs _ _ q) fun _ _ q=>hs _ _ q
   rcases hc with y|y
   ·rw[y];exact Dq b u z
   ·exact Dq c _ y
  ·exact z
end L2
namespace L2
open PySem PySem.Spec PyProof.Rows PySem.W
section
variable{N:Nat}{lt:Nat→Nat→Bool}{α β:Type}
def dI(N:Nat)(lt:Nat→Nat→Bool):KasT α→(α→Prop)→Prop
 |.ret a,R=>R a
 |.ask i j k,R=>i<N∧j<N∧dI N lt (k (lt i j)) R
theorem dI.mono:∀{t:KasT α},dI N lt t R→(∀a,R a→S a)→dI N lt t S
 |.ret a,h,f=>f a h
 |.ask i j k,h,f=>⟨h.1,h.2.1,dI.mono h.2.2 f⟩
theorem dI.bind:∀{t:KasT α},dI N lt t (fun a=>dI N lt (f a) R)→dI N lt (t.bind f) R
 |.ret a,h=>h
 |.ask i j k,h=>⟨h.1,h.2.1,dI.bind h.2.2⟩
theorem dI.wp(ask:∀i j,i<N→j<N→∀C:Bool→au→Prop,C (lt i j) s→cmp i j C s)(q:∀a,R a→Q a s):∀{t:KasT α},dI N lt t R→t.kasWp cmp Q s
 |.ret a,h=>q a h
 |.ask i j k,h=>ask i j h.1 h.2.1 _ (dI.wp ask q h.2.2)
def KP(N:Nat)(p:Array Nat):Prop:=p.toList.Perm (dG N)
theorem KP.ix(h:KP N p)(h0:0<N)(i:Nat):p.getD i 0<N:=by
 by_cases hi:i<p.size
 ·have:p.getD i 0∈p.toList:=by simp[aeP,hi]
  exact qX.mp (h.mem_iff.mp this)
 ·simpa[aeP,hi] using h0
theorem KP.rev(h:KP N p)(i j:Nat):KP N (kas_rev p i j):=((mirror_perm p i j _).toList).trans h
theorem KP.bub(h:KP N p)(i j:Nat):KP N (bubble p i j):=((bubble_perm p i j).toList).trans h
theorem Qj(h:KP N p)(h0:0<N):∀f n,dI N lt (kas_asc p f n) fun _=>True
 |0,n=>trivial
 |f+1,n=>by
  refine⟨h.ix h0 _,h.ix h0 _,?_⟩
  dsimp only;split
  ·exact trivial
  ·exact Qj h h0 f (n+1)
theorem Hg(h0:0<N):∀f (p:Array Nat) n q,KP N p→dI N lt (kas_desc f p n q) fun r=>KP N r.1
 |0,p,n,q,h=>h
 |f+1,p,n,q,h=>by
  refine⟨h.ix h0 _,h.ix h0 _,?_⟩
  dsimp only;split
  ·split
   ·exact Hg h0 f _ _ _ (h.rev _ _)
   ·exact Hg h0 f _ _ _ h
  ·refine⟨h.ix h0 _,h.ix h0 _,?_⟩
   dsimp only;split
   ·exact h
   ·exact Hg h0 f _ _ _ h
theorem Xi(h0:0<N)(h:KP N p)(n nrem:Nat):dI N lt (kas_tail3 n nrem p) fun r=>KP N r.2:=
 dI.bind (dI.mono (Qj (h.rev 0 n) h0 _ _) fun _ _=>h.rev 0 n)
theorem V4(h0:0<N)(h:KP N p)(n nrem:Nat):dI N lt (kas_descPart n nrem p) fun r=>KP N r.2:=by
 refine dI.bind (dI.mono (Hg h0 _ p _ _ h) fun r hr=>?_);split
 ·exact Xi h0 (KP.rev hr _ _) _ _
 ·exact Xi h0 hr _ _
theorem agB(h0:0<N)(h:KP N p)(nrem:Nat):dI N lt (kas_count nrem p) fun r=>KP N r.2:=by
 refine dI.bind (dI.mono (Qj h h0 _ _) fun n _=>?_);split
 ·exact h
 ·split
  ·refine⟨h.ix h0 _,h.ix h0 _,?_⟩
   dsimp only;split
   ·exact h
   ·exact V4 h0 (h.rev _ _) _ _
  ·exact V4 h0 h _ _
theorem Nm(h0:0<N)(h:KP N p)(k:Nat):∀f l r,dI N lt (kas_place p k f l r) fun _=>True
 |0,l,r=>trivial
 |f+1,l,r=>by
  unfold kas_place;split
  ·exact trivial
  ·refine⟨h.ix h0 _,h.ix h0 _,?_⟩
   dsimp only;split
   ·exact Nm h0 h k f _ _
   ·exact Nm h0 h k f _ _
theorem ZG(h0:0<N):∀f (p:Array Nat) k,KP N p→dI N lt (kas_bin f p k) (KP N)
 |0,p,k,h=>h
 |f+1,p,k,h=>dI.bind (dI.mono (Nm h0 h k _ _ _) fun l _=>ZG h0 f _ _ (h.bub _ _))
theorem Yx(h0:0<N):dI N lt (kas_sort N) (KP N):=by
 refine dI.bind (dI.mono (agB h0 (p:=List.toArray (dG N)) (yz _) N) fun r hr=>?_);split
 ·exact ZG h0 _ _ _ hr
 ·exact hr
end
def kLt:Key→Key→Bool
 |.inl i,.inl j=>decide (i<j)
 |.inr x,.inr y=>decide (x.cps.toList<y.cps.toList)
 |_,_=>false
def c7:List Key→List Key→Bool
 |a::r,b::t=>if a=b then c7 r t else kLt a b
 |_,_=>false
def bG:Key→Bool
 |.inl _=>true
 |.inr _=>false
section
variable{prog:bf}{w:aY}{A:bU}{E:Value→au→Prop}{s:au}{Q:Bool→au→Prop}
theorem agC(ra:RelV (kV a) u)(rb:RelV (kV b) v)(ht:bG a=bG b)(h:Q (kLt a b) s):aM (model prog w) A (oneLt' f u v) Q E s:=by
 cases a with
 |inl i=>
  cases b with
  |inr y=>cases ht
  |inl j=>
   obtain⟨t,rfl⟩:=ra
   obtain⟨t',rfl⟩:=rb
   cases f with
   |true=>exact oneLt_int h
   |false=>exact kat_one _ _ (lt_int h)
 |inr x=>
  cases b with
  |inl y=>cases ht
  |inr y=>
   obtain⟨t,rfl⟩:=ra
   obtain⟨t',rfl⟩:=rb
   cases f with
   |true=>exact oneLt_str h
   |false=>exact kat_one _ _ (lt_str h)
theorem Yy(ht:bG a=bG b):qH (kV a) (kV b)=decide (a=b):=by
 cases a with
 |inl i=>
  cases b with
  |inr y=>cases ht
  |inl j=>show(i==j)=_;rw[pN];simp
 |inr x=>
  cases b with
  |inl y=>cases ht
  |inr y=>show(x==y)=_;rw[pN];simp
theorem GQ(a:Key):nM (kV a)=true:=by cases a<;>rfl
theorem Xj:∀{ks js:List Key}{us vs:List Value}{i:Nat},Vals (ks.map kV) us→Vals (js.map kV) vs→ks.map bG=js.map bG→Q (c7 ks js) s→KatLex prog w A true false Q (us.zip vs) i s
 |[],[],_,_,_,ra,rb,_,h=>by
  cases ra;cases rb;exact kat_nil h
 |[],_::_,_,_,_,_,_,e,_=>by cases e
 |_::_,[],_,_,_,_,_,e,_=>by cases e
 |a::ks,b::js,us,vs,i,ra,rb,e,h=>by
  cases ra with
  |cons r1 ra=>
   cases rb with
   |cons r2 rb=>
    have e1:bG a=bG b:=(yD e).1;have e2:=(yD e).2;refine kat_cons (Qh r1 r2 (GQ a) (GQ b) prog w _ _ ?_);rw[Yy e1];unfold c7 at h;by_cases hab:a=b
    ·rw[if_pos hab] at h;rw[decide_eq_true hab];exact kat_yes (Xj ra rb e2 h)
    ·rw[if_neg hab] at h;rw[decide_eq_false hab];exact kat_no (agC r1 r2 e1 h)
end
section
variable{prog:bf}{w:aY}{A:bU}{E:Value→au→Prop}{s:au}{vs:List Value}{κ:SortKind}{lt:Nat→Nat→Bool}{Rl:List Nat→Prop}
def Kp(a:aa)(h h':aV):Prop:=∀b o,b≠a→h.get? b=some o→h'.get? b=some o
theorem aeQ(ho:s.heap.get? a=some (seqObj "list" vs.toArray n))(h64:vs.length<64)(hg:2≤vs.length→dI vs.length lt (kas_sort vs.length) fun p=>KP vs.length p∧Rl p.toList)(hsm:vs.length<2→Rl (dG vs.length))
  (hk:2≤vs.length→∀s':au,Kp a s.heap s'.heap→∀Q:SortKind→au→Prop,Q κ s'→aM (model prog w) A (keyKind' vs.toArray) Q (fun _ _=>False) s')
  (hl:2≤vs.length→∀s':au,Kp a s.heap s'.heap→∀i j,i<vs.length→j<vs.length→∀C:Bool→au→Prop,C (lt i j) s'→kas_ask prog w A κ vs i j C s')
  (h:∀(p:List Nat)(h':aV)(c:Nat),p.Perm (dG vs.length)→Rl p→Kp a s.heap h'→h'.get? a=some (seqObj "list" (p.map fun i=>vs.getD i pP).toArray c)→P (.done (.ret .none)) {s with heap:=h'}):
  aM (model prog w) A (jX.«list.sort» ⟨[.ref a],[]⟩) P E s:=by
 have lta:a<s.heap.objs.size:=cz ho
 obtain⟨e1,ho1⟩:∃e1,(s.heap.update a (j7 fun _=>(#[]:Array Value))).get? a=some (seqObj "list" #[] e1):=⟨_,get?_update_seq ho fun _=>#[]⟩
 have sz:vs.length≤bM:=by rw[iT];omega
 have kp:Kp a s.heap (((s.heap.update a (j7 fun _=>(#[]:Array Value))).push (seqObj "tuple" vs.toArray 0)).push (seqObj "list" #[] 0)):=fun b o hb e=>
  cB _ (cB _ (((sJ s.heap a _).2 b hb).trans e))
 have Dv:(((s.heap.update a (j7 fun _=>(#[]:Array Value))).push (seqObj "tuple" vs.toArray 0)).push (seqObj "list" #[] 0)).get? a=some (seqObj "list" #[] e1):=cB _ (cB _ ho1);rw[list_sort_plain];refine aC (listItems_at ho rfl (aC (listUpdate_at ho rfl (aC (seqEpoch_at ho1 rfl (aC (wpAny_newTuple (aC (Ky (lW ?_) (lF _))) (by show vs.length≤_;exact sz))))) (by rw[fD];exact sz) (lF _))));show aM (model prog w) A _ P E {s with heap:=((s.heap.update a (j7 fun _=>(#[]:Array Value))).push (seqObj "tuple" vs.toArray 0)).push (seqObj "list" #[] 0)};dsimp only;have fin:∀(p:List Nat),p.Perm (dG vs.length)→Rl p→∀out:Array Value,out=(p.map fun i=>vs.getD i pP).toArray→
   P (.done (.ret .none)) {s with heap:=(((s.heap.update a (j7 fun _=>(#[]:Array Value))).push (seqObj "tuple" vs.toArray 0)).push (seqObj "list" #[] 0)).update a (j7 fun _=>out)}:=fun p hp hrl out eo=>by
  subst eo;refine h p _ _ hp hrl (fun b o hb e=>((sJ _ a _).2 b hb).trans (kp b o hb e)) (get?_update_seq Dv _)
 by_cases h2:vs.toArray.size<2
 ·rw[if_pos h2,if_pos h2];refine aC (aW ?_);rw[StateT.run_pure];refine aC (aW ?_);dsimp only;have hz:(pairsOf vs).size≤bM:=by rw[pairsOf_size];exact sz
  refine aC (seqEpoch_at Dv rfl (aC (listUpdate_at Dv rfl ?_ (hsz2:=by rw[Array.size_map];show(pairsOf vs).size≤_;omega))));simp only[bne_self_eq_false,oE,if_false];refine aW (fin (dG vs.length) (yz _) (hsm (by simpa using h2)) _ ?_);apply Array.toList_inj.mp
  show((vs.toArray.zip vs.toArray).map (·.2)).toList=_
  rw[Array.toList_map,Array.toList_zip,List.map_snd_zip (bK _)];show vs=_;refine yp (by simp) fun i h1 h3=>?_
  simp[tG,h1]
 ·have h2':2≤vs.length:=by simpa using h2
  rw[if_neg h2,if_neg h2];refine aC (mW (hk h2' _ kp (fun k s'=>k=κ∧s'={s with heap:=((s.heap.update a (j7 fun _=>(#[]:Array Value))).push (seqObj "tuple" vs.toArray 0)).push (seqObj "list" #[] 0)}) ⟨rfl,rfl⟩) (fun k s0 hk0=>?_) fun _ _ x=>x.elim)
  obtain⟨rfl,rfl⟩:=hk0
  refine aC (mW (kat_run (ks:=vs) (vs:=vs) (Q:=fun st' s'=>∃p:Array Nat,(KP vs.length p∧Rl p.toList)∧arrOf st'=p.map (kas_item (vs.toArray.zip vs.toArray))∧failedOf st'=none∧s'={s with heap:=((s.heap.update a (j7 fun _=>(#[]:Array Value))).push (seqObj "tuple" vs.toArray 0)).push (seqObj "list" #[] 0)})
   rfl h2' h64 (G:=fun p s'=>(KP vs.length p∧Rl p.toList)∧s'={s with heap:=((s.heap.update a (j7 fun _=>(#[]:Array Value))).push (seqObj "tuple" vs.toArray 0)).push (seqObj "list" #[] 0)}) (fun p st' s' a1 a2 a3 a4=>⟨p,a4.1,a2,a3,a4.2⟩) (dI.wp (lt:=lt) (hl h2' _ kp) (fun p hp=>⟨hp,rfl⟩) (hg h2'))) ?_ fun _ _ e=>e)
  rintro⟨⟨⟩,st'⟩ s' ⟨p,⟨hp,hrl⟩,har,hf,rfl⟩
  dsimp only;have hout:=kat_snds (ks:=vs) (vs:=vs) rfl har;have hps:p.toList.length=vs.length:=by rw[hp.length_eq,j5]
  rw[hout];refine aC (seqEpoch_at Dv rfl (aC (listUpdate_at Dv rfl ?_ (lF _) (by rw[fD,aX,hps];omega))));rw[hf];simp only[bne_self_eq_false,oE,if_false];exact aW (fin p.toList hp hrl _ rfl)
end
def aaQ(h:aV)(d:aa)(es:Array DictEntry)(ep:Nat):Prop:=∃o,h.get? d=some o∧o.ExactDict∧o.data=.dict es ep
section
variable{prog:bf}{w:aY}{A:bU}{E:Value→au→Prop}{s:au}{d it:aa}{es:Array DictEntry}{ep i:Nat}
theorem aaQ.ty(h:aaQ s.heap d es ep):s.TypeIs (.ref d) "dict":=let ⟨o,ho,hc,_⟩:=h;⟨o,ho,hc.1⟩
theorem aew(K:KdlSrc prog w T r d n P OK)(hh:A.handled=none)(hok:OK s.heap)(hn:n≤bM)
  (h:∀(h':aV)(tk:Nat)(acc:Array Value),s.heap.objs.size≤h'.objs.size→(∀b o,s.heap.get? b=some o→h'.get? b=some o)→ItemsOf P acc n→R acc.toList {s with heap:=h',toks:=tk}):
  aM (model prog w) A (collect (.ref r)) R E s:=by
 have hlt:=K.there _ hok;unfold collect;refine aC (wpAny_runValue (uE entry_proto_collect' ?_));rw[uz abW _];show aM _ A.in1 (newList [] >>= fun l=>again (.builtin "list.__iadd__" ⟨[l,.ref r],[]⟩)) _ _ s;refine aC (lU ?_);refine aW ⟨sX JP _,uE entry_list_iadd' ?_⟩;rw[uz JP _];have hS:(s.heap.push {cls:=.type "list",data:=.seq ([]:List Value).toArray}).get? s.heap.objs.size=some {cls:=.type "list",data:=.seq #[]}:=gP _ rfl;show aM _ A.in1 (JH (.ref s.heap.objs.size) (.ref r) (.ref s.heap.objs.size)) _ _ _;have key:=kdl_extend (A:=A) (s:={s with heap:=s.heap.push {cls:=.type "list",data:=.seq ([]:List Value).toArray}}) (R:=fun(q:pZ)(s':au)=>∃(h':aV)(tk:Nat)(acc':Array Value)(c':Nat),q=.ok (.ret (.ref s.heap.objs.size))∧s'={s with heap:=h',toks:=tk}∧(∀b o,s.heap.get? b=some o→h'.get? b=some o)∧h'.get? s.heap.objs.size=some {cls:=.type "list",dict:=none,data:=.seq acc' c',slots:=#[]}∧ItemsOf P acc' n)
  K hh (K.keep _ _ hok fun b _ o e=>cB _ e) s.heap.objs.size (yH hlt.1) (yH hlt.2) (.ref s.heap.objs.size) 0 hS (fun h' tk acc' c' hk hS' hacc=>⟨h',tk,acc',c',rfl,rfl,fun b o e=>hk b o (dM (cz e)) (cB _ e),hS',hacc⟩) hn
 refine mW key (fun fin s' x=>?_) fun e s' x=>?_
 ·cases fin with
  |done f=>
   obtain⟨h',tk,acc',c',e,rfl,hk,hS',hacc⟩:=x
   cases e;show aM _ A (load s.heap.objs.size >>= _) _ _ _
   exact aC (Gm hS' (aW (h h' tk acc' (uG (cz hS')) hk hacc)))
  |again c₁=>
   refine⟨x.1,Fv x.2 fun q s₂ y=>?_⟩
   obtain⟨h',tk,acc',c',rfl,rfl,hk,hS',hacc⟩:=y
   show aM _ A (load s.heap.objs.size >>= _) _ _ _;exact aC (Gm hS' (aW (h h' tk acc' (uG (cz hS')) hk hacc)))
 ·obtain⟨_,_,_,_,e',_⟩:=x;cases e'
end
theorem Mw:∀{us:List Value}{ns:List Str},StrsAre us ns→Vals (ns.map V.str) us
 |_,_,.nil=>.nil
 |_,_,.cons _ t r=>.cons ⟨t,rfl⟩ (Mw r)
section
variable{X:Cx}
theorem gG.bH(r:gG k A):A.units+1<dY:=by have:=r.un;omega
abbrev Row:=aa×List Key
def TupAt(h:aV)(r:Row):Prop:=∃its,Vals (r.2.map kV) its∧IsTup h r.1 its.toArray
theorem TupAt.keep(t:TupAt h r)(k:∀b o,h.get? b=some o→h'.get? b=some o):TupAt h' r:=by
 obtain⟨its,v,o,e,c⟩:=t
 exact⟨its,v,o,k _ _ e,c⟩
theorem Yz:∀{rows:List Row},(∀r∈rows,TupAt h r∧r.2.map bG=b::sh)→∃fs,KatTups h (rows.map fun r=>fG r.1) fs∧fs.length=rows.length∧∀f∈fs,∃k,RelV (kV k) f∧bG k=b
 |[],_=>⟨[],KatTups.nil,rfl,by simp⟩
 |r::rows,ha=>by
  obtain⟨fs,t,l,g⟩:=Yz (rows:=rows) fun q hq=>ha q (eZ _ hq)
  obtain⟨⟨its,v,o,e,c,n,d⟩,s⟩:=ha r dR
  obtain⟨a,ks⟩:=r
  cases ks with
  |nil=>cases s
  |cons k ks=>
   cases v with
   |@cons _ u _ us v1 v2=>
    refine⟨u::fs,KatTups.cons e c d (by simp) t,by simp[l],fun f hf=>?_⟩
    rcases bN.mp hf with rfl|hf
    ·exact⟨k,v1,(yD s).1⟩
    ·exact g f hf
theorem afG(r:RelV (kV k) f)(e:bG k=b):Looks M h (typeOf f) (if b=true then .type "int" else .type "str"):=by
 subst e;cases k with
 |inl i=>obtain⟨t,rfl⟩:=r;exact Looks.of_pure rfl
 |inr i=>obtain⟨t,rfl⟩:=r;exact Looks.of_pure rfl
theorem Np(rows:List Row)(hi:i<rows.length):(rows.map fun r=>fG r.1).getD i pP=.ref rows[i].1:=by simp[tG,hi]
def rowAt(rows:List Row)(i:Nat):List Key:=((rows[i]?).map (·.2)).getD []
theorem afH{prog:bf}{w:aY}{A:bU}{s':au}{rows:List Row}{b:Bool}{sh:List Bool}(ha:∀r∈rows,TupAt s'.heap r∧r.2.map bG=b::sh)(h0:0<rows.length)(Q:SortKind→au→Prop)(q:Q (tuples' true) s'):
  aM (model prog w) A (keyKind' (rows.map fun r=>fG r.1).toArray) Q (fun _ _=>False) s':=by
 obtain⟨fs,t,l,g⟩:=Yz ha
 refine kat_kind (T:=if b=true then .type "int" else .type "str") t (by omega) (fun v hv=>?_) (by cases b<;>rfl) (by cases b<;>exact q)
 obtain⟨k,r,e⟩:=g v hv
 exact afG r e
theorem ahT(ha:∀r∈rows,TupAt s'.heap r∧r.2.map bG=sh)(hi:i<rows.length)(hj:j<rows.length)(C:Bool→au→Prop)(q:C (c7 (rowAt rows i) (rowAt rows j)) s'):
  kas_ask prog w A (tuples' true) (rows.map fun r=>fG r.1) i j C s':=by
 obtain⟨⟨its,v,o,e,c,n,d⟩,s1⟩:=ha rows[i] (yq hi)
 obtain⟨⟨its2,v2,o2,e2,c2,n2,d2⟩,s2⟩:=ha rows[j] (yq hj)
 unfold kas_ask;rw[Np rows hi,Np rows hj];have l1:=v.length;have l2:=v2.length;have l3:rows[i].2.length=rows[j].2.length:=by
  have:=congrArg oG (s1.trans s2.symm);simpa using this
 refine kat_lt e d e2 d2 ?_;have ez:decide (its.toArray.size<its2.toArray.size)=false:=by
  rw[decide_eq_false];simp only[fD];rw[aX] at l1 l2;omega
 rw[ez];have q':C (c7 rows[i].2 rows[j].2) s':=by
  unfold rowAt at q;rw[jg hi,jg hj] at q;exact q
 exact Xj (by simpa using v) (by simpa using v2) (s1.trans s2.symm) q'
theorem afI{rows:List Row}{p:List Nat}(h:p.Perm (dG rows.length)):(p.map fun i=>rows.getD i (0,[])).Perm rows:=by
 have e:(dG rows.length).map (fun i=>rows.getD i (0,[]))=rows:=yp (by simp) fun i h1 h2=>by simp[tG,h2]
 exact(h.map _).trans (by rw[e])
theorem afJ{rows:List Row}{p:List Nat}(h:p.Perm (dG rows.length)):(p.map fun i=>(rows.map fun r=>fG r.1).getD i pP)=(p.map fun i=>rows.getD i (0,[])).map fun r=>fG r.1:=by
 rw[dU];refine yg fun i hi=>?_
 have hlt:=qX.mp (h.mem_iff.mp hi);rw[Np rows hlt];simp[tG,hlt]
theorem WM:∀(rows:List Row),Vals (rows.map fun r=>V.ref r.1) (rows.map fun r=>fG r.1)
 |[]=>.nil
 |r::rows=>.cons rfl (WM rows)
end
section
variable{K:aH}{T:fU}{J:It}{n:Nat}{vs:Nat→List V}{G:Hp→Prop}{ts:TT}{em:TM}{fs:St}{H0 H1:Hp}{D:aa}{done:Hp→Prop}
end
theorem Nq(A:bU)(s:au)(ra:RelV (kV a) u)(rb:RelV (kV b) v)(ht:bG a=bG b):Gp A s u v (decide (a=b)):=by
 rw[←Yy ht];exact Qh ra rb (GQ a) (GQ b)
theorem GR(A:bU)(s:au)(ra:RelV (kV a) u)(rb:RelV (kV b) v)(ht:bG a=bG b)(prog:bf)(w:aY)(E:Value→au→Prop)(Q:Value→au→Prop)(h:Q (.bool (kLt a b)) s):
  aM (model prog w) A (Aq .Lt u v) Q E s:=by
 cases a with
 |inl i=>
  cases b with
  |inr y=>cases ht
  |inl j=>
   obtain⟨t,rfl⟩:=ra
   obtain⟨t',rfl⟩:=rb
   exact(lt_int h:aM (model prog w) A (dH .Lt _ _) Q E s)
 |inr x=>
  cases b with
  |inl y=>cases ht
  |inr y=>
   obtain⟨t,rfl⟩:=ra
   obtain⟨t',rfl⟩:=rb
   exact(lt_str h:aM (model prog w) A (dH .Lt _ _) Q E s)
section
open PySem.SeqAt
open PySem.AutoSeq1 (wpAny_loadPart')
open PySem.MeetsSeq PySem.MeetsSeq2 PySem.MeetsSeq3
theorem adM(l b:aa)(items items2:Array Value)(n n2:Nat)(dd dd2:Option aa)(sl sl2:Array (Option Value))(ns ms:List Key)(hi:Vals (ns.map kV) items.toList)(hj:Vals (ms.map kV) items2.toList)(hty:ns.map bG=ms.map bG):
  Meets (jX.«tuple.__lt__» ⟨[.ref l,.ref b],[]⟩)
   (fun _ R s=>s.heap.get? l=some {cls:=.type "tuple",dict:=dd,data:=.seq items n,slots:=sl}∧s.heap.get? b=some {cls:=.type "tuple",dict:=dd2,data:=.seq items2 n2,slots:=sl2}∧R (.ok (.ret (.bool (c7 ns ms)))) s):=
 .of_wp fun prog w A R s h=>by
  obtain⟨hp,g,d,tk,os⟩:=s;obtain⟨hl,hb,h⟩:=h
  have f2:=ab6;have z0:ns.length=ms.length:=by have:=congrArg oG hty;simpa using this
  have z1:items.size=ns.length:=by have:=hi.length;rw[aX] at this;simpa using this.symm
  have z2:items2.size=ms.length:=by have:=hj.length;rw[aX] at this;simpa using this.symm
  wp_walk using nu hl,nu hb,adf _ (fun rest b s'=>b.1=none∧s'=⟨hp,g,d,tk,os⟩∧∃(vs ws:List Value)(ns' ms':List Key),rest=vs.zip ws∧
   Vals (ns'.map kV) vs∧Vals (ms'.map kV) ws∧ns'.map bG=ms'.map bG∧R (.ok (.ret (.bool (c7 ns' ms')))) ⟨hp,g,d,tk,os⟩) _
  case turn=>
   rintro⟨y,x⟩ rest b s' ⟨hb',rfl,vs,ws,ns',ms',hz,Jr,hwi,hlen,hR⟩
   cases ns' with
   |nil=>cases Jr;rw[List.zip_nil_left] at hz;cases hz
   |cons a ns'=>
    cases ms' with
    |nil=>cases hlen
    |cons c ms'=>
     cases Jr with
     |cons r1 aaR=>
      cases hwi with
      |cons r2 aaS=>
       rw[Em] at hz;injection hz with hyx hrest
       injection hyx with hy hx
       subst hy hx;have t1:bG a=bG c:=(yD hlen).1;have t2:=(yD hlen).2;unfold c7 at hR;refine aC (Nq A.in1 ⟨hp,g,d,tk,os⟩ r1 r2 t1 prog w _ _ ?_);by_cases hac:a=c
       ·rw[if_pos hac] at hR;rw[decide_eq_true hac];wp_walk
        exact⟨rfl,rfl,_,_,_,_,hrest,aaR,aaS,t2,hR⟩
       ·rw[if_neg hac] at hR;rw[decide_eq_false hac];have hri:=GR A.in1 ⟨hp,g,d,tk,os⟩ r1 r2 t1 prog w;wp_walk using hri
        exact⟨_,rfl,by simpa using hR⟩
  case fin=>
   rintro⟨b1,b2⟩ s' ⟨hb',rfl,vs,ws,ns',ms',hz,Jr,hwi,hlen,hR⟩
   simp only at hb';subst hb';have hv:c7 ns' ms'=decide (items.size<items2.size):=by
    rw[decide_eq_false (by omega)];cases ns' with
    |nil=>unfold c7;rfl
    |cons a ns'=>
     cases ms' with
     |nil=>cases hlen
     |cons c ms'=>
      cases Jr with
      |cons r1 aaR=>
       cases hwi with
       |cons r2 aaS=>
        rw[Em] at hz;cases hz
   rw[hv] at hR;wp_walk
   exact⟨_,rfl,by simpa[abU] using hR⟩
  case h=>
   exact⟨rfl,rfl,items.toList,items2.toList,ns,ms,rfl,hi,hj,hty,h⟩
end
theorem We(hl:IsTup s.heap l items)(hb:IsTup s.heap b items2)(hi:Vals (ns.map kV) items.toList)(hj:Vals (ms.map kV) items2.toList)(hty:ns.map bG=ms.map bG)
  (hu:A.units<dY)(h:Q (.bool (c7 ns ms)) s):aM (model prog w) A (dH .Lt (.ref l) (.ref b)) Q E s:=by
 obtain⟨⟨cls,dd,data,sl⟩,ho,hc,n,hd⟩:=id hl
 obtain⟨⟨cls2,dd2,data2,sl2⟩,ho2,hc2,n2,hd2⟩:=id hb
 simp only at hc hd hc2 hd2;subst hc hd hc2 hd2;exact Tw (op:=.Lt) ⟨_,ho,rfl⟩ ⟨_,ho2,rfl⟩ acs ack (ab9 _ _) (adM l b items items2 n n2 dd dd2 sl sl2 ns ms hi hj hty)
  ⟨ho,ho2,show Aw (c7 ns ms)≠TV∧Q (.bool (c7 ns ms)) s from⟨(fun x=>nomatch x),h⟩⟩ hu
mutual
def RX(H:Hp):ao→V→Prop
 |.none,v=>v=.non
 |.bool b,v=>v=.bl b
 |.int i,v=>v=.int i
 |.str x,v=>v=.str x
 |.list ds,v=>∃a vs,v=.ref a∧H a=some (.lst vs)∧lB H ds vs
 |.tuple ds,v=>∃a vs,v=.ref a∧H a=some (.tup vs)∧lB H ds vs
 |.dict _,_=>False
def lB(H:Hp):List ao→List V→Prop
 |[],vs=>vs=[]
 |d::ds,vs=>∃v r,vs=v::r∧RX H d v∧lB H ds r
end
mutual
theorem RX.same(s:bw H H'):∀{d:ao}{v:V},RX H d v→RX H' d v
 |.none,_,h=>h
 |.bool _,_,h=>h
 |.int _,_,h=>h
 |.str _,_,h=>h
 |.list ds,_,h=>by
  obtain⟨a,vs,e,q,r⟩:=h
  exact⟨a,vs,e,s _ _ q,lB.same s r⟩
 |.tuple ds,_,h=>by
  obtain⟨a,vs,e,q,r⟩:=h
  exact⟨a,vs,e,s _ _ q,lB.same s r⟩
theorem lB.same(s:bw H H'):∀{ds:List ao}{vs:List V},lB H ds vs→lB H' ds vs
 |[],_,h=>h
 |d::ds,vs,h=>by
  obtain⟨v,r,e,q,t⟩:=h
  exact⟨v,r,e,RX.same s q,lB.same s t⟩
end
mutual
theorem RX.rd{K:aH}{H:Hp}:∀{d:ao}{v:V},RX H d v→RD K H d v
 |.none,_,h=>h
 |.bool _,_,h=>h
 |.int _,_,h=>h
 |.str _,_,h=>h
 |.list ds,_,h=>by
  obtain⟨a,vs,e,q,r⟩:=h
  exact⟨a,vs,e,bO.of q,lB.rd r⟩
 |.tuple ds,_,h=>by
  obtain⟨a,vs,e,q,r⟩:=h
  exact⟨a,vs,e,cI.of q,lB.rd r⟩
theorem lB.rd{K:aH}{H:Hp}:∀{ds:List ao}{vs:List V},lB H ds vs→mR K H ds vs
 |[],_,h=>h
 |d::ds,vs,h=>by
  obtain⟨v,r,e,q,t⟩:=h
  exact⟨v,r,e,RX.rd q,lB.rd t⟩
end
def Js:ao→Value
 |.none=>.type "NoneType"
 |.bool _=>.type "bool"
 |.int _=>.type "int"
 |.str _=>.type "str"
 |.list _=>.type "list"
 |.tuple _=>.type "tuple"
 |.dict _=>.type "dict"
theorem RX.ty{K:aH}{H:Hp}{d:ao}{v:V}(h:RX H d v):mH K H v (Js d):=by
 cases d with
 |none=>cases(show v=.non from h);exact .non
 |bool b=>cases(show v=.bl b from h);exact .bl b
 |int i=>cases(show v=.int i from h);exact .int i
 |str x=>cases(show v=.str x from h);exact .str x
 |list ds=>obtain⟨a,vs,rfl,e,_⟩:=h;exact .lst e
 |tuple ds=>obtain⟨a,vs,rfl,e,_⟩:=h;exact .tup e
 |dict ds=>exact(show False from h).elim
section
variable{X:Cx}
theorem aeR(hu:X.A.units<dY):cA X (dH .Lt) (fun x y H Q=>∃a b ks js,x=.ref a∧y=.ref b∧H a=some (.tup (ks.map kV))∧H b=some (.tup (js.map kV))∧ks.map bG=js.map bG∧Q (.bl (c7 ks js)) H):=by
 intro pins s σ H x y v u Q I rx ry h
 obtain⟨a,b,ks,js,rfl,rfl,ha,hb,ht,q⟩:=h
 cases rx;cases ry
 obtain⟨_,its,r1,p1⟩:=(show fM X.prog X.w H s.heap a (.tup (ks.map kV)) from I.hok a _ ha)
 obtain⟨_,its2,r2,p2⟩:=(show fM X.prog X.w H s.heap b (.tup (js.map kV)) from I.hok b _ hb)
 exact We p1 p2 (by simpa using r1) (by simpa using r2) ht hu (fB I q rfl)
theorem LQ(hu:X.A.units<dY):cA X (dH .Lt) (fun x y H Q=>(∃a b,x=kV a∧y=kV b∧bG a=bG b∧Q (.bl (kLt a b)) H)∨∃a b ks js,x=.ref a∧y=.ref b∧H a=some (.tup (ks.map kV))∧H b=some (.tup (js.map kV))∧ks.map bG=js.map bG∧Q (.bl (c7 ks js)) H):=by
 refine cA.or ?_ (aeR hu);intro pins s σ H x y v u Q I rx ry h
 obtain⟨a,b,rfl,rfl,ht,q⟩:=h
 exact GR X.A s rx ry ht _ _ _ _ (fB I q rfl)
end
structure Ord(lt:Nat→Nat→Bool):Prop where
 aaT:∀a b,lt a b=true→lt b a=false
 trans:∀a b c,lt b a=false→lt c b=false→lt c a=false
section
variable{N:Nat}{lt:Nat→Nat→Bool}(O:Ord lt)
abbrev at0(p:Array Nat)(i:Nat):Nat:=p.getD i 0
def Up(lt:Nat→Nat→Bool)(p:Array Nat)(n:Nat):Prop:=∀i j,i<j→j<n→lt (at0 p j) (at0 p i)=false
def Dn(lt:Nat→Nat→Bool)(p:Array Nat)(n:Nat):Prop:=∀i j,i<j→j<n→lt (at0 p i) (at0 p j)=false
theorem Qk(p:Array Nat)(i:Nat):at0 p i=(p[i]?).getD 0:=qP
theorem ZJ(hj:j≤p.size)(k:Nat):at0 (kas_rev p i j) k=if i≤k∧k<j then at0 p (i+j-1-k) else at0 p k:=by
 rw[Qk,Qk,Qk];unfold kas_rev;rw[getElem?_mirror_all hj];split<;>rfl
theorem KP.size(h:KP N p):p.size=N:=by
 have:=h.length_eq;rw[j5] at this;simpa using this
include O
theorem Up.succ(h:Up lt p n)(hn:1≤n)(hs:lt (at0 p n) (at0 p (n-1))=false):Up lt p (n+1):=fun i j hij hj=>by
 by_cases e:j<n
 ·exact h i j hij e
 ·have ej:j=n:=by omega
  subst ej;by_cases ei:i=j-1
  ·rw[ei];exact hs
  ·exact O.trans _ _ _ (h i (j-1) (by omega) (by omega)) hs
theorem Dn.succ(h:Dn lt p n)(hn:1≤n)(hs:lt (at0 p (n-1)) (at0 p n)=false):Dn lt p (n+1):=fun i j hij hj=>by
 by_cases e:j<n
 ·exact h i j hij e
 ·have ej:j=n:=by omega
  subst ej;by_cases ei:i=j-1
  ·rw[ei];exact hs
  ·exact O.trans _ _ _ hs (h i (j-1) (by omega) (by omega))
theorem Dn.turn(h:Dn lt p n)(hn:n≤p.size):Up lt (kas_rev p 0 n) n:=fun a b hab hb=>by
 rw[ZJ hn,ZJ hn,if_pos ⟨by omega,by omega⟩,if_pos ⟨by omega,by omega⟩];exact h _ _ (by omega) (by omega)
end
theorem ahU(h:kLt a b=true):kLt b a=false:=by
 cases a with
 |inl i=>
  cases b with
  |inr y=>cases h
  |inl j=>have:=of_decide_eq_true h;exact decide_eq_false (by omega)
 |inr x=>
  cases b with
  |inl y=>cases h
  |inr y=>exact KeyOrd.klt_asymm (O:=strKind.toKeyOrd) (a:=x.cps.toList) (b:=y.cps.toList) h
theorem ajk(t1:bG a=bG b)(t2:bG b=bG c)(h:kLt a c=true):kLt a b=true∨kLt b c=true:=by
 cases a with
 |inl i=>
  cases b with
  |inr y=>cases t1
  |inl j=>
   cases c with
   |inr y=>cases t2
   |inl k=>
    have h1:=of_decide_eq_true h;by_cases h2:i<j
    ·exact .inl (decide_eq_true h2)
    ·exact .inr (decide_eq_true (by omega))
 |inr x=>
  cases b with
  |inl y=>cases t1
  |inr y=>
   cases c with
   |inl k=>cases t2
   |inr z=>exact strKind.negTrans x.cps.toList y.cps.toList z.cps.toList h
theorem str_of_list{x y:Str}(h:x.cps.toList=y.cps.toList):x=y:=by
 cases x;cases y;simp at h;simp[h]
theorem ajl(t:bG a=bG b)(h1:kLt a b=false)(h2:kLt b a=false):a=b:=by
 cases a with
 |inl i=>
  cases b with
  |inr y=>cases t
  |inl j=>
   have g1:=of_decide_eq_false h1;have g2:=of_decide_eq_false h2;have:i=j:=by omega
   rw[this]
 |inr x=>
  cases b with
  |inl y=>cases t
  |inr y=>
   have:=strKind.total x.cps.toList y.cps.toList h1 h2;rw[str_of_list this]
def tU(rows:List Row)(i:Nat):List Key:=(rows.getD i (rows.headD (0,[]))).2
def kI(rows:List Row)(i j:Nat):Bool:=c7 (tU rows i) (tU rows j)
def runK{α:Type}(lt:Nat→Nat→Bool):KasT α→α
 |.ret a=>a
 |.ask i j k=>runK lt (k (lt i j))
theorem dI.run:∀{t:KasT α},dI N lt t R→dI N lt t (fun a=>R a∧a=runK lt t)∧R (runK lt t)
 |.ret a,h=>⟨⟨h,rfl⟩,h⟩
 |.ask i j k,h=>let r:=dI.run h.2.2;⟨⟨h.1,h.2.1,r.1⟩,r.2⟩
def rZ(ks:List (List Key)):List Nat:=if ks.length<2 then dG ks.length else(runK (fun i j=>c7 (ks.getD i (ks.headD [])) (ks.getD j (ks.headD []))) (kas_sort ks.length)).toList
def Dd(ks:List (List Key)):List (List Key):=(rZ ks).map fun i=>ks.getD i (ks.headD [])
theorem afK(ks:List (List Key)):(rZ ks).Perm (dG ks.length):=by
 unfold rZ;split
 ·exact yz _
 ·exact(dI.run (Yx (lt:=fun i j=>c7 (ks.getD i (ks.headD [])) (ks.getD j (ks.headD []))) (by omega))).2
theorem afL(ks:List (List Key)):(Dd ks).Perm ks:=by
 have:=(afK ks).map fun i=>ks.getD i (ks.headD [])
 refine this.trans (adu ?_);refine yp (by simp) fun i h1 h2=>?_
 simp[h2]
theorem GX(rows:List Row)(i:Nat):tU rows i=(rows.map (·.2)).getD i ((rows.map (·.2)).headD []):=by
 unfold tU;cases h:rows[i]? with
 |none=>cases rows<;>simp_all [tG]
 |some r=>simp[tG,h]
theorem afM(hn:n=rows.length)(h2:2≤n):dI n (kI rows) (kas_sort n) fun p=>KP n p∧p.toList=rZ (rows.map (·.2)):=by
 subst hn;have e:kI rows=fun i j=>c7 ((rows.map (·.2)).getD i ((rows.map (·.2)).headD [])) ((rows.map (·.2)).getD j ((rows.map (·.2)).headD [])):=by
  funext i j;rw[kI,GX,GX]
 refine(dI.run (Yx (lt:=kI rows) (N:=rows.length) (by omega))).1.mono fun p hp=>⟨hp.1,?_⟩
 unfold rZ;rw[if_neg (by rw[aX];omega),hp.2,e,aX]
theorem aeS{rows:List Row}{n:Nat}(hn:n=rows.length)(h:n<2):dG n=rZ (rows.map (·.2)):=by
 subst hn;unfold rZ;rw[if_pos (by rw[aX];exact h),aX]
theorem ahV{rows:List Row}{p:List Nat}(h:p.Perm (dG rows.length))(hr:p=rZ (rows.map (·.2))):(p.map fun i=>rows.getD i (0,[])).map (·.2)=Dd (rows.map (·.2)):=by
 unfold Dd;rw[←hr,dU];refine yg fun i hi=>?_
 have hlt:=qX.mp (h.mem_iff.mp hi);simp[tG,hlt]
section
variable{X:Cx}
theorem agD(ha:∀r∈rows,TupAt s'.heap r∧r.2.map bG=sh)(hi:i<rows.length)(hj:j<rows.length)(C:Bool→au→Prop)(q:C (kI rows i j) s'):
  kas_ask prog w A (tuples' true) (rows.map fun r=>fG r.1) i j C s':=by
 refine ahT ha hi hj C ?_;have e1:tU rows i=rowAt rows i:=by simp[tU,rowAt,tG,hi]
 have e2:tU rows j=rowAt rows j:=by simp[tU,rowAt,tG,hj]
 unfold kI at q;rw[e1,e2] at q;exact q
end
abbrev ud:=List (Option ao)
def qi(H:Hp)(Γ:ud)(σ:St):Prop:=σ.length=Γ.length∧∀(i:Nat)(d:ao),Γ[i]?=some (some d)→∃v,σ[i]?=some (some v)∧RX H d v
theorem qi.same(h:qi H Γ σ)(s:bw H H'):qi H' Γ σ:=⟨h.1,fun i d e=>let ⟨v,a,b⟩:=h.2 i d e;⟨v,a,b.same s⟩⟩
theorem qi.set(h:qi H Γ σ)(hv:RX H d v):qi H (Γ.set i (some d)) (σ.set i (some v)):=by
 refine⟨by rw[uD,uD];exact h.1,fun j e he=>?_⟩
 by_cases hj:i=j
 ·subst hj;rw[Ac] at he;simp only[if_true] at he;split at he
  ·rename_i hl;cases he
   refine⟨v,?_,hv⟩
   rw[Ac];simp only[if_true];rw[if_pos (by rw[h.1];exact hl)]
  ·cases he
 ·rw[uy hj] at he;rw[uy hj];exact h.2 j e he
def er(Z:List aa)(H:Hp):Hp:=fun b=>if b∈Z then none else H b
theorem jh(h:er Z H b=some o):H b=some o:=by
 unfold er at h;split at h
 ·cases h
 ·exact h
theorem zy(Z:List aa)(H:Hp):bw (er Z H) H:=fun b o h=>jh h
theorem ahW(s:bw H H'):bw (er Z H) (er Z H'):=fun b o h=>by
 unfold er at h⊢;split at h
 ·cases h
 ·rename_i n;rw[if_neg n];exact s _ _ h
theorem BV(H:Hp):er [] H=H:=by
 funext b;simp[er]
def HQ(t:TE)(Γ:ud)(d:ao):Prop:=∀Z σ H (Q:VK),(∀b,b∈Z→H b≠none)→qi (er Z H) Γ σ→(∀v H',bw H H'→RX (er Z H') d v→Q v H')→t σ H Q
def YB(t:TA)(Γ:ud)(ds:List ao):Prop:=∀Z σ H (Q:List V→Hp→Prop),(∀b,b∈Z→H b≠none)→qi (er Z H) Γ σ→(∀vs H',bw H H'→lB (er Z H') ds vs→Q vs H')→t σ H Q
section
variable{Γ:ud}{K:aH}
theorem HQ.run(h:HQ t Γ d)(e:qi H Γ σ)(q:∀v H',bw H H'→RX H' d v→Q v H'):t σ H Q:=
 h [] σ H Q (fun _ m=>by cases m) (by rw[BV];exact e) fun v H' s r=>q v H' s (by rw[BV] at r;exact r)
end
end L2
namespace HT
open PySem PySem.Spec PyProof.Rows
section
variable{prog:bf}{w:aY}{A:bU}{E:Value→au→Prop}{s:au}
theorem acG{t sl:aa}{items:Array Value}{vl vu:Value}{lo hi:Option Int}{Q:Value→au→Prop}(ht:IsTup s.heap t items)(hs:s.heap.IsSliceOf sl vl vu .none)(pl:rF vl lo)(pu:rF vu hi)
  (hw:bR items.size 0 lo=0∧bR items.size items.size hi=items.size)(h:Q (.ref t) s):aM (model prog w) A (uP (.ref t) (.ref sl)) Q E s:=by
 obtain⟨os,hos,hcs,hds⟩:=id hs
 have hTs:s.TypeIs (.ref sl) "slice":=⟨os,hos,hcs⟩
 unfold uP
 try with_reducible refine lW ?_
 first|refine aC (aW ?_)|skip
 refine aC (acZ ht.typeIs (by decide) ?_);refine aC (z7 (name:=fj "__getitem__") ht.typeIs JF
  (pL JF ht.typeIs entry_tuple_getitem ?_ (args_tuple_getitem _ _)))
 show aM _ _ (ab2 (.ref t) >>= _) _ _ s;refine aC (tupleItemsOf_ ht ?_);refine aC (Fw hTs ?_);rw[if_pos (by decide)];refine aC (Uh hs pl pu ?_);have hyes:((((bR items.size 0 lo:Nat):Int)==0&&(1:Int)==1&&(bR items.size items.size hi-bR items.size 0 lo)==items.size)=true):=by
  rw[hw.1,hw.2];simp
 show aM _ _ (if(((bR items.size 0 lo:Nat):Int)==0&&(1:Int)==1&&(bR items.size items.size hi-bR items.size 0 lo)==items.size)=true then _ else _) _ _ s;rw[if_pos hyes];unfold amu;refine aC (aC (Fw ht.typeIs (aW ?_)));rw[if_pos (by decide)];refine aC (wH ?_);exact aW ⟨_,rfl,aW h⟩
end
end HT
namespace L2
open PySem PySem.Spec PyProof.Rows PySem.W
section
variable{X:Cx}
def ak5(K:aH):V→Option Int→Option Int→Hp→VK→Prop:=fun x lo hi H Q=>∃a xs,x=.ref a∧cI K H a xs∧(qC xs lo hi=xs→Q (.ref a) H)∧∀p,H p=none→Q (.ref p) (upd H p (.tup (qC xs lo hi)))
theorem ahX:ur X (ak5 X.K):=by
 intro pins s σ H x v vl vu lo hi sl Q I rx hs pl pu h
 obtain⟨a,xs,rfl,hx,q1,q2⟩:=h
 by_cases hw:HT.bR xs.length 0 lo=0∧HT.bR xs.length xs.length hi=xs.length
 ·cases rx
  obtain⟨its,r,ht,hz⟩:=I.tuple hx
  have hlen:its.toArray.size=xs.length:=by rw[fD];exact r.length.symm
  refine⟨"tuple",_,PyProof.Rows.slot_tuple_getitem.lookup,ht.typeIs,?_⟩
  refine HT.acG ht hs pl pu (by rw[hlen];exact hw) ?_
  refine⟨.ref a,H,I,rfl,q1 ?_⟩
  unfold qC;rw[hw.1,hw.2];simp
 ·exact ai4 pins s σ H _ v vl vu lo hi sl Q I rx hs pl pu ⟨a,xs,rfl,hx,hw,q2⟩
end
end L2
namespace HT
open PySem PySem.Spec PyProof.Rows
open Sem (wp)
open Builtin
end HT
namespace L2
open PySem PySem.Spec PyProof.Rows PySem.W
section
variable{X:Cx}
end
section
variable{Γ:ud}{K:aH}
end
section
variable{Γ:ud}{K:aH}
end
section
variable{Γ:ud}{K:aH}
end
section
variable{X:Cx}
theorem aeT(hu:X.A.units+64<dY):cA X (dH .NotEq) (fun x y H Q=>∃d e,RX H d x∧RX H e y∧lC d=true∧lC e=true∧Q (.bl (!PyData.eqv d e)) H):=by
 intro pins s σ H x y v u Q I rx ry h
 obtain⟨d,e,hd,he,h1,h2,q⟩:=h
 obtain⟨as,ra⟩:=RD.reads I (hd.rd (K:=X.K)) rx
 obtain⟨bs,rb⟩:=RD.reads I (he.rd (K:=X.K)) ry
 exact ne_dataH ra rb h1 h2 hu ⟨.bl _,H,I,rfl,q⟩
end
section
variable{Γ:ud}{K:aH}
def ajm(t:TE)(Γ:ud)(d:ao):Prop:=∀σ H (Q:VK),qi H Γ σ→(∀v H',bw H H'→RX H' d v→Q v H')→t σ H Q
theorem HQ.r(h:HQ t Γ d):ajm t Γ d:=fun σ H Q e q=>h.run e q
theorem YB.run(h:YB t Γ ds)(e:qi H Γ σ)(q:∀vs H',bw H H'→lB H' ds vs→Q vs H'):t σ H Q:=
 h [] σ H Q (fun _ m=>by cases m) (by rw[BV];exact e) fun v H' s r=>q v H' s (by rw[BV] at r;exact r)
end
theorem Hh{xs:Array Nat}(h:xs.toList.Pairwise (·<·)){i k d:Nat}(hik:i<k)(hk:k<xs.size):xs.getD i d<xs.getD k d:=by
 have h1:=Ec.mp h i k (by simpa using FJ hik hk) (by simpa using hk) hik;have hi:i<xs.size:=FJ hik hk;rw[qP,qP,lR hk,lR hi];simpa using h1
theorem Nr{xs:Array Nat}{j:Nat}(h:xs.toList.Pairwise (·<·)):∀f lo hi,lo≤hi→hi≤xs.size→hi-lo≤f→(∀i,i<lo→xs.getD i j<j)→(∀i,hi≤i→i<xs.size→j≤xs.getD i j)→
  Et xs j f lo hi≤xs.size∧(∀i,i<Et xs j f lo hi→xs.getD i j<j)∧∀i,Et xs j f lo hi≤i→i<xs.size→j≤xs.getD i j
 |0,lo,hi,h1,h2,h3,h4,h5=>by
  unfold Et
  exact⟨by omega,h4,fun i a b=>h5 i (by omega) b⟩
 |f+1,lo,hi,h1,h2,h3,h4,h5=>by
  unfold Et;by_cases hlt:lo<hi
  ·rw[if_pos hlt];dsimp only;by_cases hm:xs.getD ((lo+hi) / 2) j<j
   ·rw[if_pos hm];refine Nr h f _ _ (by omega) h2 (by omega) (fun i hi'=>?_) h5;by_cases e:i=(lo+hi) / 2
    ·rw[e];exact hm
    ·exact FJ (Hh h (by omega) (by omega)) hm
   ·rw[if_neg hm];refine Nr h f _ _ (by omega) (by omega) (by omega) h4 (fun i hi' hs=>?_);by_cases e:i=(lo+hi) / 2
    ·rw[e];omega
    ·have:=Hh (d:=j) h (show(lo+hi) / 2<i by omega) hs;omega
  ·rw[if_neg hlt]
   exact⟨by omega,h4,fun i a b=>h5 i (by omega) b⟩
theorem Mx(j:Nat)(h:xs.toList.Pairwise (·<·)):iD xs j≤xs.size∧(∀i,i<iD xs j→xs.getD i j<j)∧∀i,iD xs j≤i→i<xs.size→j≤xs.getD i j:=
 Nr h xs.size 0 xs.size (lF _) (bK _) (by omega) (fun i hi=>by omega) (fun i a b=>by omega)
theorem YC(h:xs.toList.Pairwise (·<·)):iD xs 0=0:=by
 obtain⟨_,b,_⟩:=Mx 0 h
 cases e:iD xs 0 with
 |zero=>rfl
 |succ n=>have:=b 0 (by omega);omega
theorem Wf{xs:Array Nat}(h:xs.toList.Pairwise (·<·)){i:Nat}(hi:i<xs.size):iD xs (xs[i]+1)=i+1:=by
 obtain⟨a,b,c⟩:=Mx (xs[i]+1) h
 have e:∀k d,(hk:k<xs.size)→xs.getD k d=xs[k]:=fun k d hk=>by rw[qP,lR hk];rfl
 have mono:∀p q,(hp:p<xs.size)→(hq:q<xs.size)→p<q→xs[p]<xs[q]:=fun p q hp hq pq=>by
  have:=Hh (d:=0) h pq hq
  rwa [e p 0 hp,e q 0 hq] at this
 by_cases h1:iD xs (xs[i]+1)≤i
 ·have:=c i h1 hi;rw[e i _ hi] at this;omega
 ·by_cases h2:iD xs (xs[i]+1)=i+1
  ·exact h2
  ·have hs:i+1<xs.size:=by omega
   have:=b (i+1) (by omega);rw[e _ _ hs] at this;have:=mono i (i+1) hi hs (by omega);omega
structure iM(b:Bool)(t:tK):Prop where
 led:t.led=b
 RM:t.dummies=#[]
 RN:t.place.toList.Pairwise (·<·)
theorem iM.standIn(h:iM b t)(n:Nat):iM b (t.standIn n):=⟨h.led,rfl,by simpa[SetTable.standIn] using JR⟩
theorem iM.orStandIn(h:iM b t)(n:Nat):iM b (t.orStandIn n):=by
 unfold SetTable.orStandIn;split
 ·exact h
 ·exact h.standIn n
theorem has_none(j:Nat):ad6 #[] j=false:=rfl
theorem Wg(hd:t.dummies=#[])(f:Nat→Int)(h:Int):∀fuel (p:SetTable.Probe) j d,p.dummy=none→T8 t f h fuel p=some (.empty j d)→d=none∧t.slot j=.empty
 |0,p,j,d,_,e=>by simp[T8] at e
 |fuel+1,p,j,d,hp,e=>by
  unfold T8 at e;have adv:(t.advance p).dummy=none:=by
   unfold SetTable.advance;split<;>exact hp
  cases hs:t.slot p.j with
  |empty=>
   rw[hs] at e;simp only[JZ,amU] at e
   exact⟨by rw[←e.2];exact hp,by rw[←e.1];exact hs⟩
  |dummy=>
   unfold adN at hs;rw[hd] at hs;simp only[has_none] at hs;split at hs
   ·cases hs
   ·simp at hs
  |live i=>
   rw[hs] at e;simp only at e;split at e
   ·cases e
   ·exact Wg hd f h fuel _ j d adv e
theorem aeU{xs:Array Nat}{j:Nat}(h:xs.toList.Pairwise (·<·))(hn:xs[iD xs j]?≠some j):(SetTable.insertAt xs (iD xs j) j).toList.Pairwise (·<·):=by
 obtain⟨a,b,c⟩:=Mx j h
 rw[SetTable.toList_insertAt];have h':=h;rw[←List.take_append_drop (iD xs j) xs.toList,JT] at h'
 obtain⟨h1,h2,h3⟩:=h'
 have e:∀k d,(hk:k<xs.size)→xs.getD k d=xs.toList[k]'(by simpa using hk):=fun k d hk=>by rw[qP,lR hk];simp
 have lo:∀x,x∈xs.toList.take (iD xs j)→x<j:=fun x hx=>by
  obtain⟨i,hi,rfl⟩:=vV hx
  have hi':i<iD xs j:=by simp at hi;omega
  have:=b i hi';rw[e i j (by omega)] at this;rw[ac0];exact this
 have hi:∀x,x∈xs.toList.drop (iD xs j)→j<x:=fun x hx=>by
  obtain⟨i,hi,rfl⟩:=vV hx
  have hs:iD xs j+i<xs.size:=by simp at hi;omega
  have h0:=c (iD xs j) (bK _) (by omega);have ne:xs.getD (iD xs j) j≠j:=fun z=>hn (by
   have hb:iD xs j<xs.size:=by omega
   rw[qP,lR hb] at z;rw[lR hb];simpa using z)
  rw[List.getElem_drop,←e _ j hs];by_cases z:i=0
  ·subst z;simp only[VD];omega
  ·have:=Hh (d:=j) h (show iD xs j<iD xs j+i by omega) hs;omega
 rw[JT]
 refine⟨h1,qR.mpr ⟨hi,h2⟩,fun x hx y hy=>?_⟩
 rcases bN.mp hy with rfl|hy
 ·exact lo x hx
 ·exact h3 x hx y hy
theorem iM.layNew(h:iM b t)(es:Array (Int×Value))(hs:Int)(x:Value):iM b (layNew t es hs x).2.1:=by
 unfold PySem.layNew;cases hf:t.freeSlot hs with
 |none=>exact h.standIn _
 |some q=>
  obtain⟨slot,wd⟩:=q
  have free:t.slot slot=.empty:=by
   unfold SetTable.freeSlot at hf;split at hf
   ·rename_i j d hp
    obtain⟨rfl,hj⟩:=Wg h.RM _ _ _ _ _ _ rfl hp
    simp only[JZ,adO] at hf;rw[←hf.1];exact hj
   ·cases hf
  have hn:t.place[iD t.place slot]?≠some slot:=fun z=>by
   unfold adN at free;simp[z] at free
  show iM b ((t.put slot).1.orStandIn _);refine iM.orStandIn (t:=(t.put slot).1) ⟨h.led,?_,aeU h.RN hn⟩ _
  show(if ad6 t.dummies slot then _ else t.dummies)=#[]
  rw[h.RM];rfl
theorem iM.relayAll(h:iM b t)(es:Array (Int×Value))(n:Nat):iM b (relayAll t es n).2.1:=by
 unfold EY;split
 ·rename_i t' order hr;dsimp only;split
  ·unfold SetTable.relaid SetTable.laid at hr;cases ho:SetTable.layClean (SetTable.sizeAbove n-1) (es.map (·.1)) with
   |none=>simp[ho] at hr
   |some owner=>
    simp only[ho,Option.bind_eq_bind,gR,Option.pure_def,JZ,adO] at hr;rw[←hr.1]
    refine⟨h.led,rfl,?_⟩
    simp only[List.map_filterMap];refine amZ _ (fun x y hxy=>?_) JR;intro u hu v hv;simp only[Ed] at hu hv
    obtain⟨p,⟨_,_,rfl⟩,rfl⟩:=hu
    obtain⟨q,⟨_,_,rfl⟩,rfl⟩:=hv
    exact hxy
  ·exact h.standIn _
 ·exact h.standIn _
theorem iM.plain(h:iM b t)(v:Bool):iM b {t with plain:=v}:=⟨h.led,h.RM,h.RN⟩
theorem iM.fresh(b:Bool):iM b (.fresh 0 0 b):=⟨rfl,rfl,.nil⟩
end L2
namespace L2
open PySem PySem.Spec PySem.W
section
variable{prog:bf}{w:aY}{T:Type}[DecidableEq T](knd:wj prog w T)
def bt(w:aY):Bool:=!(w.params.followText "set-order")
inductive jx:List (Int×Value)→List T→Prop
 |nil:jx [] []
 |cons {e:Int×Value} {k:T} {es:List (Int×Value)} {ks:List T}:(knd.is k e.2=true∧e.1=knd.hash k∧e.2.scannable=true)→jx es ks→jx (e::es) (k::ks)
def mJ(h:aV)(a:aa)(ks:List T):Prop:=∃o es ep t,h.get? a=some o∧o.ExactSet∧o.data=.set es ep t∧(∃ks',jx knd es.toList ks'∧ks'.Perm ks)∧es.size<oK∧t.fits es.size=true∧iM (bt w) t
def jR(ks:List T)(k:T):List T:=if k∈ks then ks else ks++[k]
variable{knd}
theorem jx.elems(h:jx knd es ks):ElemsOf knd es:=by
 induction h with
 |nil=>intro e he;cases he
 |cons a _ ih=>
  intro e he;rcases bN.mp he with rfl|he
  ·exact⟨⟨_,a.1,a.2.1⟩,a.2.2⟩
  ·exact ih e he
theorem jx.len(h:jx knd es ks):es.length=ks.length:=by
 induction h with
 |nil=>rfl
 |cons _ _ ih=>simp[ih]
theorem jx.perm(p:es'.Perm es):∀{ks:List T},jx knd es ks→∃ks',jx knd es' ks'∧ks'.Perm ks:=by
 induction p with
 |nil=>intro ks h;exact⟨ks,h,.refl _⟩
 |cons x _ ih=>
  intro ks h;cases h with
  |cons a r=>
   obtain⟨ks',h1,h2⟩:=ih r
   exact⟨_::ks',.cons a h1,h2.cons _⟩
 |swap x y l=>
  intro ks h;cases h with
  |cons a r=>
   cases r with
   |cons b r=>exact⟨_::_::_,.cons b (.cons a r),.swap ..⟩
 |trans _ _ ih1 ih2=>
  intro ks h
  obtain⟨k2,h1,p1⟩:=ih2 h
  obtain⟨k3,h2,p2⟩:=ih1 h1
  exact⟨k3,h2,p2.trans p1⟩
theorem jx.push(h:jx knd es ks)(hk:knd.is k x=true)(hx:x.scannable=true):jx knd (es++[(knd.hash k,x)]) (ks++[k]):=by
 induction h with
 |nil=>exact .cons ⟨hk,rfl,hx⟩ .nil
 |cons a _ ih=>exact .cons a ih
theorem jx.mem(h:jx knd es ks)(hm:x∈es)(hp:knd.is k x.2=true):k∈ks:=by
 induction h with
 |nil=>cases hm
 |cons a _ ih=>
  rcases bN.mp hm with rfl|hm
  ·cases knd.inj _ _ _ hp a.1;exact dR ..
  ·exact eZ _ (ih hm)
theorem jx.none(h:jx knd es ks)(e:es.findIdx? (fun e=>knd.is k e.2)=.none):k∉ks:=by
 have e':=List.findIdx?_eq_none_iff.mp e;clear e;induction h with
 |nil=>intro h;cases h
 |cons a _ ih=>
  intro hm;rcases bN.mp hm with rfl|hm
  ·have:=e' _ (dR ..);rw[a.1] at this;cases this
  ·exact ih (fun x hx=>e' x (eZ _ hx)) hm
variable{A:bU}{E:Value→au→Prop}{s:au}
theorem YD{h:aV}{a:aa}{o:Obj}{es es':Array (Int×Value)}{ep:Nat}{t t':tK}{ks:List T}(ho:h.get? a=some o)(ex:o.ExactSet)(hd:o.data=.set es ep t)(e:∃ks',jx knd es'.toList ks'∧ks'.Perm ks)
  (hb:es'.size<oK)(hf:t'.fits es'.size=true)(tb:iM (bt w) t'):
  ∃o',(h.update a (LR es' t')).get? a=some o'∧o'.ExactSet∧o'.data=.set es' (ep+1) t'∧mJ knd (h.update a (LR es' t')) a ks:=by
 have g:=ye (LR es' t') ho (by rw[putSet_of es' t' hd];rfl);rw[putSet_of es' t' hd] at g
 exact⟨_,g,ex,rfl,_,es',ep+1,t',g,ex,rfl,e,hb,hf,tb⟩
theorem ahY{a:aa}{k:T}{x:Value}{ks:List T}{Q:Bool→au→Prop}(hk:knd.is k x=true)(hx:x.scannable=true)(hS:mJ knd s.heap a ks)(room:ks.length+1<oK)
  (h:∀b h',yG a s.heap h'→mJ knd h' a (jR ks k)→Q b {s with heap:=h'}):aM (model prog w) A (setAddHashed a x (knd.hash k)) Q E s:=by
 obtain⟨o,es,ep,t,ho,ex,hd,⟨k0,ek,pk⟩,hb,hf,tb⟩:=hS
 have sz:es.size=ks.length:=by rw[←jm,ek.len,pk.length_eq]
 have el:=ek.elems;have mono:∀{u:Unit→au→Prop}{s1:au}(g:Bool),u () s1→∀r:Sem Unit,(r=rule "set.scan.the-table-gave-way"∨r=pure ())→aM (model prog w) A r u E s1:=fun g hu r hr=>by
  rcases hr with rfl|rfl
  ·exact wH hu
  ·exact aW hu
 unfold setAddHashed setAddHashedIn;refine lW (aC (Ad ho hd hf ?_));simp only[byScan_of hx hb el,if_true];unfold setAddByScan;refine aC (aC (wH (aC (wpAny_setScan_of hk ho hd hf el ?_))));cases hr:es.toList.findIdx? (fun e=>knd.is k e.2) with
 |some j=>
  obtain⟨hj,hp,_⟩:=List.findIdx?_eq_some_iff_getElem.mp hr
  have hm:k∈ks:=pk.mem_iff.mp (ek.mem (yq hj) hp);refine aW (aW (h _ s.heap (T9 a s.heap) ?_));rw[jR,if_pos hm]
  exact⟨o,es,ep,t,ho,ex,hd,⟨k0,ek,pk⟩,hb,hf,tb⟩
 |none=>
  have hm:k∉ks:=fun z=>ek.none hr (pk.mem_iff.mpr z)
  have pn:=layNew_perm t es (knd.hash k) x;have fn:=layNew_fits t es (knd.hash k) x;have tn:=tb.layNew es (knd.hash k) x;dsimp only;generalize layNew t es (knd.hash k) x=L at pn fn tn⊢
  obtain⟨es1,t1,wd,gv⟩:=L
  dsimp only at pn fn tn⊢;rw[ac1] at pn
  obtain⟨k1,e1,p1⟩:=(ek.push hk hx).perm pn
  have ak:jR ks k=ks++[k]:=by rw[jR,if_neg hm]
  have q1:∃ks',jx knd es1.toList ks'∧ks'.Perm (jR ks k):=⟨k1,e1,by rw[ak];exact p1.trans (pk.append_right _)⟩
  have vN:es1.size=es.size+1:=by rw[←jm,pn.length_eq,fP,jm];rfl
  have b1:es1.size<oK:=by omega
  refine aC (mono gv ?_ _ (by cases gv<;>first|exact .inl rfl|exact .inr rfl));have tail:∀t2:tK,t2.fits es1.size=true→iM (bt w) t2→aM (model prog w) A (do
    storeSet a es1 t2
    if(!wd&&t2.tooFull)=true then do
      (match(EY t2 es1 (yC es1.size)).2.2 with|true=>rule "set.scan.the-table-gave-way" |false=>pure ())
      storeSet a (EY t2 es1 (yC es1.size)).1 (EY t2 es1 (yC es1.size)).2.1
      pure (some true)
     else pure (some true)) (fun r s'=>aM (model prog w) A (match r with|some added=>pure added|none=>setAddHashedIn a x (knd.hash k) 99999) Q E s') E s:=fun t2 f2 tb2=>by
   obtain⟨o1,g1,ex1,d1,S1⟩:=YD (knd:=knd) ho ex hd q1 b1 f2 tb2
   refine aC (ac2 ho hd ?_ (Ua b1));have zA:=sJ s.heap a (LR es1 t2);split
   ·have pr:=relayAll_perm t2 es1 (yC es1.size);have fr:=relayAll_fits t2 es1 (yC es1.size);have tr:=tb2.relayAll es1 (yC es1.size);generalize EY t2 es1 (yC es1.size)=L2 at pr fr tr⊢
    obtain⟨es2,t3,gv2⟩:=L2
    dsimp only at pr fr tr⊢
    obtain⟨k2,e2,p2⟩:=q1
    obtain⟨k3,e3,p3⟩:=e2.perm pr
    have sz2:es2.size=es1.size:=by rw[←jm,pr.length_eq,jm]
    have b2:es2.size<oK:=by omega
    refine aC (mono gv2 ?_ _ (by cases gv2<;>first|exact .inl rfl|exact .inr rfl));refine aC (ac2 g1 d1 ?_ (Ua b2))
    obtain⟨_,_,_,_,S2⟩:=YD (knd:=knd) g1 ex1 d1 ⟨k3,e3,p3.trans p2⟩ b2 fr tr
    exact aW (aW (h _ _ (zA.trans (sJ ..)) S2))
   ·exact aW (aW (h _ _ zA S1))
  split
  ·refine aC ?_;rw[hashByValue_scannable 8 hx];refine aW ?_;by_cases hv:plainKind x=true
   ·simp only[hv,if_true];exact tail t1 fn tn
   ·simp only[hv,oE,if_false];exact tail _ (SetTable.fits_plain_off fn) (tn.plain false)
  ·refine aC (aW ?_);simp only[if_true];exact tail t1 fn tn
end
section
variable{T:Type}[DecidableEq T]
def dedup(ks:List T):List T:=ks.foldl jR []
theorem aeV(ks:List T)(k:T):dedup (ks++[k])=jR (dedup ks) k:=by simp[dedup,List.foldl_append]
theorem agE{ks:List T}{k x:T}:x∈jR ks k↔x∈ks∨x=k:=by
 unfold jR;split
 ·rename_i h
  exact⟨.inl,fun z=>z.elim id fun e=>e▸h⟩
 ·simp
theorem U6{x:T}:∀(ks as:List T),x∈ks.foldl jR as↔x∈as∨x∈ks
 |[],as=>by simp
 |k::ks,as=>by rw[Ex,U6,agE,bN,or_assoc]
theorem afN{ks:List T}{x:T}:x∈dedup ks↔x∈ks:=by
 rw[dedup,U6];simp
theorem aeW{ks:List T}{k:T}(h:ks.Nodup):(jR ks k).Nodup:=by
 unfold jR;split
 ·exact h
 ·rename_i hk;exact jV.mpr ⟨h,by simp,fun a ha b hb=>by rw[jn] at hb;rintro rfl;exact hk (hb▸ha)⟩
theorem Uk:∀(ks as:List T),as.Nodup→(ks.foldl jR as).Nodup
 |[],_,h=>h
 |k::ks,_,h=>Uk ks _ (aeW h)
theorem aex(ks:List T):(dedup ks).Nodup:=Uk ks [] .nil
theorem agF(ks:List T)(k:T):(jR ks k).length≤ks.length+1:=by
 unfold jR;split<;>simp
theorem U7:∀(ks as:List T),(ks.foldl jR as).length≤as.length+ks.length
 |[],_=>by simp
 |k::ks,as=>by
  have h1:=U7 ks (jR as k);have h2:=agF as k;simp only[Ex,cR];omega
theorem WN(ks:List T):(dedup ks).length≤ks.length:=by simpa[dedup] using U7 ks []
end
section
variable{prog:bf}{w:aY}{T:Type}[DecidableEq T]{knd:wj prog w T}{A:bU}{E:Value→au→Prop}{s:au}
theorem mJ.at(H:mJ knd h a ks)(e:∀o,h.get? a=some o→h'.get? a=some o):mJ knd h' a ks:=
 let ⟨o,es,ep,t,ho,r⟩:=H
 ⟨o,es,ep,t,e o ho,r⟩
theorem mJ.lt(H:mJ knd h a ks):a<h.objs.size:=let ⟨_,_,_,_,ho,_⟩:=H;cz ho
theorem mJ.ty(H:mJ knd s.heap a ks):s.TypeIs (.ref a) "set":=let ⟨o,_,_,_,ho,ex,_⟩:=H;⟨o,ho,ex.1⟩
end
section
variable{prog:bf}{w:aY}{T:Type}[DecidableEq T]{knd:wj prog w T}{A:bU}{E:Value→au→Prop}{s:au}
def pB(w:aY):Obj:={cls:=.type "set",dict:=none,data:=.set #[] 0 (.fresh 0 0 (bt w))}
theorem ajn(g:h.get? a=some (pB w)):mJ knd h a []:=⟨_,#[],0,_,g,⟨rfl,rfl,rfl⟩,rfl,⟨[],.nil,.refl _⟩,by decide,rfl,iM.fresh _⟩
end
theorem Xk:Manifest.owners.lookup (String.ofList "rotareti_tes".toList.reverse)=some Manifest.sig_set_iterator:=by kernel_rfl
theorem pU:Slot "set_iterator" "__next__" "set_iterator.__next__":=.of (owner:="set_iterator") (n:="__next__") (by rw[typeLookup_type,acu];kernel_rfl) (by decide +kernel) (by decide +kernel) (by decide +kernel) (by first|exact .inl (by decide +kernel)|exact .inr (by decide +kernel)) (by rw[U8];kernel_rfl)
theorem YF:Slot "set_iterator" "__iter__" "set_iterator.__iter__":=.of (owner:="set_iterator") (n:="__iter__") (by rw[typeLookup_type,acu];kernel_rfl) (by decide +kernel) (by decide +kernel) (by decide +kernel) (by first|exact .inl (by decide +kernel)|exact .inr (by decide +kernel)) (by rw[U8];kernel_rfl)
theorem Gx:Nt table "set_iterator.__next__"=some jX.«set_iterator.__next__»:=entryFor_of_tree (by kernel_rfl)
theorem afO:Nt table "set_iterator.__iter__"=some jX.«dict_keyiterator.__iter__»:=entryFor_alias (id':="dict_keyiterator.__iter__") (by kernel_rfl) rfl (by decide +kernel) (by kernel_rfl)
theorem aeX:Nt table "set.__iter__"=some jX.«frozenset.__iter__»:=entryFor_alias (id':="frozenset.__iter__") (by kernel_rfl) rfl (by decide +kernel) (by kernel_rfl)
theorem Gy(a:Value):BW "set_iterator.__next__" ⟨[a],[]⟩:=by
 unfold BW;rw[signature?_of (id:="set_iterator.__next__") (n:="__txen__".toList) (o:="rotareti_tes".toList) (by kernel_rfl) Xk];kernel_rfl
theorem afP(a:Value):BW "set_iterator.__iter__" ⟨[a],[]⟩:=by
 unfold BW;rw[signature?_of (id:="set_iterator.__iter__") (n:="__reti__".toList) (o:="rotareti_tes".toList) (by kernel_rfl) Xk];kernel_rfl
section
variable{prog:bf}{w:aY}{A:bU}{E:Value→au→Prop}{s:au}{it S:aa}{es:Array (Int×Value)}{ep i n:Nat}{t:tK}{first:Value}
def lg(b:Bool)(h:aV)(a:aa)(es:Array (Int×Value))(ep:Nat)(t:tK):Prop:=∃o,h.get? a=some o∧o.ExactSet∧o.data=.set es ep t∧t.fits es.size=true∧iM b t
theorem lg.at(H:lg b h a es ep t)(e:∀o,h.get? a=some o→h'.get? a=some o):lg b h' a es ep t:=let ⟨o,ho,r⟩:=H;⟨o,e o ho,r⟩
def jH(h:aV)(it S:aa)(first:Value)(i n ep:Nat):Prop:=∃o,h.get? it=some o∧o.cls=.type "set_iterator"∧o.data=.fields #[first,iW i,.ref S,iW n,iW ep]
theorem jH.at(H:jH h it S first i n ep)(e:∀o,h.get? it=some o→h'.get? it=some o):jH h' it S first i n ep:=let ⟨o,ho,r⟩:=H;⟨o,e o ho,r⟩
theorem jH.ty(H:jH s.heap it S first i n ep):s.TypeIs (.ref it) "set_iterator":=let ⟨o,ho,c,_⟩:=H;⟨o,ho,c⟩
theorem jH.set{h:aV}{j:Nat}{x:Value}{vs:Array Value}{o:Obj}(ho:h.get? it=some o)(hc:o.cls=.type "set_iterator")(hd:o.data=.fields vs):
  ∃o',(h.update it (Obj.mapFields (·.setIfInBounds j x))).get? it=some o'∧o'.cls=.type "set_iterator"∧o'.data=.fields (vs.setIfInBounds j x):=
 ⟨_,ye _ ho (Obj.isFreed_of_fields (acO hd _)),(Obj.cls_mapFields ..).trans hc,by rw[acO hd]⟩
theorem O5(hit:jH s.heap it S first i n ep)(h:Q (.ref it) s):aM (model prog w) A (BJ (.ref it)) Q E s:=by
 refine ac3 hit.ty YF (pL YF hit.ty afO (show aM _ _ (ret (.ref it)) _ _ s from ?_) (afP _));exact aW ⟨_,rfl,"set_iterator",_,hit.ty,pU.lookup,h⟩
theorem YG{Q:Option Value→au→Prop}{slot:Nat}{R:Option (Value×Nat)}(hit:jH s.heap it S (iW slot) i n ep)(hs:lg (bt w) s.heap S es ep t)(hn:n=es.size)(ne:S≠it)
  (nx:∀{B:bU}{E':Value→au→Prop}{C:Option (Value×Nat)→au→Prop},C R s→aM (model prog w) B (Bq S slot i ep) C E' s){x:Value}{nxt:Nat}(hR:R=some (x,nxt))
  (h:∀h',jH h' it S (iW nxt) (i+1) n ep→yG it s.heap h'→Q (some x) {s with heap:=h'}):aM (model prog w) A (nH (.ref it)) Q E s:=by
 obtain⟨o,ho,hc,hd⟩:=id hit
 obtain⟨os,hos,exs,hds,hf,tb⟩:=id hs
 unfold nH;refine aC (Kz (z7 (name:=fj "__next__") hit.ty pU (pL pU hit.ty Gx ?_ (Gy _))));unfold jX.«set_iterator.__next__»;refine aC (aW (aC (Ke ho hd ?_)));dsimp only[iW];refine aC (Ei hos hds hf ?_);subst hn;subst hR;rw[if_neg (by simp)];refine aC (nx ?_);dsimp only;refine aC (Ah ho hd (by simp) ?_)
 obtain⟨o1,g1,c1,d1⟩:=jH.set (j:=0) (x:=.int nxt 0) ho hc hd
 refine aC (Ah g1 d1 (by simp) ?_)
 obtain⟨o2,g2,c2,d2⟩:=jH.set (j:=1) (x:=.int (i+1) 0) g1 c1 d1
 refine aW ⟨_,rfl,aW (h _ ⟨o2,g2,c2,?_⟩ ((sJ ..).trans (sJ ..)))⟩;rw[d2];simp[iW]
theorem YH(hh:A.handled=none)(h:∀h',(∀b o,s'.heap.get? b=some o→h'.get? b=some o)→Q none {s' with heap:=h'}):
  aM (model prog w) A.in1 (do let e ←newExc (.type "StopIteration") [];(raiseNew e:Sem Fin)) (fun fin s1=>∃v,fin=Fin.done (Flow.ret v)∧aM (model prog w) A (pure (some v)) Q E s1)
   (fun e s1=>aM (model prog w) A (do if(←isInstance e (Ax "StopIteration"))=true then pure none else throw e) Q E s1) s':=by
 refine aC ?_;simp only[newExc,newTuple];refine aC (lU ?_ (by size_fits));refine aC (m:=firstArgMember _ _) (wpAny_of_eq (a:=pP) (by first|rfl|(simp only[firstArgMember];rfl)) ?_);refine lU ?_ (by size_fits);simp only[raiseNew];refine aC (wpAny_handled ?_);rw[show A.in1.handled=none from hh];refine aC (aW (wpAny_throw ?_));refine aC (adg (T:="StopIteration") (b:=true) ⟨_,gP _ rfl,rfl⟩ isSubtype_stop ?_);exact aW (h _ fun b o e=>cB _ (cB _ e))
theorem ZK{Q:Option Value→au→Prop}{slot:Nat}(hh:A.handled=none)(hit:jH s.heap it S (iW slot) i n ep)(hs:lg (bt w) s.heap S es ep t)(hn:n=es.size)
  (nx:∀{B:bU}{E':Value→au→Prop}{C:Option (Value×Nat)→au→Prop},C none s→aM (model prog w) B (Bq S slot i ep) C E' s)
  (h:∀h',(∀b o,b≠it→s.heap.get? b=some o→h'.get? b=some o)→Q none {s with heap:=h'}):aM (model prog w) A (nH (.ref it)) Q E s:=by
 obtain⟨o,ho,hc,hd⟩:=id hit
 obtain⟨os,hos,exs,hds,hf,tb⟩:=id hs
 unfold nH;refine aC (Kz (z7 (name:=fj "__next__") hit.ty pU (pL pU hit.ty Gx ?_ (Gy _))));unfold jX.«set_iterator.__next__»;refine aC (aW (aC (Ke ho hd ?_)));dsimp only[iW];refine aC (Ei hos hds hf ?_);subst hn;rw[if_neg (by simp)];refine aC (nx ?_);dsimp only;refine aC (Ah ho hd (by simp) ?_);exact YH hh fun h' kk=>h h' fun b o hb e=>kk b o (((sJ ..).2 b hb).trans e)
end
section
variable{prog:bf}{w:aY}{A:bU}{E:Value→au→Prop}{s:au}{it S:aa}{es:Array (Int×Value)}{ep i n:Nat}{t:tK}{first:Value}
theorem Hi(h:Q (!bt w) s):aM (model prog w) A Wh Q E s:=by
 unfold Wh;refine aC (J2 (aW ?_));have h':Q (w.params.followText "set-order") s:=by simpa[bt] using h
 exact h'
theorem Ma:∀{l:List α}{j:Nat}(h:j<l.length),(l[j]::l.eraseIdx j).Perm l
 |[],j,h=>by cases h
 |a::l,0,h=>.refl _
 |a::l,j+1,h=>by
  have:=Ma (l:=l) (j:=j) (by simpa using h);simp only[List.getElem_cons_succ,List.eraseIdx_cons_succ]
  exact(Kf ..).trans (this.cons a)
theorem WQ(hs:lg (bt w) s.heap S es ep t)(hb:bt w=true)(nd:(!t.plain&&decide (es.size>1))=false)
  (h:C (match es[iD t.place slot]?,t.place[iD t.place slot]? with|some (_,x),some j=>some (x,j+1)|_,_=>none) s):aM (model prog w) A (Bq S slot i ep) C E s:=by
 obtain⟨o,ho,ex,hd,hf,tb⟩:=hs
 unfold Bq;refine aC (Ad ho hd hf ?_);refine aC (Hi ?_);rw[hb];simp only[adP,oE,if_false];refine J8 (fun z=>?_) (fun _=>?_)
 ·have z':(!t.plain&&decide (es.size>1))=true:=z;rw[nd] at z';cases z'
 refine aC (show aM _ _ (if(!t.led&&!es.isEmpty)=true then _ else _) _ _ _ from ?_);rw[tb.led,hb];simp only[adP,U0,oE,if_false];exact aW (aW h)
theorem WR(hs:lg (bt w) s.heap S es ep t)(hb:bt w=false)
  (h:C (((wJ (w.params.setOrder S ep) es)[i]?).map fun e=>(e.2,slot)) s):aM (model prog w) A (Bq S slot i ep) C E s:=by
 obtain⟨o,ho,ex,hd,hf,tb⟩:=hs
 unfold Bq;refine aC (Ad ho hd hf ?_);refine aC (Hi ?_);rw[hb];simp only[adA,if_true,bne_self_eq_false,oE,if_false];refine aC ?_;unfold setWalk;refine aC (Ad ho hd hf ?_);refine aC (Hi ?_);rw[hb];simp only[adA,if_true];refine aC (J2 (aW ?_));exact aW h
theorem YJ(f:Nat→Nat):∀(m k:Nat)(left:List α)(out:Array α),left.length=m→(VF f m k left out).toList.Perm (out.toList++left)
 |0,k,left,out,h=>by
  unfold VF;rw[acd.mp h];simp
 |m+1,k,left,out,h=>by
  unfold VF;have hl:f k%left.length<left.length:=Nat.mod_lt _ (by omega);rw[jg hl];dsimp only
  refine(YJ f m (k+1) _ _ (by rw[acB];simp[hl];omega)).trans ?_
  rw[ac1,j4];refine acv _ ?_;exact Ma hl
theorem My(f:Nat→Nat)(xs:Array α):(wJ f xs).toList.Perm xs.toList:=by
 have:=YJ f xs.size 0 xs.toList #[] (by simp);simpa[wJ] using this
theorem agG(hm:m≠0)(h:∀j d,j<m→Q j {s with drawn:=d}):aM (model prog w) A (choose src m) Q E s:=fun Γ p _=>⟨hm,h _ _ (Nat.mod_lt _ (Nat.pos_of_ne_zero hm))⟩
theorem Xl:∀(m:Nat)(xs:List α)(s:au)(Q:List α→au→Prop),xs.length=m→(∀ys d,ys.Perm xs→Q ys {s with drawn:=d})→aM (model prog w) A (drawOrder m xs) Q E s
 |0,xs,s,Q,hl,h=>by
  unfold drawOrder;rw[acd.mp hl] at h;exact aW (h [] s.drawn (.refl _))
 |m+1,[],s,Q,hl,h=>by cases hl
 |m+1,x::xs,s,Q,hl,h=>by
  unfold drawOrder;refine aC (agG (by simp) fun j d hj=>?_);rw[jg hj];dsimp only;refine aC (Xl m _ _ _ (by rw[acB,if_pos hj];simpa using hl) fun ys d' hp=>?_);exact aW (h _ d' ((hp.cons _).trans (Ma hj)))
end
section
variable{prog:bf}{w:aY}{A:bU}{E:Value→au→Prop}{s:au}{it S pl:aa}{es:Array (Int×Value)}{ep i n:Nat}{t:tK}{ps:List Nat}
def zW(h:aV)(pl:aa)(ps:List Nat):Prop:=∃o c,h.get? pl=some o∧o.data=.seq (ps.map fun k:Nat=>iW k).toArray c
theorem zW.at(H:zW h pl ps)(e:∀o,h.get? pl=some o→h'.get? pl=some o):zW h' pl ps:=let ⟨o,c,ho,r⟩:=H;⟨o,c,e o ho,r⟩
theorem ahZ(hit:jH s.heap it S (.ref pl) i n ep)(hs:lg (bt w) s.heap S es ep t)(hp:zW s.heap pl ps)(hn:n=es.size)(hk:ps[i]?=some k)(he:es[k]?=some e)
  (h:∀h',jH h' it S (.ref pl) (i+1) n ep→yG it s.heap h'→Q (some e.2) {s with heap:=h'}):aM (model prog w) A (nH (.ref it)) Q E s:=by
 obtain⟨o,ho,hc,hd⟩:=id hit
 obtain⟨os,hos,exs,hds,hf,tb⟩:=id hs
 obtain⟨op,cp,hop,hdp⟩:=hp
 unfold nH;refine aC (Kz (z7 (name:=fj "__next__") hit.ty pU (pL pU hit.ty Gx ?_ (Gy _))));unfold jX.«set_iterator.__next__»;refine aC (aW (aC (Ke ho hd ?_)));dsimp only[iW];refine aC (Ei hos hds hf ?_);subst hn;rw[if_neg (by simp)];refine aC (Fb hop hdp ?_);dsimp only;rw[show((ps.map fun k:Nat=>iW k).toArray)[((i:Int)).toNat]?=some (.int (k:Int) 0) by simp[hk,iW]];dsimp only;refine aC ?_;unfold setNextDrawn;refine aC (Ad hos hds hf ?_);simp only[Ab,bne_self_eq_false,oE,if_false,he];refine aW (aC (Ah ho hd (by simp) ?_))
 obtain⟨o1,g1,c1,d1⟩:=jH.set (j:=1) (x:=.int (i+1) 0) ho hc hd
 refine aW ⟨_,rfl,aW (h _ ⟨o1,g1,c1,?_⟩ (sJ ..))⟩;rw[d1];simp[iW]
theorem ajo(hh:A.handled=none)(hit:jH s.heap it S (.ref pl) i n ep)(hs:lg (bt w) s.heap S es ep t)(hp:zW s.heap pl ps)(hn:n=es.size)(hk:ps.length≤i)
  (h:∀h',(∀b o,b≠it→s.heap.get? b=some o→h'.get? b=some o)→Q none {s with heap:=h'}):aM (model prog w) A (nH (.ref it)) Q E s:=by
 obtain⟨o,ho,hc,hd⟩:=id hit
 obtain⟨os,hos,exs,hds,hf,tb⟩:=id hs
 obtain⟨op,cp,hop,hdp⟩:=hp
 unfold nH;refine aC (Kz (z7 (name:=fj "__next__") hit.ty pU (pL pU hit.ty Gx ?_ (Gy _))));unfold jX.«set_iterator.__next__»;refine aC (aW (aC (Ke ho hd ?_)));dsimp only[iW];refine aC (Ei hos hds hf ?_);subst hn;rw[if_neg (by simp)];refine aC (Fb hop hdp ?_);dsimp only;rw[show((ps.map fun k:Nat=>iW k).toArray)[((i:Int)).toNat]?=none by simp[hk]];dsimp only;refine aC (Ah ho hd (by simp) ?_)
 obtain⟨o1,g1,c1,d1⟩:=jH.set (j:=0) (x:=.int 0 0) ho hc hd
 refine aC (Ah g1 d1 (by simp) ?_);exact YH hh fun h' kk=>h h' fun b o hb e=>kk b o ((((sJ ..).trans (sJ ..)).2 b hb).trans e)
theorem afQ(hh:A.handled=none)(ne:S≠it)(hb:bt w=true)(nd:(!t.plain&&decide (es.size>1))=false)(hz:t.place.size=es.size)(rs:t.place.toList.Pairwise (·<·)):
  Walks prog w A it [it,S] [it] es.size (fun i v=>(es.toList.map (·.2))[i]?=some v) (fun i h=>jH h it S (iW (if i=0 then 0 else t.place.getD (i-1) 0+1:Nat)) i es.size ep∧lg (bt w) h S es ep t) where
 sub:=fun b hb=>by simp at hb;simp[hb]
 frame:=fun _ _ _ st hk=>⟨st.1.at fun o e=>hk it (by simp) o e,st.2.at fun o e=>hk S (by simp) o e⟩
 item:=fun i s Q E hi st hQ=>by
  have hp:i<t.place.size:=by omega
  have bl:iD t.place (if i=0 then 0 else t.place.getD (i-1) 0+1)=i:=by
   by_cases z:i=0
   ·subst z;exact YC rs
   ·rw[if_neg z];have h1:i-1<t.place.size:=by omega
    have:=Wf rs h1;rw[qP,lR h1,Ul,this];omega
  refine YG (R:=some (es[i].2,t.place[i]+1)) st.1 st.2 rfl ne (fun c=>WQ st.2 hb nd ?_) rfl fun h' hit' same=>hQ _ h' s.toks (by simp[hi]) ⟨?_,st.2.at fun o e=>(same.2 S ne).trans e⟩ fun b o hb e=>(same.2 b fun z=>hb (by simp[z])).trans e
  ·rw[bl,lR hi,lR hp];exact c
  ·have e1:(if i+1=0 then 0 else t.place.getD (i+1-1) 0+1)=t.place[i]+1:=by
    rw[if_neg (by omega),Nat.add_sub_cancel,qP,lR hp,Ul]
   rw[e1];exact hit'
 done:=fun s Q E st hQ=>by
  have bl:iD t.place (if es.size=0 then 0 else t.place.getD (es.size-1) 0+1)=es.size:=by
   by_cases z:es.size=0
   ·rw[if_pos z,z];exact YC rs
   ·rw[if_neg z];have h1:es.size-1<t.place.size:=by omega
    have:=Wf rs h1;rw[qP,lR h1,Ul,this];omega
  refine ZK hh st.1 st.2 rfl (fun c=>WQ st.2 hb nd ?_) fun h' kk=>hQ h' s.toks fun b o hb e=>kk b o (fun z=>hb (by simp[z])) e
  rw[bl,acn (bK _)];exact c
 self:=fun _ _ _ _ st hQ=>O5 st.1 hQ
theorem afR(hh:A.handled=none)(ne:S≠it)(hb:bt w=false):
  Walks prog w A it [it,S] [it] es.size (fun i v=>((wJ (w.params.setOrder S ep) es).toList.map (·.2))[i]?=some v) (fun i h=>jH h it S (iW (0:Nat)) i es.size ep∧lg (bt w) h S es ep t) where
 sub:=fun b hb=>by simp at hb;simp[hb]
 frame:=fun _ _ _ st hk=>⟨st.1.at fun o e=>hk it (by simp) o e,st.2.at fun o e=>hk S (by simp) o e⟩
 item:=fun i s Q E hi st hQ=>by
  have hl:(wJ (w.params.setOrder S ep) es).size=es.size:=by rw[←jm,(My _ es).length_eq,jm]
  have hp:i<(wJ (w.params.setOrder S ep) es).size:=by omega
  refine YG (R:=some ((wJ (w.params.setOrder S ep) es)[i].2,0)) st.1 st.2 rfl ne (fun c=>WR st.2 hb ?_) rfl fun h' hit' same=>hQ _ h' s.toks (by simp[hp]) ⟨hit',st.2.at fun o e=>(same.2 S ne).trans e⟩ fun b o hb e=>(same.2 b fun z=>hb (by simp[z])).trans e
  rw[lR hp];exact c
 done:=fun s Q E st hQ=>by
  have hl:(wJ (w.params.setOrder S ep) es).size=es.size:=by rw[←jm,(My _ es).length_eq,jm]
  refine ZK hh st.1 st.2 rfl (fun c=>WR st.2 hb ?_) fun h' kk=>hQ h' s.toks fun b o hb e=>kk b o (fun z=>hb (by simp[z])) e
  rw[acn (by omega)];exact c
 self:=fun _ _ _ _ st hQ=>O5 st.1 hQ
theorem aeY(hh:A.handled=none)(ne:S≠it)(np:pl≠it)(pp:ps.Perm (dG es.size)):
  Walks prog w A it [it,S,pl] [it] es.size (fun i v=>(ps.map fun k=>(es.getD k (0,.none)).2)[i]?=some v) (fun i h=>jH h it S (.ref pl) i es.size ep∧lg (bt w) h S es ep t∧zW h pl ps) where
 sub:=fun b hb=>by simp at hb;simp[hb]
 frame:=fun _ _ _ st hk=>⟨st.1.at fun o e=>hk it (by simp) o e,st.2.1.at fun o e=>hk S (by simp) o e,st.2.2.at fun o e=>hk pl (by simp) o e⟩
 item:=fun i s Q E hi st hQ=>by
  have hl:ps.length=es.size:=by rw[pp.length_eq,j5]
  have hp:i<ps.length:=by omega
  have hk:ps[i]<es.size:=qX.mp (pp.mem_iff.mp (yq hp));refine ahZ (k:=ps[i]) (e:=es[ps[i]]) st.1 st.2.1 st.2.2 rfl (jg hp) (lR hk) fun h' hit' same=>hQ _ h' s.toks ?_ ⟨hit',st.2.1.at fun o e=>(same.2 S ne).trans e,st.2.2.at fun o e=>(same.2 pl np).trans e⟩ fun b o hb e=>(same.2 b fun z=>hb (by simp[z])).trans e
  rw[gh,jg hp,jW,qP,lR hk];rfl
 done:=fun s Q E st hQ=>by
  have hl:ps.length=es.size:=by rw[pp.length_eq,j5]
  exact ajo hh st.1 st.2.1 st.2.2 rfl (by omega) fun h' kk=>hQ h' s.toks fun b o hb e=>kk b o (fun z=>hb (by simp[z])) e
 self:=fun _ _ _ _ st hQ=>O5 st.1 hQ
end
section
variable{prog:bf}{w:aY}{A:bU}{E:Value→au→Prop}{s:au}{S:aa}{es:Array (Int×Value)}{ep:Nat}{t:tK}
theorem afS(hs:lg (bt w) s.heap S es ep t)(h:Q (bt w&&(!t.plain&&decide (es.size>1))) s):aM (model prog w) A (setDrawn S) Q E s:=by
 obtain⟨os,hos,exs,hds,hf,tb⟩:=id hs
 unfold setDrawn;refine aC (Ad hos hds hf ?_);refine aC (Hi (aW ?_));rw[Bool.not_not];exact h
theorem agH(hh:A.handled=none)(hs:lg (bt w) s.heap S es ep t)(hb:es.size<oK)
  (h:∀(I:aa)(h1:aV)(d:wW)(fp:List aa)(out:List Value)(St:Nat→aV→Prop),Walks prog w A I fp [I] es.size (fun i v=>out[i]?=some v) St→St 0 h1→out.Perm (es.toList.map (·.2))→(∀b o,s.heap.get? b=some o→h1.get? b=some o)→s.heap.objs.size≤I→
   (∀b∈fp,b=S∨s.heap.objs.size≤b)→Q (.ref I) {s with heap:=h1,drawn:=d}):aM (model prog w) A (BJ (.ref S)) Q E s:=by
 obtain⟨os,hos,exs,hds,hf,tb⟩:=id hs
 have hT:s.TypeIs (.ref S) "set":=⟨os,hos,exs.1⟩
 have lt:S<s.heap.objs.size:=cz hos;have hz:t.place.size=es.size:=by
  have:=hf;simp only[SetTable.fits,gQ,beq_iff_eq] at this;exact this.1
 refine ac3 hT adw (pL adw hT aeX ?_ (F.args_set_iter_1 _));unfold jX.«frozenset.__iter__» am0 amV;refine aC (aC (aW (aW ?_)));refine aC (aC (Ei hos hds hf (aW ?_)));refine aC (afS hs ?_);by_cases hd:(bt w&&(!t.plain&&decide (es.size>1)))=true
 ·rw[if_pos hd];refine aC (Xl _ _ _ _ (j5 ..) fun ps d pp=>?_);have pl:ps.length=es.size:=by rw[pp.length_eq,j5]
  unfold newTuple;refine aC (lU ?_ (show(List.map (fun i:Nat=>iW i) ps).toArray.size≤bM by rw[fD,aX,pl,iT];unfold oK at hb;omega));have g1:(s.heap.push {cls:=.type "tuple",data:=.seq (ps.map fun k:Nat=>iW k).toArray}).get? S=some os:=cB _ hos;refine aC (ac4 (s:={s with heap:=s.heap.push _,drawn:=d}) g1 hds hf ?_);refine aC ?_;unfold newFields;refine lU ?_;refine aW ⟨_,rfl,"set_iterator",_,⟨_,gP _ rfl,rfl⟩,pU.lookup,?_⟩;have vN:(s.heap.push {cls:=.type "tuple",data:=.seq (ps.map fun k:Nat=>iW k).toArray}).objs.size=s.heap.objs.size+1:=wg ..;refine h _ _ d [_,S,s.heap.objs.size] _ _ (aeY (ep:=ep) (t:=t) hh ?_ ?_ pp) ⟨⟨_,gP _ rfl,rfl,rfl⟩,⟨os,cB _ g1,exs,hds,hf,tb⟩,⟨_,0,cB _ (gP _ rfl),rfl⟩⟩ ?_ (fun b o e=>cB _ (cB _ e)) ?_ ?_
  ·rw[vN];exact dM (vW lt)
  ·rw[vN];exact dM (Um _)
  ·have e2:(dG es.size).map (fun k=>(es.getD k (0,pP)).2)=es.toList.map (·.2):=by
    refine yp (by simp) fun j h1 h2=>?_
    have hj:j<es.size:=by simpa using h1
    simp[qP,lR hj]
   rw[←e2];exact pp.map _
  ·rw[vN];exact wF _
  ·intro b hb';simp only[bN,nj,or_false] at hb';rcases hb' with rfl|rfl|rfl
   ·right;rw[vN];exact wF _
   ·exact .inl rfl
   ·exact .inr (bK _)
 ·rw[if_neg hd];refine aC (aW ?_);refine aC (ac4 hos hds hf ?_);refine aC ?_;unfold newFields;refine lU ?_;refine aW ⟨_,rfl,"set_iterator",_,⟨_,gP _ rfl,rfl⟩,pU.lookup,?_⟩;have aaU:∀b,b∈[s.heap.objs.size,S]→b=S∨s.heap.objs.size≤b:=fun b hb'=>by
   simp only[bN,nj,or_false] at hb';rcases hb' with rfl|rfl
   ·exact .inr (bK _)
   ·exact .inl rfl
  cases hbt:bt w with
  |true=>
   rw[hbt] at hd;have nd:(!t.plain&&decide (es.size>1))=false:=by simpa using hd
   exact h _ _ s.drawn [_,S] _ _ (afQ (ep:=ep) hh (dM lt) hbt nd hz tb.RN) ⟨⟨_,gP _ rfl,rfl,rfl⟩,⟨os,cB _ hos,exs,hds,hf,tb⟩⟩ (.refl _) (fun b o e=>cB _ e) (bK _) aaU
  |false=>
   exact h _ _ s.drawn [_,S] _ _ (afR (ep:=ep) (t:=t) hh (dM lt) hbt) ⟨⟨_,gP _ rfl,rfl,rfl⟩,⟨os,cB _ hos,exs,hds,hf,tb⟩⟩ ((My _ es).map _) (fun b o e=>cB _ e) (bK _) aaU
end
end L2
namespace L2
open PySem PySem.Spec PySem.W PyProof.Rows
section
variable{prog:bf}{w:aY}{A:bU}{E:Value→au→Prop}{s:au}{S:aa}{es:Array (Int×Value)}{ep:Nat}{t:tK}
theorem agI(hT:s.TypeIs (.ref S) "set")(h:Q false s):aM (model prog w) A (abX (.ref S)) Q E s:=by
 unfold abX;refine aC (wpAny_specialOf hT PySem.F.slot_set_len.lookup ?_);generalize hid:("set.__len__":String)=nm
 wp_delta
 rw[show splitId nm=some ("set","__len__") by subst hid;decide +kernel];subst hid;refine aC (adg (T:="set") (b:=true) hT (by rw[U8];kernel_rfl) ?_);refine J8 (fun z=>absurd z (by decide)) fun _=>J8 (fun _=>?_) fun z=>absurd (by decide +kernel) z
 exact aC (Fw hT (aW h))
theorem afT{out:List Value}{acc:Array Value}(h:ItemsOf (fun i v=>out[i]?=some v) acc out.length):acc=out.toArray:=by
 refine Array.ext (by simpa using h.1) fun j h1 h2=>?_
 have this:out[j]?=some acc[j]:=h.2 j acc[j] (lR h1);have hj:j<out.length:=by simpa using h2
 rw[jg hj] at this;simpa using(fW this).symm
theorem aeZ{R:pZ→au→Prop}(hh:A.handled=none)(hs:lg (bt w) s.heap S es ep t)(hb:es.size<oK){L:aa}(ne:L≠S){c0:Nat}(hL:s.heap.get? L=some {cls:=.type "list",data:=.seq #[] c0})(res:Value)
  (hR:∀(h':aV)(d:wW)(tk:Nat)(us:List Value)(c':Nat),us.Perm (es.toList.map (·.2))→(∀b o,b≠L→s.heap.get? b=some o→h'.get? b=some o)→h'.get? L=some {cls:=.type "list",dict:=none,data:=.seq us.toArray c',slots:=#[]}→
   R (.ok (.ret res)) {s with heap:=h',drawn:=d,toks:=tk}):
  aM (model prog w) A.in1 (JH (.ref L) (.ref S) res) (fun fin s'=>match fin with|.done f=>R (.ok f) s'|.again c'=>c'.quiet=true∧jN (model prog w) A c' R s') (fun e s'=>R (.error e) s') s:=by
 obtain⟨os,hos,exs,hds,hf,tb⟩:=id hs
 have hT:s.TypeIs (.ref S) "set":=⟨os,hos,exs.1⟩
 have ltL:L<s.heap.objs.size:=cz hL;unfold JH;refine aC (Fw hT ?_);rw[show(Tq (.ref L) (.ref S)||Ax "set"==Ax "list"||Ax "set"==Ax "tuple")=false by
  rw[show Tq (.ref L) (.ref S)=false by simp[Tq,ne]];decide]
 simp only[oE,if_false];refine aC (agH (A:=A.in1) hh hs hb fun I h1 d fp out St W st pm kp geI okf=>?_);have lo:out.length=es.size:=by rw[pm.length_eq,aX,jm]
 have bz:L∉fp:=fun z=>(okf L z).elim ne fun z'=>absurd ltL (Nat.not_lt.mpr z')
 have run:∀(h2:aV)(c1 tk:Nat),St 0 h2→(∀b o,b≠L→s.heap.get? b=some o→h2.get? b=some o)→h2.get? L=some {cls:=.type "list",data:=.seq #[] c1}→
   jN (model prog w) A (.builtin "list.extend.loop" ⟨[.ref L,.ref I,res],[]⟩) R {s with heap:=h2,drawn:=d,toks:=tk}:=fun h2 c1 tk st2 k2 g2=>by
  refine codeAny_extend_loopS W.toS (Ua hb) L bz res es.size 0 _ #[] c1 rfl (lF _) st2 g2 (ItemsOf.nil _) fun s3 acc c3 mv g3 io=>?_
  rw[←lo] at io;have ea:=afT io;subst ea;rw[Moved.eq_with mv];refine hR s3.heap d s3.toks out c3 pm (fun b o nb e=>mv.heap b o (fun z=>?_) (k2 b o nb e)) g3;rcases bN.mp z with z|z
  ·exact nb z
  ·exact absurd (cz e) (by rw[jn.mp z];exact Nat.not_lt.mpr geI)
 have gL:=kp L _ hL;have gS:Shared.TypeIs {s with heap:=h1,drawn:=d} (.ref S) "set":=⟨os,kp S _ hos,exs.1⟩
 refine aC (lW (agI gS ?_));refine J8 (fun _=>?_) fun _=>aW ⟨sX ab3 _,run h1 c0 s.toks st (fun b o _ e=>kp b o e) gL⟩
 refine aC (wH (aC (show aM _ _ (Mz L (·.push .none) >>= fun _=>Mz L (·.pop)) _ _ _ from ?_)));refine aC (Ey gL rfl ?_);have u2:=ye (j7 (·.push pP)) gL rfl;refine Ey (hz:=by seq_fits) u2 rfl ?_;have u3:=ye (j7 (·.pop)) u2 rfl;have far:∀b o,b≠L→h1.get? b=some o→((h1.update L (j7 (·.push pP))).update L (j7 (·.pop))).get? b=some o:=fun b o nb e=>
  (qQ _ _ (jC nb)).trans ((qQ _ _ (jC nb)).trans e)
 exact aW ⟨sX ab3 _,run _ _ s.toks (W.frame 0 _ _ st fun b hb' o e=>far b o (fun z=>bz (z▸hb')) e) (fun b o nb e=>far b o nb (kp b o e)) u3⟩
theorem aey(hh:A.handled=none)(hs:lg (bt w) s.heap S es ep t)(hb:es.size<oK)
  (h:∀(h':aV)(d:wW)(tk:Nat)(us:List Value),us.Perm (es.toList.map (·.2))→s.heap.objs.size≤h'.objs.size→(∀b o,s.heap.get? b=some o→h'.get? b=some o)→R us {s with heap:=h',drawn:=d,toks:=tk}):
  aM (model prog w) A (collect (.ref S)) R E s:=by
 have ltS:S<s.heap.objs.size:=let ⟨_,e,_⟩:=hs;cz e
 unfold collect;refine aC (wpAny_runValue (uE entry_proto_collect' ?_));rw[uz abW _];show aM _ A.in1 (newList [] >>= fun l=>again (.builtin "list.__iadd__" ⟨[l,.ref S],[]⟩)) _ _ s;refine aC (lU (aW ⟨sX JP _,uE entry_list_iadd' ?_⟩));rw[uz JP _];have g0:(s.heap.push {cls:=.type "list",data:=.seq ([]:List Value).toArray}).get? s.heap.objs.size=some {cls:=.type "list",data:=.seq #[]}:=gP _ rfl;show aM _ A.in1 (JH (.ref s.heap.objs.size) (.ref S) (.ref s.heap.objs.size)) _ _ _;have key:=aeZ (prog:=prog) (A:=A) (s:={s with heap:=s.heap.push {cls:=.type "list",data:=.seq ([]:List Value).toArray}})
  (R:=fun(q:pZ)(s':au)=>∃(h':aV)(d:wW)(tk:Nat)(us:List Value)(c':Nat),q=.ok (.ret (.ref s.heap.objs.size))∧s'={s with heap:=h',drawn:=d,toks:=tk}∧us.Perm (es.toList.map (·.2))∧(∀b o,s.heap.get? b=some o→h'.get? b=some o)∧h'.get? s.heap.objs.size=some {cls:=.type "list",dict:=none,data:=.seq us.toArray c',slots:=#[]})
  hh (hs.at fun o e=>cB _ e) hb (yH ltS) g0 (.ref s.heap.objs.size) (fun h' d tk us c' pm kk g=>⟨h',d,tk,us,c',rfl,rfl,pm,fun b o e=>kk b o (dM (cz e)) (cB _ e),g⟩)
 refine mW key (fun fin s' x=>?_) fun e s' x=>?_
 ·cases fin with
  |done f=>
   obtain⟨h',d,tk,us,c',e,rfl,pm,kk,g⟩:=x
   cases e;show aM _ A (load s.heap.objs.size >>= _) _ _ _;exact aC (Gm g (aW (h h' d tk us pm (uG (cz g)) kk)))
  |again c1=>
   refine⟨x.1,Fv x.2 fun q s2 y=>?_⟩
   obtain⟨h',d,tk,us,c',rfl,rfl,pm,kk,g⟩:=y
   show aM _ A (load s.heap.objs.size >>= _) _ _ _;exact aC (Gm g (aW (h h' d tk us pm (uG (cz g)) kk)))
 ·obtain⟨_,_,_,_,_,e',_⟩:=x
  cases e'
end
section
variable{prog:bf}{w:aY}{A:bU}{E:Value→au→Prop}{s:au}{S:aa}{es:Array (Int×Value)}{ep:Nat}{t:tK}
theorem ae0{Ok:List Value→Prop}{Q:Value→au→Prop}(hh:A.handled=none)(hs:lg (bt w) s.heap S es ep t)(few:es.size<64)
  (srt:∀us:List Value,us.Perm (es.toList.map (·.2))→∀(B:bU)(s1:au)(a:aa)(n:Nat)(P:Fin→au→Prop)(E':Value→au→Prop),s1.heap.get? a=some (seqObj "list" us.toArray n)→
   (∀out:Array Value,Ok out.toList→P (.done (.ret .none)) {s1 with heap:=sortedHeap s1.heap a us out})→aM (model prog w) B (jX.«list.sort» ⟨[.ref a],[]⟩) P E' s1)
  (h:∀(D:aa)(h':aV)(d:wW)(tk c:Nat)(out:Array Value),Ok out.toList→s.heap.objs.size≤D→(∀b o,s.heap.get? b=some o→h'.get? b=some o)→h'.get? D=some (seqObj "list" out c)→Q (.ref D) {s with heap:=h',drawn:=d,toks:=tk}):
  aM (model prog w) A (call (.builtin "sorted") [.ref S]) Q E s:=by
 refine Th kind_sorted plain_sorted entry_sorted (args_sorted1 _) ?_;unfold jX.«sorted»;refine aC (m:=Wi "sorted" 1 1 _) (aW (aC (aey (A:=A.in1) hh hs (by unfold oK;omega) fun h1 d tk us pm ge kk=>?_)));have lu:us.length=es.size:=by rw[pm.length_eq,aX,jm]
 refine aC (Ky ?_ (by rw[iT];omega));have gL:(h1.push (seqObj "list" us.toArray 0)).get? h1.objs.size=some (seqObj "list" us.toArray 0):=gP _ rfl;refine aC (lW (pL slot_list_sort ⟨_,gL,rfl⟩ entry_list_sort (srt us pm _ {s with heap:=h1.push (seqObj "list" us.toArray 0),drawn:=d,toks:=tk} _ 0 _ _ gL fun out ok=>⟨_,rfl,?_⟩) (args_list_sort _)))
 obtain⟨c,gD⟩:=sortedHeap_at (out:=out) gL
 refine aW ⟨_,rfl,h h1.objs.size _ d tk c out ok ge (fun b o e=>?_) gD⟩;have lb:b<h1.objs.size:=cz (kk b o e)
 show(sortedHeap (h1.push (seqObj "list" us.toArray 0)) h1.objs.size us out).get? b=some o
 rw[sortedHeap_old (dM lb) (by rw[wg];exact vW lb)];exact cB _ (kk b o e)
end
theorem Inv.drew(d:wW)(I:Inv X pins σ H s):Inv X pins σ H {s with drawn:=d}:=
 I.call (g':=s.gens) (t':=s.toks) (d':=d) (ch:=[]) (Un.kept fun _ _ e=>e) (I.hok.kept fun _ _ e=>e) I.bare (fun _ z=>nomatch z)
section
variable{X:Cx}{T:Type}[DecidableEq T]{knd:wj X.prog X.w T}{l:Expr}{tl:TE}{p1 p2 pos1 pos2:Pos}
end
section
variable{prog:bf}{w:aY}
theorem agJ(h:jx (Fg prog w) es ks):(es.map (·.2)).map strOf=ks∧∀v,v∈es.map (·.2)→∃x t,v=.str x t:=by
 induction h with
 |nil=>exact⟨rfl,fun v hv=>by cases hv⟩
 |@cons e k es ks a _ ih=>
  obtain⟨t,ht⟩:=acE (show Vj k e.2=true from a.1)
  refine⟨by rw[bY,bY,ih.1,ht];rfl,fun v hv=>?_⟩
  rcases bN.mp hv with rfl|hv
  ·exact⟨k,t,ht⟩
  ·exact ih.2 v hv
end
section
variable{X:Cx}{l:Expr}{tl:TE}{p1 p2 pos1 pos2:Pos}
end
section
variable{prog:bf}{w:aY}{A:bU}{E:Value→au→Prop}{s:au}{R:pZ→au→Prop}{I S:aa}{fp wr:List aa}{n:Nat}{Pv:Nat→Value→Prop}{St:Nat→aV→Prop}{bt:Nat→Nat→Bool}
def akt(v:Value)(c:Nat):Obj:={cls:=.type "list",dict:=none,data:=.seq #[v,v] c,slots:=#[]}
end
section
variable{prog:bf}{w:aY}{A:bU}{E:Value→au→Prop}{s:au}
theorem ad7{id:String}{b:jX}{as:List Value}{kw:List (Str×Value)}{Q:Value→au→Prop}(hk:builtinKind id=none)(hp:plainId id=true)(hb:Nt table id=some b)(ha:BW id ⟨as,kw⟩)
  (hc:aM (model prog w) A.in1 (b ⟨as,kw⟩) (fun fin s'=>match fin with
   |.done f=>(match(Except.ok f:pZ) with|.ok (.ret v)=>Q v s'|.ok _=>False|.error e=>E e s')
   |.again c'=>c'.quiet=true∧jN (model prog w) A c' (fun r s'=>match r with|.ok (.ret v)=>Q v s'|.ok _=>False|.error e=>E e s') s') E s):aM (model prog w) A (call (.builtin id) as kw) Q E s:=by
 refine wpAny_call (codeAny_call_builtin hp hb ?_);simp only[checkBuiltinCall,hk];cases hg:Manifest.signature? id with
 |none=>exact aW hc
 |some sg=>
  simp only[BW,hg] at ha;show aM _ A.in1 (adB id sg ⟨as,kw⟩) _ _ s;rw[show adB id sg ⟨as,kw⟩=pure () from ha];exact aW hc
end
section
variable{X:Cx}{l de:Expr}{tl td:TE}{p pos kp:Pos}
end
end L2
namespace L2
open PySem PySem.Spec PyProof.Rows PySem.W
def cQ:ao→Option Key
 |.int i=>some (.inl i)
 |.str x=>some (.inr x)
 |_=>none
def keysOf:List ao→Option (List Key)
 |[]=>some []
 |d::r=>match cQ d,keysOf r with
  |some k,some t=>some (k::t)
  |_,_=>none
def rO:ao→Option (List Key)
 |.tuple ds=>keysOf ds
 |_=>none
def cH{κ:Type}(f:ao→Option κ):List (ao×ao)→Option (List κ)
 |[]=>some []
 |p::r=>match f p.1,cH f r with
  |some k,some t=>some (k::t)
  |_,_=>none
def vO(H:Hp)(a:aa)(kvs:List (ao×ao))(vs:List V):Prop:=
 (∃ks,cH cQ kvs=some ks∧H a=some (.dK (ks.zip vs)))∨∃ks,(kvs≠[]∧cH rO kvs=some ks)∧H a=some (.dT (ks.zip vs))
mutual
def RZ(H:Hp):ao→V→Prop
 |.none,v=>v=.non
 |.bool b,v=>v=.bl b
 |.int i,v=>v=.int i
 |.str x,v=>v=.str x
 |.list ds,v=>∃a vs,v=.ref a∧H a=some (.lst vs)∧cg H ds vs
 |.tuple ds,v=>∃a vs,v=.ref a∧H a=some (.tup vs)∧cg H ds vs
 |.dict kvs,v=>∃a vs,v=.ref a∧vO H a kvs vs∧gA H kvs vs
def cg(H:Hp):List ao→List V→Prop
 |[],vs=>vs=[]
 |d::ds,vs=>∃v r,vs=v::r∧RZ H d v∧cg H ds r
def gA(H:Hp):List (ao×ao)→List V→Prop
 |[],vs=>vs=[]
 |p::r,vs=>∃v t,vs=v::t∧RZp H p v∧gA H r t
def RZp(H:Hp):ao×ao→V→Prop
 |(_,d),v=>RZ H d v
end
theorem vO.same(s:bw H H')(h:vO H a kvs vs):vO H' a kvs vs:=by
 rcases h with⟨ks,e,h⟩|⟨ks,e,h⟩
 ·exact .inl ⟨ks,e,s _ _ h⟩
 ·exact .inr ⟨ks,e,s _ _ h⟩
mutual
theorem RZ.same(s:bw H H'):∀{d:ao}{v:V},RZ H d v→RZ H' d v
 |.none,_,h=>h
 |.bool _,_,h=>h
 |.int _,_,h=>h
 |.str _,_,h=>h
 |.list ds,_,h=>by
  obtain⟨a,vs,e,q,r⟩:=h
  exact⟨a,vs,e,s _ _ q,cg.same s r⟩
 |.tuple ds,_,h=>by
  obtain⟨a,vs,e,q,r⟩:=h
  exact⟨a,vs,e,s _ _ q,cg.same s r⟩
 |.dict kvs,_,h=>by
  obtain⟨a,vs,e,q,r⟩:=h
  exact⟨a,vs,e,q.same s,gA.same s r⟩
theorem cg.same(s:bw H H'):∀{ds:List ao}{vs:List V},cg H ds vs→cg H' ds vs
 |[],_,h=>h
 |d::ds,vs,h=>by
  obtain⟨v,r,e,q,t⟩:=h
  exact⟨v,r,e,RZ.same s q,cg.same s t⟩
theorem gA.same(s:bw H H'):∀{kvs:List (ao×ao)}{vs:List V},gA H kvs vs→gA H' kvs vs
 |[],_,h=>h
 |(k,d)::ds,vs,h=>by
  obtain⟨v,r,e,q,t⟩:=h
  exact⟨v,r,e,RZ.same s q,gA.same s t⟩
end
theorem gZ:∀{ds:List ao}{vs:List V},cg H ds vs→vs.length=ds.length
 |[],_,h=>by cases(show _=[] from h);rfl
 |e::ds,vs,h=>by
  obtain⟨u,r,e1,q,s⟩:=h
  subst e1;rw[cR,cR,gZ s]
theorem Br:∀{ds:List (ao×ao)}{vs:List V},gA H ds vs→vs.length=ds.length
 |[],_,h=>by cases(show _=[] from h);rfl
 |e::ds,vs,h=>by
  obtain⟨u,r,e1,q,s⟩:=h
  subst e1;rw[cR,cR,Br s]
theorem wR:∀{ds:List ao}{vs:List V}{i:Nat}{d:ao},cg H ds vs→ds[i]?=some d→∃v,vs[i]?=some v∧RZ H d v
 |[],_,_,_,_,e=>by simp at e
 |x::ds,vs,i,d,h,e=>by
  obtain⟨u,r,e1,q,s⟩:=h
  subst e1;cases i with
  |zero=>cases e;exact⟨u,rfl,q⟩
  |succ i=>
   obtain⟨v,e2,h2⟩:=wR (i:=i) s (by simpa using e)
   exact⟨v,by simpa using e2,h2⟩
theorem wO:∀{ds es:List ao}{vs ws:List V},cg H ds vs→cg H es ws→cg H (ds++es) (vs++ws)
 |[],_,_,_,h,g=>by cases(show _=[] from h);exact g
 |d::ds,_,_,_,h,g=>by
  obtain⟨u,r,e1,q,s⟩:=h
  subst e1
  exact⟨u,_,rfl,q,wO s g⟩
theorem Xm:∀{ds:List ao}{vs:List V}(n:Nat),cg H ds vs→cg H (ds.take n) (vs.take n)
 |_,_,0,_=>by rw[adC,adC];rfl
 |[],_,n+1,h=>by cases(show _=[] from h);rfl
 |d::ds,_,n+1,h=>by
  obtain⟨u,r,e1,q,s⟩:=h
  subst e1
  exact⟨u,_,rfl,q,Xm n s⟩
theorem Xn:∀{ds:List ao}{vs:List V}(n:Nat),cg H ds vs→cg H (ds.drop n) (vs.drop n)
 |_,_,0,h=>h
 |[],_,n+1,h=>by cases(show _=[] from h);rfl
 |d::ds,_,n+1,h=>by
  obtain⟨u,r,e1,q,s⟩:=h
  subst e1;exact Xn n s
theorem YK(hv:RZ H d v):∀{ds:List ao}{vs:List V}(i:Nat),cg H ds vs→cg H (ds.set i d) (vs.set i v)
 |[],_,_,h=>by cases(show _=[] from h);rfl
 |x::ds,_,i,h=>by
  obtain⟨u,r,e1,q,s⟩:=h
  subst e1;cases i with
  |zero=>exact⟨v,r,rfl,hv,s⟩
  |succ i=>exact⟨u,_,rfl,q,YK hv i s⟩
def jt:ao→Bool
 |.none=>true
 |.bool _=>true
 |.int _=>true
 |.str _=>true
 |_=>false
def toV:ao→V
 |.none=>.non
 |.bool b=>.bl b
 |.int i=>.int i
 |.str x=>.str x
 |_=>.non
theorem ah0(f:jt d=true)(h:RZ H d v):v=toV d:=by
 cases d<;>first|exact h|cases f
theorem ah1(f:jt d=true):RZ H d (toV d):=by
 cases d<;>first|rfl|cases f
theorem Nu:∀{ds:List ao}{vs:List V},ds.all jt=true→cg H ds vs→vs=ds.map toV
 |[],_,_,h=>h
 |d::ds,vs,f,h=>by
  obtain⟨u,r,e1,q,s⟩:=h
  rw[Kv,gQ] at f;rw[e1,ah0 f.1 q,Nu f.2 s];rfl
theorem agK(ns:List Int):cg H (ns.map j8) (ns.map V.int):=by
 induction ns with
 |nil=>rfl
 |cons n r ih=>exact⟨_,_,rfl,rfl,ih⟩
theorem Xo(ns:List Str):cg H (ns.map cU) (ns.map V.str):=by
 induction ns with
 |nil=>rfl
 |cons n r ih=>exact⟨_,_,rfl,rfl,ih⟩
mutual
def jl:ao→Bool
 |.list _=>false
 |.tuple ds=>fL ds
 |.dict _=>false
 |_=>true
def fL:List ao→Bool
 |[]=>true
 |d::r=>jl d&&fL r
end
mutual
theorem RZ.jl(t:∀a vs,H a=some (.tup vs)→H' a=some (.tup vs)):∀{d:ao}{v:V},jl d=true→RZ H d v→RZ H' d v
 |.none,_,_,h=>h
 |.bool _,_,_,h=>h
 |.int _,_,_,h=>h
 |.str _,_,_,h=>h
 |.list ds,_,n,h=>nomatch n
 |.tuple ds,_,n,h=>by
  obtain⟨a,vs,e,q,r⟩:=h
  exact⟨a,vs,e,t _ _ q,cg.jl t n r⟩
 |.dict _,_,n,_=>nomatch n
theorem cg.jl(t:∀a vs,H a=some (.tup vs)→H' a=some (.tup vs)):∀{ds:List ao}{vs:List V},fL ds=true→cg H ds vs→cg H' ds vs
 |[],_,_,h=>h
 |d::ds,vs,n,h=>by
  obtain⟨v,r,e,q,w⟩:=h
  have n':L2.jl d=true∧fL ds=true:=by rw[fL,gQ] at n;exact n
  exact⟨v,r,e,RZ.jl t n'.1 q,cg.jl t n'.2 w⟩
end
mutual
def qJ:ao→Bool
 |.list ds=>vB ds
 |.tuple ds=>vB ds
 |.dict _=>false
 |_=>true
def vB:List ao→Bool
 |[]=>true
 |d::r=>qJ d&&vB r
end
mutual
theorem RZ.rx:∀{d:ao}{v:V},qJ d=true→RZ H d v→RX H d v
 |.none,_,_,h=>h
 |.bool _,_,_,h=>h
 |.int _,_,_,h=>h
 |.str _,_,_,h=>h
 |.list ds,_,n,h=>by
  obtain⟨a,vs,e,q,r⟩:=h
  exact⟨a,vs,e,q,cg.rx n r⟩
 |.tuple ds,_,n,h=>by
  obtain⟨a,vs,e,q,r⟩:=h
  exact⟨a,vs,e,q,cg.rx n r⟩
 |.dict _,_,n,_=>nomatch n
theorem cg.rx:∀{ds:List ao}{vs:List V},vB ds=true→cg H ds vs→lB H ds vs
 |[],_,_,h=>h
 |d::ds,vs,n,h=>by
  obtain⟨v,r,e,q,t⟩:=h
  have n':qJ d=true∧vB ds=true:=by rw[vB,gQ] at n;exact n
  exact⟨v,r,e,RZ.rx n'.1 q,cg.rx n'.2 t⟩
end
inductive Vl where
 |im (d:ao)
 |ow (d:ao)
 |ce (n:Nat)
 |sc (ns:List Int)
abbrev En:=List (Option Vl)
abbrev Ce:=List (List Int)
def own1:Option Vl→Option V→List aa
 |some (.ow _),some (.ref a)=>[a]
 |_,_=>[]
def bC:En→St→List aa
 |x::e,v::s=>own1 x v++bC e s
 |_,_=>[]
theorem j9:∀{env:En}{σ:St},a∈bC env σ↔∃(i:Nat)(d:ao),env[i]?=some (some (Vl.ow d))∧σ[i]?=some (some (V.ref a))
 |[],σ=>by
  constructor
  ·intro h;simp[bC] at h
  ·rintro⟨i,d,e,_⟩;simp at e
 |x::e,[]=>by
  constructor
  ·intro h;simp[bC] at h
  ·rintro⟨i,d,_,e⟩;simp at e
 |x::e,v::s=>by
  rw[bC,cL,j9 (env:=e) (σ:=s)];constructor
  ·rintro(h|⟨i,d,h1,h2⟩)
   ·unfold own1 at h;split at h
    ·rw[jn] at h;subst h
     exact⟨0,_,rfl,rfl⟩
    ·simp at h
   ·exact⟨i+1,d,by simpa using h1,by simpa using h2⟩
  ·rintro⟨i,d,h1,h2⟩
   cases i with
   |zero=>
    simp at h1 h2;subst h1 h2;exact .inl (jn.mpr rfl)
   |succ i=>exact .inr ⟨i,d,by simpa using h1,by simpa using h2⟩
theorem Bs:∀{env:En}{σ:St}{i j:Nat}{d e:ao},(bC env σ).Nodup→env[i]?=some (some (Vl.ow d))→σ[i]?=some (some (V.ref a))→env[j]?=some (some (Vl.ow e))→σ[j]?=some (some (V.ref a))→i=j
 |[],_,i,_,_,_,_,h,_,_,_=>by simp at h
 |_::_,[],i,_,_,_,_,_,h,_,_=>by simp at h
 |x::en,v::s,i,j,d,e,nd,h1,h2,h3,h4=>by
  rw[bC,jV] at nd;cases i with
  |zero=>
   cases j with
   |zero=>rfl
   |succ j=>
    simp at h1 h2;subst h1 h2;have:a∈bC en s:=j9.mpr ⟨j,e,by simpa using h3,by simpa using h4⟩;exact absurd rfl (nd.2.2 a (jn.mpr rfl) a this)
  |succ i=>
   cases j with
   |zero=>
    simp at h3 h4;subst h3 h4;have:a∈bC en s:=j9.mpr ⟨i,d,by simpa using h1,by simpa using h2⟩;exact absurd rfl (nd.2.2 a (jn.mpr rfl) a this)
   |succ j=>rw[Bs (i:=i) (j:=j) nd.2.1 (by simpa using h1) (by simpa using h2) (by simpa using h3) (by simpa using h4)]
def RP(x y:Option Vl):Prop:=y=x∨∃d,x=some (.ow d)∧y=some (.im d)
def Fz:En→En→Prop
 |[],[]=>True
 |x::r,y::t=>RP x y∧Fz r t
 |_,_=>False
theorem Fz.refl:∀e:En,Fz e e
 |[]=>trivial
 |x::r=>⟨.inl rfl,Fz.refl r⟩
theorem Fz.trans:∀{a b c:En},Fz a b→Fz b c→Fz a c
 |[],[],[],_,_=>trivial
 |x::r,y::t,z::w,h,g=>by
  refine⟨?_,Fz.trans h.2 g.2⟩
  rcases h.1 with e|⟨d,e1,e2⟩
  ·rw[←e];exact g.1
  ·rcases g.1 with e|⟨d',e3,e4⟩
   ·exact .inr ⟨d,e1,e.trans e2⟩
   ·rw[e2] at e3;cases e3
 |[],[],_::_,_,g=>nomatch g
 |[],_::_,_,h,_=>nomatch h
 |_::_,[],_,h,_=>nomatch h
 |_::_,_::_,[],_,g=>nomatch g
theorem Fz.len:∀{a b:En},Fz a b→b.length=a.length
 |[],[],_=>rfl
 |_::_,_::_,h=>by rw[cR,cR,Fz.len h.2]
 |[],_::_,h=>nomatch h
 |_::_,[],h=>nomatch h
theorem Fz.at:∀{a b:En}{i:Nat}{y:Vl},Fz a b→b[i]?=some (some y)→a[i]?=some (some y)∨∃d,a[i]?=some (some (.ow d))∧y=.im d
 |[],[],i,y,_,e=>by simp at e
 |x::r,z::t,0,y,h,e=>by
  simp at e;rcases h.1 with q|⟨d,q1,q2⟩
  ·left;rw[←q,e];rfl
  ·right;rw[e] at q2;cases q2;exact⟨d,by rw[q1];rfl,rfl⟩
 |x::r,z::t,i+1,y,h,e=>by
  simpa using Fz.at (i:=i) h.2 (by simpa using e)
 |[],_::_,_,_,h,_=>nomatch h
 |_::_,[],_,_,h,_=>nomatch h
theorem ah2(h:RP x y)(v:Option V):VG (own1 y v) (own1 x v):=by
 rcases h with e|⟨d,e1,e2⟩
 ·rw[e];exact ym _
 ·rw[e2];exact List.nil_sublist _
theorem Fz.own:∀{a b:En}{σ:St},Fz a b→VG (bC b σ) (bC a σ)
 |[],[],σ,_=>by cases σ<;>exact ym _
 |x::r,y::t,[],h=>ym _
 |x::r,y::t,v::s,h=>by
  rw[bC,bC];exact Ej (ah2 h.1 v) (Fz.own h.2)
 |[],_::_,_,h=>nomatch h
 |_::_,[],_,h=>nomatch h
abbrev aQ(Z Θ:List aa)(env:En)(σ:St):List aa:=Z++(Θ++bC env σ)
def jE(E H:Hp)(a:aa):ao→Prop
 |.list ds=>∃vs,H a=some (.lst vs)∧cg E ds vs
 |.dict kvs=>∃vs,vO H a kvs vs∧gA E kvs vs
 |_=>False
theorem jE.same(s:bw E E')(h:∀o,H a=some o→H' a=some o)(r:jE E H a d):jE E' H' a d:=by
 cases d<;>first|exact r.elim|skip
 ·obtain⟨vs,e,q⟩:=r
  exact⟨vs,h _ e,q.same s⟩
 ·obtain⟨vs,e,q⟩:=r
  refine⟨vs,?_,q.same s⟩
  rcases e with⟨ks,k,e⟩|⟨ks,k,e⟩
  ·exact .inl ⟨ks,k,h _ e⟩
  ·exact .inr ⟨ks,k,h _ e⟩
theorem jE.rz(h:∀o,H a=some o→E a=some o)(r:jE E H a d):RZ E d (.ref a):=by
 cases d<;>first|exact r.elim|skip
 ·obtain⟨vs,e,q⟩:=r
  exact⟨a,vs,rfl,h _ e,q⟩
 ·obtain⟨vs,e,q⟩:=r
  refine⟨a,vs,rfl,?_,q⟩
  rcases e with⟨ks,k,e⟩|⟨ks,k,e⟩
  ·exact .inl ⟨ks,k,h _ e⟩
  ·exact .inr ⟨ks,k,h _ e⟩
structure aP(Θ:List aa)(H H':Hp):Prop where
 keep:∀a o,H a=some o→a∉Θ→H' a=some o
 dom:∀a,H a≠none→H' a≠none
theorem aP.refl(Θ:List aa)(H:Hp):aP Θ H H:=⟨fun _ _ e _=>e,fun _ e=>e⟩
theorem aP.trans(a:aP Θ H H1)(b:aP Θ H1 H2):aP Θ H H2:=⟨fun c o e n=>b.keep _ _ (a.keep _ _ e n) n,fun c e=>b.dom _ (a.dom _ e)⟩
theorem aP.none(k:aP Θ H H')(h:H' a=none):H a=none:=by
 cases e:H a with
 |none=>rfl
 |some o=>exact absurd h (k.dom a (by rw[e];exact uC _))
theorem aP.of(s:bw H H'):aP Θ H H':=⟨fun a o e _=>s _ _ e,fun a h=>by
 cases e:H a with
 |none=>exact absurd e h
 |some o=>rw[s _ _ e];exact uC _⟩
theorem aP.upd(h:H p=lX):aP Θ H (L2.upd H p o):=aP.of (bw.upd h)
theorem jO(k:aP Θ H H')(ht:∀a∈Θ,a∈Z)(hz:∀a,a∈Z'→a∈Z∨H a=none):bw (er Z H) (er Z' H'):=fun b o h=>by
 unfold er at h⊢;split at h
 ·cases h
 ·rename_i n;rw[if_neg,k.keep _ _ h (fun m=>n (ht b m))];intro m;rcases hz b m with q|q
  ·exact n q
  ·rw[q] at h;cases h
def zO(K:aH)(E H:Hp)(Θ:List aa):Vl→V→Prop
 |.im d,v=>RZ E d v
 |.ow d,v=>∃a,v=.ref a∧jE E H a d
 |.ce n,v=>∃a,v=.ref a∧Θ[n]?=some a
 |.sc ns,v=>∃a,v=.ref a∧bO K E a (ns.map V.int)
def NT(o:Option HO):Prop:=∃u,o=some u∧∀vs,u≠.tup vs
theorem NT.ne(h:NT o):o≠none:=by
 obtain⟨u,rfl,_⟩:=h
 exact uC _
theorem jE.nt(r:jE E H a d):NT (H a):=by
 cases d<;>first|exact r.elim|skip
 ·obtain⟨vs,e,q⟩:=r
  exact⟨_,e,fun _ z=>nomatch z⟩
 ·obtain⟨vs,e,q⟩:=r
  rcases e with⟨ks,k,e⟩|⟨ks,k,e⟩
  ·exact⟨_,e,fun _ z=>nomatch z⟩
  ·exact⟨_,e,fun _ z=>nomatch z⟩
theorem jE.there(r:jE E H a d):H a≠none:=r.nt.ne
structure mY(Θ:List aa)(C:Ce)(H:Hp):Prop where
 len:C.length=Θ.length
 at_:∀(n:Nat)(a:aa)(ns:List Int),Θ[n]?=some a→C[n]?=some ns→H a=some (.lst (ns.map V.int))
structure Sm(K:aH)(Z Θ:List aa)(env:En)(C:Ce)(σ:St)(H:Hp):Prop where
 len:σ.length=env.length
 nd:(aQ Z Θ env σ).Nodup
 dom:∀a∈Z,NT (H a)
 slot:∀(i:Nat)(x:Vl),env[i]?=some (some x)→∃v,σ[i]?=some (some v)∧zO K (er (aQ Z Θ env σ) H) H Θ x v
 cell:mY Θ C H
theorem mY.dom(c:mY Θ C H):∀a∈Θ,NT (H a):=fun a m=>by
 obtain⟨n,hn,e⟩:=vV m
 have e1:Θ[n]?=some a:=by rw[jg hn,e]
 have h2:n<C.length:=by rw[c.len];exact hn
 exact⟨_,c.at_ n a C[n] e1 (jg h2),fun _ z=>nomatch z⟩
section
variable{K:aH}{Z Θ:List aa}{env env':En}{C C':Ce}{σ:St}{H H':Hp}
theorem Sm.Jt(S:Sm K Z Θ env C σ H):∀a∈aQ Z Θ env σ,NT (H a):=fun a m=>by
 rcases cL.mp m with m|m
 ·exact S.dom a m
 ·rcases cL.mp m with m|m
  ·exact S.cell.dom a m
  ·obtain⟨i,d,e1,e2⟩:=j9.mp m
   obtain⟨v,e3,b,e4,r⟩:=S.slot i _ e1
   rw[e2] at e3;cases e3;cases e4;exact r.nt
theorem Sm.xu(S:Sm K Z Θ env C σ H):∀a∈aQ Z Θ env σ,H a≠none:=fun a m=>(S.Jt a m).ne
theorem Sm.pF(S:Sm K Z Θ env C σ H):∀a∈Θ,a∈aQ Z Θ env σ:=fun a m=>dF _ (gf _ m)
theorem zO.same(s:bw E E')(h:∀d a,x=.ow d→v=.ref a→∀o,H a=some o→H' a=some o)(r:zO K E H Θ x v):zO K E' H' Θ x v:=by
 cases x with
 |im d=>exact RZ.same s r
 |ow d=>obtain⟨a,e,q⟩:=r;exact⟨a,e,q.same s (h d a rfl e)⟩
 |ce n=>exact r
 |sc ns=>obtain⟨a,e,q⟩:=r;exact⟨a,e,s.seq q⟩
theorem Sm.lZ(S:Sm K Z Θ env C σ H)(m:a∈bC env σ):a∉Z∧a∉Θ:=by
 have h:=S.nd;rw[jV] at h
 obtain⟨_,h2,h3⟩:=h
 rw[jV] at h2
 refine⟨fun z=>h3 a z a (dF _ m) rfl,fun z=>h2.2.2 a z a m rfl⟩
theorem Sm.go(S:Sm K Z Θ env C σ H)(k:aP Θ H H')(c:mY Θ C' H'):Sm K Z Θ env C' σ H' where
 len:=S.len
 nd:=S.nd
 dom:=fun a m=>by
  obtain⟨u,e,n⟩:=S.dom a m
  have h:=S.nd;rw[jV] at h
  exact⟨u,k.keep _ _ e fun z=>h.2.2 a m a (gf _ z) rfl,n⟩
 slot:=fun i x e=>by
  obtain⟨v,e1,r⟩:=S.slot i x e
  refine⟨v,e1,r.same (jO k S.pF fun a m=>.inl m) fun d a ex ev o ho=>k.keep _ _ ho ?_⟩
  subst ex ev
  exact(S.lZ (j9.mpr ⟨i,d,e,e1⟩)).2
 cell:=c
theorem Sm.fz(S:Sm K Z Θ env C σ H)(f:Fz env env'):Sm K Z Θ env' C σ H:=by
 have sub:VG (aQ Z Θ env' σ) (aQ Z Θ env σ):=Ej (ym _) (Ej (ym _) f.own);have sm:bw (er (aQ Z Θ env σ) H) (er (aQ Z Θ env' σ) H):=jO (aP.refl [] H) (fun _ m=>nomatch m) fun a m=>.inl (sub.subset m)
 refine⟨by rw[f.len];exact S.len,sub.nodup S.nd,S.dom,fun i x e0=>?_,S.cell⟩
 rcases f.at e0 with e|⟨d,e,ex⟩
 ·obtain⟨v,e1,r⟩:=S.slot i x e
  exact⟨v,e1,r.same sm fun _ _ _ _ _ ho=>ho⟩
 ·subst ex
  obtain⟨v,e1,a,ev,r⟩:=S.slot i _ e
  subst ev
  refine⟨_,e1,jE.rz (H:=H) (fun o ho=>?_) (r.same sm fun _ ho=>ho)⟩
  unfold er;rw[if_neg]
  ·exact ho
  ·intro m;have hm:a∈bC env σ:=j9.mpr ⟨i,d,e,e1⟩;rcases cL.mp m with m|m
   ·exact(S.lZ hm).1 m
   ·rcases cL.mp m with m|m
    ·exact(S.lZ hm).2 m
    ·obtain⟨j,d',e3,e4⟩:=j9.mp m
     have nd:=S.nd;rw[jV] at nd;have nd2:=nd.2.1;rw[jV] at nd2;rcases f.at e3 with e5|⟨_,_,e5⟩
     ·have:=Bs nd2.2.1 e e1 e5 e4;subst this;rw[e0] at e3;cases e3
     ·cases e5
end
section
variable{K:aH}{Z Θ:List aa}{env env':En}{C C':Ce}{σ:St}{H H':Hp}{a p:aa}
theorem Sm.pop(S:Sm K (a::Z) Θ env C σ H):Sm K Z Θ env C σ H:=by
 have sm:bw (er (aQ (a::Z) Θ env σ) H) (er (aQ Z Θ env σ) H):=jO (aP.refl [] H) (fun _ m=>nomatch m) fun b m=>.inl (eZ _ m)
 exact⟨S.len,(jB.mp S.nd).2,fun b m=>S.dom b (eZ _ m),fun i x e=>let ⟨v,e1,r⟩:=S.slot i x e;⟨v,e1,r.same sm fun _ _ _ _ _ h=>h⟩,S.cell⟩
theorem Sm.push(S:Sm K Z Θ env C σ H)(hp:H p=none)(o:HO)(ho:∀vs,o≠.tup vs):Sm K (p::Z) Θ env C σ (upd H p o):=by
 have k:aP Θ H (upd H p o):=aP.upd hp;have sm:bw (er (aQ Z Θ env σ) H) (er (aQ (p::Z) Θ env σ) (upd H p o)):=jO k S.pF fun b m=>by
  rcases bN.mp m with rfl|m
  ·exact .inr hp
  ·exact .inl m
 have c:mY Θ C (upd H p o):=⟨S.cell.len,fun n b ns e1 e2=>by
  have:=S.cell.at_ n b ns e1 e2;rw[cN (oH this hp)];exact this⟩
 refine⟨S.len,jB.mpr ⟨fun m=>S.xu p m hp,S.nd⟩,fun b m=>?_,fun i x e=>?_,c⟩
 ·rcases bN.mp m with rfl|m
  ·exact⟨o,eN,ho⟩
  ·obtain⟨u,e,n⟩:=S.dom b m
   exact⟨u,by rw[cN (oH e hp)];exact e,n⟩
 ·obtain⟨v,e1,r⟩:=S.slot i x e
  refine⟨v,e1,r.same sm fun d b ex ev o' ho=>?_⟩
  rw[cN (oH ho hp)];exact ho
theorem Sm.zA(S:Sm K Z Θ env C σ H)(s:bw H H'):Sm K Z Θ env C σ H':=
 S.go (aP.of s) ⟨S.cell.len,fun n b ns e1 e2=>s _ _ (S.cell.at_ n b ns e1 e2)⟩
def Res(K:aH)(Z Θ:List aa)(env:En)(C:Ce)(σ:St)(H H':Hp):Vl→V→Prop
 |.im d,v=>Sm K Z Θ env C σ H'∧RZ (er (aQ Z Θ env σ) H') d v
 |.ow d,v=>∃a,v=.ref a∧H a=none∧Sm K (a::Z) Θ env C σ H'∧jE (er (aQ (a::Z) Θ env σ) H') H' a d
 |.ce n,v=>Sm K Z Θ env C σ H'∧∃a,v=.ref a∧Θ[n]?=some a
 |.sc ns,v=>Sm K Z Θ env C σ H'∧∃a,v=.ref a∧bO K (er (aQ Z Θ env σ) H') a (ns.map V.int)
def xT(E T:Hp):ao→V→Prop
 |.list ds,v=>∃a vs,v=.ref a∧T a=some (.lst vs)∧cg E ds vs
 |.dict kvs,v=>∃a vs,v=.ref a∧vO T a kvs vs∧gA E kvs vs
 |d,v=>RZ E d v
theorem xT.same(s:bw E E')(t:bw T T')(h:xT E T d v):xT E' T' d v:=by
 cases d<;>first|exact RZ.same s h|skip
 ·obtain⟨a,vs,e,q,r⟩:=h
  exact⟨a,vs,e,t _ _ q,r.same s⟩
 ·obtain⟨a,vs,e,q,r⟩:=h
  exact⟨a,vs,e,q.same t,r.same s⟩
theorem RZ.bor(t:bw E T)(h:RZ E d v):xT E T d v:=by
 cases d<;>first|exact h|skip
 ·obtain⟨a,vs,e,q,r⟩:=h
  exact⟨a,vs,e,t _ _ q,r⟩
 ·obtain⟨a,vs,e,q,r⟩:=h
  exact⟨a,vs,e,q.same t,r⟩
abbrev eU(Z Θ:List aa)(env:En)(σ:St)(H:Hp)(d:ao)(v:V):Prop:=xT (er (aQ Z Θ env σ) H) (er Θ H) d v
theorem rG(h:∀a,a∈Z'→a∈Z):bw (er Z H) (er Z' H):=jO (aP.refl [] H) (fun _ m=>nomatch m) fun b m=>.inl (h b m)
theorem aap:bw (er (aQ Z Θ env σ) H) (er Θ H):=rG fun a m=>dF _ (gf _ m)
theorem Fz.sub(f:Fz env env'):∀a,a∈aQ Z Θ env' σ→a∈aQ Z Θ env σ:=fun a m=>
 (Ej (ym _) (Ej (ym _) f.own)).subset m
theorem QV(S:Sm K Z Θ env C σ H)(k:aP Θ H H')(f:Fz env env'):bw (er (aQ Z Θ env σ) H) (er (aQ Z Θ env' σ) H'):=jO k S.pF fun a m=>.inl (f.sub a m)
theorem ZL(k:aP Θ H H'):bw (er Θ H) (er Θ H'):=jO k (fun _ m=>m) fun a m=>.inl m
theorem eU.go(h:eU Z Θ env σ H d v)(S:Sm K Z Θ env C σ H)(k:aP Θ H H')(f:Fz env env'):eU Z Θ env' σ H' d v:=xT.same (QV S k f) (ZL k) h
def dat:Vl→Option ao
 |.im d=>some d
 |.ow d=>some d
 |.ce _=>none
 |.sc _=>none
theorem Res.sm(h:Res K Z Θ env C σ H H' r v):Sm K Z Θ env C σ H':=by
 cases r with
 |im d=>exact h.1
 |ow d=>obtain⟨a,_,_,S,_⟩:=h;exact S.pop
 |ce n=>exact h.1
 |sc ns=>exact h.1
theorem Res.bor(h:Res K Z Θ env C σ H H' r v)(e:dat r=some d):eU Z Θ env σ H' d v:=by
 cases r with
 |im d'=>cases e;exact RZ.bor aap h.2
 |ow d'=>
  cases e
  obtain⟨a,rfl,_,S,r⟩:=h
  have na:a∉Θ:=fun m=>(jB.mp S.nd).1 (dF _ (gf _ m))
  have sm:bw (er (aQ (a::Z) Θ env σ) H') (er (aQ Z Θ env σ) H'):=rG fun b m=>eZ _ m
  have ha:∀o,H' a=some o→er Θ H' a=some o:=fun o ho=>by unfold er;rw[if_neg na];exact ho
  cases d<;>first|exact r.elim|skip
  ·obtain⟨vs,e,q⟩:=r
   exact⟨a,vs,rfl,ha _ e,q.same sm⟩
  ·obtain⟨vs,e,q⟩:=r
   refine⟨a,vs,rfl,?_,q.same sm⟩
   rcases e with⟨ks,k,e⟩|⟨ks,k,e⟩
   ·exact .inl ⟨ks,k,ha _ e⟩
   ·exact .inr ⟨ks,k,ha _ e⟩
 |ce n=>cases e
 |sc ns=>cases e
def still:Vl→Vl
 |.ow d=>.im d
 |r=>r
theorem Res.still(h:Res K Z Θ env C σ H H' r v):Res K Z Θ env C σ H H' (still r) v:=by
 cases r with
 |ow d=>
  obtain⟨a,rfl,hn,S,r⟩:=h
  refine⟨S.pop,jE.rz (H:=H') (fun o ho=>?_) (r.same (rG fun b m=>eZ _ m) fun _ h=>h)⟩
  unfold er;rw[if_neg (show ¬a∈aQ Z Θ env σ from(jB.mp S.nd).1)];exact ho
 |im d=>exact h
 |ce n=>exact h
 |sc ns=>exact h
theorem Res.from(h:Res K Z Θ env C σ H H' r v)(k:aP Θ H0 H):Res K Z Θ env C σ H0 H' r v:=by
 cases r with
 |ow d=>
  obtain⟨a,e,hn,S,r⟩:=h
  exact⟨a,e,k.none hn,S,r⟩
 |im d=>exact h
 |ce n=>exact h
 |sc ns=>exact h
theorem BX(S:Sm K Z Θ env C σ H)(h:H a=some (.tup vs)):er (aQ Z Θ env σ) H a=some (.tup vs):=by
 unfold er;rw[if_neg]
 ·exact h
 ·intro m
  obtain⟨u,e,n⟩:=S.Jt a m
  rw[h] at e;exact n vs (fW e).symm
def rst(r:Vl)(env env':En):En:=match r with
 |.im d=>if jl d then env else env'
 |_=>env'
theorem Res.rst(S:Sm K Z Θ env C σ H)(k:aP Θ H H')(h:Res K Z Θ env' C' σ H H' r v):Res K Z Θ (rst r env env') C' σ H H' r v:=by
 cases r with
 |im d=>
  by_cases f:L2.jl d=true
  ·have:L2.rst (.im d) env env'=env:=if_pos f;rw[this];have S':=S.go k h.1.cell
   exact⟨S',h.2.jl (fun a vs e=>BX S' (jh e)) f⟩
  ·have:L2.rst (.im d) env env'=env':=if_neg f;rw[this];exact h
 |ow d=>exact h
 |ce n=>exact h
 |sc ns=>exact h
theorem Fz.rst(r:Vl)(f:Fz env env'):Fz env (rst r env env'):=by
 cases r with
 |im d=>
  show Fz env (if L2.jl d then env else env');split
  ·exact Fz.refl _
  ·exact f
 |ow d=>exact f
 |ce n=>exact f
 |sc ns=>exact f
theorem gW(S:Sm K Z Θ env C σ H)(f:jt d=true)(hv:v=toV d):Res K Z Θ env C σ H H (.im d) v:=⟨S,by rw[hv];exact ah1 f⟩
theorem tO(S:Sm K Z Θ env C σ H)(r:cg (er (aQ Z Θ env σ) H) ds vs)(hp:H p=none):Res K Z Θ env C σ H (upd H p (.lst vs)) (.ow (.list ds)) (.ref p):=by
 refine⟨p,rfl,hp,S.push hp _ (fun _ z=>nomatch z),vs,eN,r.same (jO (aP.upd (Θ:=Θ) hp) S.pF fun b m=>?_)⟩
 rcases bN.mp m with rfl|m
 ·exact .inr hp
 ·exact .inl m
theorem ah3(S:Sm K Z Θ env C σ H)(ho:∀vs,o≠.tup vs)(d:vO (upd H p o) p kvs vs)(r:gA (er (aQ Z Θ env σ) H) kvs vs)(hp:H p=none):Res K Z Θ env C σ H (upd H p o) (.ow (.dict kvs)) (.ref p):=by
 refine⟨p,rfl,hp,S.push hp _ ho,vs,d,r.same (jO (aP.upd (Θ:=Θ) hp) S.pF fun b m=>?_)⟩
 rcases bN.mp m with rfl|m
 ·exact .inr hp
 ·exact .inl m
theorem Hj(S:Sm K Z Θ env C σ H)(r:cg (er (aQ Z Θ env σ) H) ds vs)(hp:H p=none):Res K Z Θ env C σ H (upd H p (.tup vs)) (.im (.tuple ds)) (.ref p):=by
 have S':=S.zA (bw.upd (o:=.tup vs) hp)
 refine⟨S',p,vs,rfl,?_,r.same (jO (aP.upd (Θ:=Θ) hp) S.pF fun b m=>.inl m)⟩
 unfold er;rw[if_neg (fun m=>S.xu p m hp),eN]
end
theorem hide{P:Prop}(h:∀G:Prop,(P→G)→G):P:=h P id
inductive aaV{α β:Type}(o:Option α)(g:α→Option β)(y:β):Prop
 |mk (x:α) (h1:o=some x) (h2:g x=some y):aaV o g y
theorem gm(h:o.bind g=some y):aaV o g y:=by
 cases o with
 |none=>cases h
 |some x=>exact⟨x,rfl,h⟩
def imO:Vl→Option ao
 |.im y=>some y
 |_=>none
theorem BZ(h:imO x=some y):x=.im y:=by
 cases x<;>cases h;rfl
def strD:ao→Option Str
 |.str z=>some z
 |_=>none
theorem ah4(h:strD d=some z):d=.str z:=by
 cases d<;>cases h;rfl
def intD:ao→Option Int
 |.int k=>some k
 |_=>none
theorem Hl(h:intD d=some k):d=.int k:=by
 cases d<;>cases h;rfl
abbrev FE:=En→Ce→Option (Vl×En×Ce)
abbrev FB:=En→Ce→Option (ao×En×Ce)
abbrev FT:=En→Ce→Option (Bool×Ce)
abbrev xU:=En→Ce→Option (List ao×En×Ce)
abbrev FA:=En→Ce→Option (List Vl×En×Ce)
inductive tE(K:aH)(f:FE)(σ:St)(H:Hp)(Q:VK):Prop
 |mk (Z Θ:List aa) (env:En) (C:Ce) (r:Vl) (env':En) (C':Ce) (S:Sm K Z Θ env C σ H) (hf:f env C=some (r,env',C')) (q:∀v H',aP Θ H H'→Fz env env'→Res K Z Θ env' C' σ H H' r v→Q v H'):tE K f σ H Q
inductive cX(K:aH)(f:FB)(σ:St)(H:Hp)(Q:VK):Prop
 |mk (Z Θ:List aa) (env:En) (C:Ce) (d:ao) (env':En) (C':Ce) (S:Sm K Z Θ env C σ H) (hf:f env C=some (d,env',C')) (q:∀v H',aP Θ H H'→Fz env env'→Sm K Z Θ env' C' σ H'→eU Z Θ env' σ H' d v→Q v H'):cX K f σ H Q
inductive dZ(K:aH)(f:FT)(σ:St)(H:Hp)(Q:Bool→Hp→Prop):Prop
 |mk (Z Θ:List aa) (env:En) (C:Ce) (b:Bool) (C':Ce) (S:Sm K Z Θ env C σ H) (hf:f env C=some (b,C')) (q:∀H',aP Θ H H'→Sm K Z Θ env C' σ H'→Q b H'):dZ K f σ H Q
inductive xx(E T:Hp):List ao→List V→Prop
 |nil:xx E T [] []
 |cons {d:ao} {v:V} {ds:List ao} {vs:List V}:xT E T d v→xx E T ds vs→xx E T (d::ds) (v::vs)
abbrev Ij(Z Θ:List aa)(env:En)(σ:St)(H:Hp)(ds:List ao)(vs:List V):Prop:=xx (er (aQ Z Θ env σ) H) (er Θ H) ds vs
inductive vP(K:aH)(f:xU)(σ:St)(H:Hp)(Q:List V→Hp→Prop):Prop
 |mk (Z Θ:List aa) (env:En) (C:Ce) (ds:List ao) (env':En) (C':Ce) (S:Sm K Z Θ env C σ H) (hf:f env C=some (ds,env',C')) (q:∀vs H',aP Θ H H'→Fz env env'→Sm K Z Θ env' C' σ H'→Ij Z Θ env' σ H' ds vs→Q vs H'):vP K f σ H Q
theorem PE.weak(h:PE X e t)(w:∀σ H Q,t' σ H Q→t σ H Q):PE X e t':=fun pins s σ H Q I q=>h pins s σ H Q I (w σ H Q q)
theorem PT.weak(h:PT X e t)(w:∀σ H Q,t' σ H Q→t σ H Q):PT X e t':=fun pins s σ H Q I q=>h pins s σ H Q I (w σ H Q q)
theorem PA.weak(h:PA X e t)(w:∀σ H Q,t' σ H Q→t σ H Q):PA X e t':=fun p pins s σ H Q I q=>h p pins s σ H Q I (w σ H Q q)
theorem PS.weak(h:PS X e t)(w:∀D σ H,t' D σ H→t D σ H):PS X e t':=fun pins s σ H D I q=>h pins s σ H D I (w D σ H q)
theorem ir.weak(h:ir X e t)(w:∀D σ H,t' D σ H→t D σ H):ir X e t':=fun pins s σ H D I q=>h pins s σ H D I (w D σ H q)
theorem PW.weak(h:PW X e t)(w:∀σ H Q,t' σ H Q→t σ H Q):PW X e t':=fun wh pins s σ H Q I q=>h wh pins s σ H Q I (w σ H Q q)
def fVar(i:Nat):FE:=fun env C=>match env[i]? with
 |some (some (.im d))=>some (.im d,env,C)
 |some (some (.ow d))=>some (.im d,env.set i (some (.im d)),C)
 |some (some (.ce n))=>some (.ce n,env,C)
 |some (some (.sc ns))=>some (.sc ns,env,C)
 |_=>none
def aD(i:Nat):FB:=fun env C=>match env[i]? with
 |some (some x)=>(dat x).map fun d=>(d,env,C)
 |_=>none
def fCst(d:ao):FE:=fun env C=>some (.im d,env,C)
def aj(f:FE):FB:=fun env C=>match f env C with
 |some (r,e',C')=>(dat r).map fun d=>(d,e',C')
 |none=>none
theorem ZM:∀{env:En}{i:Nat}{d:ao},env[i]?=some (some (.ow d))→Fz env (env.set i (some (.im d)))
 |[],i,d,e=>by simp at e
 |x::r,0,d,e=>by simp at e;subst e;exact⟨.inr ⟨d,rfl,rfl⟩,Fz.refl r⟩
 |x::r,i+1,d,e=>⟨.inl rfl,ZM (by simpa using e)⟩
section
variable{X:Cx}{e:Expr}{i:Nat}
theorem aO(h:PE X e (nW i)):PE X e (tE X.K (fVar i)):=h.weak fun σ H Q aJ=>by
 obtain⟨Z,Θ,env,C,r,env',C',S,hf,q⟩:=aJ
 unfold fVar at hf;split at hf;all_goals first|(rename_i d hd;cases hf)|cases hf
 ·obtain⟨v,e1,r⟩:=S.slot i _ hd
  exact⟨v,e1,q v H (aP.refl _ _) (Fz.refl _) ⟨S,r⟩⟩
 ·have f:=ZM hd
  obtain⟨v,e1,r⟩:=S.slot i _ hd
  have S':=S.fz f
  refine⟨v,e1,q v H (aP.refl _ _) f ⟨S',?_⟩⟩
  have hi:i<env.length:=by
   have:=jf.mp hd;exact this.1
  obtain⟨v',e2,r'⟩:=S'.slot i (.im d) (by rw[Ac,if_pos rfl,if_pos hi])
  rw[e1] at e2;cases e2;exact r'
 ·obtain⟨v,e1,r⟩:=S.slot i _ hd
  exact⟨v,e1,q v H (aP.refl _ _) (Fz.refl _) ⟨S,r⟩⟩
 ·obtain⟨v,e1,r⟩:=S.slot i _ hd
  exact⟨v,e1,q v H (aP.refl _ _) (Fz.refl _) ⟨S,r⟩⟩
theorem aL(h:PE X e (nW i)):PE X e (cX X.K (aD i)):=h.weak fun σ H Q aJ=>by
 obtain⟨Z,Θ,env,C,d,env',C',S,hf,q⟩:=aJ
 unfold aD at hf;split at hf
 ·rename_i x hx
  obtain⟨v,e1,r⟩:=S.slot i _ hx
  have ex:dat x=some d∧env=env'∧C=C':=by
   cases hd:dat x with
   |none=>rw[hd] at hf;cases hf
   |some d'=>rw[hd] at hf;cases hf;exact⟨rfl,rfl,rfl⟩
  obtain⟨ex,rfl,rfl⟩:=ex
  refine⟨v,e1,q v H (aP.refl _ _) (Fz.refl _) S ?_⟩
  cases x with
  |im d'=>cases ex;exact RZ.bor aap r
  |ow d'=>
   cases ex
   obtain⟨a,rfl,r⟩:=r
   have na:=(S.lZ (j9.mpr ⟨i,_,hx,e1⟩)).2;have ha:∀o,H a=some o→er Θ H a=some o:=fun o ho=>by unfold er;rw[if_neg na];exact ho
   cases d<;>first|exact r.elim|skip
   ·obtain⟨vs,e,q⟩:=r
    exact⟨a,vs,rfl,ha _ e,q⟩
   ·obtain⟨vs,e,q⟩:=r
    refine⟨a,vs,rfl,?_,q⟩
    rcases e with⟨ks,k,e⟩|⟨ks,k,e⟩
    ·exact .inl ⟨ks,k,ha _ e⟩
    ·exact .inr ⟨ks,k,ha _ e⟩
  |ce n=>cases ex
  |sc ns=>cases ex
 ·cases hf
theorem aK(h:PE X e (tC v))(f:jt d=true:=by rfl)(hv:v=toV d:=by rfl):PE X e (tE X.K (fCst d)):=h.weak fun σ H Q aJ=>by
 obtain⟨Z,Θ,env,C,r,env',C',S,hf,q⟩:=aJ
 cases hf;exact q v H (aP.refl _ _) (Fz.refl _) (gW S f hv)
theorem aq(h:PE X e (tE X.K f)):PE X e (cX X.K (aj f)):=h.weak fun σ H Q aJ=>by
 obtain⟨Z,Θ,env,C,d,env',C',S,hf,q⟩:=aJ
 unfold aj at hf;split at hf
 ·rename_i r e' C1 hr;cases hd:dat r with
  |none=>rw[hd] at hf;cases hf
  |some d'=>
   rw[hd] at hf;cases hf
   exact⟨Z,Θ,env,C,r,env',C',S,hr,fun v H' k f R=>q v H' k f R.sm (R.bor hd)⟩
 ·cases hf
end
def LIM:Nat:=1000000
theorem rB(h:n≤LIM):n≤bM:=by rw[iT];unfold LIM at h;omega
def fH(K:aH)(r:R2)(op:ao→ao→Option Vl):Prop:=
 ∀(Z Θ:List aa)(env:En)(C:Ce)(σ:St)(H:Hp)(x y:V)(dx dy:ao)(res:Vl),Sm K Z Θ env C σ H→eU Z Θ env σ H dx x→eU Z Θ env σ H dy y→op dx dy=some res→
  ∀Q:VK,(∀v H',aP Θ H H'→Res K Z Θ env C σ H H' res v→Q v H')→r x y H Q
def aG(op:ao→ao→Option Vl)(fa fb:FB):FE:=fun env C=>match fa env C with
 |some (x,e1,C1)=>match fb e1 C1 with
  |some (y,e2,C2)=>match op x y with
   |some r=>some (r,rst r env e2,C2)
   |none=>none
  |none=>none
 |none=>none
theorem GZ{K:aH}{r:R2}{op:ao→ao→Option Vl}(L:fH K r op){fa fb:FB}:∀σ H Q,tE K (aG op fa fb) σ H Q→Dt r (cX K fa) (cX K fb) σ H Q:=by
 rintro σ H Q ⟨Z,Θ,env,C,res,env',C',S,hf,q⟩;unfold aG at hf;split at hf
 ·rename_i x e1 C1 h1;split at hf
  ·rename_i y e2 C2 h2;split at hf
   ·rename_i r0 h3;cases hf
    refine⟨Z,Θ,env,C,x,e1,C1,S,h1,fun v H1 k1 f1 S1 b1=>⟨Z,Θ,e1,C1,y,e2,C',S1,h2,fun u H2 k2 f2 S2 b2=>?_⟩⟩
    refine L Z Θ e2 C' σ H2 v u x y res S2 (b1.go S1 k2 f2) b2 h3 Q fun z H3 k3 R=>?_
    have k:=(k1.trans k2).trans k3;exact q z H3 k ((f1.trans f2).rst res) ((R.from (k1.trans k2)).rst S k)
   ·cases hf
  ·cases hf
 ·cases hf
section
variable{X:Cx}{a b:Expr}{fa fb:FB}{pos:Pos}{r:R2}{op:ao→ao→Option Vl}
theorem bI(ho:cA X (nG o) r)(L:fH X.K r op)(ha:PE X a (cX X.K fa))(hb:PE X b (cX X.K fb)):PE X (.BinOp a o b pos) (tE X.K (aG op fa fb)):=(ake ho ha hb).weak (GZ L)
theorem rH(ho:cA X (dH o) r)(L:fH X.K r op)(ha:PE X a (cX X.K fa))(hb:PE X b (cX X.K fb))(hm:Ak o b=false):PE X (.Compare a [o] [b] pos) (tE X.K (aG op fa fb)):=(ahz ho ha hb hm).weak (GZ L)
theorem cF(ho:pD X r)(L:fH X.K r op)(ha:PE X a (cX X.K fa))(hb:PE X b (cX X.K fb))(hs:Hf b):PE X (.Subscript a b pos) (tE X.K (aG op fa fb)):=(QM ho ha hb hs).weak (GZ L)
end
theorem fH.or{K:aH}{r r':R2}{op op':ao→ao→Option Vl}(h:fH K r op)(h':fH K r' op'):fH K (fun x y H Q=>r x y H Q∨r' x y H Q) (fun x y=>match op x y with|some z=>some z|none=>op' x y):=by
 intro Z Θ env C σ H x y dx dy res S bx cV e Q q;cases h1:op dx dy with
 |some z=>
  simp only[h1] at e;cases e;exact .inl (h Z Θ env C σ H x y dx dy _ S bx cV h1 Q q)
 |none=>
  simp only[h1] at e;exact .inr (h' Z Θ env C σ H x y dx dy res S bx cV e Q q)
section
variable{K:aH}{Z Θ:List aa}{env:En}{C:Ce}{σ:St}{H:Hp}{x:V}
theorem eU.int(h:eU Z Θ env σ H (.int i) x):x=.int i:=h
theorem eU.str(h:eU Z Θ env σ H (.str i) x):x=.str i:=h
theorem eU.tup(h:eU Z Θ env σ H (.tuple ds) x):∃a vs,x=.ref a∧H a=some (.tup vs)∧cg (er (aQ Z Θ env σ) H) ds vs:=by
 obtain⟨a,vs,e,q,r⟩:=h
 exact⟨a,vs,e,jh q,r⟩
theorem eU.lst(h:eU Z Θ env σ H (.list ds) x):∃a vs,x=.ref a∧H a=some (.lst vs)∧cg (er (aQ Z Θ env σ) H) ds vs:=by
 obtain⟨a,vs,e,q,r⟩:=h
 exact⟨a,vs,e,jh q,r⟩
theorem eU.dct(h:eU Z Θ env σ H (.dict kvs) x):∃a vs,x=.ref a∧vO H a kvs vs∧gA (er (aQ Z Θ env σ) H) kvs vs:=by
 obtain⟨a,vs,e,q,r⟩:=h
 exact⟨a,vs,e,q.same (zy _ _),r⟩
theorem eU.flat(f:jt d=true)(h:eU Z Θ env σ H d x):x=toV d:=by
 cases d<;>first|exact h|cases f
theorem eU.rx(n:qJ d=true)(h:eU Z Θ env σ H d x):RX H d x:=by
 cases d<;>first|exact h|skip
 ·obtain⟨a,vs,e,q,r⟩:=h
  exact⟨a,vs,e,jh q,(r.same (zy _ _)).rx n⟩
 ·obtain⟨a,vs,e,q,r⟩:=h
  exact⟨a,vs,e,jh q,(r.same (zy _ _)).rx n⟩
 ·cases n
end
section
variable{X:Cx}
def bL:ao→ao→Option Vl
 |.int i,.int j=>some (.im (.int (i+j)))
 |.str x,.str y=>if x.length+y.length≤LIM then some (.im (.str (x++y))) else none
 |.list xs,.list ys=>if xs.length+ys.length≤LIM then some (.ow (.list (xs++ys))) else none
 |.tuple xs,.tuple ys=>if xs.isEmpty then some (.im (.tuple ys)) else if xs.length+ys.length≤LIM then some (.im (.tuple (xs++ys))) else none
 |_,_=>none
def aaq(K:aH):R2:=fun x y H Q=>∃a b ys,x=.ref a∧y=.ref b∧cI K H a []∧cI K H b ys∧Q (.ref b) H
theorem ah5:cA X (nG .Add) (aaq X.K):=by
 intro pins s σ H x y v u Q I rx ry h
 obtain⟨a,b,ys,rfl,rfl,ha,hb,q⟩:=h
 cases rx;cases ry
 obtain⟨its,r1,p1,_⟩:=I.tuple ha
 obtain⟨its2,r2,p2,_⟩:=I.tuple hb
 obtain⟨⟨cls,dd,data,sl⟩,ho,hc,n,hd⟩:=id p1
 obtain⟨⟨cls2,dd2,data2,sl2⟩,ho2,hc2,n2,hd2⟩:=id p2
 simp only at hc hd hc2 hd2;subst hc hd hc2 hd2;exact Vw ⟨_,ho,rfl⟩ ⟨_,ho2,rfl⟩ Ug Vk Tv Tt (Tn _ _)
  (tuple_addW0 a b its.toArray its2.toArray n n2 dd dd2 sl sl2 (by cases r1;rfl)) ⟨ho,ho2,⟨.ref b,H,I,rfl,q⟩⟩
def aar(K:aH):R2:=fun x y H Q=>(((oh fun i j=>.int (i+j)) x y H Q∨∃i j,x=.str i∧y=.str j∧i.length+j.length≤bM∧Q (.str (i++j)) H)∨aaO x y H Q)∨aaq K x y H Q∨aam K x y H Q
theorem dB:cA X (nG .Add) (aar X.K):=((aiY.or aeJ).or ajb).or (ah5.or ahH)
theorem dD{K:aH}:fH K (aar K) bL:=by
 intro Z Θ env C σ H x y dx dy res S bx cV e Q q;unfold bL at e;split at e
 ·cases e;cases bx.int;cases cV.int;exact .inl (.inl (.inl ⟨_,_,rfl,rfl,q _ _ (aP.refl _ _) (gW S rfl rfl)⟩))
 ·split at e
  ·rename_i hl;cases e;cases bx.str;cases cV.str;exact .inl (.inl (.inr ⟨_,_,rfl,rfl,rB hl,q _ _ (aP.refl _ _) (gW S rfl rfl)⟩))
  ·cases e
 ·split at e
  ·rename_i hl;cases e
   obtain⟨a,vs,rfl,ha,r1⟩:=bx.lst
   obtain⟨b,ws,rfl,hb,r2⟩:=cV.lst
   exact .inl (.inr ⟨a,b,vs,ws,rfl,rfl,ha,hb,by rw[gZ r1,gZ r2];exact rB hl,fun p hp=>q _ _ (aP.upd hp) (tO S (wO r1 r2) hp)⟩)
  ·cases e
 ·split at e
  ·rename_i xs ys he;cases e;have:xs=[]:=List.isEmpty_iff.mp he;subst this;have by2:=cV
   obtain⟨a,vs,rfl,ha,r1⟩:=bx.tup
   obtain⟨b,ws,rfl,hb,r2⟩:=cV.tup
   cases(show vs=[] from r1)
   exact .inr (.inl ⟨a,b,ws,rfl,rfl,cI.of ha,cI.of hb,q _ _ (aP.refl _ _) ⟨S,by2⟩⟩)
  split at e
  ·rename_i xs ys he hl;cases e
   obtain⟨a,vs,rfl,ha,r1⟩:=bx.tup
   obtain⟨b,ws,rfl,hb,r2⟩:=cV.tup
   have l1:=gZ r1;have l2:=gZ r2;have hv:vs≠[]:=fun z=>by
    subst z;cases xs with
    |nil=>exact he rfl
    |cons _ _=>cases l1
   refine .inr (.inr ⟨a,b,vs,ws,rfl,rfl,cI.of ha,cI.of hb,hv,by rw[l1,l2];exact rB hl,fun z=>?_,fun _ p hp=>q _ _ (aP.upd hp) (Hj S (wO r1 r2) hp)⟩);subst z;have:ys=[]:=List.eq_nil_of_length_eq_zero l2.symm;subst this;rw[j6] at q;refine q _ _ (aP.refl _ _) ⟨S,?_⟩;exact bx
  ·cases e
 ·cases e
def u9:ao→ao→Option Vl
 |.int i,.int j=>some (.im (.int (i-j)))
 |_,_=>none
theorem O6{K:aH}{g:Int→Int→V}{op:ao→ao→Option Vl}(h:∀dx dy res,op dx dy=some res→∃i j d,dx=.int i∧dy=.int j∧res=.im d∧jt d=true∧g i j=toV d):fH K (oh g) op:=by
 intro Z Θ env C σ H x y dx dy res S bx cV e Q q
 obtain⟨i,j,d,rfl,rfl,rfl,f,hv⟩:=h _ _ _ e
 cases bx.int;cases cV.int
 exact⟨_,_,rfl,rfl,q _ _ (aP.refl _ _) (gW S f hv)⟩
theorem HR{K:aH}{Cn:Int→Int→Prop}{g:Int→Int→V}{op:ao→ao→Option Vl}(h:∀dx dy res,op dx dy=some res→∃i j d,dx=.int i∧dy=.int j∧res=.im d∧jt d=true∧g i j=toV d∧Cn i j):fH K (rI Cn g) op:=by
 intro Z Θ env C σ H x y dx dy res S bx cV e Q q
 obtain⟨i,j,d,rfl,rfl,rfl,f,hv,c⟩:=h _ _ _ e
 cases bx.int;cases cV.int
 exact⟨_,_,rfl,rfl,c,q _ _ (aP.refl _ _) (gW S f hv)⟩
theorem Ca{K:aH}:fH K (oh fun i j=>.int (i-j)) u9:=O6 fun dx dy res e=>by
 unfold u9 at e;split at e<;>cases e
 exact⟨_,_,_,rfl,rfl,rfl,rfl,rfl⟩
def ju:ao→ao→Option Vl
 |.int i,.int j=>if 0<j then some (.im (.int (i%j))) else none
 |_,_=>none
theorem p6{K:aH}:fH K (rI (fun _ j=>0<j) fun i j=>.int (i%j)) ju:=HR fun dx dy res e=>by
 unfold ju at e;split at e
 ·split at e
  ·rename_i h;cases e;exact⟨_,_,_,rfl,rfl,rfl,rfl,rfl,h⟩
  ·cases e
 ·cases e
def uW:ao→ao→Option Vl
 |.int i,.int j=>if 0<j∧j<1073741824 then some (.im (.int (i / j))) else none
 |_,_=>none
theorem O7{K:aH}:fH K (rI aaJ fun i j=>.int (i / j)) uW:=HR fun dx dy res e=>by
 unfold uW at e;split at e
 ·split at e
  ·rename_i h;cases e;exact⟨_,_,_,rfl,rfl,rfl,rfl,rfl,h⟩
  ·cases e
 ·cases e
def qj:ao→ao→Option Vl
 |.int i,.int j=>if 0≤j∧j≤1000000∧i.natAbs<2^64 then some (.im (.int (i^j.toNat))) else none
 |_,_=>none
theorem Cd{K:aH}:fH K (rI aaK fun i j=>.int (i^j.toNat)) qj:=HR fun dx dy res e=>by
 unfold qj at e;split at e
 ·split at e
  ·rename_i h;cases e;exact⟨_,_,_,rfl,rfl,rfl,rfl,rfl,h⟩
  ·cases e
 ·cases e
def jc:ao→ao→Option Vl
 |.int i,.int j=>if(-(2^64)<i∧i<2^64)∨(-(2^64)<j∧j<2^64) then some (.im (.int (i*j))) else none
 |_,_=>none
theorem oX{K:aH}:fH K (rI IV fun i j=>.int (i*j)) jc:=HR fun dx dy res e=>by
 unfold jc at e;split at e
 ·split at e
  ·rename_i h;cases e;exact⟨_,_,_,rfl,rfl,rfl,rfl,rfl,h⟩
  ·cases e
 ·cases e
end
section
variable{X:Cx}
def xV:ao→ao→Option Bool
 |.int i,.int j=>some (i==j)
 |.str x,.str y=>some (x==y)
 |.bool a,.bool b=>some (a==b)
 |d,e=>if qJ d&&qJ e&&(lC d&&lC e) then some (Gr d e) else none
def lK(d e:ao):Option Vl:=(xV d e).map fun b=>.im (.bool b)
def iQ(d e:ao):Option Vl:=(xV d e).map fun b=>.im (.bool (!b))
theorem ae1(hu:X.A.units+64<dY):cA X (dH .Eq) (fun x y H Q=>∃d e,RX H d x∧RX H e y∧lC d=true∧lC e=true∧Q (.bl (Gr d e)) H):=by
 intro pins s σ H x y v u Q I rx ry h
 obtain⟨d,e,hd,he,h1,h2,q⟩:=h
 obtain⟨as,ra⟩:=RD.reads I (hd.rd (K:=X.K)) rx
 obtain⟨bs,rb⟩:=RD.reads I (he.rd (K:=X.K)) ry
 exact PySem.SeqAt.compareEq_shaped ra rb h1 h2 hu ⟨.bl _,H,I,rfl,q⟩
def aaW:R2:=fun x y H Q=>rEq x y H Q∨∃d e,RX H d x∧RX H e y∧lC d=true∧lC e=true∧Q (.bl (Gr d e)) H
def aaX:R2:=fun x y H Q=>rNe x y H Q∨∃d e,RX H d x∧RX H e y∧lC d=true∧lC e=true∧Q (.bl (!PyData.eqv d e)) H
theorem Cg(hu:X.A.units+64<dY):cA X (dH .Eq) aaW:=akf.or (ae1 hu)
theorem zg(hu:X.A.units+64<dY):cA X (dH .NotEq) aaX:=akg.or (aeT hu)
theorem WT(h:xV d e=some b):(jt d=true∧jt e=true∧Rf (toV d) (toV e)=true∧b=decide (toV d=toV e))∨(qJ d=true∧qJ e=true∧lC d=true∧lC e=true∧b=Gr d e):=by
 unfold xV at h;split at h
 ·cases h;exact .inl ⟨rfl,rfl,rfl,Ox.symm⟩
 ·cases h;exact .inl ⟨rfl,rfl,rfl,Oz.symm⟩
 ·cases h;exact .inl ⟨rfl,rfl,rfl,Qe.symm⟩
 ·split at h
  ·rename_i q;cases h;rw[gQ,gQ,gQ] at q;exact .inr ⟨q.1.1,q.1.2,q.2.1,q.2.2,rfl⟩
  ·cases h
theorem Cv{K:aH}:fH K aaW lK:=by
 intro Z Θ env C σ H x y dx dy res S bx cV e Q q;unfold lK at e;cases h:xV dx dy with
 |none=>rw[h] at e;cases e
 |some b=>
  rw[h] at e;cases e;have fin:=q (.bl b) H (aP.refl _ _) (gW S rfl rfl);rcases WT h with⟨f1,f2,sc,eb⟩|⟨n1,n2,s1,s2,eb⟩
  ·rw[bx.flat f1,cV.flat f2];rw[eb] at fin;exact .inl ⟨sc,fin⟩
  ·rw[eb] at fin;exact .inr ⟨dx,dy,bx.rx n1,cV.rx n2,s1,s2,fin⟩
theorem zB{K:aH}:fH K aaX iQ:=by
 intro Z Θ env C σ H x y dx dy res S bx cV e Q q;unfold iQ at e;cases h:xV dx dy with
 |none=>rw[h] at e;cases e
 |some b=>
  rw[h] at e;cases e;have fin:=q (.bl (!b)) H (aP.refl _ _) (gW S rfl rfl);rcases WT h with⟨f1,f2,sc,eb⟩|⟨n1,n2,s1,s2,eb⟩
  ·rw[bx.flat f1,cV.flat f2];rw[eb] at fin;exact .inl ⟨sc,fin⟩
  ·rw[eb] at fin;exact .inr ⟨dx,dy,bx.rx n1,cV.rx n2,s1,s2,fin⟩
def strLt(x y:Str):Bool:=decide (x.cps.toList<y.cps.toList)
def aas(xs ys:List ao):Option Bool:=match keysOf xs,keysOf ys with
 |some ks,some js=>if ks.map bG=js.map bG then some (c7 ks js) else none
 |_,_=>none
def ue:ao→ao→Option Vl
 |.int i,.int j=>some (.im (.bool (decide (i<j))))
 |.str x,.str y=>some (.im (.bool (strLt x y)))
 |.tuple xs,.tuple ys=>(aas xs ys).map fun b=>.im (.bool b)
 |_,_=>none
theorem uI:∀{ds:List ao}{ks:List Key}{vs:List V},keysOf ds=some ks→cg E ds vs→vs=ks.map kV
 |[],ks,vs,h,r=>by cases h;exact r
 |d::ds,ks,vs,h,r=>by
  unfold keysOf at h;split at h
  ·rename_i k t h1 h2;cases h
   obtain⟨u,w,e1,q,s⟩:=r
   rw[e1,uI h2 s];have:u=kV k:=by
    cases d<;>first|(cases h1;exact q)|cases h1
   rw[this];rfl
  ·cases h
def ak6:R2:=fun x y H Q=>(∃a b,x=kV a∧y=kV b∧bG a=bG b∧Q (.bl (kLt a b)) H)∨∃a b ks js,x=.ref a∧y=.ref b∧H a=some (.tup (ks.map kV))∧H b=some (.tup (js.map kV))∧ks.map bG=js.map bG∧Q (.bl (c7 ks js)) H
theorem QW{K:aH}:fH K ak6 ue:=by
 intro Z Θ env C σ H x y dx dy res S bx cV e Q q;unfold ue at e;split at e
 ·cases e;cases bx.int;cases cV.int;exact .inl ⟨.inl _,.inl _,rfl,rfl,rfl,q _ _ (aP.refl _ _) (gW S rfl rfl)⟩
 ·cases e;cases bx.str;cases cV.str;exact .inl ⟨.inr _,.inr _,rfl,rfl,rfl,q _ _ (aP.refl _ _) (gW S rfl rfl)⟩
 ·rename_i xs ys;unfold aas at e;split at e
  ·rename_i ks js h1 h2;split at e
   ·rename_i ht;cases e
    obtain⟨a,vs,rfl,ha,r1⟩:=bx.tup
    obtain⟨b,ws,rfl,hb,r2⟩:=cV.tup
    rw[uI h1 r1] at ha;rw[uI h2 r2] at hb;exact .inr ⟨a,b,ks,js,rfl,rfl,ha,hb,ht,q _ _ (aP.refl _ _) (gW S rfl rfl)⟩
   ·cases e
  ·cases e
 ·cases e
def nY:ao→ao→Option Vl
 |.int i,.int j=>some (.im (.bool (decide (i≤j))))
 |.str x,.str y=>some (.im (.bool (!strLt y x)))
 |_,_=>none
def aaY:R2:=fun x y H Q=>(oh fun i j=>.bl (decide (i≤j))) x y H Q∨∃i j,x=.str i∧y=.str j∧Q (.bl (!(decide (j.cps.toList<i.cps.toList)))) H
theorem zj:cA X (dH .LtE) aaY:=akh.or afF
theorem zE{K:aH}:fH K aaY nY:=by
 intro Z Θ env C σ H x y dx dy res S bx cV e Q q;unfold nY at e;split at e
 ·cases e;cases bx.int;cases cV.int;exact .inl ⟨_,_,rfl,rfl,q _ _ (aP.refl _ _) (gW S rfl rfl)⟩
 ·cases e;cases bx.str;cases cV.str;exact .inr ⟨_,_,rfl,rfl,q _ _ (aP.refl _ _) (gW S rfl rfl)⟩
 ·cases e
def uf:ao→ao→Option Vl
 |.int i,.int j=>some (.im (.bool (decide (j<i))))
 |_,_=>none
def IW:ao→ao→Option Vl
 |.int i,.int j=>some (.im (.bool (decide (j≤i))))
 |_,_=>none
theorem Cw{K:aH}:fH K (oh fun i j=>.bl (decide (j<i))) uf:=O6 fun dx dy res e=>by
 unfold uf at e;split at e<;>cases e
 exact⟨_,_,_,rfl,rfl,rfl,rfl,rfl⟩
theorem aku{K:aH}:fH K (oh fun i j=>.bl (decide (j≤i))) IW:=O6 fun dx dy res e=>by
 unfold IW at e;split at e<;>cases e
 exact⟨_,_,_,rfl,rfl,rfl,rfl,rfl⟩
def isNone:ao→Bool
 |.none=>true
 |_=>false
def o5(d e:ao):Option Vl:=if isNone e then some (.im (.bool (isNone d))) else none
def rJ(d e:ao):Option Vl:=if isNone e then some (.im (.bool (!isNone d))) else none
theorem G3(h:eU Z Θ env σ H d x):decide (x=V.non)=isNone d:=by
 cases d<;>first
  |(cases(show x=_ from h);rfl)
  |(obtain⟨a,vs,e,_⟩:=h;subst e;rfl)
theorem HS{K:aH}:fH K (fun x y H Q=>y=.non∧Q (.bl (decide (x=.non))) H) o5:=by
 intro Z Θ env C σ H x y dx dy res S bx cV e Q q;unfold o5 at e;split at e
 ·rename_i hn;cases e;have hy:y=.non:=of_decide_eq_true ((G3 cV).trans hn)
  exact⟨hy,by rw[G3 bx];exact q _ _ (aP.refl _ _) (gW S rfl rfl)⟩
 ·cases e
theorem O8{K:aH}:fH K (fun x y H Q=>y=.non∧Q (.bl (!decide (x=.non))) H) rJ:=by
 intro Z Θ env C σ H x y dx dy res S bx cV e Q q;unfold rJ at e;split at e
 ·rename_i hn;cases e;have hy:y=.non:=of_decide_eq_true ((G3 cV).trans hn)
  exact⟨hy,by rw[G3 bx];exact q _ _ (aP.refl _ _) (gW S rfl rfl)⟩
 ·cases e
end
section
variable{X:Cx}{pins:List (aa×Obj)}{σ:St}{H:Hp}{s:au}{a b:aa}
theorem Inv.Ju(I:Inv X pins σ H s)(h:H a=some (.dK [])):Inv X pins σ (upd H a (.dT [])) s:=by
 obtain⟨z,hm,vs,r,o,es,ep,h1,h2,h3,h4,h5,h6⟩:=I.hok a _ h
 cases r;have e0:es.toList=[]:=by
  cases hh:es.toList with
  |nil=>rfl
  |cons x xs=>rw[hh] at h5;cases h5
 have:=wN (t':=s.toks) (ob:=.dT []) I (by rw[h];trivial) (T9 a s.heap) ⟨_,h1⟩ ⟨lF _,hm,[],.nil,o,es,ep,h1,h2,h3,e0,oF⟩;exact this
theorem Inv.RQ(I:Inv X pins σ (upd H a (.dT [])) s)(h:H a=some (.dK [])):Inv X pins σ H s:=by
 obtain⟨z,hm,xs,r,o,es,ep,h1,h2,h3,h4,h5⟩:=I.hok a _ eN
 cases r;have e0:es=#[]:=by
  cases es;simp at h4;rw[h4]
 subst e0;have:=wN (t':=s.toks) (ob:=.dK []) I (by rw[eN];trivial) (T9 a s.heap) ⟨_,h1⟩ (HN (lF _) hm .nil ⟨o,#[],ep,h1,h2,h3,fun i hi=>absurd hi (by simp),.nil,oF⟩);rw[Yl] at this;have e:upd H a (.dK [])=H:=by
  funext b;by_cases hb:b=a
  ·subst hb;rw[eN,h]
  ·exact cN hb
 rw[e] at this;exact this
end
def m5(H:Hp)(a:aa)(y:V)(r:Option V):Prop:=kZ H a y r∨(H a=some (.dK [])∧(∃(b:aa)(ks:List Key),y=.ref b∧H b=some (.tup (ks.map kV)))∧r=none)
section
variable{X:Cx}{pins:List (aa×Obj)}{σ:St}{H:Hp}{s:au}{a:aa}{y v:V}{u r:Value}{o:Option V}{A:bU}{E:Value→au→Prop}
theorem m5.re(ha:H a=some (.dK [])){b:aa}{ks:List Key}(hb:H b=some (.tup (ks.map kV))):kZ (upd H a (.dT [])) a (.ref b) none:=by
 have:(upd H a (.dT [])) b=some (.tup (ks.map kV)):=by rw[cN (QF hb ha (fun z=>nomatch z))];exact hb
 exact kZ.t (kvs:=[]) (k:=ks) eN this
theorem akv(hu:A.units+1<dY)(I:Inv X pins σ H s)(g:m5 H a y o)(ry:RelV y u)(h:∀s',Inv X pins σ H s'→Q (.bool o.isSome) s'):aM (model X.prog X.w) A (dH .In u (.ref a)) Q E s:=by
 rcases g with g|⟨ha,⟨b,ks,rfl,hb⟩,rfl⟩
 ·exact aaP hu I g ry h
 ·exact aaP hu (I.Ju ha) (m5.re ha hb) ry fun s' I'=>h s' (I'.RQ ha)
theorem agL(hu:A.units+1<dY)(I:Inv X pins σ H s)(g:m5 H a y o)(ry:RelV y u)(h:∀s',Inv X pins σ H s'→Q (.bool (!o.isSome)) s'):aM (model X.prog X.w) A (dH .NotIn u (.ref a)) Q E s:=by
 rcases g with g|⟨ha,⟨b,ks,rfl,hb⟩,rfl⟩
 ·exact Yv hu I g ry h
 ·exact Yv hu (I.Ju ha) (m5.re ha hb) ry fun s' I'=>h s' (I'.RQ ha)
theorem ajp(hu:X.A.units+1<dY):cA X (dH .In) (fun y x H Q=>∃a o,x=.ref a∧m5 H a y o∧Q (.bl o.isSome) H):=by
 intro pins s σ H x y v u Q I rx ry h
 obtain⟨a,o,rfl,g,q⟩:=h
 cases ry;exact akv hu I g rx fun s' I'=>⟨.bl _,H,I',rfl,q⟩
theorem afU(hu:X.A.units+1<dY):cA X (dH .NotIn) (fun y x H Q=>∃a o,x=.ref a∧m5 H a y o∧Q (.bl (!o.isSome)) H):=by
 intro pins s σ H x y v u Q I rx ry h
 obtain⟨a,o,rfl,g,q⟩:=h
 cases ry;exact agL hu I g rx fun s' I'=>⟨.bl _,H,I',rfl,q⟩
theorem ah6(hu:X.A.units+1<dY):pD X (fun x y H Q=>∃a v,x=.ref a∧kZ H a y (some v)∧Q v H):=by
 intro value slice pins s σ H x y v u Q I rx ry h hs
 obtain⟨a,z,rfl,g,q⟩:=h
 cases rx;have hT:=aet I g;have h2:aM (model X.prog X.w) X.A (uP (.ref a) u) (EP X pins σ Q) X.xe s:=afy hu I g ry fun w' s' I' r'=>⟨z,H,I',r',q⟩
 unfold subscriptTail;refine aC ?_;rw[getitemInPython_of_ne hT.not_modules];refine aC (wpAny_specialOf hT PySem.F.slot_dict_getitem.lookup ?_);have fin:aM (model X.prog X.w) X.A (V3 slice false (.ref a) u) (fun r s₃=>aM (model X.prog X.w) X.A (letTemporaryGo value (.ref a) r >>= fun _=>pure r) (EP X pins σ Q) X.xe s₃) X.xe s:=by
  rw[hs];exact wpAny_operating (mW h2 (fun r s₃ h₃=>aC (wpAny_letTemporaryGo (aW h₃))) fun _ _ x=>x)
 first
  |exact aW (aC fin)
  |exact aC (aW (aC fin))
  |exact aC fin
end
def o7{κ:Type}[DecidableEq κ](f:ao→Option κ)(k:κ):List (ao×ao)→Option ao
 |[]=>none
 |p::r=>if f p.1=some k then some p.2 else o7 f k r
def mC(kvs:List (ao×ao))(d:ao):Option (Option ao):=match cQ d with
 |some k=>if(cH cQ kvs).isSome then some (o7 cQ k kvs) else none
 |none=>match rO d with
  |some ks=>if(cH rO kvs).isSome then some (o7 rO ks kvs) else none
  |none=>none
theorem Nv[DecidableEq κ]:∀{kvs:List (ao×ao)}{ks:List κ}{vs:List V},cH f kvs=some ks→gA E kvs vs→
  (∃d v,o7 f k kvs=some d∧lJ (ks.zip vs) k=some v∧RZ E d v)∨(o7 f k kvs=none∧lJ (ks.zip vs) k=none)
 |[],ks,vs,h,r=>by
  cases h
  cases(show vs=[] from r)
  exact .inr ⟨rfl,rfl⟩
 |(p,d)::kvs,ks,vs,h,r=>by
  unfold cH at h;split at h
  ·rename_i k' t h1 h2;cases h
   obtain⟨v,w,rfl,q,s⟩:=r
   by_cases e:k'=k
   ·subst e;refine .inl ⟨d,v,?_,?_,q⟩
    ·unfold o7;rw[if_pos h1]
    ·exact GK (p:=(k',v)) rfl
   ·have e1:o7 f k ((p,d)::kvs)=o7 f k kvs:=by
     show(if f p=some k then some d else o7 f k kvs)=_
     rw[if_neg];intro z;rw[h1] at z;exact e (fW z)
    have e2:lJ ((k'::t).zip (v::w)) k=lJ (t.zip w) k:=GP (p:=(k',v)) e;rw[e1,e2];exact Nv h2 s
  ·cases h
theorem uL:∀{kvs:List (ao×ao)}{ks:List κ},cH f kvs=some ks→ks.length=kvs.length
 |[],ks,h=>by cases h;rfl
 |p::kvs,ks,h=>by
  unfold cH at h;split at h
  ·rename_i k' t h1 h2;cases h;rw[cR,cR,uL h2]
  ·cases h
theorem ZP(h:cQ d=some k)(r:RZ E d v):v=kV k:=by
 cases d<;>first|(cases h;exact r)|cases h
theorem ZQ(h:cQ d=some k)(g:rO d=some ks):False:=by
 cases d<;>first|(cases h;done)|(cases g;done)
section
variable{K:aH}{Z Θ:List aa}{env:En}{C:Ce}{σ:St}{H:Hp}{x y:V}
theorem uM(h:cH cQ kvs=some ks)(g:cH rO kvs=some js):kvs=[]:=by
 cases kvs with
 |nil=>rfl
 |cons p r=>
  unfold cH at h g;split at h
  ·rename_i h1 h2;split at g
   ·rename_i h3 h4
    exact(ZQ h1 h3).elim
   ·cases g
  ·cases h
theorem eU.get(h:eU Z Θ env σ H (.dict kvs) x)(hy:eU Z Θ env σ H d y)(e:mC kvs d=some o):
  ∃a r,x=.ref a∧m5 H a y r∧((∃v,r=some v∧∃d',o=some d'∧RZ (er (aQ Z Θ env σ) H) d' v∧kZ H a y (some v))∨(r=none∧o=none)):=by
 obtain⟨a,vs,rfl,dt,rd⟩:=h.dct
 unfold mC at e;split at e
 ·rename_i k hk;split at e
  ·rename_i hs;cases e;have yk:y=kV k:=by
    cases d<;>first|(cases hk;exact hy)|cases hk
   have dk:∃ks,cH cQ kvs=some ks∧H a=some (.dK (ks.zip vs)):=by
    rcases dt with h|⟨ks,⟨ne,h2⟩,_⟩
    ·exact h
    ·obtain⟨ks',h1⟩:=sI.mp hs
     exact absurd (uM h1 h2) ne
   obtain⟨ks,h1,ha⟩:=dk
   have g:=kZ.k (k:=k) ha;rw[←yk] at g;rcases Nv (k:=k) h1 rd with⟨d',v,e1,e2,r⟩|⟨e1,e2⟩
   ·rw[e2] at g
    exact⟨a,some v,rfl,.inl g,.inl ⟨v,rfl,d',e1,r,g⟩⟩
   ·rw[e2] at g
    exact⟨a,none,rfl,.inl g,.inr ⟨rfl,e1⟩⟩
  ·cases e
 ·split at e
  ·rename_i ks hks;split at e
   ·rename_i hs;cases e
    obtain⟨b,hb,rfl⟩:∃b,H b=some (.tup (ks.map kV))∧y=.ref b:=by
     cases d<;>first|cases hks|skip
     obtain⟨b,ws,rfl,hb,r⟩:=hy.tup
     rw[uI hks r] at hb
     exact⟨b,hb,rfl⟩
    rcases dt with⟨js,h1,ha⟩|⟨js,⟨ne,h1⟩,ha⟩
    ·obtain⟨js',h2⟩:=sI.mp hs
     have:=uM h1 h2;subst this;cases h1
     exact⟨a,none,rfl,.inr ⟨ha,⟨b,ks,rfl,hb⟩,rfl⟩,.inr ⟨rfl,rfl⟩⟩
    ·have g:=kZ.t (k:=ks) ha hb;rcases Nv (k:=ks) h1 rd with⟨d',v,e1,e2,r⟩|⟨e1,e2⟩
     ·rw[e2] at g
      exact⟨a,some v,rfl,.inl g,.inl ⟨v,rfl,d',e1,r,g⟩⟩
     ·rw[e2] at g
      exact⟨a,none,rfl,.inl g,.inr ⟨rfl,e1⟩⟩
   ·cases e
  ·cases e
end
def inD(d:ao)(ds:List ao):Bool:=ds.any fun e=>qH (toV e) (toV d)
def inB(d:ao):ao→Option Bool
 |.list ds=>if jt d&&ds.all jt then some (inD d ds) else none
 |.tuple ds=>if jt d&&ds.all jt then some (inD d ds) else none
 |.dict kvs=>(mC kvs d).map (·.isSome)
 |_=>none
def jd(d e:ao):Option Vl:=(inB d e).map fun b=>.im (.bool b)
def uT(d e:ao):Option Vl:=(inB d e).map fun b=>.im (.bool (!b))
def aaZ(K:aH):R2:=fun x y H Q=>Jo K false x y H Q∨∃a o,y=.ref a∧m5 H a x o∧Q (.bl o.isSome) H
def YL(K:aH):R2:=fun x y H Q=>Jo K true x y H Q∨∃a o,y=.ref a∧m5 H a x o∧Q (.bl (!o.isSome)) H
theorem p7(hu:X.A.units+1<dY):cA X (dH .In) (aaZ X.K):=afw.or (ajp hu)
theorem MF(hu:X.A.units+1<dY):cA X (dH .NotIn) (YL X.K):=ad3.or (afU hu)
theorem MJ(f:jt d=true):nM (toV d)=true:=by
 cases d<;>first|rfl|cases f
theorem aat:inV (toV d) (ds.map toV)=inD d ds:=by
 unfold inV inD;rw[ad8];rfl
theorem YM{ds:List ao}(f:ds.all jt=true):(ds.map toV).all nM=true:=by
 rw[List.all_map,qU];intro d hd;exact MJ (qU.mp f d hd)
theorem Xp{K:aH}{Z Θ:List aa}{env:En}{σ:St}{H:Hp}{x y:V}{dx dy:ao}{b:Bool}(bx:eU Z Θ env σ H dx x)(cV:eU Z Θ env σ H dy y)(e:inB dx dy=some b):
  (∃p xs,y=.ref p∧(bO K H p xs∨cI K H p xs)∧nM x=true∧xs.all nM=true∧inV x xs=b)∨∃a o,y=.ref a∧m5 H a x o∧o.isSome=b:=by
 unfold inB at e;split at e
 ·split at e
  ·rename_i ds hf;rw[gQ] at hf;cases e
   obtain⟨a,vs,rfl,ha,r⟩:=cV.lst
   rw[Nu hf.2 r] at ha;rw[bx.flat hf.1];exact .inl ⟨a,_,rfl,.inl (bO.of ha),MJ hf.1,YM hf.2,aat⟩
  ·cases e
 ·split at e
  ·rename_i ds hf;rw[gQ] at hf;cases e
   obtain⟨a,vs,rfl,ha,r⟩:=cV.tup
   rw[Nu hf.2 r] at ha;rw[bx.flat hf.1];exact .inl ⟨a,_,rfl,.inr (cI.of ha),MJ hf.1,YM hf.2,aat⟩
  ·cases e
 ·rename_i kvs;cases hl:mC kvs dx with
  |none=>rw[hl] at e;cases e
  |some o=>
   rw[hl] at e;cases e
   obtain⟨a,r,rfl,g,q⟩:=cV.get bx hl
   refine .inr ⟨a,r,rfl,g,?_⟩;rcases q with⟨v,rfl,d',rfl,_⟩|⟨rfl,rfl⟩<;>rfl
 ·cases e
theorem qm{K:aH}:fH K (aaZ K) jd:=by
 intro Z Θ env C σ H x y dx dy res S bx cV e Q q;unfold jd at e;cases h:inB dx dy with
 |none=>rw[h] at e;cases e
 |some b=>
  rw[h] at e;cases e;have fin:=q (.bl b) H (aP.refl _ _) (gW S rfl rfl);rcases Xp (K:=K) bx cV h with⟨p,xs,e1,e2,e3,e4,e5⟩|⟨a,o,e1,e2,e3⟩
  ·rw[←e5] at fin;exact .inl ⟨p,xs,e1,e2,e3,e4,fin⟩
  ·rw[←e3] at fin;exact .inr ⟨a,o,e1,e2,fin⟩
theorem Nx{K:aH}:fH K (YL K) uT:=by
 intro Z Θ env C σ H x y dx dy res S bx cV e Q q;unfold uT at e;cases h:inB dx dy with
 |none=>rw[h] at e;cases e
 |some b=>
  rw[h] at e;cases e;have fin:=q (.bl (!b)) H (aP.refl _ _) (gW S rfl rfl);rcases Xp (K:=K) bx cV h with⟨p,xs,e1,e2,e3,e4,e5⟩|⟨a,o,e1,e2,e3⟩
  ·rw[←e5] at fin;exact .inl ⟨p,xs,e1,e2,e3,e4,fin⟩
  ·rw[←e3] at fin;exact .inr ⟨a,o,e1,e2,fin⟩
def sE:ao→ao→Option ao
 |.list ds,.int i=>dJ ds i
 |.tuple ds,.int i=>dJ ds i
 |.str z,.int i=>if z.length≤LIM then(dJ z.cps.toList i).map fun c=>.str ⟨#[c]⟩ else none
 |.dict kvs,d=>match mC kvs d with
  |some (some e)=>some e
  |_=>none
 |_,_=>none
def bu(d e:ao):Option Vl:=(sE d e).map .im
def aa0(K:aH):R2:=fun x y H Q=>rIx K x y H Q∨∃a v,x=.ref a∧kZ H a y (some v)∧Q v H
theorem cD(hu:X.A.units+1<dY):pD X (aa0 X.K):=ai7.or (ah6 hu)
theorem YQ(r:cg E ds vs)(e:dJ ds i=some d):∃v,dJ vs i=some v∧RZ E d v:=by
 unfold dJ at e⊢;rw[gZ r];cases h:mO ds.length i with
 |none=>rw[h] at e;cases e
 |some j=>
  rw[h] at e;exact wR r e
theorem cG{K:aH}:fH K (aa0 K) bu:=by
 intro Z Θ env C σ H x y dx dy res S bx cV e Q q;unfold bu at e;cases h:sE dx dy with
 |none=>rw[h] at e;cases e
 |some d=>
  rw[h] at e;cases e;unfold sE at h;split at h
  ·obtain⟨a,vs,rfl,ha,r⟩:=bx.lst
   cases cV.int
   obtain⟨v,e1,r1⟩:=YQ r h
   exact .inl (.inl ⟨a,vs,_,v,rfl,rfl,bO.of ha,e1,q _ _ (aP.refl _ _) ⟨S,r1⟩⟩)
  ·obtain⟨a,vs,rfl,ha,r⟩:=bx.tup
   cases cV.int
   obtain⟨v,e1,r1⟩:=YQ r h
   exact .inl (.inr (.inl ⟨a,vs,_,v,rfl,rfl,cI.of ha,e1,q _ _ (aP.refl _ _) ⟨S,r1⟩⟩))
  ·split at h
   ·rename_i z i hz;cases bx.str;cases cV.int;cases hc:dJ z.cps.toList i with
    |none=>rw[hc] at h;cases h
    |some c=>
     rw[hc] at h;cases h;exact .inl (.inr (.inr ⟨z,i,c,rfl,rfl,rB hz,hc,q _ _ (aP.refl _ _) (gW S rfl rfl)⟩))
   ·cases h
  ·split at h
   ·rename_i kvs e' hl;cases h
    obtain⟨a,r,rfl,g,hq⟩:=bx.get cV hl
    rcases hq with⟨v,rfl,d',e1,r1,g1⟩|⟨_,e1⟩
    ·cases e1;exact .inr ⟨a,v,rfl,g1,q _ _ (aP.refl _ _) ⟨S,r1⟩⟩
    ·cases e1
   ·cases h
  ·cases h
def truD:ao→Option Bool
 |.none=>some false
 |.bool b=>some b
 |.int i=>some (i != 0)
 |.str x=>if x.length≤LIM then some ((x.length:Int) != 0) else none
 |.list ds=>some (!ds.isEmpty)
 |.tuple ds=>some (!ds.isEmpty)
 |.dict kvs=>if(cH cQ kvs).isSome then some (!kvs.isEmpty) else none
def fTru(f:FB):FT:=fun env C=>match f env C with
 |some (d,_,C')=>match truD d with
  |some b=>some (b,C')
  |none=>none
 |none=>none
def fTst(f:FE):FT:=fun env C=>match f env C with
 |some (.im (.bool b),_,C')=>some (b,C')
 |_=>none
def w6(f:FT):FT:=fun env C=>match f env C with
 |some (b,C')=>some (!b,C')
 |none=>none
def kJ(f g:FT):FT:=fun env C=>match f env C with
 |some (true,C')=>g env C'
 |some (false,C')=>some (false,C')
 |none=>none
def sr(f g:FT):FT:=fun env C=>match f env C with
 |some (true,C')=>some (true,C')
 |some (false,C')=>g env C'
 |none=>none
theorem ajq{K:aH}{Z Θ:List aa}{env:En}{σ:St}{H:Hp}{x:V}{d:ao}{b:Bool}(h:eU Z Θ env σ H d x)(e:truD d=some b):Rg K x H b:=by
 cases d with
 |none=>cases e;cases(show x=_ from h);rfl
 |bool c=>cases e;cases(show x=_ from h);rfl
 |int i=>cases e;cases(show x=_ from h);rfl
 |str z=>
  simp only[truD] at e;split at e
  ·rename_i hz;cases e;cases(show x=_ from h);exact⟨rB hz,rfl⟩
  ·cases e
 |list ds=>
  cases e
  obtain⟨a,vs,rfl,ha,r⟩:=h.lst
  refine .inl ⟨vs,bO.of ha,?_⟩;have:=gZ r;cases ds<;>cases vs<;>first|rfl|cases this
 |tuple ds=>
  cases e
  obtain⟨a,vs,rfl,ha,r⟩:=h.tup
  refine .inr (.inl ⟨vs,cI.of ha,?_⟩);have:=gZ r;cases ds<;>cases vs<;>first|rfl|cases this
 |dict kvs=>
  simp only[truD] at e;split at e
  ·rename_i hs;cases e
   obtain⟨a,vs,rfl,da,r⟩:=h.dct
   rcases da with⟨ks,h1,ha⟩|⟨ks,⟨ne,h2⟩,ha⟩
   ·refine .inr (.inr ⟨_,ha,?_⟩);have l1:=uL h1;have l2:=Br r;cases kvs<;>cases ks<;>cases vs<;>first|rfl|cases l1|cases l2
   ·obtain⟨ks',h1⟩:=sI.mp hs
    exact absurd (uM h1 h2) ne
  ·cases e
section
variable{X:Cx}{a b:Expr}{pos:Pos}
theorem uX(h:PE X a (cX X.K f))(he:∀whole,isTrue a X.env whole=(do let v ←whole;rD a.pos;oO [v] (truthy v)):=by intro _;rfl):PT X a (dZ X.K (fTru f)):=
 (agp h he).weak fun σ H Q aJ=>by
  obtain⟨Z,Θ,env,C,b,C',S,hf,q⟩:=aJ
  unfold fTru at hf;split at hf
  ·rename_i d e1 C1 h1;split at hf
   ·rename_i b' hb;cases hf
    exact⟨Z,Θ,env,C,d,e1,C',S,h1,fun v H' k f S' bo=>⟨b,ajq bo hb,q H' k (S.go k S'.cell)⟩⟩
   ·cases hf
  ·cases hf
theorem Xq{K:aH}{t:TE}{f:FE}(w:∀σ H Q,tE K f σ H Q→t σ H Q):∀σ H Q,dZ K (fTst f) σ H Q→QK t σ H Q:=by
 rintro σ H Q ⟨Z,Θ,env,C,b,C',S,hf,q⟩;unfold fTst at hf;split at hf
 ·rename_i b' e1 C1 h1;cases hf;refine w _ _ _ ⟨Z,Θ,env,C,.im (.bool b),e1,C',S,h1,fun v H' k f R=>?_⟩
  obtain⟨S',r⟩:=R
  exact⟨b,r,q H' k (S.go k S'.cell)⟩
 ·cases hf
theorem fK(ho:cA X (dH o) r)(L:fH X.K r op)(ha:PE X a (cX X.K fa))(hb:PE X b (cX X.K fb))(hm:Ak o b=false):
  PT X (.Compare a [o] [b] pos) (dZ X.K (fTst (aG op fa fb))):=(ahA ho ha hb hm).weak (Xq (GZ L))
theorem Ql(h:PT X a (dZ X.K f)):PT X (.UnaryOp .Not a pos) (dZ X.K (w6 f)):=(aiQ h).weak fun σ H Q aJ=>by
 obtain⟨Z,Θ,env,C,b,C',S,hf,q⟩:=aJ
 unfold w6 at hf;split at hf
 ·rename_i b' C1 h1;cases hf
  exact⟨Z,Θ,env,C,b',C',S,h1,q⟩
 ·cases hf
theorem agM{K:aH}{f g:FT}:∀σ H Q,dZ K (kJ f g) σ H Q→aaF (dZ K f) (dZ K g) σ H Q:=by
 rintro σ H Q ⟨Z,Θ,env,C,b,C',S,hf,q⟩;unfold kJ at hf;split at hf
 ·rename_i C1 h1
  exact⟨Z,Θ,env,C,true,C1,S,h1,fun H1 k1 S1=>vz ⟨Z,Θ,env,C1,b,C',S1,hf,fun H2 k2 S2=>q H2 (k1.trans k2) S2⟩⟩
 ·rename_i C1 h1;cases hf
  exact⟨Z,Θ,env,C,false,C',S,h1,fun H1 k1 S1=>vq (q H1 k1 S1)⟩
 ·cases hf
theorem ah7{K:aH}{f g:FT}:∀σ H Q,dZ K (sr f g) σ H Q→tOr (dZ K f) (dZ K g) σ H Q:=by
 rintro σ H Q ⟨Z,Θ,env,C,b,C',S,hf,q⟩;unfold sr at hf;split at hf
 ·rename_i C1 h1;cases hf
  exact⟨Z,Θ,env,C,true,C',S,h1,fun H1 k1 S1=>vz (q H1 k1 S1)⟩
 ·rename_i C1 h1
  exact⟨Z,Θ,env,C,false,C1,S,h1,fun H1 k1 S1=>vq ⟨Z,Θ,env,C1,b,C',S1,hf,fun H2 k2 S2=>q H2 (k1.trans k2) S2⟩⟩
 ·cases hf
variable{rest:List Expr}
theorem yW(h:PT X a (dZ X.K f)):PW X (.BoolOp .And [a] pos) (dZ X.K f):=pw_and1 h
theorem HW(h:PT X a (dZ X.K f)):PW X (.BoolOp .Or [a] pos) (dZ X.K f):=pw_or1 h
theorem rK(h:PT X a (dZ X.K f))(hb:PW X (.BoolOp .And (b::rest) pos) (dZ X.K g)):PW X (.BoolOp .And (a::b::rest) pos) (dZ X.K (kJ f g)):=(pw_and h hb).weak agM
theorem Cy(h:PT X a (dZ X.K f))(hb:PW X (.BoolOp .Or (b::rest) pos) (dZ X.K g)):PW X (.BoolOp .Or (a::b::rest) pos) (dZ X.K (sr f g)):=(pw_or h hb).weak ah7
end
def vC(op op':ao→ao→Option Vl)(fa fb fc:FB):FE:=fun env C=>match fa env C with
 |some (x,e1,C1)=>match fb e1 C1 with
  |some (y,e2,C2)=>match op x y with
   |some (.im (.bool true))=>match fc e2 C2 with
    |some (z,e3,C3)=>match op' y z with
     |some (.im (.bool b))=>some (.im (.bool b),env,C3)
     |_=>none
    |none=>none
   |some (.im (.bool false))=>some (.im (.bool false),env,C2)
   |_=>none
  |none=>none
 |none=>none
theorem Xr{K:aH}{r r':R2}{op op':ao→ao→Option Vl}(L:fH K r op)(L':fH K r' op'){fa fb fc:FB}:∀σ H Q,tE K (vC op op' fa fb fc) σ H Q→Qf r r' (cX K fa) (cX K fb) (cX K fc) σ H Q:=by
 rintro σ H Q ⟨Z,Θ,env,C,res,env',C',S,hf,q⟩;unfold vC at hf;split at hf
 ·rename_i x e1 C1 h1;split at hf
  ·rename_i y e2 C2 h2
   refine⟨Z,Θ,env,C,x,e1,C1,S,h1,fun v H1 k1 f1 S1 b1=>⟨Z,Θ,e1,C1,y,e2,C2,S1,h2,fun u H2 k2 f2 S2 b2=>?_⟩⟩
   split at hf
   ·rename_i h3;split at hf
    ·rename_i z e3 C3 h4;split at hf
     ·rename_i b h5;cases hf;refine L Z Θ e2 C2 σ H2 v u x y _ S2 (b1.go S1 k2 f2) b2 h3 _ fun w H3 k3 R=>⟨true,R.2,vz ⟨Z,Θ,e2,C2,z,e3,C',R.1,h4,fun w2 H4 k4 f4 S4 b4=>?_⟩⟩
      refine L' Z Θ e3 C' σ H4 u w2 y z _ S4 ((b2.go S2 k3 (Fz.refl _)).go R.1 k4 f4) b4 h5 Q fun w3 H5 k5 R5=>?_
      have k:=(((k1.trans k2).trans k3).trans k4).trans k5;exact q w3 H5 k (Fz.refl _) ⟨S.go k R5.1.cell,R5.2⟩
     ·cases hf
    ·cases hf
   ·rename_i h3;cases hf;refine L Z Θ e2 C' σ H2 v u x y _ S2 (b1.go S1 k2 f2) b2 h3 _ fun w H3 k3 R=>⟨false,R.2,vq ?_⟩
    have k:=(k1.trans k2).trans k3;exact q _ H3 k (Fz.refl _) ⟨S.go k R.1.cell,rfl⟩
   ·cases hf
  ·cases hf
 ·cases hf
section
variable{X:Cx}{a b c:Expr}{pos:Pos}{r r':R2}{o o':CmpOp}{op op':ao→ao→Option Vl}{fa fb fc:FB}
theorem ajr(ho:cA X (dH o) r)(L:fH X.K r op)(ho':cA X (dH o') r')(L':fH X.K r' op')(ha:PE X a (cX X.K fa))(hb:PE X b (cX X.K fb))(hc:PE X c (cX X.K fc))
  (hm:Ms [o,o'] [b,c]=false:=by with_unfolding_all rfl):PE X (.Compare a [o,o'] [b,c] pos) (tE X.K (vC op op' fa fb fc)):=(agn ho ho' ha hb hc hm).weak (Xr L L')
theorem ajs(ho:cA X (dH o) r)(L:fH X.K r op)(ho':cA X (dH o') r')(L':fH X.K r' op')(ha:PE X a (cX X.K fa))(hb:PE X b (cX X.K fb))(hc:PE X c (cX X.K fc))
  (hm:Ms [o,o'] [b,c]=false:=by with_unfolding_all rfl):PT X (.Compare a [o,o'] [b,c] pos) (dZ X.K (fTst (vC op op' fa fb fc))):=(ago ho ho' ha hb hc hm).weak (Xq (Xr L L'))
end
def Ik(f g:FE):FE:=fun env C=>match f env C with
 |some (.im (.bool true),_,C')=>g env C'
 |some (.im (.bool false),_,C')=>some (.im (.bool false),env,C')
 |_=>none
def ug(c:FT)(f g:FE):FE:=fun env C=>match c env C with
 |some (true,C')=>f env C'
 |some (false,C')=>g env C'
 |none=>none
def fNeg(f:FB):FE:=fun env C=>match f env C with
 |some (.int i,_,C')=>some (.im (.int (-i)),env,C')
 |_=>none
section
variable{X:Cx}{a b c:Expr}{pos:Pos}{rest:List Expr}
theorem ajt{o}(h:PE X a (tE X.K f)):PE X (.BoolOp o [a] pos) (tE X.K f):=aiR h
theorem aju(ha:PE X a (tE X.K f))(hb:PE X (.BoolOp .And (b::rest) pos) (tE X.K g)):PE X (.BoolOp .And (a::b::rest) pos) (tE X.K (Ik f g)):=(aiS ha hb).weak fun σ H Q aJ=>by
 obtain⟨Z,Θ,env,C,r,env',C',S,hf,q⟩:=aJ
 unfold Ik at hf;split at hf
 ·rename_i e1 C1 h1
  refine⟨Z,Θ,env,C,_,e1,C1,S,h1,fun v H1 k1 f1 R1=>⟨true,R1.2,vz ⟨Z,Θ,env,C1,r,env',C',S.go k1 R1.1.cell,hf,fun w H2 k2 f2 R2=>q w H2 (k1.trans k2) f2 (R2.from k1)⟩⟩⟩
 ·rename_i e1 C1 h1;cases hf
  exact⟨Z,Θ,env,C,_,e1,C',S,h1,fun v H1 k1 f1 R1=>⟨false,R1.2,vq (q _ H1 k1 (Fz.refl _) ⟨S.go k1 R1.1.cell,rfl⟩)⟩⟩
 ·cases hf
theorem Il(hc:PT X c (dZ X.K t))(ha:PE X a (tE X.K f))(hb:PE X b (tE X.K g)):PE X (.IfExp c a b pos) (tE X.K (ug t f g)):=(agk hc ha hb).weak fun σ H Q aJ=>by
 obtain⟨Z,Θ,env,C,r,env',C',S,hf,q⟩:=aJ
 unfold ug at hf;split at hf
 ·rename_i C1 h1
  exact⟨Z,Θ,env,C,true,C1,S,h1,fun H1 k1 S1=>vz ⟨Z,Θ,env,C1,r,env',C',S1,hf,fun w H2 k2 f2 R2=>q w H2 (k1.trans k2) f2 (R2.from k1)⟩⟩
 ·rename_i C1 h1
  exact⟨Z,Θ,env,C,false,C1,S,h1,fun H1 k1 S1=>vq ⟨Z,Θ,env,C1,r,env',C',S1,hf,fun w H2 k2 f2 R2=>q w H2 (k1.trans k2) f2 (R2.from k1)⟩⟩
 ·cases hf
end
def tV(K:aH)(E:Hp)(Θ:List aa):Vl→V→Prop
 |.im d,v=>RZ E d v
 |.ow _,_=>False
 |.ce n,v=>∃a,v=.ref a∧Θ[n]?=some a
 |.sc ns,v=>∃a,v=.ref a∧bO K E a (ns.map V.int)
inductive oY(K:aH)(E:Hp)(Θ:List aa):List Vl→List V→Prop
 |nil:oY K E Θ [] []
 |cons {x:Vl} {v:V} {xs:List Vl} {vs:List V}:tV K E Θ x v→oY K E Θ xs vs→oY K E Θ (x::xs) (v::vs)
theorem tV.same{K:aH}{E E':Hp}{Θ:List aa}(s:bw E E'){x:Vl}{v:V}(h:tV K E Θ x v):tV K E' Θ x v:=by
 cases x with
 |im d=>exact RZ.same s h
 |ow d=>exact h
 |ce n=>exact h
 |sc ns=>obtain⟨a,e,q⟩:=h;exact⟨a,e,s.seq q⟩
theorem oY.same{K:aH}{E E':Hp}{Θ:List aa}(s:bw E E'){xs:List Vl}{vs:List V}(h:oY K E Θ xs vs):oY K E' Θ xs vs:=by
 induction h with
 |nil=>exact .nil
 |cons a _ ih=>exact .cons (a.same s) ih
inductive vQ(K:aH)(f:FA)(σ:St)(H:Hp)(Q:List V→Hp→Prop):Prop
 |mk (Z Θ:List aa) (env:En) (C:Ce) (xs:List Vl) (env':En) (C':Ce) (S:Sm K Z Θ env C σ H) (hf:f env C=some (xs,env',C')) (q:∀vs H',aP Θ H H'→Fz env env'→Sm K Z Θ env' C' σ H'→oY K (er (aQ Z Θ env' σ) H') Θ xs vs→Q vs H'):vQ K f σ H Q
def aNil:FA:=fun env C=>some ([],env,C)
def aCons(f:FE)(g:FA):FA:=fun env C=>match f env C with
 |some (r,e1,C1)=>match g e1 C1 with
  |some (xs,e2,C2)=>some (still r::xs,e2,C2)
  |none=>none
 |none=>none
def bNil:xU:=fun env C=>some ([],env,C)
def bCons(f:FB)(g:xU):xU:=fun env C=>match f env C with
 |some (d,e1,C1)=>match g e1 C1 with
  |some (ds,e2,C2)=>some (d::ds,e2,C2)
  |none=>none
 |none=>none
theorem Res.arg{K:aH}{Z Θ:List aa}{env:En}{C:Ce}{σ:St}{H H':Hp}{r:Vl}{v:V}(h:Res K Z Θ env C σ H H' r v):Sm K Z Θ env C σ H'∧tV K (er (aQ Z Θ env σ) H') Θ (L2.still r) v:=by
 have g:=h.still;cases r with
 |im d=>exact g
 |ow d=>exact g
 |ce n=>exact g
 |sc ns=>exact g
theorem xx.same(s:bw E E')(t:bw T T')(h:xx E T ds vs):xx E' T' ds vs:=by
 induction h with
 |nil=>exact .nil
 |cons a _ ih=>exact .cons (a.same s t) ih
section
variable{X:Cx}{e:Expr}{es:List Expr}{pos:Pos}
theorem aU:PA X [] (vQ X.K aNil):=pY.weak fun σ H Q aJ=>by
 obtain⟨Z,Θ,env,C,xs,env',C',S,hf,q⟩:=aJ
 cases hf;exact q [] H (aP.refl _ _) (Fz.refl _) S .nil
theorem az{f:FE}{g:FA}(h:PE X e (tE X.K f))(hr:PA X es (vQ X.K g))(hs:aZ (e::es) X.env=(false,eval e X.env)::aZ es X.env:=by rfl):PA X (e::es) (vQ X.K (aCons f g)):=(oR h hr hs).weak fun σ H Q aJ=>by
 obtain⟨Z,Θ,env,C,xs,env',C',S,hf,q⟩:=aJ
 unfold aCons at hf;split at hf
 ·rename_i r e1 C1 h1;split at hf
  ·rename_i ys e2 C2 h2;cases hf
   refine⟨Z,Θ,env,C,r,e1,C1,S,h1,fun v H1 k1 f1 R1=>?_⟩
   obtain⟨S1,a1⟩:=R1.arg
   exact⟨Z,Θ,e1,C1,ys,env',C',S1,h2,fun vs H2 k2 f2 S2 a2=>q _ H2 (k1.trans k2) (f1.trans f2) S2 (.cons (a1.same (QV S1 k2 f2)) a2)⟩
  ·cases hf
 ·cases hf
theorem fJ:PA X [] (vP X.K bNil):=pY.weak fun σ H Q aJ=>by
 obtain⟨Z,Θ,env,C,xs,env',C',S,hf,q⟩:=aJ
 cases hf;exact q [] H (aP.refl _ _) (Fz.refl _) S .nil
theorem dz(h:PE X e (cX X.K f))(hr:PA X es (vP X.K g))(hs:aZ (e::es) X.env=(false,eval e X.env)::aZ es X.env:=by rfl):PA X (e::es) (vP X.K (bCons f g)):=(oR h hr hs).weak fun σ H Q aJ=>by
 obtain⟨Z,Θ,env,C,xs,env',C',S,hf,q⟩:=aJ
 unfold bCons at hf;split at hf
 ·rename_i d e1 C1 h1;split at hf
  ·rename_i ys e2 C2 h2;cases hf
   exact⟨Z,Θ,env,C,d,e1,C1,S,h1,fun v H1 k1 f1 S1 b1=>⟨Z,Θ,e1,C1,ys,env',C',S1,h2,fun vs H2 k2 f2 S2 b2=>q _ H2 (k1.trans k2) (f1.trans f2) S2 (.cons (b1.go S1 k2 f2) b2)⟩⟩
  ·cases hf
 ·cases hf
end
def allIm:List Vl→Option (List ao)
 |[]=>some []
 |.im d::r=>match allIm r with
  |some ds=>some (d::ds)
  |none=>none
 |_=>none
theorem Ny{K:aH}{E:Hp}{Θ:List aa}:∀{xs:List Vl}{ds:List ao}{vs:List V},allIm xs=some ds→oY K E Θ xs vs→cg E ds vs
 |[],ds,vs,h,a=>by cases h;cases a;rfl
 |.im d::r,ds,vs,h,a=>by
  unfold allIm at h;split at h
  ·rename_i t ht;cases h;cases a with
   |cons a1 a2=>exact⟨_,_,rfl,a1,Ny ht a2⟩
  ·cases h
 |.ow _::r,ds,vs,h,a=>by cases h
 |.ce _::r,ds,vs,h,a=>by cases h
 |.sc _::r,ds,vs,h,a=>by cases h
def fLst(g:FA):FE:=fun env C=>match g env C with
 |some (xs,e',C')=>match allIm xs with
  |some ds=>if ds.length≤LIM then some (.ow (.list ds),e',C') else none
  |none=>none
 |none=>none
def fTup(g:FA):FE:=fun env C=>match g env C with
 |some (xs,e',C')=>match allIm xs with
  |some ds=>if ds.length≤LIM then some (.im (.tuple ds),e',C') else none
  |none=>none
 |none=>none
section
variable{X:Cx}{e:Expr}{es:List Expr}{pos:Pos}
theorem gk{g:FA}(h:PA X es (vQ X.K g)):PE X (.List es pos) (tE X.K (fLst g)):=(ai0 h).weak fun σ H Q aJ=>by
 obtain⟨Z,Θ,env,C,r,env',C',S,hf,q⟩:=aJ
 unfold fLst at hf;split at hf
 ·rename_i xs e1 C1 h1;split at hf
  ·rename_i ds hd;split at hf
   ·rename_i hl;cases hf
    refine⟨Z,Θ,env,C,xs,env',C',S,h1,fun vs H1 k1 f1 S1 a1=>?_⟩
    have r:=Ny hd a1
    exact⟨by rw[gZ r];exact rB hl,fun p hp=>q _ _ (k1.trans (aP.upd hp)) f1 ((tO S1 r hp).from k1)⟩
   ·cases hf
  ·cases hf
 ·cases hf
theorem jY{x1}{g:FA}(h:PA X es (vQ X.K g)):PE X (.Tuple es x1 pos) (tE X.K (fTup g)):=(Zv h).weak fun σ H Q aJ=>by
 obtain⟨Z,Θ,env,C,r,env',C',S,hf,q⟩:=aJ
 unfold fTup at hf;split at hf
 ·rename_i xs e1 C1 h1;split at hf
  ·rename_i ds hd;split at hf
   ·rename_i hl;cases hf
    refine⟨Z,Θ,env,C,xs,env',C',S,h1,fun vs H1 k1 f1 S1 a1=>?_⟩
    have r:=Ny hd a1
    exact⟨by rw[gZ r];exact rB hl,fun p hp=>q _ _ (k1.trans (aP.upd hp)) f1 ((Hj S1 r hp).from k1)⟩
   ·cases hf
  ·cases hf
 ·cases hf
def Cj:FE:=fun env C=>some (.ow (.dict []),env,C)
theorem Xu:PE X (.Dict [] [] pos) (tE X.K Cj):=agu.weak fun σ H Q aJ=>by
 obtain⟨Z,Θ,env,C,r,env',C',S,hf,q⟩:=aJ
 cases hf;exact fun p hp=>q _ _ (aP.upd hp) (Fz.refl _) (ah3 (vs:=[]) S (fun _ z=>nomatch z) (.inl ⟨[],rfl,eN⟩) rfl hp)
end
def pG(K:aH)(r:List V→Hp→VK→Prop)(op:List ao→Option Vl):Prop:=
 ∀(Z Θ:List aa)(env:En)(C:Ce)(σ:St)(H:Hp)(xs:List V)(ds:List ao)(res:Vl),Sm K Z Θ env C σ H→Ij Z Θ env σ H ds xs→op ds=some res→
  ∀Q:VK,(∀v H',aP Θ H H'→Res K Z Θ env C σ H H' res v→Q v H')→r xs H Q
def fFun(op:List ao→Option Vl)(g:xU):FE:=fun env C=>match g env C with
 |some (ds,e',C')=>match op ds with
  |some r=>some (r,rst r env e',C')
  |none=>none
 |none=>none
theorem Xv{K:aH}{r:List V→Hp→VK→Prop}{op:List ao→Option Vl}(L:pG K r op){g:xU}:∀σ H Q,tE K (fFun op g) σ H Q→RC r (vP K g) σ H Q:=by
 rintro σ H Q ⟨Z,Θ,env,C,res,env',C',S,hf,q⟩;unfold fFun at hf;split at hf
 ·rename_i ds e1 C1 h1;split at hf
  ·rename_i r0 h2;cases hf
   refine⟨Z,Θ,env,C,ds,e1,C',S,h1,fun vs H1 k1 f1 S1 b1=>L Z Θ e1 C' σ H1 vs ds res S1 b1 h2 Q fun z H2 k2 R=>?_⟩
   exact q z H2 (k1.trans k2) (f1.rst res) ((R.from k1).rst S (k1.trans k2))
  ·cases hf
 ·cases hf
section
variable{X:Cx}{x:Str}{p pos:Pos}{e:Expr}{es:List Expr}{g:xU}{id T:String}{r:List V→Hp→VK→Prop}{op:List ao→Option Vl}
theorem iG(hc:jb X (.builtin id) r)(L:pG X.K r op)(hg:Gl X x)(hm:X.mg x=none)(hv:sY x=some (.builtin id))(ha:PA X (e::es) (vP X.K g))(hn:x≠"__name__":=by decide)(hdb:(x==("__debug__":Str))=false:=by decide)
  (he:aZ (e::es) X.env=(false,eval e X.env)::aZ es X.env:=by rfl)(hpl:(eO pos (aZ es X.env)).any (·.1)=false:=by rfl):PE X (.Call (.Name x p) (e::es) [] pos) (tE X.K (fFun op g)):=(Ng hc hg hm hv ha hn hdb he hpl).weak (Xv L)
theorem uN(hc:jb X (.type T) r)(L:pG X.K r op)(hg:Gl X x)(hm:X.mg x=none)(hv:sY x=some (.type T))(ha:PA X (e::es) (vP X.K g))(hn:x≠"__name__":=by decide)(hdb:(x==("__debug__":Str))=false:=by decide)
  (he:aZ (e::es) X.env=(false,eval e X.env)::aZ es X.env:=by rfl)(hpl:(eO pos (aZ es X.env)).any (·.1)=false:=by rfl):PE X (.Call (.Name x p) (e::es) [] pos) (tE X.K (fFun op g)):=(afv hc hg hm hv ha hn hdb he hpl).weak (Xv L)
end
abbrev FN:=List Vl→Ce→Option (Vl×Ce)
def spT(K:aH)(f:FN):Sp:=fun vs H Q _=>∃Z Θ C xs r C',Sm K Z Θ [] C [] H∧oY K (er (aQ Z Θ [] []) H) Θ xs vs∧f xs C=some (r,C')∧
 ∀v H',aP Θ H H'→Res K Z Θ [] C' [] H H' r v→Q v H'
def fCal(f:FN)(g:FA):FE:=fun env C=>match g env C with
 |some (xs,e',C1)=>match f xs C1 with
  |some (r,C2)=>some (r,rst r env e',C2)
  |none=>none
 |none=>none
theorem qb(h:∀a,a∈P↔a∈P'):er P H=er P' H:=by
 funext b;unfold er;by_cases hb:b∈P
 ·rw[if_pos hb,if_pos ((h b).mp hb)]
 ·rw[if_neg hb,if_neg (fun z=>hb ((h b).mpr z))]
theorem O9(a:aa):a∈aQ (Z++bC env σ) Θ [] []↔a∈aQ Z Θ env σ:=by
 simp only[aQ,bC,cL,j6];constructor
 ·rintro((h|h)|h)
  ·exact .inl h
  ·exact .inr (.inr h)
  ·exact .inr (.inl h)
 ·rintro(h|h|h)
  ·exact .inl (.inl h)
  ·exact .inr h
  ·exact .inl (.inr h)
section
variable{K:aH}{Z Θ:List aa}{env:En}{C C':Ce}{σ:St}{H H':Hp}{a:aa}
theorem Sm.xj(S:Sm K Z Θ env C σ H)(ha:H a=none)(k:aP Θ H H')(h':NT (H' a))(c:mY Θ C' H'):Sm K (a::Z) Θ env C' σ H':=by
 have sm:bw (er (aQ Z Θ env σ) H) (er (aQ (a::Z) Θ env σ) H'):=jO k S.pF fun b m=>by
  rcases bN.mp m with rfl|m
  ·exact .inr ha
  ·exact .inl m
 refine⟨S.len,jB.mpr ⟨fun m=>S.xu a m ha,S.nd⟩,fun b m=>?_,fun i x e=>?_,c⟩
 ·rcases bN.mp m with rfl|m
  ·exact h'
  ·obtain⟨u,e,n⟩:=S.dom b m
   exact⟨u,k.keep _ _ e fun z=>by
    have h:=S.nd;rw[jV] at h;exact h.2.2 b m b (gf _ z) rfl,n⟩
 ·obtain⟨v,e1,r⟩:=S.slot i x e
  refine⟨v,e1,r.same sm fun d b ex ev o' ho=>k.keep _ _ ho ?_⟩
  subst ex ev
  exact(S.lZ (j9.mpr ⟨i,d,e,e1⟩)).2
theorem Sm.bare(S:Sm K Z Θ env C σ H):Sm K (Z++bC env σ) Θ [] C [] H:=by
 refine⟨rfl,?_,fun b m=>?_,fun i x e=>by simp at e,S.cell⟩
 ·have h:=S.nd
  show((Z++bC env σ)++(Θ++[])).Nodup
  rw[j6,j4];have p:(Z++(Θ++bC env σ)).Perm (Z++(bC env σ++Θ)):=acv Z List.perm_append_comm;exact p.nodup h
 ·rcases cL.mp m with m|m
  ·exact S.dom b m
  ·exact S.Jt b (dF _ (dF _ m))
theorem Res.back(S:Sm K Z Θ env C σ H)(k:aP Θ H H')(h:Res K (Z++bC env σ) Θ [] C' [] H H' r v):Res K Z Θ env C' σ H H' r v:=by
 have e1:er (aQ (Z++bC env σ) Θ [] []) H'=er (aQ Z Θ env σ) H':=qb O9;cases r with
 |im d=>
  obtain⟨S',r⟩:=h
  rw[e1] at r
  exact⟨S.go k S'.cell,r⟩
 |ow d=>
  obtain⟨a,rfl,hn,S',r⟩:=h
  have e2:er (aQ (a::(Z++bC env σ)) Θ [] []) H'=er (aQ (a::Z) Θ env σ) H':=qb fun b=>by
   show b∈a::aQ (Z++bC env σ) Θ [] []↔b∈a::aQ Z Θ env σ;rw[bN,bN,O9]
  rw[e2] at r
  exact⟨a,rfl,hn,S.xj hn k (S'.dom a dR) S'.cell,r⟩
 |ce n=>exact⟨S.go k h.1.cell,h.2⟩
 |sc ns=>
  obtain⟨S',a,rfl,q⟩:=h
  rw[e1] at q
  exact⟨S.go k S'.cell,a,rfl,q⟩
end
section
variable{X:Cx}{x:Str}{k:Nat}{ps:List Str}{p pos:Pos}{e:Expr}{es:List Expr}{f:FN}{g:FA}
theorem agN{K:aH}:∀σ H Q,tE K (fCal f g) σ H Q→QL (spT K f) [] E0 (vQ K g) σ H Q:=by
 rintro σ H Q ⟨Z,Θ,env,C,res,env',C',S,hf,q⟩;unfold fCal at hf;split at hf
 ·rename_i xs e1 C1 h1;split at hf
  ·rename_i r C2 h2;cases hf
   refine⟨Z,Θ,env,C,xs,e1,C1,S,h1,fun vs H1 k1 f1 S1 a1=>?_⟩
   show spT K f (vs++[]) H1 Q E0;rw[j6];have e2:er (aQ (Z++bC e1 σ) Θ [] []) H1=er (aQ Z Θ e1 σ) H1:=qb O9;rw[←e2] at a1
   exact⟨Z++bC e1 σ,Θ,C1,xs,res,C',S1.bare,a1,h2,fun v H2 k2 R=>q v H2 (k1.trans k2) (f1.rst res) (((R.back S1 k2).from k1).rst S (k1.trans k2))⟩
  ·cases hf
 ·cases hf
theorem bJ(F:dN X.prog X.w X.K X.mg X.base x k ps (spT X.K f))(hr:gG k X.A)(hg:Gl X x)(ha:PA X (e::es) (vQ X.K g))(hdb:(x==("__debug__":Str))=false:=by decide)
  (he:aZ (e::es) X.env=(false,eval e X.env)::aZ es X.env:=by rfl)(hpl:(eO pos (aZ es X.env)).any (·.1)=false:=by rfl):PE X (.Call (.Name x p) (e::es) [] pos) (tE X.K (fCal f g)):=(aks F hr hg ha hdb he hpl).weak agN
end
theorem MK:∀{env:En}{σ:St},(∀(i j:Nat)(d e:ao)(a:aa),env[i]?=some (some (Vl.ow d))→σ[i]?=some (some (V.ref a))→env[j]?=some (some (Vl.ow e))→σ[j]?=some (some (V.ref a))→i=j)→(bC env σ).Nodup
 |[],σ,_=>by cases σ<;>exact oF
 |_::_,[],_=>oF
 |x::en,v::s,h=>by
  rw[bC,jV]
  refine⟨?_,MK fun i j d e a h1 h2 h3 h4=>?_,fun a ha b hb e=>?_⟩
  ·unfold own1;split
   ·exact jB.mpr ⟨by simp,oF⟩
   ·exact oF
  ·have:=h (i+1) (j+1) d e a (by simpa using h1) (by simpa using h2) (by simpa using h3) (by simpa using h4);omega
  ·subst e;unfold own1 at ha;split at ha
   ·rw[jn] at ha;subst ha
    obtain⟨j,d,h1,h2⟩:=j9.mp hb
    have:=h 0 (j+1) _ d a rfl rfl (by simpa using h1) (by simpa using h2);omega
   ·simp at ha
theorem get_set{α:Type}{l:List α}{i j:Nat}{x y:α}(h:(l.set i x)[j]?=some y):(j=i∧y=x∧i<l.length)∨(j≠i∧l[j]?=some y):=by
 by_cases e:i=j
 ·subst e;rw[Ac,if_pos rfl] at h;split at h
  ·rename_i hl;cases h;exact .inl ⟨rfl,rfl,hl⟩
  ·cases h
 ·rw[uy e] at h;exact .inr ⟨fun z=>e z.symm,h⟩
theorem YS{α:Type}{l:List α}{i:Nat}{x:α}(h:i<l.length):(l.set i x)[i]?=some x:=by
 rw[Ac,if_pos rfl,if_pos h]
theorem uU{env:En}{σ:St}{i:Nat}{x:Vl}{v:V}{a:aa}(h:a∈bC (env.set i (some x)) (σ.set i (some v))):a∈bC env σ∨(∃d,x=.ow d)∧v=.ref a:=by
 obtain⟨j,d,h1,h2⟩:=j9.mp h
 rcases get_set h1 with⟨rfl,e,_⟩|⟨n,h1⟩
 ·rcases get_set h2 with⟨_,e2,_⟩|⟨n,_⟩
  ·cases e;cases e2;exact .inr ⟨⟨d,rfl⟩,rfl⟩
  ·exact absurd rfl n
 ·rcases get_set h2 with⟨e,_,_⟩|⟨_,h2⟩
  ·exact absurd e n
  ·exact .inl (j9.mpr ⟨j,d,h1,h2⟩)
section
variable{K:aH}{Z Θ:List aa}{env:En}{C:Ce}{σ:St}{H:Hp}{a:aa}{i:Nat}{v:V}
theorem Sm.cT(S:Sm K Z Θ env C σ H):Z.Nodup∧Θ.Nodup∧(bC env σ).Nodup∧(∀b∈Z,b∉Θ):=by
 have h:=S.nd;rw[jV,jV] at h
 obtain⟨h1,⟨h2,h3,_⟩,h4⟩:=h
 exact⟨h1,h2,h3,fun b m m'=>h4 b m b (gf _ m') rfl⟩
theorem xW(h1:Z.Nodup)(h2:Θ.Nodup)(h3:O.Nodup)(h4:∀b∈Z,b∉Θ)(h5:∀b∈O,b∉Z∧b∉Θ):(Z++(Θ++O)).Nodup:=by
 rw[jV,jV]
 refine⟨h1,⟨h2,h3,fun b m c m' e=>?_⟩,fun b m c m' e=>?_⟩
 ·subst e;exact(h5 b m').2 m
 ·subst e;rcases cL.mp m' with m'|m'
  ·exact h4 b m m'
  ·exact(h5 b m').1 m
theorem Sm.xF(S:Sm K Z Θ env C σ H){x:Vl}(hx:∀d,x≠.ow d)(r:zO K (er (aQ Z Θ env σ) H) H Θ x v):Sm K Z Θ (env.set i (some x)) C (σ.set i (some v)) H:=by
 have sub:∀b,b∈bC (env.set i (some x)) (σ.set i (some v))→b∈bC env σ:=fun b m=>by
  rcases uU m with m|⟨⟨d,e⟩,_⟩
  ·exact m
  ·exact absurd e (hx d)
 have cT:=S.cT;have sm:bw (er (aQ Z Θ env σ) H) (er (aQ Z Θ (env.set i (some x)) (σ.set i (some v))) H):=rG fun b m=>by
  rcases cL.mp m with m|m
  ·exact gf _ m
  ·rcases cL.mp m with m|m
   ·exact dF _ (gf _ m)
   ·exact dF _ (dF _ (sub b m))
 refine⟨by rw[uD,uD];exact S.len,?_,S.dom,fun j y e=>?_,S.cell⟩
 ·refine xW cT.1 cT.2.1 (MK fun p q d e b h1 h2 h3 h4=>?_) cT.2.2.2 fun b m=>S.lZ (sub b m)
  rcases get_set h1 with⟨rfl,e1,_⟩|⟨n1,h1⟩
  ·cases e1;exact absurd rfl (hx d)
  ·rcases get_set h3 with⟨rfl,e1,_⟩|⟨n2,h3⟩
   ·cases e1;exact absurd rfl (hx e)
   ·rcases get_set h2 with⟨e2,_,_⟩|⟨_,h2⟩
    ·exact absurd e2 n1
    ·rcases get_set h4 with⟨e4,_,_⟩|⟨_,h4⟩
     ·exact absurd e4 n2
     ·exact Bs cT.2.2.1 h1 h2 h3 h4
 ·rcases get_set e with⟨rfl,e1,hl⟩|⟨n,e⟩
  ·cases e1
   exact⟨v,YS (by rw[S.len];exact hl),r.same sm fun d b ex _=>absurd ex (hx d)⟩
  ·obtain⟨u,e1,r1⟩:=S.slot j y e
   exact⟨u,by rw[uy (jC n)];exact e1,r1.same sm fun _ _ _ _ _ h=>h⟩
theorem Sm.aa1(S:Sm K (a::Z) Θ env C σ H){d:ao}(r:jE (er (aQ (a::Z) Θ env σ) H) H a d):Sm K Z Θ (env.set i (some (.ow d))) C (σ.set i (some (.ref a))) H:=by
 have sub:∀b,b∈bC (env.set i (some (.ow d))) (σ.set i (some (.ref a)))→b∈bC env σ∨b=a:=fun b m=>by
  rcases uU m with m|⟨_,e⟩
  ·exact .inl m
  ·cases e;exact .inr rfl
 have cT:=S.cT;have Dw:=jB.mp cT.1;have sm:bw (er (aQ (a::Z) Θ env σ) H) (er (aQ Z Θ (env.set i (some (.ow d))) (σ.set i (some (.ref a)))) H):=rG fun b m=>by
  rcases cL.mp m with m|m
  ·exact gf _ (eZ _ m)
  ·rcases cL.mp m with m|m
   ·exact dF _ (gf _ m)
   ·rcases sub b m with m|rfl
    ·exact dF _ (dF _ m)
    ·exact gf _ dR
 have aa2:a∉bC env σ:=fun m=>(S.lZ m).1 dR
 refine⟨by rw[uD,uD];exact S.len,?_,fun b m=>S.dom b (eZ _ m),fun j y e=>?_,S.cell⟩
 ·refine xW Dw.2 cT.2.1 (MK fun p q d1 e b h1 h2 h3 h4=>?_) (fun b m=>cT.2.2.2 b (eZ _ m)) fun b m=>?_
  ·rcases get_set h1 with⟨rfl,e1,_⟩|⟨n1,h1⟩
   ·rcases get_set h3 with⟨e3,_,_⟩|⟨n2,h3⟩
    ·exact e3.symm
    ·rcases get_set h2 with⟨_,e2,_⟩|⟨n,_⟩
     ·cases e2;rcases get_set h4 with⟨e4,_,_⟩|⟨_,h4⟩
      ·exact e4.symm
      ·exact absurd (j9.mpr ⟨q,e,h3,h4⟩) aa2
     ·exact absurd rfl n
   ·rcases get_set h2 with⟨e2,_,_⟩|⟨_,h2'⟩
    ·exact absurd e2 n1
    ·have mp:=j9.mpr ⟨p,d1,h1,h2'⟩;rcases get_set h3 with⟨rfl,e3,_⟩|⟨n2,h3⟩
     ·rcases get_set h4 with⟨_,e4,_⟩|⟨n,_⟩
      ·cases e4;exact absurd mp aa2
      ·exact absurd rfl n
     ·rcases get_set h4 with⟨e4,_,_⟩|⟨_,h4⟩
      ·exact absurd e4 n2
      ·exact Bs cT.2.2.1 h1 h2' h3 h4
  ·rcases sub b m with m|rfl
   ·obtain⟨p,q⟩:=S.lZ m
    exact⟨fun z=>p (eZ _ z),q⟩
   ·exact⟨Dw.1,cT.2.2.2 b dR⟩
 ·rcases get_set e with⟨rfl,e1,hl⟩|⟨n,e⟩
  ·cases e1
   exact⟨_,YS (by rw[S.len];exact hl),a,rfl,r.same sm fun _ h=>h⟩
  ·obtain⟨u,e1,r1⟩:=S.slot j y e
   exact⟨u,by rw[uy (jC n)];exact e1,r1.same sm fun _ _ _ _ _ h=>h⟩
theorem Res.set(h:Res K Z Θ env C σ H0 H r v):Sm K Z Θ (env.set i (some r)) C (σ.set i (some v)) H:=by
 cases r with
 |im d=>exact h.1.xF (fun _ e=>nomatch e) h.2
 |ow d=>obtain⟨a,rfl,_,S,r⟩:=h;exact S.aa1 r
 |ce n=>exact h.1.xF (fun _ e=>nomatch e) h.2
 |sc ns=>exact h.1.xF (fun _ e=>nomatch e) h.2
end
inductive Fl where
 |nx|rt (r:Vl)|bk|ct
abbrev FS:=En→Ce→Option (Fl×En×Ce)
structure jy(Θ Θ':List aa)(H:Hp):Prop where
 ex:∃Δ,Θ'=Θ++Δ∧∀a∈Δ,H a=none
theorem jy.refl(Θ:List aa)(H:Hp):jy Θ Θ H:=⟨[],by rw[j6],fun _ m=>nomatch m⟩
structure cY(K:aH)(Z Θ:List aa)(env:En)(σ:St)(H:Hp)(Θ':List aa)(env':En)(C':Ce)(σ':St)(H':Hp):Prop where
 th:jy Θ Θ' H
 kp:aP (Θ++bC env σ) H H'
 own:∀a∈bC env' σ',a∈bC env σ∨H a=none
 sm:Sm K Z Θ' env' C' σ' H'
def Im(K:aH)(Z Θ:List aa)(C:Ce)(own:List aa)(H H':Hp):Vl→V→Prop
 |.im d,v=>Sm K Z Θ [] C [] H'∧RZ (er (aQ Z Θ [] []) H') d v
 |.ow d,v=>∃a,v=.ref a∧(a∈own∨H a=none)∧Sm K (a::Z) Θ [] C [] H'∧jE (er (aQ (a::Z) Θ [] []) H') H' a d
 |.ce n,v=>Sm K Z Θ [] C [] H'∧∃a,v=.ref a∧Θ[n]?=some a
 |.sc ns,v=>Sm K Z Θ [] C [] H'∧∃a,v=.ref a∧bO K (er (aQ Z Θ [] []) H') a (ns.map V.int)
structure RT(K:aH)(Z Θ:List aa)(env:En)(σ:St)(H:Hp)(Θ':List aa)(C':Ce)(r:Vl)(v:V)(H':Hp):Prop where
 th:jy Θ Θ' H
 kp:aP (Θ++bC env σ) H H'
 ok:Im K Z Θ' C' (bC env σ) H H' r v
def I9(K:aH)(Z Θ:List aa)(env:En)(σ:St)(H:Hp)(env':En)(C':Ce)(D:Ends):Fl→Prop
 |.nx=>∀Θ' σ' H',cY K Z Θ env σ H Θ' env' C' σ' H'→D.nx σ' H'
 |.bk=>∀Θ' σ' H',cY K Z Θ env σ H Θ' env' C' σ' H'→D.bk σ' H'
 |.ct=>∀Θ' σ' H',cY K Z Θ env σ H Θ' env' C' σ' H'→D.ct σ' H'
 |.rt r=>∀Θ' v H',RT K Z Θ env σ H Θ' C' r v H'→D.rt v H'
inductive tS(K:aH)(f:FS)(D:Ends)(σ:St)(H:Hp):Prop
 |mk (Z Θ:List aa) (env:En) (C:Ce) (fl:Fl) (env':En) (C':Ce) (S:Sm K Z Θ env C σ H) (hf:f env C=some (fl,env',C')) (q:I9 K Z Θ env σ H env' C' D fl):tS K f D σ H
section
variable{K:aH}{Z Θ Θ1 Θ2:List aa}{env e1 e2:En}{C C1 C2:Ce}{σ σ1 σ2:St}{H H1 H2:Hp}
theorem jy.trans(h:jy Θ Θ1 H)(k:∀a,H a≠none→H1 a≠none)(g:jy Θ1 Θ2 H1):jy Θ Θ2 H:=by
 obtain⟨Δ,e,n⟩:=h.ex
 obtain⟨Δ',e',n'⟩:=g.ex
 refine⟨Δ++Δ',by rw[e',e,j4],fun a m=>?_⟩
 rcases cL.mp m with m|m
 ·exact n a m
 ·cases h:H a with
  |none=>rfl
  |some o=>exact absurd (n' a m) (k a (by rw[h];exact uC _))
theorem Xw(th:jy Θ Θ1 H)(k1:aP (Θ++bC env σ) H H1)(ow:∀a∈bC e1 σ1,a∈bC env σ∨H a=none)(k2:aP (Θ1++bC e1 σ1) H1 H2):aP (Θ++bC env σ) H H2:=by
 refine⟨fun a o e n=>k2.keep a o (k1.keep a o e n) fun m=>n ?_,fun a e=>k2.dom a (k1.dom a e)⟩
 have hn:H a≠none:=by rw[e];exact uC _
 rcases cL.mp m with m|m
 ·obtain⟨Δ,e',n'⟩:=th.ex
  rw[e'] at m;rcases cL.mp m with m|m
  ·exact gf _ m
  ·exact absurd (n' a m) hn
 ·rcases ow a m with m|m
  ·exact dF _ m
  ·exact absurd m hn
theorem cY.trans(p:cY K Z Θ env σ H Θ1 e1 C1 σ1 H1)(q:cY K Z Θ1 e1 σ1 H1 Θ2 e2 C2 σ2 H2):cY K Z Θ env σ H Θ2 e2 C2 σ2 H2 where
 th:=p.th.trans p.kp.dom q.th
 kp:=Xw p.th p.kp p.own q.kp
 own:=fun a m=>by
  rcases q.own a m with m|m
  ·exact p.own a m
  ·exact .inr (p.kp.none m)
 sm:=q.sm
theorem cY.ret(p:cY K Z Θ env σ H Θ1 e1 C1 σ1 H1)(q:RT K Z Θ1 e1 σ1 H1 Θ2 C2 r v H2):RT K Z Θ env σ H Θ2 C2 r v H2 where
 th:=p.th.trans p.kp.dom q.th
 kp:=Xw p.th p.kp p.own q.kp
 ok:=by
  have h:=q.ok;cases r with
  |im d=>exact h
  |ow d=>
   obtain⟨a,e,m,S,r⟩:=h
   refine⟨a,e,?_,S,r⟩
   rcases m with m|m
   ·exact p.own a m
   ·exact .inr (p.kp.none m)
  |ce n=>exact h
  |sc ns=>exact h
theorem I9.trans(p:cY K Z Θ env σ H Θ1 e1 C1 σ1 H1)(h:I9 K Z Θ env σ H e2 C2 D fl):I9 K Z Θ1 e1 σ1 H1 e2 C2 D fl:=by
 cases fl with
 |nx=>exact fun Θ' σ' H' q=>h Θ' σ' H' (p.trans q)
 |bk=>exact fun Θ' σ' H' q=>h Θ' σ' H' (p.trans q)
 |ct=>exact fun Θ' σ' H' q=>h Θ' σ' H' (p.trans q)
 |rt r=>exact fun Θ' v H' q=>h Θ' v H' (p.ret q)
theorem tQ(k:aP Θ H H1):aP (Θ++O) H H1:=⟨fun a o e n=>k.keep a o e fun m=>n (gf _ m),k.dom⟩
theorem cY.pH(k:aP Θ H H1)(f:Fz env e1)(S:Sm K Z Θ e1 C1 σ H1):cY K Z Θ env σ H Θ e1 C1 σ H1:=
 ⟨jy.refl _ _,tQ k,fun a m=>.inl (f.own.subset m),S⟩
end
def fNext:FS:=fun env C=>some (.nx,env,C)
def fSeq(f g:FS):FS:=fun env C=>match f env C with
 |some (.nx,e1,C1)=>g e1 C1
 |r=>r
def jk(c:FT)(f g:FS):FS:=fun env C=>match c env C with
 |some (true,C1)=>f env C1
 |some (false,C1)=>g env C1
 |none=>none
def fRet(f:FE):FS:=fun env C=>match f env C with
 |some (r,e1,C1)=>some (.rt r,e1,C1)
 |none=>none
def fRetV(i:Nat):FS:=fun env C=>match env[i]? with
 |some (some x)=>some (.rt x,env,C)
 |_=>none
def fSet(i:Nat)(f:FE):FS:=fun env C=>match f env C with
 |some (r,e1,C1)=>some (.nx,e1.set i (some r),C1)
 |none=>none
section
variable{X:Cx}{st:cP}{rest:List cP}{pos:Pos}
theorem cY.same{K:aH}{Z Θ:List aa}{env:En}{C:Ce}{σ:St}{H:Hp}(S:Sm K Z Θ env C σ H):cY K Z Θ env σ H Θ env C σ H:=cY.pH (aP.refl _ _) (Fz.refl _) S
theorem mj:ir X [] (tS X.K fNext):=ahx.weak fun D σ H aJ=>by
 obtain⟨Z,Θ,env,C,fl,env',C',S,hf,q⟩:=aJ
 cases hf;exact q Θ σ H (cY.same S)
theorem cj(h:PS X st (tS X.K f)):ir X [st] (tS X.K f):=ahy h
theorem agO{K:aH}{f g:FS}:∀D σ H,tS K (fSeq f g) D σ H→aaG (tS K f) (tS K g) D σ H:=by
 rintro D σ H ⟨Z,Θ,env,C,fl,env',C',S,hf,q⟩;unfold fSeq at hf;split at hf
 ·rename_i e1 C1 h1
  exact⟨Z,Θ,env,C,.nx,e1,C1,S,h1,fun Θ1 σ1 H1 p=>⟨Z,Θ1,e1,C1,fl,env',C',p.sm,hf,q.trans p⟩⟩
 ·rename_i hne
  refine⟨Z,Θ,env,C,fl,env',C',S,hf,?_⟩
  cases fl with
  |nx=>exact absurd hf (hne _ _)
  |bk=>exact q
  |ct=>exact q
  |rt r=>exact q
theorem bD(h:PS X st (tS X.K f))(hr:ir X rest (tS X.K g)):ir X (st::rest) (tS X.K (fSeq f g)):=(agl h hr).weak agO
theorem mD(hc:PT X c (dZ X.K t))(ha:ir X a (tS X.K f))(hb:ir X b (tS X.K g)):PS X (.If c a b pos) (tS X.K (jk t f g)):=(aka hc ha hb).weak fun D σ H aJ=>by
 obtain⟨Z,Θ,env,C,fl,env',C',S,hf,q⟩:=aJ
 unfold jk at hf;split at hf
 ·rename_i C1 h1
  exact⟨Z,Θ,env,C,true,C1,S,h1,fun H1 k1 S1=>vz ⟨Z,Θ,env,C1,fl,env',C',S1,hf,q.trans (cY.pH k1 (Fz.refl _) S1)⟩⟩
 ·rename_i C1 h1
  exact⟨Z,Θ,env,C,false,C1,S,h1,fun H1 k1 S1=>vq ⟨Z,Θ,env,C1,fl,env',C',S1,hf,q.trans (cY.pH k1 (Fz.refl _) S1)⟩⟩
 ·cases hf
theorem Sm.none{K:aH}{Z Θ:List aa}{env:En}{C:Ce}{σ:St}{H:Hp}(S:Sm K Z Θ env C σ H):Sm K Z Θ [] C [] H:=by
 have cT:=S.cT
 exact⟨rfl,xW cT.1 cT.2.1 oF cT.2.2.2 (fun _ m=>nomatch m),S.dom,fun i x e=>by simp at e,S.cell⟩
theorem Bg:bw (er (aQ Z Θ env σ) H) (er (aQ Z Θ [] []) H):=rG fun b m=>by
 rcases cL.mp m with m|m
 ·exact gf _ m
 ·rcases cL.mp m with m|m
  ·exact dF _ (gf _ m)
  ·nomatch m
theorem Res.ret{K:aH}{Z Θ:List aa}{env:En}{C:Ce}{σ:St}{H H':Hp}{O:List aa}{r:Vl}{v:V}(h:Res K Z Θ env C σ H H' r v):Im K Z Θ C O H H' r v:=by
 cases r with
 |im d=>exact⟨h.1.none,h.2.same Bg⟩
 |ow d=>obtain⟨a,e,n,S,r⟩:=h;exact⟨a,e,.inr n,S.none,r.same Bg fun _ h=>h⟩
 |ce n=>exact⟨h.1.none,h.2⟩
 |sc ns=>obtain⟨S,a,e,q⟩:=h;exact⟨S.none,a,e,Bg.seq q⟩
theorem iI(h:PE X e (tE X.K f)):PS X (.Return (some e) pos) (tS X.K (fRet f)):=(Zq h).weak fun D σ H aJ=>by
 obtain⟨Z,Θ,env,C,fl,env',C',S,hf,q⟩:=aJ
 unfold fRet at hf;split at hf
 ·rename_i r e1 C1 h1;cases hf
  exact⟨Z,Θ,env,C,r,env',C',S,h1,fun v H1 k f R=>q Θ v H1 ⟨jy.refl _ _,tQ k,R.ret⟩⟩
 ·cases hf
theorem oU(h:PE X e (nW i)):PS X (.Return (some e) pos) (tS X.K (fRetV i)):=(Zq h).weak fun D σ H aJ=>by
 obtain⟨Z,Θ,env,C,fl,env',C',S,hf,q⟩:=aJ
 unfold fRetV at hf;split at hf
 ·rename_i x hx;cases hf
  obtain⟨v,e1,r⟩:=S.slot i x hx
  refine⟨v,e1,q Θ v H ⟨jy.refl _ _,aP.refl _ _,?_⟩⟩
  cases x with
  |im d=>exact⟨S.none,RZ.same Bg r⟩
  |ow d=>
   obtain⟨a,rfl,r⟩:=r
   have m:a∈bC env σ:=j9.mpr ⟨i,d,hx,e1⟩;have sm:bw (er (aQ Z Θ env σ) H) (er (aQ (a::Z) Θ [] []) H):=rG fun b mb=>by
    rcases cL.mp mb with mb|mb
    ·rcases bN.mp mb with rfl|mb
     ·exact dF _ (dF _ m)
     ·exact gf _ mb
    ·rcases cL.mp mb with mb|mb
     ·exact dF _ (gf _ mb)
     ·nomatch mb
   have cT:=S.cT
   refine⟨a,rfl,.inl m,⟨rfl,xW (jB.mpr ⟨(S.lZ m).1,cT.1⟩) cT.2.1 oF (fun b mb=>?_) (fun _ m=>nomatch m),fun b mb=>?_,fun i x e=>by simp at e,S.cell⟩,r.same sm fun _ h=>h⟩
   ·rcases bN.mp mb with rfl|mb
    ·exact(S.lZ m).2
    ·exact cT.2.2.2 b mb
   ·rcases bN.mp mb with rfl|mb
    ·exact r.nt
    ·exact S.dom b mb
  |ce n=>exact⟨S.none,r⟩
  |sc ns=>obtain⟨a,e,q⟩:=r;exact⟨S.none,a,e,Bg.seq q⟩
 ·cases hf
theorem Nz{K:aH}{i:Nat}{t:TE}{f:FE}(w:∀σ H Q,tE K f σ H Q→t σ H Q):∀D σ H,tS K (fSet i f) D σ H→zM t (uY i) D σ H:=by
 rintro D σ H ⟨Z,Θ,env,C,fl,env',C',S,hf,q⟩;unfold fSet at hf;split at hf
 ·rename_i r e1 C1 h1;cases hf;refine w _ _ _ ⟨Z,Θ,env,C,r,e1,C',S,h1,fun v H1 k f R=>q Θ _ H1 ⟨jy.refl _ _,tQ k,fun a m=>?_,R.set⟩⟩;rcases uU m with m|⟨⟨d,e⟩,e2⟩
  ·exact .inl (f.own.subset m)
  ·subst e
   obtain⟨b,e3,n,_⟩:=R
   rw[e2] at e3;cases e3;exact .inr n
 ·cases hf
theorem dX(hN:X.N.Nodup)(hi:X.N[i]?=some x)(hx:Loc X.env.scope x)(he:PE X e (tE X.K f))(hs:rm e (some (.Name x pos')) pos.line X.env=pure false:=by rfl)(hf:X.fn x=true∨X.env.scope.names.lookup x=some .local:=by first|exact .inl rfl|exact .inr rfl|assumption):
  PS X (.Assign [.Name x pos'] e pos) (tS X.K (fSet i f)):=(Zr hN hi hx he hs hf).weak (Nz fun _ _ _ h=>h)
end
abbrev FG:=ao→En→Option En
abbrev Dy:=List ao→En→Option En
def zX(K:aH)(g:TG)(fg:FG):Prop:=∀(Z Θ:List aa)(env:En)(C:Ce)(σ:St)(H:Hp)(v:V)(d:ao)(env':En),Sm K Z Θ env C σ H→RZ (er (aQ Z Θ env σ) H) d v→fg d env=some env'→
 ∀Q:St→Hp→Prop,(∀σ',Sm K Z Θ env' C σ' H→(∀a∈bC env' σ',a∈bC env σ)→Q σ' H)→g v σ H Q
def Ja(K:aH)(g:uq)(fg:Dy):Prop:=∀(Z Θ:List aa)(env:En)(C:Ce)(σ:St)(H:Hp)(vs:List V)(ds:List ao)(env':En),Sm K Z Θ env C σ H→cg (er (aQ Z Θ env σ) H) ds vs→fg ds env=some env'→
 ∀Q:St→Hp→Prop,(∀σ',Sm K Z Θ env' C σ' H→(∀a∈bC env' σ',a∈bC env σ)→Q σ' H)→g vs σ H Q
def gNm(i:Nat):FG:=fun d env=>some (env.set i (some (.im d)))
def gsNil:Dy:=fun ds env=>match ds with
 |[]=>some env
 |_=>none
def gsCons(g:FG)(u:Dy):Dy:=fun ds env=>match ds with
 |d::r=>match g d env with
  |some e1=>u r e1
  |none=>none
 |[]=>none
def gTp(n:Nat)(u:Dy):FG:=fun d env=>match d with
 |.tuple ds=>if ds.length=n then u ds env else none
 |_=>none
theorem ZR(h:∀a∈bC e1 σ1,a∈bC env σ):bw (er (aQ Z Θ env σ) H) (er (aQ Z Θ e1 σ1) H):=rG fun b m=>by
 rcases cL.mp m with m|m
 ·exact gf _ m
 ·rcases cL.mp m with m|m
  ·exact dF _ (gf _ m)
  ·exact dF _ (dF _ (h b m))
section
variable{K:aH}
theorem ji:zX K (uY i) (gNm i):=by
 intro Z Θ env C σ H v d env' S r e Q q;cases e;refine q _ (S.xF (fun _ z=>nomatch z) r) fun a m=>?_
 rcases uU m with m|⟨⟨_,z⟩,_⟩
 ·exact m
 ·cases z
theorem Ho:Ja K Q9 gsNil:=by
 intro Z Θ env C σ H vs ds env' S r e Q q;unfold gsNil at e;split at e
 ·cases e
  exact⟨r,q _ S fun _ m=>m⟩
 ·cases e
theorem pR(h:zX K g fg)(hu:Ja K u fu):Ja K (QH g u) (gsCons fg fu):=by
 intro Z Θ env C σ H vs ds env' S r e Q q;unfold gsCons at e;split at e
 ·rename_i d r'
  obtain⟨v,ws,rfl,r1,r2⟩:=r
  split at e
  ·rename_i e1 h1
   refine⟨v,ws,rfl,h Z Θ env C σ H v d e1 S r1 h1 _ fun σ1 S1 o1=>?_⟩
   exact hu Z Θ e1 C σ1 H ws r' env' S1 (r2.same (ZR o1)) e Q fun σ2 S2 o2=>q σ2 S2 fun a m=>o1 a (o2 a m)
  ·cases e
 ·cases e
theorem HX(hu:Ja K u fu):zX K (Ra K n u) (gTp n fu):=by
 intro Z Θ env C σ H v d env' S r e Q q;unfold gTp at e;split at e
 ·rename_i ds;split at e
  ·rename_i hl
   obtain⟨a,vs,rfl,ha,r⟩:=r
   exact⟨a,vs,rfl,cI.of (jh ha),(gZ r).trans hl,hu Z Θ env C σ H vs ds env' S r e Q q⟩
  ·cases e
 ·cases e
end
def fUnp(f:FE)(g:FG):FS:=fun env C=>match f env C with
 |some (r,e1,C1)=>match still r with
  |.im d=>match g d e1 with
   |some e2=>some (.nx,e2,C1)
   |none=>none
  |_=>none
 |none=>none
theorem Res.rP{K:aH}{Z Θ:List aa}{env:En}{C:Ce}{σ:St}{H H':Hp}{r:Vl}{v:V}{d:ao}(h:Res K Z Θ env C σ H H' r v)(e:L2.still r=.im d):Sm K Z Θ env C σ H'∧RZ (er (aQ Z Θ env σ) H') d v:=by
 have g:=h.still;rw[e] at g;exact g
section
variable{X:Cx}{pos:Pos}
theorem Qm{tg e:Expr}{f:FE}{g:TG}{fg:FG}(he:PE X e (tE X.K f))(hg:PG X tg g)(L:zX X.K g fg)(hs:wz [tg] e pos.line X.env=pure false:=by rfl)(hw:wA [tg] e X.env=pure none:=by rfl)(h1:(qZ [tg] X.env).map (·.2)=[assign tg X.env]:=by rfl):
  PS X (.Assign [tg] e pos) (tS X.K (fUnp f fg)):=(Qc he hg hs hw h1).weak fun D σ H aJ=>by
 obtain⟨Z,Θ,env,C,fl,env',C',S,hf,q⟩:=aJ
 unfold fUnp at hf;split at hf
 ·rename_i r e1 C1 h1;split at hf
  ·rename_i d hd;split at hf
   ·rename_i e2 h2;cases hf
    refine⟨Z,Θ,env,C,r,e1,C',S,h1,fun v H1 k f R=>?_⟩
    obtain⟨S1,r1⟩:=R.rP hd
    exact L Z Θ e1 C' σ H1 v d env' S1 r1 h2 D.nx fun σ' S' o=>q Θ σ' H1 ⟨jy.refl _ _,tQ k,fun a m=>.inl (f.own.subset (o a m)),S'⟩
   ·cases hf
  ·cases hf
 ·cases hf
end
inductive mF(K:aH)(E H:Hp)(Θ:List aa):List aa→List Vl→List V→Prop
 |nil:mF K E H Θ [] [] []
 |cons {as:List aa} {x:Vl} {v:V} {xs:List Vl} {vs:List V}:tV K E Θ x v→mF K E H Θ as xs vs→mF K E H Θ as (x::xs) (v::vs)
 |own {as:List aa} {a:aa} {d:ao} {xs:List Vl} {vs:List V}:jE E H a d→mF K E H Θ as xs vs→mF K E H Θ (as++[a]) (.ow d::xs) (.ref a::vs)
theorem mF.same{K:aH}{E E' H:Hp}{Θ as:List aa}{xs:List Vl}{vs:List V}(s:bw E E')(h:mF K E H Θ as xs vs):mF K E' H Θ as xs vs:=by
 induction h with
 |nil=>exact .nil
 |cons a _ ih=>exact .cons (a.same s) ih
 |own r _ ih=>exact .own (r.same s fun _ h=>h) ih
theorem mF.heap{K:aH}{E H H':Hp}{Θ as:List aa}{xs:List Vl}{vs:List V}(s:bw H H')(h:mF K E H Θ as xs vs):mF K E H' Θ as xs vs:=by
 induction h with
 |nil=>exact .nil
 |cons a _ ih=>exact .cons a ih
 |own r _ ih=>exact .own (r.same (bw.refl _) fun o ho=>s _ _ ho) ih
inductive vR(K:aH)(f:FA)(σ:St)(H:Hp)(Q:List V→Hp→Prop):Prop
 |mk (Z Θ:List aa) (env:En) (C:Ce) (xs:List Vl) (env':En) (C':Ce) (S:Sm K Z Θ env C σ H) (hf:f env C=some (xs,env',C')) (q:∀vs as H',aP Θ H H'→Fz env env'→(∀a∈as,H a=none)→Sm K (as++Z) Θ env' C' σ H'→mF K (er (aQ (as++Z) Θ env' σ) H') H' Θ as xs vs→Q vs H'):vR K f σ H Q
def oCons(f:FE)(g:FA):FA:=fun env C=>match f env C with
 |some (r,e1,C1)=>match g e1 C1 with
  |some (xs,e2,C2)=>some (r::xs,e2,C2)
  |none=>none
 |none=>none
section
variable{K:aH}{Z Z' Θ:List aa}{env:En}{C:Ce}{σ:St}{H:Hp}
theorem iH:a∈aQ Z Θ env σ↔a∈Z∨a∈Θ∨a∈bC env σ:=by rw[cL,cL]
theorem Sm.perm(S:Sm K Z Θ env C σ H)(p:Z.Perm Z'):Sm K Z' Θ env C σ H:=by
 have e:er (aQ Z Θ env σ) H=er (aQ Z' Θ env σ) H:=qb fun a=>by rw[iH,iH,p.mem_iff]
 refine⟨S.len,(List.Perm.append_right _ p).nodup S.nd,fun a m=>S.dom a (p.mem_iff.mpr m),fun i x h=>?_,S.cell⟩
 rw[←e];exact S.slot i x h
end
section
variable{X:Cx}{e:Expr}{es:List Expr}{pos:Pos}
theorem rM:PA X [] (vR X.K aNil):=pY.weak fun σ H Q aJ=>by
 obtain⟨Z,Θ,env,C,xs,env',C',S,hf,q⟩:=aJ
 cases hf;exact q [] [] H (aP.refl _ _) (Fz.refl _) (fun _ m=>nomatch m) S .nil
theorem jr(h:PE X e (tE X.K f))(hr:PA X es (vR X.K g))(hs:aZ (e::es) X.env=(false,eval e X.env)::aZ es X.env:=by rfl):PA X (e::es) (vR X.K (oCons f g)):=(oR h hr hs).weak fun σ H Q aJ=>by
 obtain⟨Z,Θ,env,C,xs,env',C',S,hf,q⟩:=aJ
 unfold oCons at hf;split at hf
 ·rename_i r e1 C1 h1;split at hf
  ·rename_i ys e2 C2 h2;cases hf
   refine⟨Z,Θ,env,C,r,e1,C1,S,h1,fun v H1 k1 f1 R1=>?_⟩
   have plain:∀{x:Vl},Sm X.K Z Θ e1 C1 σ H1→tV X.K (er (aQ Z Θ e1 σ) H1) Θ x v→r=x→vR X.K g σ H1 fun xs H2=>Q (v::xs) H2:=fun{x} S1 a1 ex=>by
    subst ex
    refine⟨Z,Θ,e1,C1,ys,env',C',S1,h2,fun vs as H2 k2 f2 n2 S2 a2=>q _ as H2 (k1.trans k2) (f1.trans f2) (fun a m=>k1.none (n2 a m)) S2 (.cons (a1.same (jO k2 S1.pF fun a m=>?_)) a2)⟩
    rcases cL.mp m with m|m
    ·rcases cL.mp m with m|m
     ·exact .inr (n2 a m)
     ·exact .inl (gf _ m)
    ·exact .inl (f2.sub (Z:=Z) a (dF _ m))
   cases r with
   |im d=>exact plain (x:=.im d) R1.1 R1.2 rfl
   |ce n=>exact plain (x:=.ce n) R1.1 R1.2 rfl
   |sc ns=>exact plain (x:=.sc ns) R1.1 R1.2 rfl
   |ow d=>
    obtain⟨a,rfl,hn,S1,r1⟩:=R1
    refine⟨a::Z,Θ,e1,C1,ys,env',C',S1,h2,fun vs as H2 k2 f2 n2 S2 a2=>?_⟩
    have ez:as++a::Z=(as++[a])++Z:=by rw[j4];rfl
    rw[ez] at S2 a2;have na:a∉Θ:=fun m=>(S1.cT.2.2.2 a dR) m
    refine q _ (as++[a]) H2 (k1.trans k2) (f1.trans f2) (fun b m=>?_) S2 (.own (r1.same (jO k2 S1.pF fun b m=>?_) fun o ho=>k2.keep _ _ ho na) a2)
    ·rcases cL.mp m with m|m
     ·exact k1.none (n2 b m)
     ·rw[jn.mp m];exact hn
    ·rcases cL.mp m with m|m
     ·rcases cL.mp m with m|m
      ·rcases cL.mp m with m|m
       ·exact .inr (n2 b m)
       ·rw[jn.mp m];exact .inl dR
      ·exact .inl (gf _ (eZ _ m))
     ·exact .inl (f2.sub (Z:=a::Z) b (dF _ m))
  ·cases hf
 ·cases hf
end
def setM{α:Type}:List Nat→List α→List (Option α)→List (Option α)
 |i::is,x::xs,e=>setM is xs (e.set i (some x))
 |_,_,e=>e
theorem Pa{K:aH}{Z Θ:List aa}{C:Ce}{H:Hp}{E:Hp}:∀{as:List aa}{xs:List Vl}{vs:List V},mF K E H Θ as xs vs→∀{is:List Nat}{env:En}{σ:St},is.length=xs.length→bw E (er (aQ (as++Z) Θ env σ) H)→Sm K (as++Z) Θ env C σ H→
  Sm K Z Θ (setM is xs env) C (setM is vs σ) H∧∀a∈bC (setM is xs env) (setM is vs σ),a∈bC env σ∨a∈as:=by
 intro as xs vs h;induction h with
 |nil=>
  intro is env σ hl _ S;cases is with
  |nil=>exact⟨S,fun a m=>.inl m⟩
  |cons _ _=>cases hl
 |@cons as x v xs vs a1 _ ih=>
  intro is env σ hl sm S;cases is with
  |nil=>cases hl
  |cons i is=>
   have hx:∀d,x≠.ow d:=fun d z=>by subst z;exact a1
   have sl:zO K (er (aQ (as++Z) Θ env σ) H) H Θ x v:=by
    have a2:=a1.same sm;cases x with
    |im d=>exact a2
    |ow d=>exact absurd rfl (hx d)
    |ce n=>exact a2
    |sc ns=>exact a2
   have S1:Sm K (as++Z) Θ (env.set i (some x)) C (σ.set i (some v)) H:=S.xF hx sl;have o1:∀b∈bC (env.set i (some x)) (σ.set i (some v)),b∈bC env σ:=fun b m=>by
    rcases uU m with m|⟨⟨d,z⟩,_⟩
    ·exact m
    ·exact absurd z (hx d)
   obtain⟨S2,o2⟩:=ih (is:=is) (by simpa using hl) (sm.trans (ZR o1)) S1
   refine⟨S2,fun b m=>?_⟩
   rcases o2 b m with m|m
   ·exact .inl (o1 b m)
   ·exact .inr m
 |@own as a d xs vs r _ ih=>
  intro is env σ hl sm S;cases is with
  |nil=>cases hl
  |cons i is=>
   have pm:((as++[a])++Z).Perm (a::(as++Z)):=by
    rw[j4];exact List.perm_middle
   have S0:=S.perm pm;have ee:er (aQ ((as++[a])++Z) Θ env σ) H=er (aQ (a::(as++Z)) Θ env σ) H:=qb fun b=>by rw[iH,iH,pm.mem_iff]
   rw[ee] at sm;have S1:Sm K (as++Z) Θ (env.set i (some (.ow d))) C (σ.set i (some (.ref a))) H:=S0.aa1 (r.same sm fun _ h=>h);have o1:∀b∈bC (env.set i (some (.ow d))) (σ.set i (some (.ref a))),b∈bC env σ∨b=a:=fun b m=>by
    rcases uU m with m|⟨_,z⟩
    ·exact .inl m
    ·cases z;exact .inr rfl
   obtain⟨S2,o2⟩:=ih (is:=is) (by simpa using hl) (sm.trans (rG fun b m=>by
    rcases cL.mp m with m|m
    ·exact gf _ (eZ _ m)
    ·rcases cL.mp m with m|m
     ·exact dF _ (gf _ m)
     ·rcases o1 b m with m|rfl
      ·exact dF _ (dF _ m)
      ·exact gf _ dR)) S1
   refine⟨S2,fun b m=>?_⟩
   rcases o2 b m with m|m
   ·rcases o1 b m with m|rfl
    ·exact .inl m
    ·exact .inr (dF _ (jn.mpr rfl))
   ·exact .inr (gf _ m)
theorem Hq{K:aH}{E H:Hp}{Θ as:List aa}{xs:List Vl}{vs:List V}(h:mF K E H Θ as xs vs):vs.length=xs.length:=by
 induction h with
 |nil=>rfl
 |cons _ _ ih=>rw[cR,cR,ih]
 |own _ _ ih=>rw[cR,cR,ih]
def fPar(is:List Nat)(g:FA):FS:=fun env C=>match g env C with
 |some (xs,e1,C1)=>if is.length=xs.length∧xs.length≤LIM then some (.nx,setM is xs e1,C1) else none
 |none=>none
def RV(is:List Nat):uq:=match is with
 |[]=>Q9
 |i::r=>QH (uY i) (RV r)
theorem YT:∀{is:List Nat}{vs:List V}{σ:St}{H:Hp}{Q:St→Hp→Prop},is.length=vs.length→Q (setM is vs σ) H→RV is vs σ H Q
 |[],[],σ,H,Q,_,q=>⟨rfl,q⟩
 |i::is,v::vs,σ,H,Q,h,q=>⟨v,vs,rfl,YT (by simpa using h) q⟩
 |[],_::_,_,_,_,h,_=>by cases h
 |_::_,[],_,_,_,h,_=>by cases h
section
variable{X:Cx}{pos:Pos}
theorem wU{i j:Nat}{x y:Str}{a b:Expr}{g:FA}{px py pt:Pos}{kt k2 mL}(hc:X.calm=true)(hN:X.N.Nodup)(hi:X.N[i]?=some x)(hj:X.N[j]?=some y)(hij:i≠j)
  (hx:X.env.scope.names.lookup x=some .local)(hy:X.env.scope.names.lookup y=some .local)(ha:PA X [a,b] (vR X.K g))
  (hw:wA [.Tuple [.Name x px,.Name y py] kt pt] (.Tuple [a,b] k2 mL) X.env=pure (some [x,y]))
  (hs:wz [.Tuple [.Name x px,.Name y py] kt pt] (.Tuple [a,b] k2 mL) pos.line X.env=pure false:=by rfl):
  PS X (.Assign [.Tuple [.Name x px,.Name y py] kt pt] (.Tuple [a,b] k2 mL) pos) (tS X.K (fPar [i,j] g)):=(aiU hc hN hi hj hij hx hy ha hw hs).weak fun D σ H aJ=>by
 obtain⟨Z,Θ,env,C,fl,env',C',S,hf,q⟩:=aJ
 unfold fPar at hf;split at hf
 ·rename_i xs e1 C1 h1;split at hf
  ·rename_i hl;cases hf
   refine⟨Z,Θ,env,C,xs,e1,C',S,h1,fun vs as H1 k1 f1 n1 S1 a1=>?_⟩
   have l2:=Hq a1
   obtain⟨S2,o2⟩:=Pa a1 hl.1 (bw.refl _) S1
   have e2:∃v w,vs=[v,w]:=by
    have:vs.length=2:=by rw[l2,←hl.1];rfl
    match vs,this with
    |[v,w],_=>exact⟨v,w,rfl⟩
   obtain⟨v,w,rfl⟩:=e2
   refine⟨v,w,rfl,q Θ _ H1 ⟨jy.refl _ _,tQ k1,fun b m=>?_,S2⟩⟩
   rcases o2 b m with m|m
   ·exact .inl (f1.own.subset m)
   ·exact .inr (n1 b m)
  ·cases hf
 ·cases hf
theorem YW{tg:Expr}{es:List Expr}{g:FA}{is:List Nat}{n:Nat}{x1 pt}(ha:PA X es (vR X.K g))(hg:PG X tg (Ra X.K n (RV is)))(hn:n=is.length:=by rfl)
  (hs:wz [tg] (.Tuple es x1 pt) pos.line X.env=pure false:=by rfl)(hw:wA [tg] (.Tuple es x1 pt) X.env=pure none:=by rfl)(h1:(qZ [tg] X.env).map (·.2)=[assign tg X.env]:=by rfl):
  PS X (.Assign [tg] (.Tuple es x1 pt) pos) (tS X.K (fPar is g)):=(Qc (Zv ha) hg hs hw h1).weak fun D σ H aJ=>by
 obtain⟨Z,Θ,env,C,fl,env',C',S,hf,q⟩:=aJ
 unfold fPar at hf;split at hf
 ·rename_i xs e1 C1 h1;split at hf
  ·rename_i hl;cases hf
   refine⟨Z,Θ,env,C,xs,e1,C',S,h1,fun vs as H1 k1 f1 n1 S1 a1=>⟨by rw[Hq a1];exact rB hl.2,fun p hp=>?_⟩⟩
   have l2:=Hq a1
   refine⟨p,vs,rfl,cI.of eN,by rw[l2,hn,hl.1],YT (by rw[hl.1,l2]) ?_⟩
   have kp:aP Θ H1 (upd H1 p (.tup vs)):=aP.upd hp;have S1':=S1.zA (bw.upd (o:=.tup vs) hp);have a1':mF X.K (er (aQ (as++Z) Θ e1 σ) H1) (upd H1 p (.tup vs)) Θ as xs vs:=a1.heap fun b o ho=>by rw[cN (oH ho hp)];exact ho
   obtain⟨S2,o2⟩:=Pa a1' hl.1 (jO kp S1.pF fun b m=>.inl m) S1'
   refine q Θ _ _ ⟨jy.refl _ _,tQ (k1.trans kp),fun b m=>?_,S2⟩;rcases o2 b m with m|m
   ·exact .inl (f1.own.subset m)
   ·exact .inr (n1 b m)
  ·cases hf
 ·cases hf
end
theorem NB:∀{env:En}{σ:St}{i:Nat}{d d':ao},env[i]?=some (some (.ow d))→bC (env.set i (some (.ow d'))) σ=bC env σ
 |[],σ,i,d,d',h=>by simp at h
 |x::e,[],i,d,d',h=>by cases i<;>rfl
 |x::e,v::s,0,d,d',h=>by
  simp at h;subst h;show own1 (some (.ow d')) v++bC e s=own1 (some (.ow d)) v++bC e s;rcases v with _|v
  ·rfl
  ·cases v<;>rfl
 |x::e,v::s,i+1,d,d',h=>by
  show own1 x v++bC (e.set i (some (.ow d'))) s=own1 x v++bC e s;rw[NB (by simpa using h)]
section
variable{K:aH}{Z Θ:List aa}{env:En}{C:Ce}{σ:St}{H:Hp}{a:aa}{i:Nat}{d d':ao}{o:HO}
theorem HY(h:a∈P):er P (upd H a o)=er P H:=by
 funext b;unfold er;by_cases hb:b=a
 ·subst hb;rw[if_pos h,if_pos h]
 ·rw[cN hb]
theorem Sm.write(S:Sm K Z Θ env C σ H)(e1:env[i]?=some (some (.ow d)))(e2:σ[i]?=some (some (.ref a)))(r:jE (er (aQ Z Θ env σ) H) (upd H a o) a d'):cY K Z Θ env σ H Θ (env.set i (some (.ow d'))) C σ (upd H a o):=by
 have m:a∈bC env σ:=j9.mpr ⟨i,d,e1,e2⟩;have no:=S.lZ m;have eo:bC (env.set i (some (.ow d'))) σ=bC env σ:=NB e1;have mp:a∈aQ Z Θ env σ:=dF _ (dF _ m);have ep:aQ Z Θ (env.set i (some (.ow d'))) σ=aQ Z Θ env σ:=by show _++(_++_)=_;rw[eo]
 refine⟨jy.refl _ _,⟨fun b u hb n=>?_,fun b hb=>?_⟩,fun b mb=>.inl (by rw[eo] at mb;exact mb),⟨by rw[uD];exact S.len,by rw[ep];exact S.nd,fun b mb=>?_,fun j y ej=>?_,⟨S.cell.len,fun n b ns h1 h2=>?_⟩⟩⟩
 ·rw[cN (fun z=>n (dF _ (by rw[z];exact m)))];exact hb
 ·by_cases z:b=a
  ·subst z;rw[eN];exact uC _
  ·rw[cN z];exact hb
 ·rw[cN (fun z=>no.1 (by rw[←z];exact mb))];exact S.dom b mb
 ·rw[ep,HY mp];rcases get_set ej with⟨rfl,ex,hl⟩|⟨n,ej⟩
  ·cases ex
   exact⟨_,e2,a,rfl,r⟩
  ·obtain⟨v,e3,r3⟩:=S.slot j y ej
   refine⟨v,e3,r3.same (bw.refl _) fun d2 b ex ev u hu=>?_⟩
   subst ex ev;rw[cN]
   ·exact hu
   ·intro z;subst z;exact n (Bs S.cT.2.2.1 ej e3 e1 e2)
 ·rw[cN (fun z=>no.2 (by rw[←z];exact m9 h1))];exact S.cell.at_ n b ns h1 h2
end
def nP:Option (Option Vl)→Bool
 |some (some (.ow (.list _)))=>true
 |_=>false
def lq(i:Nat)(f:FE):FS:=fun env C=>if nP env[i]? then match f env C with
  |some (r,e1,C1)=>match still r,e1[i]? with
   |.im d,some (some (.ow (.list ds)))=>if ds.length<LIM then some (.nx,e1.set i (some (.ow (.list (ds++[d])))),C1) else none
   |_,_=>none
  |none=>none
 else none
theorem Xx(h:nP x=true):∃ds,x=some (some (.ow (.list ds))):=by
 unfold nP at h;split at h
 ·exact⟨_,rfl⟩
 ·cases h
section
variable{X:Cx}{pos:Pos}
theorem zm(ho:PE X o (nW i))(he:PE X e (tE X.K f))
  (hs0:rm (.Call (.Attribute o "append" apos) [e] [] cpos) none pos.line X.env=pure false:=by rfl)
  (hbase:sW o "append" X.env (eval o X.env)=eval o X.env:=by rfl)
  (hfew:((eO cpos (aZ [e] X.env)).all (fun x=>!x.1)&&(wK cpos (wC [] X.env)).all (fun x=>x.1.isSome)
   &&decide (([e]:List Expr).length+([]:List lG).length+(if([]:List lG).isEmpty then 0 else 1)<30))=true:=by rfl)
  (hline:(apos.endLine==cpos.line)=true:=by rfl)(hs:aZ [e] X.env=(false,eval e X.env)::aZ [] X.env:=by rfl)(hplain:(eO cpos (aZ [] X.env)).any (·.1)=false:=by rfl):
  PS X (.Expr (.Call (.Attribute o "append" apos) [e] [] cpos) pos) (tS X.K (lq i f)):=
 (Ou (Cu JQ T3 ab7 (qI.r Mu) ho (oR he pY hs) hbase hfew hline hs hplain) hs0).weak fun D σ H aJ=>by
  obtain⟨Z,Θ,env,C,fl,env',C',S,hf,q⟩:=aJ
  unfold lq at hf;split at hf
  ·rename_i h0
   obtain⟨ds0,h0⟩:=Xx h0
   obtain⟨v0,pI,a,rfl,zV,ha0,r0⟩:=S.slot i _ h0
   split at hf
   ·rename_i r e1 C1 h1;split at hf
    ·rename_i d ds hd hi;split at hf
     ·rename_i hl;cases hf
      refine⟨_,pI,.inl ⟨rfl,zV,bO.of ha0⟩,Z,Θ,env,C,r,e1,C',S,h1,fun v H1 k f R=>?_⟩
      obtain⟨S1,r1⟩:=R.rP hd
      obtain⟨v1,ev1,a1,RW,vs,ha1,r2⟩:=S1.slot i _ hi
      subst RW;rw[pI] at ev1;cases ev1
      refine⟨a,vs,v,rfl,rfl,ha1,by rw[gZ r2,iT];unfold LIM at hl;omega,?_⟩
      have w:cY X.K Z Θ e1 σ H1 Θ (e1.set i (some (.ow (.list (ds++[d]))))) C' σ (upd H1 a (.lst (vs++[v]))):=S1.write hi pI ⟨_,eN,wO r2 ⟨v,[],rfl,r1,rfl⟩⟩;exact q Θ σ _ ((cY.pH k f S1).trans w)
     ·cases hf
    ·cases hf
   ·cases hf
  ·cases hf
def mK{κ:Type}[DecidableEq κ](f:ao→Option κ)(k:κ)(dk d:ao)(kvs:List (ao×ao)):List (ao×ao):=
 if(kvs.any fun p=>decide (f p.1=some k))=true then kvs.map (fun p=>if f p.1=some k then(p.1,d) else p) else kvs++[(dk,d)]
def putD(kvs:List (ao×ao))(dk d:ao):Option (List (ao×ao)):=match cQ dk with
 |some k=>if(cH cQ kvs).isSome then some (mK cQ k dk d kvs) else none
 |none=>match rO dk with
  |some ks=>if(cH rO kvs).isSome then some (mK rO ks dk d kvs) else none
  |none=>none
theorem YX[DecidableEq κ]:∀{kvs:List (ao×ao)}{ks:List κ}{vs:List V},cH f kvs=some ks→gA E kvs vs→(kvs.any fun p=>decide (f p.1=some k))=((ks.zip vs).any fun kv=>decide (kv.1=k))
 |[],ks,vs,h,r=>by
  cases h
  cases(show vs=[] from r)
  rfl
 |(p,d)::kvs,ks,vs,h,r=>by
  unfold cH at h;split at h
  ·rename_i k' t h1 h2;cases h
   obtain⟨v,w,rfl,q,s⟩:=r
   show(decide (f p=some k)||_)=(decide (k'=k)||_)
   rw[YX h2 s,h1];congr 1;rw[pN,decide_eq_true_iff,decide_eq_true_iff]
   exact⟨fun e=>fW e,fun e=>by rw[e]⟩
  ·cases h
theorem YZ[DecidableEq κ](hv:RZ E d v):∀{kvs:List (ao×ao)}{ks:List κ}{vs:List V},cH f kvs=some ks→gA E kvs vs→
  ∃vs',cH f (kvs.map fun p=>if f p.1=some k then(p.1,d) else p)=some ks∧gA E (kvs.map fun p=>if f p.1=some k then(p.1,d) else p) vs'∧ks.zip vs'=(ks.zip vs).map fun kv=>if kv.1=k then(kv.1,v) else kv
 |[],ks,vs,h,r=>by
  cases h
  exact⟨[],rfl,rfl,rfl⟩
 |(p,e)::kvs,ks,vs,h,r=>by
  unfold cH at h;split at h
  ·rename_i k' t h1 h2;cases h
   obtain⟨u,w,rfl,q,s⟩:=r
   obtain⟨vs',g1,g2,g3⟩:=YZ (k:=k) hv h2 s
   have h1':f p=some k':=h1;by_cases ek:k'=k
   ·subst ek
    refine⟨v::vs',?_,?_,?_⟩
    ·rw[bY];show cH f ((if f p=some k' then(p,d) else(p,e))::_)=_;rw[if_pos h1'];unfold cH;rw[g1];simp only[h1']
    ·rw[bY];show gA E ((if f p=some k' then(p,d) else(p,e))::_) _;rw[if_pos h1']
     exact⟨v,vs',rfl,hv,g2⟩
    ·show(k',v)::t.zip vs'=(if k'=k' then(k',v) else(k',u))::_
     rw[if_pos rfl,g3];rfl
   ·have ne:¬f p=some k:=fun z=>ek (fW (h1'.symm.trans z))
    refine⟨u::vs',?_,?_,?_⟩
    ·rw[bY];show cH f ((if f p=some k then(p,d) else(p,e))::_)=_;rw[if_neg ne];unfold cH;rw[g1];simp only[h1']
    ·rw[bY];show gA E ((if f p=some k then(p,d) else(p,e))::_) _;rw[if_neg ne]
     exact⟨u,vs',rfl,q,g2⟩
    ·show(k',u)::t.zip vs'=(if k'=k then(k',v) else(k',u))::_
     rw[if_neg ek,g3];rfl
  ·cases h
theorem Xy{κ:Type}{f:ao→Option κ}{k:κ}{E:Hp}{dk d:ao}{v:V}(hk:f dk=some k)(hv:RZ E d v):∀{kvs:List (ao×ao)}{ks:List κ}{vs:List V},cH f kvs=some ks→gA E kvs vs→
  cH f (kvs++[(dk,d)])=some (ks++[k])∧gA E (kvs++[(dk,d)]) (vs++[v])∧(ks++[k]).zip (vs++[v])=ks.zip vs++[(k,v)]
 |[],ks,vs,h,r=>by
  cases h
  cases(show vs=[] from r)
  refine⟨?_,⟨v,[],rfl,hv,rfl⟩,rfl⟩
  show cH f [(dk,d)]=_;unfold cH cH;simp only[hk];rfl
 |(p,e)::kvs,ks,vs,h,r=>by
  unfold cH at h;split at h
  ·rename_i k' t h1 h2;cases h
   obtain⟨u,w,rfl,q,s⟩:=r
   obtain⟨g1,g2,g3⟩:=Xy hk hv h2 s
   refine⟨?_,⟨u,_,rfl,q,g2⟩,?_⟩
   ·show cH f ((p,e)::(kvs++[(dk,d)]))=_;unfold cH;rw[g1];simp only[show f p=some k' from h1];rfl
   ·show(k',u)::(t++[k]).zip (w++[v])=_
    rw[g3];rfl
  ·cases h
theorem Hr{κ:Type}[DecidableEq κ]{f:ao→Option κ}{k:κ}{E:Hp}{dk d:ao}{v:V}(hk:f dk=some k)(hv:RZ E d v){kvs:List (ao×ao)}{ks:List κ}{vs:List V}(h:cH f kvs=some ks)(r:gA E kvs vs):
  ∃ks' vs',cH f (mK f k dk d kvs)=some ks'∧gA E (mK f k dk d kvs) vs'∧ks'.zip vs'=putK (ks.zip vs) k v:=by
 unfold mK putK;rw[YX h r];split
 ·obtain⟨vs',g1,g2,g3⟩:=YZ (k:=k) hv h r
  exact⟨ks,vs',g1,g2,g3⟩
 ·obtain⟨g1,g2,g3⟩:=Xy hk hv h r
  exact⟨_,_,g1,g2,g3⟩
theorem set_dict(hu:X.A.units+1<dY):uc X (fun o i v H Q=>∃a H',o=.ref a∧qD H a i v H'∧Q H'):=by
 intro pins s σ H o i v ov iv u Q I ro ri rv h
 obtain⟨a,H',rfl,g,q⟩:=h
 cases ro;exact WL hu I g ri rv fun s' I'=>⟨H',I',q⟩
theorem afV(hu:X.A.units+1<dY):uc X (fun o i v H Q=>∃(a b:aa)(ks:List Key),o=.ref a∧H a=some (.dK [])∧i=.ref b∧H b=some (.tup (ks.map kV))∧Q (upd H a (.dT [(ks,v)]))):=by
 intro pins s σ H o i v ov iv u Q I ro ri rv h
 obtain⟨a,b,ks,rfl,ha,rfl,hb,q⟩:=h
 cases ro;have hb':(upd H a (.dT [])) b=some (.tup (ks.map kV)):=by rw[cN (QF hb ha (fun z=>nomatch z))];exact hb
 refine WL hu (I.Ju ha) (qD.t (kvs:=[]) (k:=ks) (v:=v) eN hb' (by rw[iT];decide)) ri rv fun s' I'=>⟨_,I',?_⟩
 rw[Yl];exact q
theorem uc.or(h:uc X t)(h':uc X t'):uc X (fun o i v H Q=>t o i v H Q∨t' o i v H Q):=by
 intro pins s σ H o i v ov iv u Q I ro ri rv q;rcases q with q|q
 ·exact h pins s σ H o i v ov iv u Q I ro ri rv q
 ·exact h' pins s σ H o i v ov iv u Q I ro ri rv q
theorem ah8(hu:X.A.units+1<dY):uc X (fun o i v H Q=>(QS o i v H Q∨∃a H',o=.ref a∧qD H a i v H'∧Q H')∨∃(a b:aa)(ks:List Key),o=.ref a∧H a=some (.dK [])∧i=.ref b∧H b=some (.tup (ks.map kV))∧Q (upd H a (.dT [(ks,v)]))):=
 (set_list.or (set_dict hu)).or (afV hu)
def qt:Option (Option Vl)→Bool
 |some (some _)=>true
 |_=>false
theorem ah9(h:qt x=true):∃y,x=some (some y):=by
 unfold qt at h;split at h
 ·exact⟨_,rfl⟩
 ·cases h
def putO(i:Nat)(d dk:ao)(e:En)(C:Ce):Option Vl→Option (Fl×En×Ce)
 |some (.ow (.list ds))=>(intD dk).bind fun z=>(mO ds.length z).bind fun j=>some (.nx,e.set i (some (.ow (.list (ds.set j d)))),C)
 |some (.ow (.dict kvs))=>(putD kvs dk d).bind fun kvs'=>bif decide (kvs.length<LIM) then some (.nx,e.set i (some (.ow (.dict kvs'))),C) else none
 |some (.ce n)=>(intD dk).bind fun z=>(intD d).bind fun y=>(C[n]?).bind fun ns=>(mO ns.length z).bind fun j=>some (.nx,e,C.set n (ns.set j y))
 |_=>none
def nZ(i:Nat)(fk:FB)(fe:FE):FS:=fun env C=>(fe env C).bind fun p=>(imO (still p.1)).bind fun d=>(fk p.2.1 p.2.2).bind fun k=>bif qt p.2.1[i]? then(k.2.1[i]?).bind (putO i d k.1 k.2.1 k.2.2) else none
def Cz(o i v:V)(H:Hp)(Q:Hp→Prop):Prop:=(QS o i v H Q∨∃a H',o=.ref a∧qD H a i v H'∧Q H')∨∃(a b:aa)(ks:List Key),o=.ref a∧H a=some (.dK [])∧i=.ref b∧H b=some (.tup (ks.map kV))∧Q (upd H a (.dT [(ks,v)]))
section
variable{K:aH}{Z Θ:List aa}{e2:En}{C2:Ce}{σ:St}{H2:Hp}{i:Nat}{d dk:ao}{v w:V}{a:aa}{R:Hp→Prop}{p:Fl×En×Ce}
theorem agP(S2:Sm K Z Θ e2 C2 σ H2)(eu:σ[i]?=some (some (.ref a)))(hi:e2[i]?=some (some (.ow (.list ds))))(rt:jE (er (aQ Z Θ e2 σ) H2) H2 a (.list ds))(r2:RZ (er (aQ Z Θ e2 σ) H2) d v)(b2:eU Z Θ e2 σ H2 dk w)(hf:putO i d dk e2 C2 (some (.ow (.list ds)))=some p):
  p.1=.nx∧((∀Hx,cY K Z Θ e2 σ H2 Θ p.2.1 p.2.2 σ Hx→R Hx)→Cz (.ref a) w v H2 R):=by
 obtain⟨z,hz,hf⟩:=gm hf
 obtain⟨j,hj,hf⟩:=gm hf
 cases hf;have hz:=Hl hz;subst hz
 obtain⟨vs,ha,r3⟩:=rt
 have b2:w=.int z:=b2;subst b2
 exact⟨rfl,fun q=>.inl (.inl ⟨a,vs,z,j,rfl,rfl,ha,by rw[gZ r3];exact hj,q _ (S2.write hi eu ⟨_,eN,YK r2 j r3⟩)⟩)⟩
theorem Y0(kvs:List (ao×ao)):mK rO R0 dk d kvs≠[]:=fun z=>by
 unfold mK at z;split at z
 ·rename_i hz;cases kvs with
  |nil=>cases hz
  |cons _ _=>cases z
 ·cases kvs<;>cases z
theorem agQ{kvs:List (ao×ao)}(S2:Sm K Z Θ e2 C2 σ H2)(eu:σ[i]?=some (some (.ref a)))(hi:e2[i]?=some (some (.ow (.dict kvs))))(rt:jE (er (aQ Z Θ e2 σ) H2) H2 a (.dict kvs))(r2:RZ (er (aQ Z Θ e2 σ) H2) d v)(b2:eU Z Θ e2 σ H2 dk w)(hf:putO i d dk e2 C2 (some (.ow (.dict kvs)))=some p):
  p.1=.nx∧((∀Hx,cY K Z Θ e2 σ H2 Θ p.2.1 p.2.2 σ Hx→R Hx)→Cz (.ref a) w v H2 R):=by
 refine hide fun GG gg=>?_
 obtain⟨kvs',hp,hf⟩:=gm hf
 cases hl:decide (kvs.length<LIM) with
 |false=>rw[hl] at hf;cases hf
 |true=>
 rw[hl] at hf;cases hf;have hl:=of_decide_eq_true hl;have hl':∀{κ:Type}(ks:List κ)(vs:List V),ks.length=kvs.length→(ks.zip vs).length<bM:=fun ks vs e=>by
  rw[Uw,iT,e];unfold LIM at hl;omega
 obtain⟨vs,da,r3⟩:=rt
 unfold putD at hp;split at hp
 ·rename_i k hk;split at hp
  case isFalse=>cases hp
  rename_i hs';cases hp;have wk:w=kV k:=by
   cases dk<;>first|(cases hk;exact b2)|cases hk
  rcases da with⟨ks,g1,ha⟩|⟨ks,⟨ne,g2⟩,ha⟩
  ·obtain⟨ks',vs',g3,g4,g5⟩:=Hr hk r2 g1 r3
   subst wk;exact gg ⟨rfl,fun q=>.inl (.inr ⟨a,_,rfl,qD.k (k:=k) (v:=v) ha (hl' ks vs (uL g1)),q _ (S2.write hi eu ⟨vs',.inl ⟨ks',g3,by rw[g5];exact eN⟩,g4⟩)⟩)⟩
  ·obtain⟨ak7,g1⟩:=sI.mp hs'
   exact absurd (uM g1 g2) ne
 ·split at hp
  case h_2=>cases hp
  rename_i R0 hks;split at hp
  case isFalse=>cases hp
  rename_i hs';cases hp
  obtain⟨b,hb,rfl⟩:∃b,H2 b=some (.tup (R0.map kV))∧w=.ref b:=by
   cases dk<;>first|cases hks|skip
   obtain⟨b,ws,rfl,hb,rr⟩:=b2.tup
   rw[uI hks rr] at hb
   exact⟨b,hb,rfl⟩
  rcases da with⟨ks,g1,ha⟩|⟨ks,⟨ne,g1⟩,ha⟩
  ·obtain⟨ak7,g2⟩:=sI.mp hs'
   have e0:=uM g1 g2;subst e0;cases g1;have e0:vs=[]:=r3;subst e0
   obtain⟨ks',vs',g3,g4,g5⟩:=Hr (kvs:=[]) (vs:=[]) (ks:=[]) hks r2 rfl rfl
   exact gg ⟨rfl,fun q=>.inr ⟨a,b,R0,rfl,ha,rfl,hb,q _ (S2.write hi eu ⟨vs',.inr ⟨ks',⟨Y0 [],g3⟩,by rw[g5];exact eN⟩,g4⟩)⟩⟩
  ·obtain⟨ks',vs',g3,g4,g5⟩:=Hr hks r2 g1 r3
   exact gg ⟨rfl,fun q=>.inl (.inr ⟨a,_,rfl,qD.t ha hb (hl' ks vs (uL g1)),q _ (S2.write hi eu ⟨vs',.inr ⟨ks',⟨Y0 kvs,g3⟩,by rw[g5];exact eN⟩,g4⟩)⟩)⟩
theorem agR(S2:Sm K Z Θ e2 C2 σ H2)(hth:Θ[n]?=some a)(r2:RZ (er (aQ Z Θ e2 σ) H2) d v)(b2:eU Z Θ e2 σ H2 dk w)(hf:putO i d dk e2 C2 (some (.ce n))=some p):
  p.1=.nx∧((∀Hx,cY K Z Θ e2 σ H2 Θ p.2.1 p.2.2 σ Hx→R Hx)→Cz (.ref a) w v H2 R):=by
 refine hide fun GG gg=>?_
 obtain⟨z,hz,hf⟩:=gm hf
 obtain⟨y,hy,hf⟩:=gm hf
 obtain⟨ns,hns,hf⟩:=gm hf
 obtain⟨j,hj,hf⟩:=gm hf
 cases hf;have hz:=Hl hz;have hy:=Hl hy;subst hz hy;have b2:w=.int z:=b2;have ev:v=.int y:=r2;subst ev b2;have ha:=S2.cell.at_ n a ns hth hns;have am:a∈Θ:=m9 hth;refine gg ⟨rfl,fun q=>.inl (.inl ⟨a,_,z,j,rfl,rfl,ha,by rw[aX];exact hj,q _ ?_⟩)⟩;have kc:aP Θ H2 (upd H2 a (.lst ((ns.map V.int).set j (.int y)))):=⟨fun b o hb nb=>by rw[cN (fun zz=>nb (by rw[zz];exact am))];exact hb,fun b hb=>by
  by_cases zz:b=a
  ·subst zz;rw[eN];exact uC _
  ·rw[cN zz];exact hb⟩
 refine cY.pH kc (Fz.refl _) (S2.go kc ⟨by rw[uD];exact S2.cell.len,fun m b ms h5 h6=>?_⟩);rcases get_set h6 with⟨rfl,e6,_⟩|⟨nm,h6⟩
 ·rw[hth] at h5;cases h5;cases e6;rw[eN,List.map_set]
 ·rw[cN]
  ·exact S2.cell.at_ m b ms h5 h6
  ·intro zz;subst zz
   obtain⟨l1,l1'⟩:=jf.mp h5
   obtain⟨l2,l2'⟩:=jf.mp hth
   rcases ac5 m n with hlt|heq|hgt
   ·exact Ec.mp S2.cT.2.1 m n l1 l2 hlt (l1'.trans l2'.symm)
   ·exact nm heq
   ·exact Ec.mp S2.cT.2.1 n m l2 l1 hgt (l2'.trans l1'.symm)
theorem aia(S2:Sm K Z Θ e2 C2 σ H2)(eu:σ[i]?=some (some u))(hi:e2[i]?=some s)(r2:RZ (er (aQ Z Θ e2 σ) H2) d v)(b2:eU Z Θ e2 σ H2 dk w)(hf:putO i d dk e2 C2 s=some p):
  p.1=.nx∧((∀Hx,cY K Z Θ e2 σ H2 Θ p.2.1 p.2.2 σ Hx→R Hx)→Cz u w v H2 R):=by
 cases s with
 |none=>cases hf
 |some s=>
 obtain⟨u',eu',sl⟩:=S2.slot i _ hi
 rw[eu] at eu';cases eu';cases s with
 |im _=>cases hf
 |sc _=>cases hf
 |ce n=>
  obtain⟨a,rfl,hth⟩:=sl
  exact agR S2 hth r2 b2 hf
 |ow x=>
  obtain⟨a,rfl,rt⟩:=sl
  cases x<;>first|exact agP S2 eu hi rt r2 b2 hf|exact agQ S2 eu hi rt r2 b2 hf|cases hf
end
theorem Ck(hu:X.A.units+1<dY)(ho:PE X o (nW i))(hk:PE X k (cX X.K fk))(he:PE X e (tE X.K fe))
  (ha:∀v,assign (.Subscript o k p) X.env v=(do
   let ov ←oO [v] (eval o X.env)
   let iv ←oO [v,ov] (eval k X.env)
   rD p
   oO [v,ov,iv] (setItem ov iv v)
   release [v,ov,iv] []):=by intro _;rfl)
  (hs:wz [.Subscript o k p] e pos.line X.env=pure false:=by rfl)(hw:wA [.Subscript o k p] e X.env=pure none:=by rfl)(h1:(qZ [.Subscript o k p] X.env).map (·.2)=[assign (.Subscript o k p) X.env]:=by rfl):
  PS X (.Assign [.Subscript o k p] e pos) (tS X.K (nZ i fk fe)):=(Qc he (aiT (t:=Cz) ho hk (ah8 hu) ha) hs hw h1).weak fun D σ H aJ=>by
 obtain⟨Z,Θ,env,C,fl,env',C',S,hf,q⟩:=aJ
 obtain⟨p,h1,hf⟩:=gm hf
 obtain⟨d,hd,hf⟩:=gm hf
 obtain⟨kp,h2,hf⟩:=gm hf
 cases h3:qt p.2.1[i]? with
 |false=>rw[h3] at hf;cases hf
 |true=>
 rw[h3] at hf
 obtain⟨s,hi,hf⟩:=gm hf
 obtain⟨y3,h3⟩:=ah9 h3
 refine⟨Z,Θ,env,C,p.1,p.2.1,p.2.2,S,h1,fun v H1 k1 f1 R1=>?_⟩
 obtain⟨S1,r1⟩:=R1.rP (BZ hd)
 obtain⟨u,eu,_⟩:=S1.slot i _ h3
 refine⟨u,eu,Z,Θ,p.2.1,p.2.2,kp.1,kp.2.1,kp.2.2,S1,h2,fun w H2 k2 f2 S2 b2=>?_⟩
 obtain⟨e0,go⟩:=aia (R:=fun Hx=>D.nx σ Hx) S2 eu hi (r1.same (QV S1 k2 f2)) b2 hf
 have e0:fl=.nx:=e0;subst e0;exact go fun Hx st=>q Θ σ _ ((cY.pH (k1.trans k2) (f1.trans f2) S2).trans st)
end
def intsOf:List ao→Option (List Int)
 |[]=>some []
 |.int i::r=>match intsOf r with
  |some t=>some (i::t)
  |none=>none
 |_=>none
theorem NK:∀{ds:List ao}{ns:List Int}{vs:List V},intsOf ds=some ns→cg E ds vs→vs=ns.map V.int
 |[],ns,vs,h,r=>by cases h;exact r
 |.int i::ds,ns,vs,h,r=>by
  unfold intsOf at h;split at h
  ·rename_i t ht;cases h
   obtain⟨u,w,rfl,q,s⟩:=r
   rw[NK ht s];have:u=.int i:=q;rw[this];rfl
  ·cases h
 |.none::_,_,_,h,_=>by cases h
 |.bool _::_,_,_,h,_=>by cases h
 |.str _::_,_,_,h,_=>by cases h
 |.list _::_,_,_,h,_=>by cases h
 |.tuple _::_,_,_,h,_=>by cases h
 |.dict _::_,_,_,h,_=>by cases h
def De(i:Nat)(f:FE):FS:=fun env C=>match f env C with
 |some (.ow (.list ds),e1,C1)=>match intsOf ds with
  |some ns=>some (.nx,e1.set i (some (.ce C1.length)),C1++[ns])
  |none=>none
 |_=>none
section
variable{X:Cx}{pos:Pos}
theorem agS{K:aH}{i:Nat}{f:FE}:∀D σ H,tS K (De i f) D σ H→zM (tE K f) (uY i) D σ H:=by
 rintro D σ H ⟨Z,Θ,env,C,fl,env',C',S,hf,q⟩;unfold De at hf;split at hf
 ·rename_i ds e1 C1 h1;split at hf
  ·rename_i ns hns;cases hf
   refine⟨Z,Θ,env,C,_,e1,C1,S,h1,fun v H1 k f R=>?_⟩
   obtain⟨a,rfl,hn,S1,vs,ha,r⟩:=R
   have ev:=NK hns r;subst ev;have cT:=S1.cT;have Dw:=jB.mp cT.1;have cl:=S1.cell.len;have c':mY (Θ++[a]) (C1++[ns]) H1:=by
    refine⟨by rw[fP,fP,cl];rfl,fun m b ms h5 h6=>?_⟩
    by_cases hm:m<Θ.length
    ·rw[m8 hm] at h5;rw[m8 (by rw[cl];exact hm)] at h6;exact S1.cell.at_ m b ms h5 h6
    ·rw[m7 (by omega)] at h5;rw[m7 (by omega)] at h6;rw[cl] at h6;cases hm0:m-Θ.length with
     |zero=>rw[hm0] at h5 h6;cases h5;cases h6;exact ha
     |succ j=>rw[hm0] at h5;simp at h5
   have o1:∀b∈bC (e1.set i (some (.ce C1.length))) (σ.set i (some (.ref a))),b∈bC e1 σ:=fun b m=>by
    rcases uU m with m|⟨⟨_,z⟩,_⟩
    ·exact m
    ·cases z
   have S2:Sm K Z (Θ++[a]) e1 (C1++[ns]) σ H1:=by
    have mm:∀b,b∈aQ Z (Θ++[a]) e1 σ↔b∈aQ (a::Z) Θ e1 σ:=fun b=>by
     rw[iH,iH,cL,jn,bN];constructor
     ·rintro(h|(h|h)|h)
      ·exact .inl (.inr h)
      ·exact .inr (.inl h)
      ·exact .inl (.inl h)
      ·exact .inr (.inr h)
     ·rintro((h|h)|h|h)
      ·exact .inr (.inl (.inr h))
      ·exact .inl h
      ·exact .inr (.inl (.inl h))
      ·exact .inr (.inr h)
    refine⟨S1.len,xW Dw.2 ?_ cT.2.2.1 (fun b m=>?_) fun b m=>?_,fun b m=>S1.dom b (eZ _ m),fun j x e=>?_,c'⟩
    ·rw[jV]
     exact⟨cT.2.1,jB.mpr ⟨by simp,oF⟩,fun b m c m' e=>by
      rw[jn] at m';subst e m';exact cT.2.2.2 b dR m⟩
    ·intro m';rcases cL.mp m' with m'|m'
     ·exact cT.2.2.2 b (eZ _ m) m'
     ·rw[jn.mp m'] at m;exact Dw.1 m
    ·obtain⟨p1,p2⟩:=S1.lZ m
     refine⟨fun z=>p1 (eZ _ z),fun m'=>?_⟩
     rcases cL.mp m' with m'|m'
     ·exact p2 m'
     ·rw[jn.mp m'] at p1;exact p1 dR
    ·obtain⟨v,e3,r3⟩:=S1.slot j x e
     rw[qb mm]
     refine⟨v,e3,?_⟩
     cases x with
     |im d=>exact r3
     |ow d=>exact r3
     |ce n=>
      obtain⟨b,e5,e6⟩:=r3
      exact⟨b,e5,by rw[m8 (jf.mp e6).1];exact e6⟩
     |sc ns=>exact r3
   have S3:Sm K Z (Θ++[a]) (e1.set i (some (.ce C1.length))) (C1++[ns]) (σ.set i (some (.ref a))) H1:=
    S2.xF (fun _ z=>nomatch z) ⟨a,rfl,by rw[cl,m7 (bK _),VB];rfl⟩
   exact q (Θ++[a]) _ H1 ⟨⟨[a],rfl,fun b m=>by rw[jn.mp m];exact hn⟩,tQ k,fun b m=>.inl (f.own.subset (o1 b m)),S3⟩
  ·cases hf
 ·cases hf
theorem ajv(hN:X.N.Nodup)(hi:X.N[i]?=some x)(hx:Loc X.env.scope x)(he:PE X e (tE X.K f))(hs:rm e (some (.Name x pos')) pos.line X.env=pure false:=by rfl)(hf:X.fn x=true∨X.env.scope.names.lookup x=some .local:=by first|exact .inl rfl|exact .inr rfl|assumption):
  PS X (.Assign [.Name x pos'] e pos) (tS X.K (De i f)):=(Zr hN hi hx he hs hf).weak agS
def Jb(i:Nat)(f:FB):FS:=fun env C=>match env[i]? with
 |some (some (.im (.int x)))=>match f env C with
  |some (.int y,_,C1)=>some (.nx,env.set i (some (.im (.int (x+y)))),C1)
  |_=>none
 |_=>none
theorem ajw(hN:X.N.Nodup)(hi:X.N[i]?=some x)(hx:Loc X.env.scope x)(he:PE X e (cX X.K f))(hf:X.fn x=true∨X.env.scope.names.lookup x=some .local:=by first|exact .inl rfl|exact .inr rfl|assumption):
  PS X (.AugAssign (.Name x pos') .Add e pos) (tS X.K (Jb i f)):=(aiV hN hi hx he aiW hf).weak fun D σ H aJ=>by
 obtain⟨Z,Θ,env,C,fl,env',C',S,hf,q⟩:=aJ
 unfold Jb at hf;split at hf
 ·rename_i z h0;split at hf
  ·rename_i y e1 C1 h1;cases hf
   obtain⟨v,ev,r⟩:=S.slot i _ h0
   refine⟨v,ev,Z,Θ,env,C,_,e1,C',S,h1,fun w H1 k f S1 b1=>⟨z,y,r,b1,?_⟩⟩
   have S2:=S.go k S1.cell;refine q Θ _ H1 ⟨jy.refl _ _,tQ k,fun a m=>?_,S2.xF (fun _ z=>nomatch z) (rfl:RZ _ (.int (z+y)) _)⟩;rcases uU m with m|⟨⟨_,z⟩,_⟩
   ·exact .inl m
   ·cases z
  ·cases hf
 ·cases hf
end
def iY(c:FT)(body:FS):Nat→FS
 |0=>fun _ _=>none
 |n+1=>fun env C=>match c env C with
  |some (false,C1)=>some (.nx,env,C1)
  |some (true,C1)=>match body env C1 with
   |some (.nx,e2,C2)=>iY c body n e2 C2
   |some (.ct,e2,C2)=>iY c body n e2 C2
   |some (.bk,e2,C2)=>some (.nx,e2,C2)
   |some (.rt r,e2,C2)=>some (.rt r,e2,C2)
   |none=>none
  |none=>none
def zF:Nat:=100000
def qK(c:FT)(body:FS):FS:=iY c body zF
theorem ae2{K:aH}{c:FT}{body:FS}{n:Nat}:∀D σ H,tS K (iY c body n) D σ H→Zt (dZ K c) (tS K body) D σ H:=by
 rintro D σ H ⟨Z,Θ,env,C,fl,env',C',S,hf,q⟩
 refine⟨fun m σ1 H1=>∃Θ1 e1 C1,cY K Z Θ env σ H Θ1 e1 C1 σ1 H1∧iY c body m e1 C1=some (fl,env',C'),⟨n,Θ,env,C,cY.same S,hf⟩,?_⟩
 rintro m σ1 H1 ⟨Θ1,e1,C1,p,hf⟩;cases m with
 |zero=>cases hf
 |succ m=>
  unfold iY at hf;split at hf
  ·rename_i C2 h1;cases hf
   exact⟨Z,Θ1,env',C1,false,C',p.sm,h1,fun H2 k2 S2=>vq (q Θ1 σ1 H2 (p.trans (cY.pH k2 (Fz.refl _) S2)))⟩
  ·rename_i C2 h1
   refine⟨Z,Θ1,e1,C1,true,C2,p.sm,h1,fun H2 k2 S2=>vz ⟨fun σ' H'=>∃Θ1 e1 C1,cY K Z Θ env σ H Θ1 e1 C1 σ' H'∧iY c body m e1 C1=some (fl,env',C'),fun σ' H' h=>⟨m,Um m,h⟩,?_⟩⟩
   have p2:=p.trans (cY.pH k2 (Fz.refl _) S2);split at hf
   ·rename_i e3 C3 h2
    exact⟨Z,Θ1,e1,C2,.nx,e3,C3,S2,h2,fun Θ3 σ3 H3 p3=>⟨Θ3,e3,C3,p2.trans p3,hf⟩⟩
   ·rename_i e3 C3 h2
    exact⟨Z,Θ1,e1,C2,.ct,e3,C3,S2,h2,fun Θ3 σ3 H3 p3=>⟨Θ3,e3,C3,p2.trans p3,hf⟩⟩
   ·rename_i e3 C3 h2;cases hf
    exact⟨Z,Θ1,e1,C2,.bk,env',C',S2,h2,fun Θ3 σ3 H3 p3=>q Θ3 σ3 H3 (p2.trans p3)⟩
   ·rename_i r e3 C3 h2;cases hf
    exact⟨Z,Θ1,e1,C2,.rt r,env',C',S2,h2,fun Θ3 v H3 p3=>q Θ3 v H3 (p2.ret p3)⟩
   ·cases hf
  ·cases hf
theorem Bh(hp:Mr (model X.prog X.w) X.A X.env X.xe)(hc:PT X c (dZ X.K t))(hb:ir X body (tS X.K f)):PS X (.While c body [] pos) (tS X.K (qK t f)):=(agm hp hc hb).weak ae2
abbrev FI:=En→Ce→Option (List ao×En×Ce)
def xG(P T:List aa)(H:Hp)(J:It)(its:List ao):Prop:=∀(i:Nat)(H2:Hp)(P2:List aa),bw (er P H) (er P2 H2)→bw (er T H) (er T H2)→(∀a∈P2,H2 a≠none)→
 (∀d,its[i]?=some d→J.go i H2∧∀x H3,J.vH i H2 x H3→bw H2 H3∧RZ (er P2 H3) d x)∧(i=its.length→J.stop i H2)
inductive tI(K:aH)(b:Bool)(f:FI)(σ:St)(H:Hp)(R:It→Hp→Prop):Prop
 |mk (Z Θ:List aa) (env:En) (C:Ce) (its:List ao) (env':En) (C':Ce) (S:Sm K Z Θ env C σ H) (hf:f env C=some (its,env',C')) (q:∀J H',aP Θ H H'→Fz env env'→Sm K Z Θ env' C' σ H'→xG (aQ Z Θ env' σ) (if b then Θ else aQ Z Θ env' σ) H' J its→R J H'):tI K b f σ H R
theorem PI.weak(h:PI X tg e t)(w:∀σ H Q,t' σ H Q→t σ H Q):PI X tg e t':=fun pins s σ H Q I q=>h pins s σ H Q I (w σ H Q q)
theorem PI.or(h:PI X tg e t)(h':PI X tg e t'):PI X tg e (fun σ H R=>t σ H R∨t' σ H R):=fun pins s σ H R I q=>q.elim (h pins s σ H R I) (h' pins s σ H R I)
section
variable{K:aH}{P T:List aa}{H:Hp}{a:aa}{ds:List ao}{vs:List V}
theorem Pb(ha:er T H a=some (.lst vs))(r:cg (er P H) ds vs):xG P T H (Rw K a) ds:=fun i H2 P2 s1 s2 n=>by
 have h2:bO K H2 a vs:=bO.of (jh (s2 _ _ ha))
 refine⟨fun d hd=>?_,fun hi=>⟨vs,h2,by rw[gZ r,hi];exact bK _⟩⟩
 obtain⟨v,ev,rv⟩:=wR r hd
 refine⟨⟨vs,v,h2,ev⟩,fun x H3 y=>?_⟩
 obtain⟨rfl,y⟩:=y
 have:=y vs h2;rw[ev] at this;cases this
 exact⟨bw.refl _,rv.same s1⟩
theorem Qn(ha:er P H a=some (.tup vs))(r:cg (er P H) ds vs):xG P T H (Rx K a) ds:=fun i H2 P2 s1 s2 n=>by
 have h2:cI K H2 a vs:=cI.of (jh (s1 _ _ ha))
 refine⟨fun d hd=>?_,fun hi=>⟨vs,h2,by rw[gZ r,hi];exact bK _⟩⟩
 obtain⟨v,ev,rv⟩:=wR r hd
 refine⟨⟨vs,v,h2,ev⟩,fun x H3 y=>?_⟩
 obtain⟨rfl,y⟩:=y
 have:=y vs h2;rw[ev] at this;cases this
 exact⟨bw.refl _,rv.same s1⟩
def chars(z:Str):List ao:=z.cps.toList.map fun c=>.str ⟨#[c]⟩
theorem ZS(z:Str):xG P T H (RL z) (chars z):=fun i H2 P2 s1 s2 n=>by
 refine⟨fun d hd=>?_,fun hi=>?_⟩
 ·unfold chars at hd;rw[gh] at hd;cases hc:z.cps.toList[i]? with
  |none=>rw[hc] at hd;cases hd
  |some c=>
   rw[hc] at hd;cases hd;have hc':z.cps[i]?=some c:=by rw[←JS];exact hc
   have hlt:i<z.cps.size:=by
    obtain⟨h,_⟩:=Array.getElem?_eq_some_iff.mp hc'
    exact h
   refine⟨hlt,fun x H3 y=>?_⟩
   obtain⟨rfl,c',ec,rfl⟩:=y
   rw[hc'] at ec;cases ec
   exact⟨bw.refl _,rfl⟩
 ·show z.cps.size≤i;rw[hi];unfold chars;rw[aX,jm];exact bK _
def gK(lo:Int)(n:Nat):List ao:=(dG n).map fun(k:Nat)=>.int (lo+(k:Int))
theorem Xz(lo:Int)(n:Nat):xG P T H (Dr lo n) (gK lo n):=fun i H2 P2 s1 s2 nn=>by
 refine⟨fun d hd=>?_,fun hi=>?_⟩
 ·unfold gK at hd;rw[gh] at hd;by_cases hlt:i<n
  ·rw[TY hlt] at hd;cases hd
   refine⟨hlt,fun x H3 y=>?_⟩
   obtain⟨rfl,rfl⟩:=y
   exact⟨bw.refl _,rfl⟩
  ·rw[Ef (by rw[j5];omega)] at hd;cases hd
 ·show n≤i;rw[hi];unfold gK;rw[aX,j5];exact bK _
end
def itD:ao→Option (List ao)
 |.list ds=>some ds
 |.tuple ds=>some ds
 |.str z=>some (chars z)
 |_=>none
def iB(f:FB):FI:=fun env C=>match f env C with
 |some (d,e1,C1)=>match itD d with
  |some its=>some (its,e1,C1)
  |none=>none
 |none=>none
def iV(f:FE):FI:=fun env C=>match f env C with
 |some (r,e1,C1)=>match still r with
  |.im d=>match itD d with
   |some its=>some (its,e1,C1)
   |none=>none
  |_=>none
 |none=>none
def gM(f:FB):FI:=fun env C=>match f env C with
 |some (.int j,_,C1)=>if -(2^62)≤j∧j<2^62 then some (gK 0 j.toNat,env,C1) else none
 |_=>none
section
variable{X:Cx}{tg e:Expr}
theorem Rk(h:PE X e (cX X.K f))(hgo:∀i u,vY tg i u=pure ():=by intro _ _;rfl):PI X tg e (tI X.K true (iB f)):=(((Ov h).or (Qd h)).or (ZD h hgo)).weak fun σ H R aJ=>by
 obtain⟨Z,Θ,env,C,its,env',C',S,hf,q⟩:=aJ
 unfold iB at hf;split at hf
 ·rename_i d e1 C1 h1;split at hf
  ·rename_i ys hi;cases hf;cases d<;>first|cases hi|skip
   ·refine .inr ⟨Z,Θ,env,C,_,env',C',S,h1,fun v H1 k f S1 b=>⟨_,b,q _ H1 k f S1 (ZS _)⟩⟩
   ·refine .inl (.inl ⟨Z,Θ,env,C,_,env',C',S,h1,fun v H1 k f S1 b=>?_⟩)
    obtain⟨a,vs,rfl,ha,r⟩:=b
    exact⟨a,rfl,⟨vs,bO.of (jh ha)⟩,q _ H1 k f S1 (Pb ha r)⟩
   ·refine .inl (.inr ⟨Z,Θ,env,C,_,env',C',S,h1,fun v H1 k f S1 b=>?_⟩)
    obtain⟨a,vs,rfl,ha,r⟩:=b
    exact⟨a,rfl,⟨vs,cI.of (jh ha)⟩,q _ H1 k f S1 (Qn ha r)⟩
  ·cases hf
 ·cases hf
theorem zP(h:PE X e (tE X.K f))(hgo:∀i u,vY tg i u=pure ():=by intro _ _;rfl):PI X tg e (tI X.K false (iV f)):=(((Ov h).or (Qd h)).or (ZD h hgo)).weak fun σ H R aJ=>by
 obtain⟨Z,Θ,env,C,its,env',C',S,hf,q⟩:=aJ
 unfold iV at hf;split at hf
 ·rename_i r e1 C1 h1;split at hf
  ·rename_i d hd;split at hf
   ·rename_i ys hi;cases hf;cases d<;>first|cases hi|skip
    ·refine .inr ⟨Z,Θ,env,C,_,env',C',S,h1,fun v H1 k f R=>?_⟩
     obtain⟨S1,b⟩:=R.rP hd
     exact⟨_,b,q _ H1 k f S1 (ZS _)⟩
    ·refine .inl (.inl ⟨Z,Θ,env,C,_,env',C',S,h1,fun v H1 k f R=>?_⟩)
     obtain⟨S1,a,vs,rfl,ha,r⟩:=R.rP hd
     exact⟨a,rfl,⟨vs,bO.of (jh ha)⟩,q _ H1 k f S1 (Pb ha r)⟩
    ·refine .inl (.inr ⟨Z,Θ,env,C,_,env',C',S,h1,fun v H1 k f R=>?_⟩)
     obtain⟨S1,a,vs,rfl,ha,r⟩:=R.rP hd
     exact⟨a,rfl,⟨vs,cI.of (jh ha)⟩,q _ H1 k f S1 (Qn ha r)⟩
   ·cases hf
  ·cases hf
 ·cases hf
theorem tL(hg:Gl X "range")(hm:X.mg "range"=none)(ha:PE X a (cX X.K f))(hs:aZ [a] X.env=(false,eval a X.env)::aZ [] X.env:=by rfl)(hs':aZ [a] X.env=[(false,eval a X.env)]:=by rfl):PI X tg (.Call (.Name "range" p) [a] [] pos) (tI X.K b (gM f)):=
 (afo hg hm (dz ha fJ hs) hs').weak fun σ H R aJ=>by
  obtain⟨Z,Θ,env,C,its,env',C',S,hf,q⟩:=aJ
  unfold gM at hf;split at hf
  ·rename_i j e1 C1 h1;split at hf
   ·rename_i hj;cases hf
    refine⟨Z,Θ,env,C,[.int j],e1,C',S,by unfold bCons bNil;rw[h1],fun vs H1 k f S1 b1=>?_⟩
    cases b1 with
    |cons b1 b2=>
     cases b2
     exact⟨j,by rw[show _=V.int j from b1],hj.1,hj.2,q _ H1 k (Fz.refl _) (S.go k S1.cell) (Xz 0 j.toNat)⟩
   ·cases hf
  ·cases hf
end
def iK(g:FG)(body:FS):List ao→FS
 |[]=>fun env C=>some (.nx,env,C)
 |d::r=>fun env C=>match g d env with
  |some e1=>match body e1 C with
   |some (.nx,e2,C2)=>iK g body r e2 C2
   |some (.ct,e2,C2)=>iK g body r e2 C2
   |some (.bk,e2,C2)=>some (.nx,e2,C2)
   |some (.rt v,e2,C2)=>some (.rt v,e2,C2)
   |none=>none
  |none=>none
def fQ(fi:FI)(g:FG)(body:FS):FS:=fun env C=>match fi env C with
 |some (its,e1,C1)=>iK g body its e1 C1
 |none=>none
theorem cY.er{K:aH}{Z Θ Θ1:List aa}{env e1:En}{C1:Ce}{σ σ1:St}{H H1:Hp}(p:cY K Z Θ env σ H Θ1 e1 C1 σ1 H1):bw (er (aQ Z Θ env σ) H) (er (aQ Z Θ1 e1 σ1) H1):=fun b o h=>by
 unfold L2.er at h⊢;split at h
 ·cases h
 ·rename_i n;have hb:H b≠none:=by rw[h];exact uC _
  rw[if_neg]
  ·refine p.kp.keep b o h fun m=>n ?_
   rcases cL.mp m with m|m
   ·exact iH.mpr (.inr (.inl m))
   ·exact iH.mpr (.inr (.inr m))
  ·intro m;rcases iH.mp m with m|m|m
   ·exact n (iH.mpr (.inl m))
   ·obtain⟨Δ,e,hn⟩:=p.th.ex
    rw[e] at m;rcases cL.mp m with m|m
    ·exact n (iH.mpr (.inr (.inl m)))
    ·exact hb (hn b m)
   ·rcases p.own b m with m|m
    ·exact n (iH.mpr (.inr (.inr m)))
    ·exact hb m
theorem aib(s:bw (er P H) (er P2 H2)):bw (er P H) (er P H2):=fun b o h=>by
 have h2:=jh (s b o h);unfold er at h⊢;split at h
 ·cases h
 ·rename_i n;rw[if_neg n];exact h2
theorem agT{K:aH}{fi:FI}{g:TG}{fg:FG}{body:FS}(L:zX K g fg):∀D σ H,tS K (fQ fi fg body) D σ H→aaH (tI K false fi) g (tS K body) D σ H:=by
 rintro D σ H ⟨Z,Θ,env,C,fl,env',C',S,hf,q⟩;unfold fQ at hf;split at hf
 ·rename_i its e1 C1 h1
  refine⟨Z,Θ,env,C,its,e1,C1,S,h1,fun J H1 k1 f1 S1 it=>?_⟩
  have p1:=cY.pH k1 f1 S1
  refine⟨fun i m σ2 H2=>m=its.length-i∧i≤its.length∧∃Θ2 e2 C2,cY K Z Θ e1 σ H1 Θ2 e2 C2 σ2 H2∧iK fg body (its.drop i) e2 C2=some (fl,env',C'),⟨its.length,rfl,lF _,Θ,e1,C1,cY.same S1,hf⟩,?_⟩
  rintro i m σ2 H2 ⟨rfl,hi,Θ2,e2,C2,p2,hl⟩
  obtain⟨R4,R7⟩:=it i H2 (aQ Z Θ2 e2 σ2) p2.er (aib p2.er) p2.sm.xu
  cases hd:its[i]? with
  |none=>
   have hi2:i=its.length:=by
    have:=Ti.mp hd;omega
   rw[hi2,adh] at hl;cases hl;exact .inl ⟨R7 hi2,q Θ2 σ2 H2 (p1.trans p2)⟩
  |some d=>
   have hlt:i<its.length:=(jf.mp hd).1;have ed:its.drop i=d::its.drop (i+1):=by
    rw[ab4 hlt]
    obtain⟨_,e⟩:=jf.mp hd
    rw[e]
   rw[ed] at hl;unfold iK at hl
   obtain⟨go,yl⟩:=R4 d hd
   refine .inr ⟨go,fun σ' H'=>∃Θ2 e2 C2,cY K Z Θ e1 σ H1 Θ2 e2 C2 σ' H'∧iK fg body (its.drop (i+1)) e2 C2=some (fl,env',C'),fun σ' H' h=>⟨its.length-(i+1),by omega,rfl,hlt,h⟩,fun x H3 y=>?_⟩
   obtain⟨s3,r3⟩:=yl x H3 y
   have S3:=p2.sm.zA s3;have p3:=p2.trans (cY.pH (aP.of s3) (Fz.refl _) S3);split at hl
   ·rename_i e4 h4;refine L Z Θ2 e2 C2 σ2 H3 x d e4 S3 r3 h4 _ fun σ4 S4 o4=>?_
    have p4:cY K Z Θ e1 σ H1 Θ2 e4 C2 σ4 H3:=p3.trans ⟨jy.refl _ _,aP.refl _ _,fun a m=>.inl (o4 a m),S4⟩;split at hl
    ·rename_i e5 C5 h5
     exact⟨Z,Θ2,e4,C2,.nx,e5,C5,S4,h5,fun Θ5 σ5 H5 p5=>⟨Θ5,e5,C5,p4.trans p5,hl⟩⟩
    ·rename_i e5 C5 h5
     exact⟨Z,Θ2,e4,C2,.ct,e5,C5,S4,h5,fun Θ5 σ5 H5 p5=>⟨Θ5,e5,C5,p4.trans p5,hl⟩⟩
    ·rename_i e5 C5 h5;cases hl
     exact⟨Z,Θ2,e4,C2,.bk,env',C',S4,h5,fun Θ5 σ5 H5 p5=>q Θ5 σ5 H5 (p1.trans (p4.trans p5))⟩
    ·rename_i r e5 C5 h5;cases hl
     exact⟨Z,Θ2,e4,C2,.rt r,env',C',S4,h5,fun Θ5 v H5 p5=>q Θ5 v H5 (p1.ret (p4.ret p5))⟩
    ·cases hl
   ·cases hl
 ·cases hf
theorem oZ(hp:Mr (model X.prog X.w) X.A X.env X.xe)(hc:X.calm=true)(hi:PI X tg iter (tI X.K false fi))(hg:PG X tg g)(L:zX X.K g fg)(hb:ir X body (tS X.K f))
  (hs:∀x,sO iter X.env x=pure x:=by intro _;rfl):PS X (.For tg iter body [] pos) (tS X.K (fQ fi fg f)):=(aiX hp hc hi hg hb hs).weak (agT L)
def xX:fU→ao→Option (List ao)
 |.one,d=>some [d]
 |.many n,.tuple ds=>if ds.length=n then some ds else none
 |_,_=>none
def frB(js:List Nat)(env:En):En:=js.map fun j=>((env[j]?).join).map still
def dw(ds:List ao):En:=ds.map fun d=>some (.im d)
def jP(T:fU)(ft:FT)(fe:FE)(fs:En):List ao→Ce→Option (List ao×Ce)
 |[],C=>some ([],C)
 |d::r,C=>match xX T d with
  |some ts=>match ft (dw ts++fs) C with
   |some (false,C1)=>jP T ft fe fs r C1
   |some (true,C1)=>match fe (dw ts++fs) C1 with
    |some (x,_,C2)=>match still x with
     |.im y=>match jP T ft fe fs r C2 with
      |some (ys,C3)=>some (y::ys,C3)
      |none=>none
     |_=>none
    |none=>none
   |none=>none
  |none=>none
def fV(js:List Nat)(env:En):En:=env.mapIdx fun i x=>if i∈js then x.map still else x
def fLC(fi:FI)(T:fU)(ft:FT)(fe:FE)(js:List Nat):FE:=fun env C=>match fi env C with
 |some (its,e1,C1)=>match jP T ft fe (frB js e1) its C1 with
  |some (ys,C2)=>if ys.length≤LIM then some (.ow (.list ys),if fL ys then e1 else fV js e1,C2) else none
  |none=>none
 |none=>none
theorem aau:∀{a b:En},a.length=b.length→(∀(i:Nat)(x y:Option Vl),a[i]?=some x→b[i]?=some y→RP x y)→Fz a b
 |[],[],_,_=>trivial
 |x::r,y::t,hl,h=>⟨h 0 x y rfl rfl,aau (by simpa using hl) fun i u v h1 h2=>h (i+1) u v (by simpa using h1) (by simpa using h2)⟩
 |[],_::_,hl,_=>by cases hl
 |_::_,[],hl,_=>by cases hl
theorem zp(js:List Nat)(env:En):Fz env (fV js env):=aau (by unfold fV;rw[List.length_mapIdx]) fun i x y h1 h2=>by
 unfold fV at h2;rw[acC,h1] at h2;have h2:(if i∈js then Wj still x else x)=y:=fW h2;rw[←h2];split
 ·cases x with
  |none=>exact .inl rfl
  |some x=>
   cases x with
   |ow d=>exact .inr ⟨d,rfl,rfl⟩
   |im d=>exact .inl rfl
   |ce n=>exact .inl rfl
   |sc ns=>exact .inl rfl
 ·exact .inl rfl
theorem ZV{js:List Nat}{env:En}{k:Nat}{x:Vl}(h:(frB js env)[k]?=some (some x)):∃j:Nat,js[k]?=some j∧(fV js env)[j]?=some (some x)∧∀d,x≠.ow d:=by
 unfold frB at h;rw[gh] at h;cases hj:js[k]? with
 |none=>rw[hj] at h;cases h
 |some j=>
  rw[hj] at h;have h':((env[j]?).join).map still=some x:=fW h
  refine⟨j,rfl,?_,?_⟩
  ·unfold fV;rw[acC];cases hv:env[j]? with
   |none=>rw[hv] at h';cases h'
   |some y=>
    rw[hv] at h';show some (if j∈js then Wj still y else y)=_;rw[if_pos (m9 hj)];exact congrArg some h'
  ·cases hv:(env[j]?).join with
   |none=>rw[hv] at h';cases h'
   |some y=>
    rw[hv] at h';have e:still y=x:=fW h';rw[←e];intro d z;cases y<;>cases z
theorem zq:∀{env:En}{σ:St},(∀(i:Nat)(d:ao),env[i]?≠some (some (.ow d)))→bC env σ=[]
 |[],σ,_=>by cases σ<;>rfl
 |_::_,[],_=>rfl
 |x::e,v::s,h=>by
  rw[bC,zq (env:=e) (σ:=s) fun i d z=>h (i+1) d (by simpa using z)];have h0:=h 0;simp at h0;unfold own1;split
  ·rename_i d a;exact absurd rfl (h0 d)
  ·rfl
section
variable{K:aH}{Z Θ:List aa}{env:En}{C C2:Ce}{σ:St}{H H2:Hp}{D:aa}
abbrev jF(D:aa)(Z:List aa)(env:En)(σ:St):List aa:=D::(Z++bC env σ)
theorem mX{js:List Nat}{a:aa}{eB:En}{sB:St}(h:bC eB sB=[]):a∈aQ (jF D Z env σ) Θ eB sB↔a=D∨a∈aQ Z Θ env σ:=by
 rw[iH,iH,h,bN,cL];constructor
 ·rintro((h|h|h)|h|h)
  ·exact .inl h
  ·exact .inr (.inl h)
  ·exact .inr (.inr (.inr h))
  ·exact .inr (.inr (.inl h))
  ·nomatch h
 ·rintro(h|h|h|h)
  ·exact .inl (.inl h)
  ·exact .inl (.inr (.inl h))
  ·exact .inr (.inl h)
  ·exact .inl (.inr (.inr h))
theorem H9{js:List Nat}{ts:List ao}:∀(i:Nat)(d:ao),(dw ts++frB js env)[i]?≠some (some (.ow d)):=fun i d z=>by
 by_cases hi:i<(dw ts).length
 ·rw[m8 hi] at z;unfold dw at z;rw[gh] at z;cases h:ts[i]? with
  |none=>rw[h] at z;cases z
  |some t=>rw[h] at z;cases z
 ·rw[m7 (by omega)] at z
  obtain⟨j,_,_,h⟩:=ZV z
  exact h d rfl
theorem Sm.blk{js:List Nat}{ts:List ao}{vs:List V}(S:Sm K Z Θ (fV js env) C σ H)(hD:H D=lX)(k:aP Θ H H2)(nt:NT (H2 D))(c:mY Θ C2 H2)(r:cg (er (aQ (jF D Z (fV js env) σ) Θ [] []) H2) ts vs):
  Sm K (jF D Z (fV js env) σ) Θ (dw ts++frB js env) C2 (vs.map some++frees js σ) H2:=by
 have no:=zq (env:=dw ts++frB js env) (σ:=vs.map some++frees js σ) H9;have cT:=S.cT;have lv:=gZ r;have Jv:(dw ts).length=ts.length:=by unfold dw;rw[aX]
 have ee:er (aQ (jF D Z (fV js env) σ) Θ (dw ts++frB js env) (vs.map some++frees js σ)) H2=er (aQ (jF D Z (fV js env) σ) Θ [] []) H2:=qb fun a=>by rw[mX (js:=js) no,mX (js:=js) rfl]
 have sm:bw (er (aQ Z Θ (fV js env) σ) H) (er (aQ (jF D Z (fV js env) σ) Θ [] []) H2):=jO k S.pF fun b m=>by
  rcases(mX (js:=js) rfl).mp m with rfl|m
  ·exact .inr hD
  ·exact .inl m
 refine⟨?_,?_,fun b m=>?_,fun i x e=>?_,c⟩
 ·rw[fP,fP,aX,lv,Jv];unfold frees frB;rw[aX,aX]
 ·show(jF D Z (fV js env) σ++(Θ++bC (dw ts++frB js env) (vs.map some++frees js σ))).Nodup
  rw[no];refine xW (jB.mpr ⟨fun m=>?_,?_⟩) cT.2.1 oF (fun b m m'=>?_) (fun _ m=>nomatch m)
  ·rcases cL.mp m with m|m
   ·exact(S.dom D m).ne hD
   ·exact S.xu D (iH.mpr (.inr (.inr m))) hD
  ·rw[jV]
   exact⟨cT.1,cT.2.2.1,fun b m c' m' e=>by subst e;exact(S.lZ m').1 m⟩
  ·rcases bN.mp m with rfl|m
   ·exact S.xu b (iH.mpr (.inr (.inl m'))) hD
   ·rcases cL.mp m with m|m
    ·exact cT.2.2.2 b m m'
    ·exact(S.lZ m).2 m'
 ·rcases bN.mp m with rfl|m
  ·exact nt
  ·have:NT (H b)∧b∉Θ:=by
    rcases cL.mp m with m|m
    ·exact⟨S.dom b m,cT.2.2.2 b m⟩
    ·exact⟨S.Jt b (iH.mpr (.inr (.inr m))),(S.lZ m).2⟩
   obtain⟨⟨u,e,n⟩,nb⟩:=this
   exact⟨u,k.keep _ _ e nb,n⟩
 ·rw[ee];by_cases hi:i<ts.length
  ·rw[m8 (by rw[Jv];exact hi)] at e;unfold dw at e;rw[gh] at e;cases ht:ts[i]? with
   |none=>rw[ht] at e;cases e
   |some t=>
    rw[ht] at e;cases e
    obtain⟨v,ev,rv⟩:=wR r ht
    exact⟨v,by rw[m8 (by rw[aX,lv];exact hi),gh,ev];rfl,rv⟩
  ·rw[m7 (by rw[Jv];omega),Jv] at e
   obtain⟨j,hj,hx,nx⟩:=ZV e
   obtain⟨v,ev,rv⟩:=S.slot j x hx
   refine⟨v,?_,rv.same sm fun d _ z=>absurd z (nx d)⟩
   rw[m7 (by rw[aX,lv];omega),aX,lv];unfold frees;rw[gh,hj];show some ((σ[j]?).join)=_;rw[ev];rfl
end
def gw:FT:=fun _ C=>some (true,C)
theorem uV{X:Cx}:lN X [] (dZ X.K gw):=fun pins s σ H Q I aJ=>by
 obtain⟨Z,Θ,env,C,b,C',S,hf,q⟩:=aJ
 cases hf;exact ahP pins s σ H Q I (q H (aP.refl _ _) S)
theorem Hs{X:Cx}{c:Expr}{f:FT}(h:PT X c (dZ X.K f)):lN X [c] (dZ X.K f):=ahQ h
theorem akx{K:aH}{T:fU}{E H:Hp}{d:ao}{x:V}{ts:List ao}(h:xX T d=some ts)(r:RZ E d x)(s:bw E H):∃vs,vJ K T x H vs∧cg E ts vs:=by
 cases T with
 |one=>cases h;exact⟨[x],rfl,x,[],rfl,r,rfl⟩
 |many n=>
  cases d<;>first|cases h|skip
  rename_i ds;have h:(if ds.length=n then some ds else none)=some ts:=h;split at h
  ·rename_i hl;cases h
   obtain⟨a,vs,rfl,ha,r⟩:=r
   exact⟨vs,⟨a,rfl,cI.of (s _ _ ha),(gZ r).trans hl⟩,r⟩
  ·cases h
def rQ{α:Type}(T:fU)(ft:FT)(st:En→α→Ce→Option (α×Ce))(fs:En):List ao→α→Ce→Option (α×Ce)
 |[],a,C=>some (a,C)
 |d::r,a,C=>(xX T d).bind fun ts=>(ft (dw ts++fs) C).bind fun p=>bif p.1 then(st (dw ts++fs) a p.2).bind fun q=>rQ T ft st fs r q.1 q.2 else rQ T ft st fs r a p.2
inductive aa3{α:Type}(Θ:List aa)(H1:Hp)(n:Nat)(Ob:α→Hp→Prop)(run:Nat→α→Ce→Prop)(i m:Nat)(H2:Hp):Prop
 |mk (a:α) (Ci:Ce) (hm:m=n-i) (hi:i≤n) (ki:aP Θ H1 H2) (ci:mY Θ Ci H2) (ob:Ob a H2) (hc:run i a Ci):aa3 Θ H1 n Ob run i m H2
section
variable{K:aH}{α:Type}{T:fU}{ft:FT}{st:En→α→Ce→Option (α×Ce)}{js:List Nat}{Z Θ:List aa}{e1:En}{C1 C':Ce}{σ:St}{H1:Hp}{J:It}{its:List ao}{D:aa}{o0:HO}{a0 aE:α}
theorem Qo{Hx Hy:Hp}{u:HO}(hD:H1 D=lX)(kk:aP Θ H1 Hx):aP Θ H1 (upd Hx D u):=by
 refine⟨fun a o ha na=>?_,fun a ha=>?_⟩
 ·rw[cN (oH ha hD)];exact kk.keep _ _ ha na
 ·by_cases z:a=D
  ·subst z;rw[eN];exact uC _
  ·rw[cN z];exact kk.dom a ha
theorem G4{Hx:Hp}{u:HO}(hD:D∉Θ)(c:mY Θ C1 Hx):mY Θ C1 (upd Hx D u):=by
 refine⟨c.len,fun n b ns e2 e3=>?_⟩
 rw[cN]
 ·exact c.at_ n b ns e2 e3
 ·intro z;subst z;exact hD (m9 e2)
theorem NP{em:TM}{Ob:α→Hp→Prop}{done:Hp→Prop}(S1:Sm K Z Θ e1 C1 σ H1)(it:xG (aQ Z Θ e1 σ) Θ H1 J its)(hD:H1 D=lX)(ob0:Ob a0 (upd H1 D o0))(zY:∀a Hx Hy,aP Θ Hx Hy→Ob a Hx→Ob a Hy)(obn:∀a Hx,Ob a Hx→NT (Hx D))
  (hem:∀(ts:List ao)(a:α)(C2:Ce)(p:α×Ce)(vs:List V)(H4:Hp)(Q:Hp→Prop),st (dw ts++frB js e1) a C2=some p→Sm K (jF D Z (fV js e1) σ) Θ (dw ts++frB js e1) C2 (vs.map some++frees js σ) H4→aP Θ H1 H4→Ob a H4→(∀H6,aP Θ H1 H6→mY Θ p.2 H6→Ob p.1 H6→Q H6)→em (vs.map some++frees js σ) H4 Q)
  (hc:rQ T ft st (frB js e1) its a0 C1=some (aE,C'))(hq:∀H2,aP Θ H1 H2→mY Θ C' H2→Ob aE H2→done H2):vA K T (dZ K ft) em (frees js σ) J (upd H1 D o0) done:=by
 have pC:D∉Θ:=fun m=>(S1.cell.dom D m).ne hD
 have S1f:=S1.fz (zp js e1)
 refine⟨aa3 Θ H1 its.length Ob (fun i a Ci=>rQ T ft st (frB js e1) (its.drop i) a Ci=some (aE,C')),⟨its.length,⟨a0,C1,rfl,lF _,aP.upd hD,G4 pC S1.cell,ob0,hc⟩⟩,fun i m H2 hh=>?_⟩
 cases hh with
 |mk a Ci hm hi ki ci ob hc=>
 subst hm;have nt:=obn a H2 ob;have smP:bw (er (aQ Z Θ e1 σ) H1) (er (aQ (jF D Z (fV js e1) σ) Θ [] []) H2):=jO ki S1.pF fun b m=>by
  rcases(mX (js:=js) rfl).mp m with rfl|m
  ·exact .inr hD
  ·exact .inl ((zp js e1).sub b m)
 have ak8:∀a∈aQ (jF D Z (fV js e1) σ) Θ [] [],H2 a≠lX:=fun a m=>(S1f.blk hD ki nt ci (show cg _ [] [] from rfl)).xu a ((mX (js:=js) (zq (env:=dw []++frB js e1) H9)).mpr ((mX (js:=js) rfl).mp m))
 obtain⟨R4,R7⟩:=it i H2 _ smP (ZL ki) ak8
 cases hd:its[i]? with
 |none=>
  have hi2:i=its.length:=Nat.le_antisymm hi (Ti.mp hd);rw[hi2,adh] at hc;cases hc;exact .inl ⟨R7 hi2,hq H2 ki ci ob⟩
 |some d=>
  obtain⟨hlt,ed⟩:=jf.mp hd
  rw[ab4 hlt,ed] at hc
  obtain⟨go,yl⟩:=R4 d hd
  refine .inr ⟨go,fun x H3 y=>?_⟩
  obtain⟨s3,r3⟩:=yl x H3 y
  obtain⟨ts,ht,hc⟩:=gm hc
  obtain⟨p,hft,hc⟩:=gm hc
  obtain⟨vs,tv,rvs⟩:=akx (K:=K) ht r3 (zy _ _)
  refine⟨vs,tv,?_⟩
  have k3:aP Θ H1 H3:=ki.trans (aP.of s3);have R8:=zY a _ _ (aP.of s3) ob;have SB:=S1f.blk (js:=js) hD k3 (obn a H3 R8) ⟨ci.len,fun n b ns e2 e3=>s3 _ _ (ci.at_ n b ns e2 e3)⟩ rvs;have lt:its.length-(i+1)<its.length-i:=by omega
  refine⟨_,Θ,_,Ci,p.1,p.2,SB,hft,fun H4 k4 S4=>?_⟩
  cases hp:p.1 with
  |false=>
   rw[hp] at hc;exact vq ⟨_,lt,⟨a,p.2,rfl,hlt,k3.trans k4,S4.cell,zY a _ _ k4 R8,hc⟩⟩
  |true=>
   rw[hp] at hc
   obtain⟨q,hs,hc⟩:=gm hc
   exact vz (hem ts a p.2 q vs H4 _ hs S4 (k3.trans k4) (zY a _ _ k4 R8) fun H6 k6 c6 o6=>⟨_,lt,⟨q.1,q.2,rfl,hlt,k6,c6,o6,hc⟩⟩)
end
def Rm(fe:FE):En→List ao→Ce→Option (List ao×Ce):=fun env acc C=>(fe env C).bind fun q=>(imO (still q.1)).bind fun y=>bif decide (acc.length<LIM) then some (acc++[y],q.2.2) else none
theorem Pg{T:fU}{ft:FT}{fe:FE}{fs:En}{C':Ce}:∀{its:List ao}{ys acc:List ao}{C:Ce},jP T ft fe fs its C=some (ys,C')→acc.length+ys.length≤LIM→rQ T ft (Rm fe) fs its acc C=some (acc++ys,C')
 |[],ys,acc,C,h,_=>by
  cases h;rw[j6];rfl
 |d::r,ys,acc,C,h,hl=>by
  unfold jP at h;unfold rQ;split at h
  case h_2=>cases h
  rename_i ts ht;rw[ht,gR];split at h
  case h_3=>cases h
  ·rename_i C1 hf;rw[hf,gR];exact Pg h hl
  ·rename_i C1 hf;rw[hf,gR];split at h
   case h_2=>cases h
   rename_i x e2 C2 hx;split at h
   case h_2=>cases h
   rename_i y hy;split at h
   case h_2=>cases h
   rename_i zs C3 hz;cases h;rw[cR] at hl
   show(Rm fe (dw ts++fs) acc C1).bind _=_
   unfold Rm;rw[hx,gR,hy,show imO (.im y)=some y from rfl,gR,decide_eq_true (by omega),show acc++y::zs=(acc++[y])++zs by rw[j4];rfl];exact Pg hz (by rw[fP];show acc.length+1+_≤_;omega)
theorem Y4{K:aH}{fi:FI}{T:fU}{ft:FT}{fe:FE}{js:List Nat}:∀σ H Q,tE K (fLC fi T ft fe js) σ H Q→RJ K (tI K true fi) T (fun _=>dZ K ft) (fun _=>tE K fe) js σ H Q:=by
 rintro σ H Q ⟨Z,Θ,env,C,res,env',C',S,hf,q⟩;unfold fLC at hf;split at hf
 case h_2=>cases hf
 rename_i its e1 C1 h1;split at hf
 case h_2=>cases hf
 rename_i ys C2 h2;split at hf
 case isFalse=>cases hf
 rename_i hl;cases hf
 refine⟨Z,Θ,env,C,its,e1,C1,S,h1,fun J H1 k1 f1 S1 it D hD b=>?_⟩
 have pC:D∉Θ:=fun m=>(S1.cell.dom D m).ne hD
 have R9:D∈aQ (jF D Z (fV js e1) σ) Θ [] []:=(mX (js:=js) rfl).mpr (.inl rfl);refine NP (a0:=[]) (Ob:=fun acc Hx=>jE (er (aQ (jF D Z (fV js e1) σ) Θ [] []) Hx) Hx D (.list acc)) S1 it hD ⟨[],eN,rfl⟩ (fun a Hx Hy kk r=>r.same (jO kk (fun a m=>iH.mpr (.inr (.inl m))) fun a m=>.inl m) fun o h=>kk.keep _ _ h pC)
  (fun a Hx r=>by obtain⟨vs,e,_⟩:=r;exact⟨_,e,fun _ z=>nomatch z⟩) ?_ (Pg (acc:=[]) h2 (by rw[Ag,FP];exact hl)) fun H2 ki ci r=>?_
 ·intro ts acc C2 p vs H4 Q hs S4 k4 r4 hQ
  obtain⟨w,hfe,hs⟩:=gm hs
  obtain⟨yd,qL,hs⟩:=gm hs
  have qL:=BZ qL;cases hlt:decide (acc.length<LIM) with
  |false=>rw[hlt] at hs;cases hs
  |true=>
  rw[hlt] at hs;cases hs
  refine⟨_,Θ,_,C2,w.1,w.2.1,w.2.2,S4,hfe,fun y H5 k5 f5 R5=>?_⟩
  obtain⟨S5,r5⟩:=R5.rP qL
  obtain⟨uh,hD5,rr⟩:=r4.same (jO k5 (fun a m=>iH.mpr (.inr (.inl m))) fun a m=>.inl m) fun o h=>k5.keep _ _ h pC
  have Sd:bC w.2.1 (vs.map some++frees js σ)=[]:=by
   have:=(Fz.own (σ:=vs.map some++frees js σ) f5)
   rw[zq H9] at this;exact adi.mp this
  have e5:er (aQ (jF D Z (fV js e1) σ) Θ w.2.1 (vs.map some++frees js σ)) H5=er (aQ (jF D Z (fV js e1) σ) Θ [] []) H5:=qb fun a=>by rw[mX (js:=js) Sd,mX (js:=js) rfl]
  rw[e5] at r5;have lt:=of_decide_eq_true hlt
  refine⟨uh,hD5,by rw[gZ rr,iT];unfold LIM at lt;omega,hQ _ (Qo (Hy:=H5) hD (k4.trans k5)) (G4 pC S5.cell) ⟨_,eN,?_⟩⟩
  rw[HY R9];exact wO rr ⟨y,[],rfl,r5,rfl⟩
 ·obtain⟨uh,hDi,ri⟩:=r
  refine q _ H2 (k1.trans ki) ?_ ?_
  ·split
   ·exact f1
   ·exact f1.trans (zp js e1)
  ·refine⟨D,rfl,k1.none hD,?_⟩
   split
   ·rename_i hn;have SD:=S1.xj hD ki ⟨_,hDi,fun _ z=>nomatch z⟩ ci
    exact⟨SD,uh,hDi,ri.jl (fun a vs e=>BX SD (jh e)) hn⟩
   ·refine⟨(S1.fz (zp js e1)).xj hD ki ⟨_,hDi,fun _ z=>nomatch z⟩ ci,uh,hDi,?_⟩
    rw[qb (P':=aQ (D::Z) Θ (fV js e1) σ) fun a=>by rw[mX (js:=js) rfl];show _↔a∈D::aQ Z Θ (fV js e1) σ;rw[bN]] at ri;exact ri
section
variable{X:Cx}{NT NF:List Str}{js:List Nat}{elt tg iter:Expr}{ifs:List Expr}{T:fU}{fi:FI}{ft:FT}{fe:FE}{scope:iJ}{pos:Pos}
theorem vd(B:nO X NT NF js scope)(tk:mZ tg NT T)(hc:X.calm=true)(hi:PI X tg iter (tI X.K true fi))
  (hin:∀b,lN (X.bk (NT++NF) scope b) ifs (dZ X.K ft)∧PE (X.bk (NT++NF) scope b) elt (tE X.K fe))
  (hs:∀x,sO iter X.env x=pure x:=by intro _;rfl):PE X (.ListComp elt [⟨tg,iter,ifs,0⟩] scope pos) (tE X.K (fLC fi T ft fe js)):=(akr B tk hc hi hin hs).weak Y4
theorem XC{i:Nat}{y:Str}{pos' spos:Pos}(B:nO X NT NF js scope)(tk:mZ tg NT T)(hc:X.calm=true)(hi:PI X tg iter (tI X.K true fi))
  (hin:∀b,lN (X.bk (NT++NF) scope b) ifs (dZ X.K ft)∧PE (X.bk (NT++NF) scope b) elt (tE X.K fe))
  (hsw:rm (.ListComp elt [⟨tg,iter,ifs,0⟩] scope pos) (some (.Name y pos')) spos.line X.env=pure true)(hN:X.N.Nodup)(hI:X.N[i]?=some y)(hy:X.env.scope.names.lookup y=some .local)
  (hs:∀x,sO iter X.env x=pure x:=by intro _;rfl):PS X (.Assign [.Name y pos'] (.ListComp elt [⟨tg,iter,ifs,0⟩] scope pos) spos) (tS X.K (fSet i (fLC fi T ft fe js))):=(agy B tk hc hi hin hsw hN hI hy hs).weak (Nz Y4)
end
def CJ(n:Nat):Vl→Bool
 |.ce m=>decide (m<n)
 |_=>true
def fN(k n:Nat)(body:FS):FN:=fun xs C=>if xs.length=k then match body (xs.map some++gH (n-xs.length) none) C with
  |some (.rt r,_,C')=>if CJ C.length r then some (r,C'.take C.length) else none
  |some (.nx,_,C')=>some (.im .none,C'.take C.length)
  |_=>none
 else none
section
variable{K:aH}{Z Θ:List aa}{C:Ce}{H:Hp}{xs:List Vl}{vs:List V}
theorem NQ(a:oY K E Θ xs vs):vs.length=xs.length:=by
 induction a with
 |nil=>rfl
 |cons _ _ ih=>rw[cR,cR,ih]
theorem aic(a:oY K E Θ xs vs):∀{i:Nat}{x:Vl},xs[i]?=some x→∃v,vs[i]?=some v∧tV K E Θ x v:=by
 induction a with
 |nil=>intro i x e;simp at e
 |cons h _ ih=>
  intro i x e;cases i with
  |zero=>simp at e;subst e;exact⟨_,rfl,h⟩
  |succ i=>
   obtain⟨v,e2,h2⟩:=ih (i:=i) (by simpa using e)
   exact⟨v,by simpa using e2,h2⟩
theorem Sm.start(S:Sm K Z Θ [] C [] H)(a:oY K (er (aQ Z Θ [] []) H) Θ xs vs):Sm K Z Θ (xs.map some++gH n lX) C (vs.map some++gH n lX) H∧bC (xs.map some++gH n lX) (vs.map some++gH n lX)=[]:=by
 have lv:=NQ a;have at':∀{i:Nat}{x:Vl},(xs.map some++gH n lX)[i]?=some (some x)→∃v,vs[i]?=some v∧tV K (er (aQ Z Θ [] []) H) Θ x v∧i<vs.length:=fun{i x} e=>by
  by_cases hi:i<xs.length
  ·rw[m8 (by rw[aX];exact hi),gh] at e;cases hx:xs[i]? with
   |none=>rw[hx] at e;cases e
   |some y=>
    rw[hx] at e;cases e
    obtain⟨v,e1,h⟩:=aic a hx
    exact⟨v,e1,h,by rw[lv];exact hi⟩
  ·rw[m7 (by rw[aX];omega)] at e;have:=m9 e;exact nomatch(List.eq_of_mem_replicate this)
 have no:bC (xs.map some++gH n lX) (vs.map some++gH n lX)=[]:=zq fun i d e=>by
  obtain⟨v,_,h,_⟩:=at' e
  exact h
 refine⟨⟨by simp[lv],?_,S.dom,fun i x e=>?_,S.cell⟩,no⟩
 ·show(Z++(Θ++bC _ _)).Nodup
  rw[no];exact S.nd
 ·obtain⟨v,e1,h,hl⟩:=at' e
  refine⟨v,by rw[m8 (by rw[aX];exact hl),gh,e1];rfl,?_⟩
  have ee:er (aQ Z Θ (xs.map some++gH n lX) (vs.map some++gH n lX)) H=er (aQ Z Θ [] []) H:=by
   show er (Z++(Θ++bC _ _)) H=_;rw[no];rfl
  rw[ee];cases x with
  |im d=>exact h
  |ow d=>exact h.elim
  |ce m=>exact h
  |sc ns=>exact h
theorem Sm.cut(S:Sm K Z (Θ++Δ) [] C [] H):Sm K Z Θ [] (C.take Θ.length) [] H:=by
 have cT:=S.cT;have cl:=S.cell.len;rw[fP] at cl
 refine⟨rfl,xW cT.1 (jV.mp cT.2.1).1 oF (fun b m m'=>cT.2.2.2 b m (gf _ m')) (fun _ m=>nomatch m),S.dom,fun i x e=>by simp at e,⟨by rw[mV];omega,fun n a ns e1 e2=>?_⟩⟩
 have hn:n<Θ.length:=(jf.mp e1).1;rw[T4,if_pos hn] at e2;exact S.cell.at_ n a ns (by rw[m8 hn];exact e1) e2
theorem Im.cut(t:jy Θ Θ' H)(ok:CJ Θ.length r=true)(no:O=[])(h:Im K Z Θ' C' O H H' r v):Res K Z Θ [] (C'.take Θ.length) [] H H' r v:=by
 obtain⟨Δ,rfl,hn⟩:=t.ex
 have sm:∀{Y:List aa},bw (er (aQ Y (Θ++Δ) [] []) H') (er (aQ Y Θ [] []) H'):=fun{Y}=>rG fun a m=>by
  rcases iH.mp m with m|m|m
  ·exact iH.mpr (.inl m)
  ·exact iH.mpr (.inr (.inl (gf _ m)))
  ·nomatch m
 cases r with
 |im d=>exact⟨h.1.cut,h.2.same sm⟩
 |ow d=>
  obtain⟨a,e,m,S,r⟩:=h
  refine⟨a,e,?_,S.cut,r.same sm fun _ h=>h⟩
  rcases m with m|m
  ·rw[no] at m;nomatch m
  ·exact m
 |ce n=>
  obtain⟨S,a,e,e2⟩:=h
  refine⟨S.cut,a,e,?_⟩
  rw[m8 (of_decide_eq_true ok)] at e2;exact e2
 |sc ns=>
  obtain⟨S,a,e,q⟩:=h
  exact⟨S.cut,a,e,sm.seq q⟩
end
section
variable{P:bf}{w:aY}{K:aH}{mg:Str→Option Value}{base:aV}
theorem ie{x qual:Str}{st:cP}{f:aa}{fd:di}{N ps:List Str}{k:Nat}{body:FS}{k1 k2:Nat}(F:fO K x qual st f fd)(S:gj N ps (cM st))
  (hb:∀(cdv:Value)(A:bU)(outer:List Env)(s:au)(H:Hp)(E:XK),gG k (A.deeper (envOfC qual (cM st) s.heap.objs.size f cdv))→ir (xr eV P w K mg base N qual (cM st) f cdv A outer s H E).uo (uR st) (tS K body))
  (e1:k1=ps.length:=by rfl)(e2:k2=N.length:=by rfl):cW P w K mg base eV (k+1) f fd ps (spT K (fN k1 k2 body)):=by
 subst e1 e2;refine F.ok S (fun vs H Q E h=>?_) (fun cdv A outer s H vs Q E hr h=>⟨_,hb cdv A outer s H E hr,?_⟩)
 ·obtain⟨Z,Θ,C,xs,r,C',S0,a,hf,_⟩:=h
  unfold fN at hf;split at hf
  ·rename_i hl;rw[NQ a,hl]
  ·cases hf
 ·obtain⟨Z,Θ,C,xs,r,C',S0,a,hf,q⟩:=h
  unfold fN at hf;split at hf
  case isFalse=>cases hf
  rename_i hl;have lv:=NQ a
  obtain⟨S1,no⟩:=S0.start (n:=N.length-vs.length) a
  rw[lv] at S1 no;have hs:start N vs=vs.map some++gH (N.length-xs.length) none:=by unfold start;rw[lv]
  rw[hs];have cl:=S0.cell.len;split at hf
  ·rename_i r0 e' C1 hb';split at hf
   ·rename_i hok;cases hf
    refine⟨Z,Θ,_,C,.rt r,e',C1,S1,hb',fun Θ' v H' R=>?_⟩
    have kp:=R.kp;rw[no,j6] at kp;rw[cl] at q hok;exact q v H' kp (R.ok.cut R.th hok no)
   ·cases hf
  ·rename_i e' C1 hb';cases hf
   refine⟨Z,Θ,_,C,.nx,e',C1,S1,hb',fun Θ' σ' H' R=>?_⟩
   have kp:=R.kp;rw[no,j6] at kp
   obtain⟨Δ,e,hn⟩:=R.th.ex
   have S2:=R.sm.none;rw[e] at S2;rw[cl] at q;exact q .non H' kp ⟨S2.cut,rfl⟩
  ·cases hf
theorem ajx(hS:bO K H a (ns.map V.int))(h:f [.sc ns] []=some (.im (.bool true),C')):spT K f [.ref a] H (fun v _=>v=.bl true) E:=by
 refine⟨[],[],[],[.sc ns],_,C',⟨rfl,oF,(fun _ m=>nomatch m),fun i x e=>by simp at e,⟨rfl,fun n b ms e _=>by simp at e⟩⟩,.cons ⟨a,rfl,?_⟩ .nil,h,fun v H' _ R=>R.2⟩
 show bO K (er [] H) a _;rw[BV];exact hS
end
def vf(i:Nat):FE:=fun env C=>match env[i]? with
 |some (some (.sc ns))=>some (.im (.int ns.length),env,C)
 |_=>none
def Df(i:Nat)(f:FB):FE:=fun env C=>match env[i]? with
 |some (some (.sc ns))=>match f env C with
  |some (.int k,_,C1)=>match dJ ns k with
   |some z=>some (.im (.int z),env,C1)
   |none=>none
  |_=>none
 |_=>none
section
variable{X:Cx}{o k:Expr}{i:Nat}{p pos:Pos}
theorem Y5(ho:PE X o (nW i))(hg:Gl X "len")(hm:X.mg "len"=none)(hv:sY "len"=some (.builtin "len"))
  (he:aZ [o] X.env=(false,eval o X.env)::aZ [] X.env:=by rfl)(hpl:(eO pos (aZ [] X.env)).any (·.1)=false:=by rfl):PE X (.Call (.Name "len" p) [o] [] pos) (tE X.K (vf i)):=
 (Ng Vy hg hm hv (oR ho pY he) (by decide) (by decide) he hpl).weak fun σ H Q aJ=>by
  obtain⟨Z,Θ,env,C,r,env',C',S,hf,q⟩:=aJ
  unfold vf at hf;split at hf
  ·rename_i ns h0;cases hf
   obtain⟨v,ev,a,rfl,sq⟩:=S.slot i _ h0
   have:=q (.int ns.length) H (aP.refl _ _) (Fz.refl _) ⟨S,rfl⟩
   exact⟨_,ev,a,_,rfl,.inl ((zy _ _).seq sq),by rw[aX];exact this⟩
  ·cases hf
theorem ajy(ho:PE X o (nW i))(hk:PE X k (cX X.K f))(hs:Hf k):PE X (.Subscript o k pos) (tE X.K (Df i f)):=(QM O2 ho hk hs).weak fun σ H Q aJ=>by
 obtain⟨Z,Θ,env,C,r,env',C',S,hf,q⟩:=aJ
 unfold Df at hf;split at hf
 case h_2=>cases hf
 rename_i ns h0;split at hf
 case h_2=>cases hf
 rename_i z e1 C1 h1;split at hf
 case h_2=>cases hf
 rename_i y hy;cases hf
 obtain⟨v,ev,a,rfl,sq⟩:=S.slot i _ h0
 refine⟨_,ev,Z,Θ,env,C,_,e1,C',S,h1,fun w H1 k1 f1 S1 b1=>?_⟩
 have S2:=S.go k1 S1.cell
 obtain⟨v2,ev2,a2,ea2,sq2⟩:=S2.slot i _ h0
 rw[ev] at ev2;cases ev2;cases ea2
 refine⟨a,_,z,.int y,rfl,b1,(zy _ _).seq sq2,?_,q _ H1 k1 (Fz.refl _) ⟨S2,rfl⟩⟩
 unfold dJ at hy⊢;rw[aX];cases hj:mO ns.length z with
 |none=>rw[hj] at hy;cases hy
 |some j=>
  rw[hj] at hy
  show(ns.map V.int)[j]?=_
  rw[gh,show ns[j]?=some y from hy];rfl
end
section
variable{K:aH}{X:Cx}
theorem qu(h:Ij Z Θ env σ H [d] vs):∃v,vs=[v]∧eU Z Θ env σ H d v:=by
 cases h with
 |cons a b=>cases b;exact⟨_,rfl,a⟩
theorem aav(h:Ij Z Θ env σ H [d,e] vs):∃v w,vs=[v,w]∧eU Z Θ env σ H d v∧eU Z Θ env σ H e w:=by
 cases h with
 |cons a b=>
  cases b with
  |cons b c=>cases c;exact⟨_,_,rfl,a,b⟩
def Dg:ao→Option Nat
 |.list ds=>some ds.length
 |.tuple ds=>some ds.length
 |.str z=>if z.length≤LIM then some z.length else none
 |.dict kvs=>if(cH cQ kvs).isSome then some kvs.length else none
 |_=>none
def jQ:List ao→Option Vl
 |[d]=>(Dg d).map fun n=>.im (.int n)
 |_=>none
def aaw(K:aH):List V→Hp→VK→Prop:=fun xs H Q=>((∃p ys,xs=[.ref p]∧(bO K H p ys∨cI K H p ys)∧Q (.int ys.length) H)∨∃z,xs=[.str z]∧z.length≤bM∧Q (.int z.length) H)∨∃a kvs,xs=[V.ref a]∧H a=some (.dK kvs)∧Q (.int kvs.length) H
theorem nF:jb X (.builtin "len") (aaw X.K):=(Vy.or ad4).or afB
theorem nJ:pG K (aaw K) jQ:=by
 intro Z Θ env C σ H xs ds res S b e Q q;unfold jQ at e;split at e
 case h_2=>cases e
 rename_i d
 obtain⟨v,rfl,bb⟩:=qu b
 cases hn:Dg d with
 |none=>rw[hn] at e;cases e
 |some n=>
  rw[hn] at e;cases e;have fin:=q (.int n) H (aP.refl _ _) (gW S rfl rfl);cases d<;>first|cases hn|skip
  ·rename_i z;simp only[Dg] at hn;split at hn
   ·rename_i hl;cases hn;cases bb.str;exact .inl (.inr ⟨z,rfl,rB hl,fin⟩)
   ·cases hn
  ·obtain⟨a,vs,rfl,ha,r⟩:=bb.lst
   exact .inl (.inl ⟨a,vs,rfl,.inl (bO.of ha),by rw[gZ r];exact fin⟩)
  ·obtain⟨a,vs,rfl,ha,r⟩:=bb.tup
   exact .inl (.inl ⟨a,vs,rfl,.inr (cI.of ha),by rw[gZ r];exact fin⟩)
  ·rename_i kvs;simp only[Dg] at hn;split at hn
   ·rename_i hs;cases hn
    obtain⟨a,vs,rfl,da,r⟩:=bb.dct
    rcases da with⟨ks,h1,ha⟩|⟨ks,⟨ne,h2⟩,ha⟩
    ·refine .inr ⟨a,_,rfl,ha,?_⟩;rw[Uw,uL h1,Br r,Nat.min_self];exact fin
    ·obtain⟨ks',h1⟩:=sI.mp hs
     exact absurd (uM h1 h2) ne
   ·cases hn
def CK:List ao→Option Vl
 |[.int i]=>some (.im (.int (if i<0 then -i else i)))
 |_=>none
theorem ZW:pG K (fun xs H Q=>∃i,xs=[.int i]∧Q (.int (if i<0 then -i else i)) H) CK:=by
 intro Z Θ env C σ H xs ds res S b e Q q;unfold CK at e;split at e
 case h_2=>cases e
 cases e
 obtain⟨v,rfl,bb⟩:=qu b
 cases bb.int
 exact⟨_,rfl,q _ H (aP.refl _ _) (gW S rfl rfl)⟩
def nQ:List ao→Option Vl
 |[.int i]=>some (.im (.int i))
 |[.bool k]=>some (.im (.int (if k then 1 else 0)))
 |_=>none
theorem Cm:pG K (fun xs H Q=>(∃i,xs=[.int i]∧Q (.int i) H)∨∃k,xs=[.bl k]∧Q (.int (if k then 1 else 0)) H) nQ:=by
 intro Z Θ env C σ H xs ds res S b e Q q;unfold nQ at e;split at e
 case h_3=>cases e
 ·cases e
  obtain⟨v,rfl,bb⟩:=qu b
  cases bb.int;exact .inl ⟨_,rfl,q _ H (aP.refl _ _) (gW S rfl rfl)⟩
 ·cases e
  obtain⟨v,rfl,bb⟩:=qu b
  cases(show v=.bl _ from bb)
  exact .inr ⟨_,rfl,q _ H (aP.refl _ _) (gW S rfl rfl)⟩
def zu:List ao→Option Vl
 |[.int i,.int j]=>some (.im (.int (if j>i then j else i)))
 |_=>none
def qe:List ao→Option Vl
 |[.int i,.int j]=>some (.im (.int (if j<i then j else i)))
 |_=>none
theorem aid:pG K (fun xs H Q=>∃i j,xs=[.int i,.int j]∧Q (.int (if j>i then j else i)) H) zu:=by
 intro Z Θ env C σ H xs ds res S b e Q q;unfold zu at e;split at e
 case h_2=>cases e
 cases e
 obtain⟨v,w,rfl,b1,b2⟩:=aav b
 cases b1.int;cases b2.int
 exact⟨_,_,rfl,q _ H (aP.refl _ _) (gW S rfl rfl)⟩
theorem Bt:pG K (fun xs H Q=>∃i j,xs=[.int i,.int j]∧Q (.int (if j<i then j else i)) H) qe:=by
 intro Z Θ env C σ H xs ds res S b e Q q;unfold qe at e;split at e
 case h_2=>cases e
 cases e
 obtain⟨v,w,rfl,b1,b2⟩:=aav b
 cases b1.int;cases b2.int
 exact⟨_,_,rfl,q _ H (aP.refl _ _) (gW S rfl rfl)⟩
def Bu:List ao→Option Vl
 |[.list ds]=>some (.im (.tuple ds))
 |[.tuple ds]=>some (.im (.tuple ds))
 |_=>none
theorem XD:pG K (fun xs H Q=>∃p ys,xs=[.ref p]∧((bO K H p ys∧∀l,H l=none→Q (.ref l) (upd H l (.tup ys)))∨(cI K H p ys∧Q (.ref p) H))) Bu:=by
 intro Z Θ env C σ H xs ds res S b e Q q;unfold Bu at e;split at e
 case h_3=>cases e
 ·cases e
  obtain⟨v,rfl,bb⟩:=qu b
  obtain⟨a,vs,rfl,ha,r⟩:=bb.lst
  exact⟨a,vs,rfl,.inl ⟨bO.of ha,fun l hl=>q _ _ (aP.upd hl) (Hj S r hl)⟩⟩
 ·cases e
  obtain⟨v,rfl,bb⟩:=qu b
  obtain⟨a,vs,rfl,ha,r⟩:=bb.tup
  exact⟨a,vs,rfl,.inr ⟨cI.of ha,q _ H (aP.refl _ _) ⟨S,bb⟩⟩⟩
end
def zQ(n:String):ao→Option Bool
 |.none=>some false
 |.bool _=>some (n=="bool"||n=="int")
 |.int _=>some (n=="int")
 |.str _=>some (n=="str")
 |.list _=>some (n=="list")
 |.tuple _=>some (n=="tuple")
 |.dict _=>none
def Ro(n:String):Bool:=n=="bool"||n=="int"||n=="str"||n=="list"||n=="tuple"
theorem ajz{K:aH}{n:String}{d:ao}{b:Bool}(hn:Ro n=true)(e:zQ n d=some b):U4 K (Js d) (.type n)=some b:=by
 unfold Ro at hn;simp only[Bool.or_eq_true,beq_iff_eq] at hn;rcases hn with(((rfl|rfl)|rfl)|rfl)|rfl<;>cases d<;>cases e<;>rfl
theorem agU(e:zQ n d=some b):∀kvs,d≠.dict kvs:=fun kvs z=>by subst z;cases e
theorem eU.ty{K:aH}{Z Θ:List aa}{env:En}{σ:St}{H:Hp}{d:ao}{v:V}(h:eU Z Θ env σ H d v)(hd:∀kvs,d≠.dict kvs):mH K H v (Js d):=by
 cases d with
 |none=>exact RX.ty (d:=.none) h
 |bool b=>exact RX.ty (d:=.bool b) h
 |int i=>exact RX.ty (d:=.int i) h
 |str z=>exact RX.ty (d:=.str z) h
 |list ds=>
  obtain⟨a,vs,rfl,ha,r⟩:=h.lst
  exact .lst ha
 |tuple ds=>
  obtain⟨a,vs,rfl,ha,r⟩:=h.tup
  exact .tup ha
 |dict kvs=>exact absurd rfl (hd kvs)
def xH(n:String)(f:FB):FE:=fun env C=>match f env C with
 |some (d,_,C1)=>match zQ n d with
  |some b=>some (.im (.bool b),env,C1)
  |none=>none
 |none=>none
section
variable{X:Cx}{a t t':Expr}{p pos tp:Pos}{x1:Nat}
theorem ZX(hn:Ro n=true)(ha:PE X a (cX X.K f))(ht:PE X t (tC (.ty n)))(hg:Gl X "isinstance")(hm:X.mg "isinstance"=none)(hv:sY "isinstance"=some (.builtin "isinstance"))
  (he:aZ [a,t] X.env=(false,eval a X.env)::aZ [t] X.env:=by rfl)(he2:aZ [t] X.env=(false,eval t X.env)::aZ [] X.env:=by rfl)(hpl:(eO pos (aZ [t] X.env)).any (·.1)=false:=by rfl):
  PE X (.Call (.Name "isinstance" p) [a,t] [] pos) (tE X.K (xH n f)):=
 (Ng aev hg hm hv (oR ha (oR ht pY he2) he) (by decide) (by decide) he hpl).weak fun σ H Q aJ=>by
  obtain⟨Z,Θ,env,C,r,env',C',S,hf,q⟩:=aJ
  unfold xH at hf;split at hf
  case h_2=>cases hf
  rename_i d e1 C1 h1;split at hf
  case h_2=>cases hf
  rename_i b hb;cases hf
  refine⟨Z,Θ,env,C,d,e1,C',S,h1,fun v H1 k f S1 b1=>⟨v,n,Js d,b,rfl,b1.ty (agU hb),ajz hn hb,q _ H1 k (Fz.refl _) ⟨S.go k S1.cell,rfl⟩⟩⟩
end
def ins{α:Type}(lt:α→α→Bool)(x:α):List α→List α
 |[]=>[x]
 |y::r=>if lt y x then y::ins lt x r else x::y::r
def mG{α:Type}(lt:α→α→Bool):List α→List α
 |[]=>[]
 |x::r=>ins lt x (mG lt r)
section
variable{α:Type}{lt:α→α→Bool}
theorem NZ(x:α):∀l:List α,(ins lt x l).Perm (x::l)
 |[]=>yz _
 |y::r=>by
  unfold ins;split
  ·exact((NZ x r).cons y).trans (Kf x y r)
  ·exact yz _
theorem wI:∀l:List α,(mG lt l).Perm l
 |[]=>yz _
 |x::r=>(NZ x _).trans ((wI r).cons x)
structure zG(lt:α→α→Bool)(P:α→Prop):Prop where
 aaT:∀a b,P a→P b→lt a b=true→lt b a=false
 neg:∀a b c,P a→P b→P c→lt a c=true→lt a b=true∨lt b c=true
 tot:∀a b,P a→P b→lt a b=false→lt b a=false→a=b
theorem ZZ(O:zG lt P)(hx:P x):∀{l:List α},(∀y∈l,P y)→l.Pairwise (fun a b=>lt b a=false)→(ins lt x l).Pairwise (fun a b=>lt b a=false)
 |[],_,_=>qR.mpr ⟨fun _ m=>(nomatch m),yj⟩
 |y::r,hp,h=>by
  rw[qR] at h;have py:=hp y dR;unfold ins;split
  ·rename_i hl;rw[qR]
   refine⟨fun z m=>?_,ZZ O hx (fun z m=>hp z (eZ _ m)) h.2⟩
   rcases bN.mp ((NZ x r).mem_iff.mp m) with rfl|m
   ·exact O.aaT _ _ py hx hl
   ·exact h.1 z m
  ·rename_i hl;have hl:lt y x=false:=by simpa using hl
   rw[qR,qR]
   refine⟨fun z m=>?_,h.1,h.2⟩
   rcases bN.mp m with rfl|m
   ·exact hl
   ·have pz:=hp z (eZ _ m);cases hz:lt z x with
    |false=>rfl
    |true=>
     rcases O.neg z y x pz py hx hz with h1|h1
     ·rw[h.1 z m] at h1;cases h1
     ·rw[hl] at h1;cases h1
theorem N5(O:zG lt P):∀{l:List α},(∀y∈l,P y)→(mG lt l).Pairwise (fun a b=>lt b a=false)
 |[],_=>yj
 |x::r,hp=>ZZ O (hp x dR) (fun y m=>hp y (eZ _ ((wI r).mem_iff.mp m))) (N5 O fun y m=>hp y (eZ _ m))
theorem Z0(O:zG lt P):∀{l m:List α},(∀y∈l,P y)→l.Perm m→l.Pairwise (fun a b=>lt b a=false)→m.Pairwise (fun a b=>lt b a=false)→l=m
 |[],m,_,p,_,_=>(List.nil_perm.mp p).symm
 |x::r,[],_,p,_,_=>absurd p.length_eq (by simp)
 |x::r,y::t,hp,p,h1,h2=>by
  have pm:∀z∈y::t,P z:=fun z m=>hp z (p.mem_iff.mpr m)
  rw[qR] at h1 h2;have e:x=y:=by
   have m1:x∈y::t:=p.mem_iff.mp dR;have m2:y∈x::r:=p.mem_iff.mpr dR;rcases bN.mp m1 with e|m1
   ·exact e
   ·rcases bN.mp m2 with e|m2
    ·exact e.symm
    ·exact O.tot x y (hp x dR) (pm y dR) (h2.1 x m1) (h1.1 y m2)
  subst e;rw[Z0 O (fun z m=>hp z (eZ _ m)) ((List.perm_cons x).mp p) h1.2 h2.2]
theorem Y6(O:zG lt P)(hp:∀y∈l,P y)(p:m.Perm l)(h:m.Pairwise (fun a b=>lt b a=false)):m=mG lt l:=
 Z0 O (fun y hy=>hp y (p.mem_iff.mp hy)) (p.trans (wI l).symm) h (N5 O hp)
end
def ltI(i j:Int):Bool:=decide (i<j)
theorem aa4:zG ltI (fun _=>True):=⟨fun a b _ _ h=>by unfold ltI at *;simp at *;omega,fun a b c _ _ _ h=>by unfold ltI at *;simp at *;omega,fun a b _ _ h1 h2=>by unfold ltI at *;simp at *;omega⟩
theorem aa5:zG strLt (fun _=>True):=by
 refine⟨fun a b _ _ h=>?_,fun a b c _ _ _ h=>?_,fun a b _ _ h1 h2=>?_⟩
 ·exact ahU (a:=.inr a) (b:=.inr b) h
 ·exact ajk (a:=.inr a) (b:=.inr b) (c:=.inr c) rfl rfl h
 ·exact aep (ajl (a:=.inr a) (b:=.inr b) rfl h1 h2)
def strsOf:List ao→Option (List Str)
 |[]=>some []
 |.str i::r=>match strsOf r with
  |some t=>some (i::t)
  |none=>none
 |_=>none
theorem XF:∀{ds:List ao}{ns:List Str}{vs:List V},strsOf ds=some ns→cg E ds vs→vs=ns.map V.str
 |[],ns,vs,h,r=>by cases h;exact r
 |.str i::ds,ns,vs,h,r=>by
  unfold strsOf at h;split at h
  ·rename_i t ht;cases h
   obtain⟨u,w,rfl,q,s⟩:=r
   rw[XF ht s];have:u=.str i:=q;rw[this];rfl
  ·cases h
 |.none::_,_,_,h,_=>by cases h
 |.bool _::_,_,_,h,_=>by cases h
 |.int _::_,_,_,h,_=>by cases h
 |.list _::_,_,_,h,_=>by cases h
 |.tuple _::_,_,_,h,_=>by cases h
 |.dict _::_,_,_,h,_=>by cases h
def Jc:ao→Option (List Bool)
 |.tuple xs=>(keysOf xs).map fun ks=>ks.map bG
 |_=>none
def jJ:Key→ao
 |.inl i=>.int i
 |.inr x=>.str x
def zH:ao→List Key
 |.tuple xs=>(keysOf xs).getD []
 |_=>[]
def Jd(ds:List ao):List ao:=(Dd (ds.map zH)).map fun k=>.tuple (k.map jJ)
theorem sortI(p:ns'.Perm ns)(h:ns'.Pairwise (·≤·)):ns'=mG ltI ns:=Y6 aa4 (fun _ _=>trivial) p (h.imp fun{a b} hab=>by unfold ltI;simp;exact hab)
theorem Z1:∀{x:Str}{r:List Str},risingS x r=true→(x::r).Pairwise (fun a b=>strLt b a=false)
 |x,[],_=>qR.mpr ⟨fun _ m=>(nomatch m),yj⟩
 |x,y::r,h=>by
  unfold risingS at h;rw[gQ,Ub] at h;have ih:=Z1 h.2;have hxy:strLt y x=false:=by
   have:=h.1;unfold strLt;rw[lt_meets];exact this
  rw[qR]
  refine⟨fun z m=>?_,ih⟩
  rcases bN.mp m with rfl|m
  ·exact hxy
  ·rw[qR] at ih;cases hz:strLt z x with
   |false=>rfl
   |true=>
    rcases aa5.neg z y x trivial trivial trivial hz with h1|h1
    ·rw[ih.1 z m] at h1;cases h1
    ·rw[hxy] at h1;cases h1
theorem Z2(p:ns'.Perm ns)(h:sortedS ns'=true):ns'=mG strLt ns:=Y6 aa5 (fun _ _=>trivial) p (by
 cases ns' with
 |nil=>exact yj
 |cons x r=>exact Z1 h)
theorem N6:∀{xs:List ao}{ks:List Key},keysOf xs=some ks→xs=ks.map jJ
 |[],ks,h=>by cases h;rfl
 |x::xs,ks,h=>by
  unfold keysOf at h;split at h
  ·rename_i k t h1 h2;cases h;rw[N6 h2];have:x=jJ k:=by
    cases x<;>first|(cases h1;rfl)|cases h1
   rw[this];rfl
  ·cases h
theorem N7:∀ks:List Key,keysOf (ks.map jJ)=some ks
 |[]=>rfl
 |k::ks=>by
  show(match cQ (jJ k),keysOf (ks.map jJ) with|some k,some t=>some (k::t)|_,_=>none)=_
  rw[N7 ks];cases k<;>rfl
theorem afW(h:∀d∈ds,(Jc d).isSome=true):(Jd ds).Perm ds:=by
 have:=(afL (ds.map zH)).map fun k=>uH (k.map jJ)
 refine this.trans (adu ?_);rw[dU]
 refine(yg fun d hd=>?_).trans (Lf ds)
 have hs:=h d hd;cases d with
 |tuple xs=>
  show uH (((keysOf xs).getD []).map jJ)=.tuple xs;cases hk:keysOf xs with
  |none=>
   have hs:((keysOf xs).map fun ks=>ks.map bG).isSome=true:=hs;rw[hk] at hs;cases hs
  |some ks=>rw[N6 hk];rfl
 |_=>cases hs
theorem XH:∀{ds:List ao}{vs:List V},(∀d∈ds,Jc d=some sh)→cg E ds vs→∃rows:List Row,vs=rows.map (fun r=>V.ref r.1)∧ds=rows.map (fun r=>.tuple (r.2.map jJ))∧∀r∈rows,E r.1=some (.tup (r.2.map kV))∧r.2.map bG=sh
 |[],vs,_,r=>⟨[],r,rfl,fun _ m=>(nomatch m)⟩
 |d::ds,vs,h,r=>by
  obtain⟨u,w,rfl,q,s⟩:=r
  obtain⟨rows,e1,e2,e3⟩:=XH (fun d m=>h d (eZ _ m)) s
  have hd:=h d dR;cases d<;>first|cases hd|skip
  rename_i xs;have hd:(keysOf xs).map (fun ks=>ks.map bG)=some sh:=hd;cases hk:keysOf xs with
  |none=>rw[hk] at hd;cases hd
  |some ks=>
   rw[hk] at hd
   obtain⟨a,vs',rfl,ha,rr⟩:=q
   rw[uI hk rr] at ha
   refine⟨(a,ks)::rows,by rw[e1];rfl,by rw[e2,N6 hk];rfl,fun r m=>?_⟩
   rcases bN.mp m with rfl|m
   ·exact⟨ha,fW hd⟩
   ·exact e3 r m
theorem N8:∀{rows:List Row},(∀r∈rows,E r.1=some (.tup (r.2.map kV)))→cg E (rows.map fun r=>.tuple (r.2.map jJ)) (rows.map fun r=>V.ref r.1)
 |[],_=>rfl
 |r::rows,h=>by
  refine⟨_,_,rfl,⟨r.1,r.2.map kV,rfl,h r dR,?_⟩,N8 fun r m=>h r (eZ _ m)⟩
  generalize r.2=ks;induction ks with
  |nil=>rfl
  |cons k ks ih=>exact⟨_,_,rfl,by cases k<;>rfl,ih⟩
theorem XJ:∀{ds:List ao}{ns:List Str},strsOf ds=some ns→ds=ns.map .str
 |[],ns,h=>by cases h;rfl
 |.str i::ds,ns,h=>by
  unfold strsOf at h;split at h
  ·rename_i t ht;cases h;rw[XJ ht];rfl
  ·cases h
 |.none::_,_,h=>by cases h
 |.bool _::_,_,h=>by cases h
 |.int _::_,_,h=>by cases h
 |.list _::_,_,h=>by cases h
 |.tuple _::_,_,h=>by cases h
 |.dict _::_,_,h=>by cases h
def G5(ds:List ao):Option (List ao):=if ds.length<64 then match strsOf ds with
  |some ns=>some ((mG strLt (dedup ns)).map .str)
  |none=>none
 else none
section
variable{X:Cx}{l:Expr}{f:FB}{p1 p2 pos1 pos2:Pos}
end
theorem aie(hu:A.units+1<dY)(I:Inv X pins σ H s)(g:m5 H a y o)(ry:RelV y u)(rd:RelV d r)(h:∀w' s',Inv X pins σ H s'→RelV (o.getD d) w'→Q w' s'):
  aM (model X.prog X.w) A (call (.builtin "dict.get") [.ref a,u,r]) Q E s:=by
 rcases g with g|⟨ha,⟨b,ks,rfl,hb⟩,rfl⟩
 ·exact Zx hu I g ry rd h
 ·exact Zx hu (I.Ju ha) (m5.re ha hb) ry rd fun w' s' I'=>h w' s' (I'.RQ ha)
def aky(td ty tx:TE):TE:=fun σ H Q=>td σ H fun x H1=>∃a,x=.ref a∧IsD H1 a∧ty σ H1 fun y H2=>tx σ H2 fun z H3=>∃o,m5 H3 a y o∧Q (o.getD z) H3
theorem aif(hu:X.A.units+1<dY)(ho:PE X o td)(he:PE X e ty)(hf:PE X f tx)(m:M2 X o "get" apos e f cpos):PE X (.Call (.Attribute o "get" apos) [e,f] [] cpos) (aky td ty tx):=by
 intro pins s σ H Q I h;refine ac6 m.base m.few m.line ace TF PySem.F.type_dict_get (bh (ho pins s σ H _ I h) fun u s1 aJ=>?_)
 obtain⟨x,H1,I1,rx,a,ex,d,q1⟩:=aJ
 subst ex;obtain rfl:u=fG a:=rx
 obtain⟨t1,t2,_⟩:=aje I1 d
 refine⟨t1,t2,?_⟩
 rw[m.trees];refine aci rfl (acA (z8 (bh (he pins s1 σ H1 _ I1 q1) fun iv s2 ⟨y,H2,I2,ry,q2⟩=>
  z8 (bh (hf pins s2 σ H2 _ I2 q2) fun fv s3 ⟨z,H3,I3,rz,ov,g,q3⟩=>Ep ?_))))
 exact aie hu I3 g ry rz fun w' s4 I4 rw'=>⟨_,H3,I4,rw',q3⟩
def zR(fd fk:FB)(fx:FE):FE:=fun env C=>match fd env C with
 |some (.dict kvs,e1,C1)=>match fk e1 C1 with
  |some (dk,e2,C2)=>match fx e2 C2 with
   |some (r,e3,C3)=>match mC kvs dk with
    |some (some d)=>some (.im d,rst (.im d) env e3,C3)
    |some none=>some (still r,rst (still r) env e3,C3)
    |none=>none
   |none=>none
  |none=>none
 |_=>none
theorem ajA(hu:X.A.units+1<dY)(ho:PE X o (cX X.K fd))(he:PE X e (cX X.K fk))(hf:PE X f (tE X.K fx))(m:M2 X o "get" apos e f cpos):PE X (.Call (.Attribute o "get" apos) [e,f] [] cpos) (tE X.K (zR fd fk fx)):=(aif hu ho he hf m).weak fun σ H Q aJ=>by
 obtain⟨Z,Θ,env,C,r,env',C',S,hf,q⟩:=aJ
 unfold zR at hf;split at hf
 case h_2=>cases hf
 rename_i kvs e1 C1 h1;split at hf
 case h_2=>cases hf
 rename_i dk e2 C2 h2;split at hf
 case h_2=>cases hf
 rename_i r0 e3 C3 h3
 refine⟨Z,Θ,env,C,_,e1,C1,S,h1,fun v H1 k1 f1 S1 b1=>?_⟩
 obtain⟨a,vs,rfl,da,rr⟩:=b1.dct
 refine⟨a,rfl,?_,Z,Θ,e1,C1,dk,e2,C2,S1,h2,fun w H2 k2 f2 S2 b2=>⟨Z,Θ,e2,C2,r0,e3,C3,S2,h3,fun z H3 k3 f3 R3=>?_⟩⟩
 ·rcases da with⟨ks,_,h⟩|⟨ks,_,h⟩
  ·exact .inl ⟨_,.inl h⟩
  ·exact .inr ⟨_,.inl h⟩
 have Dz:=(b1.go S1 k2 f2).go S2 k3 f3;have b2':=b2.go S2 k3 f3
 obtain⟨S3,a3⟩:=R3.arg
 have kk:=(k1.trans k2).trans k3;have ff:=(f1.trans f2).trans f3;split at hf
 ·rename_i d hl;cases hf
  obtain⟨a',o',e',g,hq⟩:=Dz.get b2' hl
  cases e';rcases hq with⟨v',rfl,d',e1',r1,_⟩|⟨_,e1'⟩
  ·cases e1'
   exact⟨some v',g,q v' H3 kk (ff.rst _) (Res.rst S kk ⟨S3,r1⟩)⟩
  ·cases e1'
 ·rename_i hl;cases hf
  obtain⟨a',o',e',g,hq⟩:=Dz.get b2' hl
  cases e';rcases hq with⟨v',rfl,d',e1',_⟩|⟨rfl,_⟩
  ·cases e1'
  ·exact⟨none,g,q z H3 kk (ff.rst _) (((R3.still).from (k1.trans k2)).rst S kk)⟩
 ·cases hf
def Ia:ao→ao→Option Vl
 |.str z,.list ds=>match strsOf ds with
  |some ys=>if(ys.map (·.length)).sum+ys.length*z.length≤LIM then some (.im (.str (Txt.join z ys))) else none
  |none=>none
 |_,_=>none
def qw(f g:FB):FE:=aG Ia f g
theorem Ph(ho:PE X o (cX X.K f))(he:PE X e (cX X.K g))
  (hbase:sW o "join" X.env (eval o X.env)=eval o X.env:=by rfl)
  (hfew:((eO cpos (aZ [e] X.env)).all (fun x=>!x.1)&&(wK cpos (wC [] X.env)).all (fun x=>x.1.isSome)
   &&decide (([e]:List Expr).length+([]:List lG).length+(if([]:List lG).isEmpty then 0 else 1)<30))=true:=by rfl)
  (hline:(apos.endLine==cpos.line)=true:=by rfl)(hs:aZ [e] X.env=(false,eval e X.env)::aZ [] X.env:=by rfl)(hplain:(eO cpos (aZ [] X.env)).any (·.1)=false:=by rfl):
  PE X (.Call (.Attribute o "join" apos) [e] [] cpos) (tE X.K (qw f g)):=
 (Cu PySem.F.plainAttrs_str PySem.F.slot_str_join PySem.F.type_str_join (qI.r ahR) ho (oR he pY hs) hbase hfew hline hs hplain).weak fun σ H Q aJ=>by
  obtain⟨Z,Θ,env,C,r,env',C',S,hf,q⟩:=aJ
  unfold qw aG at hf;split at hf
  case h_2=>cases hf
  rename_i x e1 C1 h1;split at hf
  case h_2=>cases hf
  rename_i y e2 C2 h2;split at hf
  case h_2=>cases hf
  rename_i r0 h3;cases hf
  refine⟨Z,Θ,env,C,x,e1,C1,S,h1,fun v H1 k1 f1 S1 b1=>?_⟩
  unfold Ia at h3;split at h3
  case h_2=>cases h3
  rename_i z ds;split at h3
  case h_2=>cases h3
  rename_i ys hys;split at h3
  case isFalse=>cases h3
  rename_i hl;cases h3;cases b1.str
  refine⟨rfl,Z,Θ,e1,C1,_,e2,C',S1,h2,fun w H2 k2 f2 S2 b2=>?_⟩
  obtain⟨a,vs,rfl,ha,rr⟩:=b2.lst
  rw[XF hys rr] at ha;have kk:=k1.trans k2
  refine⟨z,a,ys,rfl,rfl,bO.of ha,by unfold LIM at hl;omega,?_⟩
  exact q _ H2 kk ((f1.trans f2).rst _) (Res.rst S kk ⟨S2,rfl⟩)
abbrev FO:=En→Ce→Option (Option Int×Ce)
inductive DG(K:aH)(f:FO)(σ:St)(H:Hp)(Q:Option Int→Hp→Prop):Prop
 |mk (Z Θ:List aa) (env:En) (C:Ce) (o:Option Int) (C':Ce) (S:Sm K Z Θ env C σ H) (hf:f env C=some (o,C')) (q:∀H',aP Θ H H'→Sm K Z Θ env C' σ H'→Q o H'):DG K f σ H Q
def fY:FO:=fun _ C=>some (none,C)
def cZ(f:FB):FO:=fun env C=>match f env C with
 |some (.int i,_,C1)=>some (some i,C1)
 |_=>none
def jG{α:Type}(xs:List α)(lo hi:Option Int):List α:=(xs.drop (HT.bR xs.length 0 lo)).take (HT.bR xs.length xs.length hi-HT.bR xs.length 0 lo)
def jK(lo hi:Option Int):ao→Option Vl
 |.str z=>if z.length≤LIM then some (.im (.str (Txt.slice z lo hi))) else none
 |.list ds=>some (.ow (.list (jG ds lo hi)))
 |.tuple ds=>some (.im (.tuple (jG ds lo hi)))
 |_=>none
def dO(f:FB)(lo hi:FO):FE:=fun env C=>match f env C with
 |some (d,e1,C1)=>match lo e1 C1 with
  |some (l,C2)=>match hi e1 C2 with
   |some (h,C3)=>match jK l h d with
    |some r=>some (r,rst r env e1,C3)
    |none=>none
   |none=>none
  |none=>none
 |none=>none
theorem Pj{E:Hp}{ds:List ao}{vs:List V}{lo hi:Option Int}(r:cg E ds vs):cg E (jG ds lo hi) (qC vs lo hi):=by
 unfold jG qC;rw[gZ r];exact Xm _ (Xn _ r)
section
variable{X:Cx}{e:Expr}{lo hi:Option Expr}{pos p2:Pos}
theorem PO.weak(h:PO X o t)(w:∀σ H Q,t' σ H Q→t σ H Q):PO X o t':=fun pins s σ H Q I q=>h pins s σ H Q I (w σ H Q q)
theorem qx:PO X none (DG X.K fY):=ahF.weak fun σ H Q aJ=>by
 obtain⟨Z,Θ,env,C,o,C',S,hf,q⟩:=aJ
 cases hf;exact q H (aP.refl _ _) S
theorem jw(h:PE X e (cX X.K f)):PO X (some e) (DG X.K (cZ f)):=(ahG h).weak fun σ H Q aJ=>by
 obtain⟨Z,Θ,env,C,o,C',S,hf,q⟩:=aJ
 unfold cZ at hf;split at hf
 ·rename_i i e1 C1 h1;cases hf
  exact⟨Z,Θ,env,C,_,e1,C',S,h1,fun v H1 k f S1 b1=>⟨i,b1,q H1 k (S.go k S1.cell)⟩⟩
 ·cases hf
theorem lH{f:FB}{flo fhi:FO}(he:PE X e (cX X.K f))(hl:PO X lo (DG X.K flo))(hh:PO X hi (DG X.K fhi)):PE X (.Subscript e (.Slice lo hi none p2) pos) (tE X.K (dO f flo fhi)):=(agr ((ajh.or ahI).or ahX) he hl hh).weak fun σ H Q aJ=>by
 obtain⟨Z,Θ,env,C,r,env',C',S,hf,q⟩:=aJ
 unfold dO at hf;split at hf
 case h_2=>cases hf
 rename_i d e1 C1 h1;split at hf
 case h_2=>cases hf
 rename_i l C2 h2;split at hf
 case h_2=>cases hf
 rename_i h C3 h3;split at hf
 case h_2=>cases hf
 rename_i r0 h4;cases hf
 refine⟨Z,Θ,env,C,d,e1,C1,S,h1,fun v H1 k1 f1 S1 b1=>⟨Z,Θ,e1,C1,l,C2,S1,h2,fun H2 k2 S2=>⟨Z,Θ,e1,C2,h,C',S2,h3,fun H3 k3 S3=>?_⟩⟩⟩
 have kk:=(k1.trans k2).trans k3;have b3:=b1.go S1 (k2.trans k3) (Fz.refl _);have fin:∀{w:V}{H4:Hp},aP Θ H3 H4→Res X.K Z Θ e1 C' σ H3 H4 r w→Q w H4:=fun{w H4} k4 R=>q w H4 (kk.trans k4) (f1.rst _) ((R.from kk).rst S (kk.trans k4))
 cases d<;>first|cases h4|skip
 ·rename_i z;simp only[jK] at h4;split at h4
  ·rename_i hz;cases h4;cases b3.str;exact .inl (.inl ⟨z,rfl,rB hz,fin (aP.refl _ _) (gW S3 rfl rfl)⟩)
  ·cases h4
 ·obtain⟨a,vs,rfl,ha,rr⟩:=b3.lst
  exact .inl (.inr ⟨a,vs,rfl,bO.of ha,fun p hp=>fin (aP.upd hp) (tO S3 (Pj rr) hp)⟩)
 ·rename_i ds;have b3':=b3
  obtain⟨a,vs,rfl,ha,rr⟩:=b3.tup
  refine .inr ⟨a,vs,rfl,cI.of ha,fun ec=>?_,fun p hp=>fin (aP.upd hp) (Hj S3 (Pj rr) hp)⟩;have rc:=Pj (lo:=l) (hi:=h) rr;rw[ec] at rc;refine fin (aP.refl _ _) ⟨S3,a,vs,rfl,BX S3 ha,rc⟩
end
def vg(T:fU)(ft:FT)(fk fv:FE)(fs:En):List ao→List (ao×ao)→Ce→Option (List (ao×ao)×Ce)
 |[],acc,C=>some (acc,C)
 |d::r,acc,C=>match xX T d with
  |some ts=>match ft (dw ts++fs) C with
   |some (false,C1)=>vg T ft fk fv fs r acc C1
   |some (true,C1)=>match fk (dw ts++fs) C1 with
    |some (.im k,_,C2)=>match fv (dw ts++fs) C2 with
     |some (x,_,C3)=>match still x,cQ k with
      |.im y,some kk=>if acc.length<LIM then vg T ft fk fv fs r (mK cQ kk k y acc) C3 else none
      |_,_=>none
     |none=>none
    |_=>none
   |none=>none
  |none=>none
def xJ:List (ao×ao)→Bool
 |[]=>true
 |p::r=>jl p.2&&xJ r
def DK(fi:FI)(T:fU)(ft:FT)(fk fv:FE)(js:List Nat):FE:=fun env C=>match fi env C with
 |some (its,e1,C1)=>match vg T ft fk fv (frB js e1) its [] C1 with
  |some (kvs,C2)=>some (.ow (.dict kvs),if xJ kvs then e1 else fV js e1,C2)
  |none=>none
 |none=>none
theorem gA.jl(t:∀a vs,H a=some (.tup vs)→H' a=some (.tup vs)):∀{ds:List (ao×ao)}{vs:List V},xJ ds=true→gA H ds vs→gA H' ds vs
 |[],_,_,h=>h
 |(k,d)::ds,vs,n,h=>by
  obtain⟨v,r,e,q,w⟩:=h
  have n':L2.jl d=true∧xJ ds=true:=by rw[xJ,gQ] at n;exact n
  exact⟨v,r,e,RZ.jl t n'.1 q,gA.jl t n'.2 w⟩
def Rp(fk fv:FE):En→List (ao×ao)→Ce→Option (List (ao×ao)×Ce):=fun env acc C=>(fk env C).bind fun p=>(imO p.1).bind fun k=>(fv env p.2.2).bind fun q=>(imO (still q.1)).bind fun y=>(cQ k).bind fun kk=>bif decide (acc.length<LIM) then some (mK cQ kk k y acc,q.2.2) else none
theorem Pk:∀{its:List ao}{acc:List (ao×ao)}{C:Ce},vg T ft fk fv fs its acc C=some p→rQ T ft (Rp fk fv) fs its acc C=some p
 |[],acc,C,h=>h
 |d::r,acc,C,h=>by
  unfold vg at h;unfold rQ;split at h
  case h_2=>cases h
  rename_i ts ht;rw[ht,gR];split at h
  case h_3=>cases h
  ·rename_i C1 hf;rw[hf,gR];exact Pk h
  ·rename_i C1 hf;rw[hf,gR]
   show(Rp fk fv (dw ts++fs) acc C1).bind _=_
   unfold Rp;split at h
   case h_2=>cases h
   rename_i k e2 C2 hk;rw[hk,gR,show imO (.im k)=some k from rfl,gR];split at h
   case h_2=>cases h
   rename_i x e3 C3 hx;rw[hx,gR];split at h
   case h_2=>cases h
   rename_i y kk hy hkk;rw[hy,show imO (.im y)=some y from rfl,gR,hkk,gR];split at h
   case isFalse=>cases h
   rename_i hl;rw[decide_eq_true hl];exact Pk h
inductive Jw(P:List aa)(D:aa)(acc:List (ao×ao))(H:Hp):Prop
 |mk (ks:List Key) (vs:List V) (hk:cH cQ acc=some ks) (hD:H D=some (.dK (ks.zip vs))) (r:gA (er P H) acc vs):Jw P D acc H
theorem aih{K:aH}{fi:FI}{T:fU}{ft:FT}{fk fv:FE}{js:List Nat}:∀σ H Q,tE K (DK fi T ft fk fv js) σ H Q→tDC K (tI K true fi) T (fun _=>dZ K ft) (fun _=>tE K fk) (fun _=>tE K fv) js σ H Q:=by
 rintro σ H Q ⟨Z,Θ,env,C,res,env',C',S,hf,q⟩;unfold DK at hf;split at hf
 case h_2=>cases hf
 rename_i its e1 C1 h1;split at hf
 case h_2=>cases hf
 rename_i kvs C2 h2;cases hf
 refine⟨Z,Θ,env,C,its,e1,C1,S,h1,fun J H1 k1 f1 S1 it D hD b=>?_⟩
 have pC:D∉Θ:=fun m=>(S1.cell.dom D m).ne hD
 have R9:D∈aQ (jF D Z (fV js e1) σ) Θ [] []:=(mX (js:=js) rfl).mpr (.inl rfl);have zY:∀a Hx Hy,aP Θ Hx Hy→Jw (aQ (jF D Z (fV js e1) σ) Θ [] []) D a Hx→Jw (aQ (jF D Z (fV js e1) σ) Θ [] []) D a Hy:=fun a Hx Hy kk r=>by
  obtain⟨ks,vs,g1,g2,g3⟩:=r
  exact⟨ks,vs,g1,kk.keep _ _ g2 pC,g3.same (jO kk (fun a m=>iH.mpr (.inr (.inl m))) fun a m=>.inl m)⟩
 refine NP (a0:=[]) (Ob:=Jw (aQ (jF D Z (fV js e1) σ) Θ [] []) D) S1 it hD ⟨[],[],rfl,eN,rfl⟩ zY (fun a Hx r=>by obtain⟨ks,vs,_,e,_⟩:=r;exact⟨_,e,fun _ z=>nomatch z⟩) ?_ (Pk h2) fun H2 ki ci r=>?_
 ·intro ts acc C2 p vs H4 Q hs S4 k4 r4 hQ
  obtain⟨w,hfk,hs⟩:=gm hs
  obtain⟨kd,Rq,hs⟩:=gm hs
  obtain⟨w2,hfv,hs⟩:=gm hs
  obtain⟨yd,qL,hs⟩:=gm hs
  obtain⟨kk,hkd,hs⟩:=gm hs
  have Rq:=BZ Rq;have qL:=BZ qL;cases hlt:decide (acc.length<LIM) with
  |false=>rw[hlt] at hs;cases hs
  |true=>
  rw[hlt] at hs;cases hs
  refine⟨_,Θ,_,C2,w.1,w.2.1,w.2.2,S4,hfk,fun y H5 k5 f5 R5=>?_⟩
  rw[Rq] at R5;have S5:=S4.go k5 R5.1.cell
  refine⟨_,Θ,_,w.2.2,w2.1,w2.2.1,w2.2.2,S5,hfv,fun z H6 k6 f6 R6=>?_⟩
  obtain⟨S6,r6⟩:=R6.rP qL
  obtain⟨ks,uh,hks,hD6,r6'⟩:=zY _ _ _ (k5.trans k6) r4
  have Sd:bC w2.2.1 (vs.map some++frees js σ)=[]:=by
   have:=(Fz.own (σ:=vs.map some++frees js σ) f6)
   rw[zq H9] at this;exact adi.mp this
  have e6:er (aQ (jF D Z (fV js e1) σ) Θ w2.2.1 (vs.map some++frees js σ)) H6=er (aQ (jF D Z (fV js e1) σ) Θ [] []) H6:=qb fun a=>by rw[mX (js:=js) Sd,mX (js:=js) rfl]
  rw[e6] at r6
  obtain⟨ks',vs',g3,g4,g5⟩:=Hr hkd r6 hks r6'
  have lt:=of_decide_eq_true hlt
  refine⟨ks.zip uh,kk,hD6,ZP hkd R5.2,?_,hQ _ (Qo (Hy:=H6) hD ((k4.trans k5).trans k6)) (G4 pC S6.cell) ⟨ks',vs',g3,by rw[g5];exact eN,?_⟩⟩
  ·rw[Uw,iT,uL hks];unfold LIM at lt;omega
  ·rw[HY R9];exact g4
 ·obtain⟨ks,uh,hks,hDi,ri⟩:=r
  refine q _ H2 (k1.trans ki) ?_ ?_
  ·split
   ·exact f1
   ·exact f1.trans (zp js e1)
  ·refine⟨D,rfl,k1.none hD,?_⟩
   split
   ·rename_i hn;have SD:=S1.xj hD ki ⟨_,hDi,fun _ z=>nomatch z⟩ ci
    exact⟨SD,uh,.inl ⟨ks,hks,hDi⟩,ri.jl (fun a vs e=>BX SD (jh e)) hn⟩
   ·refine⟨(S1.fz (zp js e1)).xj hD ki ⟨_,hDi,fun _ z=>nomatch z⟩ ci,uh,.inl ⟨ks,hks,hDi⟩,?_⟩
    rw[qb (P':=aQ (D::Z) Θ (fV js e1) σ) fun a=>by rw[mX (js:=js) rfl];show _↔a∈D::aQ Z Θ (fV js e1) σ;rw[bN]] at ri;exact ri
section
variable{X:Cx}{NT NF:List Str}{js:List Nat}{kx vx tg iter:Expr}{ifs:List Expr}{T:fU}{fi:FI}{ft:FT}{fk fv:FE}{scope:iJ}{pos:Pos}
theorem agV(B:nO X NT NF js scope)(tk:mZ tg NT T)(hc:X.calm=true)(hu:X.A.units+1<dY)(hi:PI X tg iter (tI X.K true fi))
  (hin:∀b,lN (X.bk (NT++NF) scope b) ifs (dZ X.K ft)∧PE (X.bk (NT++NF) scope b) kx (tE X.K fk)∧PE (X.bk (NT++NF) scope b) vx (tE X.K fv))
  (hsw:rm (.DictComp kx vx [⟨tg,iter,ifs,0⟩] scope pos) (some (.Name y pos')) spos.line X.env=pure true)(hN:X.N.Nodup)(hI:X.N[i]?=some y)(hy:X.env.scope.names.lookup y=some .local)
  (hs:∀x,sO iter X.env x=pure x:=by intro _;rfl):PS X (.Assign [.Name y pos'] (.DictComp kx vx [⟨tg,iter,ifs,0⟩] scope pos) spos) (tS X.K (fSet i (DK fi T ft fk fv js))):=(agA B tk hc hu hi hin hsw hN hI hy hs).weak (Nz aih)
end
section
variable{X:Cx}
theorem ad9(hc:X.calm=true):jb X (.type "list") (fun xs H Q=>∃(d:aa)(kvs:List (Key×V)),xs=[.ref d]∧H d=some (.dK kvs)∧∀l,H l=none→Q (.ref l) (upd H l (.lst (kvs.map fun kv=>kV kv.1)))):=by
 intro pins s σ H xs us Q I r h
 obtain⟨d,kvs,rfl,hd,q⟩:=h
 obtain⟨u,rfl,ru⟩:=vals1 r
 cases ru
 obtain⟨z,lo,vs,rel,dd⟩:=I.hok d _ hd
 obtain⟨ep,da⟩:=dd.dictAt
 have lv:vs.length=kvs.length:=(Paired.length rel).symm;refine kdl_call (kdl_dict (knd:=gY X.prog X.w) (ep:=ep) lo) (I.ok.hd hc) da (by rw[lv];exact z) fun h' tk acc' c' kp e hacc=>?_
 have hl:Vals (kvs.map fun kv=>kV kv.1) acc'.toList:=by
  have h2:acc'.toList.length=vs.length:=by rw[jm];exact hacc.1
  have h3:∀i v,acc'.toList[i]?=some v→∃k x,vs[i]?=some (k,x)∧(gY X.prog X.w).is k v=true:=fun i v e=>hacc.2 i v (by rw[←JS];exact e)
  clear e hacc dd da;generalize acc'.toList=us at h2 h3;clear hd q z lv;induction rel generalizing us with
  |nil=>
   cases us with
   |nil=>exact .nil
   |cons _ _=>cases h2
  |@cons p w ps ws hp _ ih=>
   cases us with
   |nil=>cases h2
   |cons u us=>
    refine .cons ?_ (ih us (by simpa using h2) fun i v e=>by simpa using h3 (i+1) v (by simpa using e))
    obtain⟨k,x,e1,e2⟩:=h3 0 u rfl
    simp at e1;have ek:k=p.1:=by rw[hp.1,e1]
    subst ek;rcases pO e2 with⟨i,t,e3,e4⟩|⟨y,t,e3,e4⟩
    ·show RelV (kV p.1) u;rw[e3,e4];exact⟨t,rfl⟩
    ·show RelV (kV p.1) u;rw[e3,e4];exact⟨t,rfl⟩
 refine⟨.ref s.heap.objs.size,_,I.laid (t':=tk) kp (bK _) (show fM X.prog X.w _ h' _ (.lst (kvs.map fun kv=>kV kv.1)) from⟨by rw[aX];exact z,acc'.toList,c',hl,by simpa using e⟩),rfl,q _ (I.hok.fresh (bK _))⟩
def Ht:List ao→Option Vl
 |[.list ds]=>some (.ow (.list ds))
 |[.tuple ds]=>some (.ow (.list ds))
 |[.dict kvs]=>if(cH cQ kvs).isSome then some (.ow (.list (kvs.map (·.1)))) else none
 |_=>none
def Z3(K:aH):List V→Hp→VK→Prop:=fun xs H Q=>(∃p ys,xs=[.ref p]∧(bO K H p ys∨cI K H p ys)∧∀l,H l=none→Q (.ref l) (upd H l (.lst ys)))∨∃(d:aa)(kvs:List (Key×V)),xs=[.ref d]∧H d=some (.dK kvs)∧∀l,H l=none→Q (.ref l) (upd H l (.lst (kvs.map fun kv=>kV kv.1)))
theorem ae3(hc:X.calm=true):jb X (.type "list") (Z3 X.K):=ad5.or (ad9 hc)
theorem XM:∀{kvs:List (ao×ao)}{ks:List Key}{vs:List V},cH cQ kvs=some ks→ks.length=vs.length→cg E (kvs.map (·.1)) ((ks.zip vs).map fun kv=>kV kv.1)
 |[],ks,vs,h,_=>by cases h;rfl
 |(p,d)::kvs,ks,vs,h,hl=>by
  unfold cH at h;split at h
  ·rename_i k t h1 h2;cases h;cases vs with
   |nil=>cases hl
   |cons v vs=>
    refine⟨_,_,rfl,?_,XM h2 (by simpa using hl)⟩
    cases p<;>first|(cases h1;rfl)|cases h1
  ·cases h
theorem agW{K:aH}:pG K (Z3 K) Ht:=by
 intro Z Θ env C σ H xs ds res S b e Q q;unfold Ht at e;split at e
 case h_4=>cases e
 ·cases e
  obtain⟨v,rfl,bb⟩:=qu b
  obtain⟨a,vs,rfl,ha,r⟩:=bb.lst
  exact .inl ⟨a,vs,rfl,.inl (bO.of ha),fun l hl=>q _ _ (aP.upd hl) (tO S r hl)⟩
 ·cases e
  obtain⟨v,rfl,bb⟩:=qu b
  obtain⟨a,vs,rfl,ha,r⟩:=bb.tup
  exact .inl ⟨a,vs,rfl,.inr (cI.of ha),fun l hl=>q _ _ (aP.upd hl) (tO S r hl)⟩
 ·split at e
  case isFalse=>cases e
  rename_i kvs hs;cases e
  obtain⟨v,rfl,bb⟩:=qu b
  obtain⟨a,vs,rfl,da,r⟩:=bb.dct
  rcases da with⟨ks,h1,ha⟩|⟨ks,⟨ne,h2⟩,ha⟩
  ·exact .inr ⟨a,_,rfl,ha,fun l hl=>q _ _ (aP.upd hl) (tO S (XM h1 (by rw[uL h1,Br r])) hl)⟩
  ·obtain⟨ks',h1⟩:=sI.mp hs
   exact absurd (uM h1 h2) ne
end
section
variable{X:Cx}{tg e:Expr}
def itD2:ao→Option (List ao)
 |.list ds=>some ds
 |.tuple ds=>some ds
 |_=>none
def iB2(f:FB):FI:=fun env C=>match f env C with
 |some (d,e1,C1)=>match itD2 d with
  |some its=>some (its,e1,C1)
  |none=>none
 |none=>none
def iV2(f:FE):FI:=fun env C=>match f env C with
 |some (r,e1,C1)=>match still r with
  |.im d=>match itD2 d with
   |some its=>some (its,e1,C1)
   |none=>none
  |_=>none
 |none=>none
theorem Io(h:PE X e (cX X.K f)):PI X tg e (tI X.K true (iB2 f)):=((Ov h).or (Qd h)).weak fun σ H R aJ=>by
 obtain⟨Z,Θ,env,C,its,env',C',S,hf,q⟩:=aJ
 unfold iB2 at hf;split at hf
 ·rename_i d e1 C1 h1;split at hf
  ·rename_i ys hi;cases hf;cases d<;>first|cases hi|skip
   ·refine .inl ⟨Z,Θ,env,C,_,env',C',S,h1,fun v H1 k f S1 b=>?_⟩
    obtain⟨a,vs,rfl,ha,r⟩:=b
    exact⟨a,rfl,⟨vs,bO.of (jh ha)⟩,q _ H1 k f S1 (Pb ha r)⟩
   ·refine .inr ⟨Z,Θ,env,C,_,env',C',S,h1,fun v H1 k f S1 b=>?_⟩
    obtain⟨a,vs,rfl,ha,r⟩:=b
    exact⟨a,rfl,⟨vs,cI.of (jh ha)⟩,q _ H1 k f S1 (Qn ha r)⟩
  ·cases hf
 ·cases hf
end
def qF(i:Nat)(f:FB):FE:=fun env C=>match env[i]? with
 |some (some (.ce n))=>match f env C with
  |some (.int k,_,C1)=>match C1[n]? with
   |some ns=>match dJ ns k with
    |some z=>some (.im (.int z),env,C1)
    |none=>none
   |none=>none
  |_=>none
 |_=>none
theorem wV(ho:PE X o (nW i))(hk:PE X k (cX X.K f))(hs:Hf k):PE X (.Subscript o k pos) (tE X.K (qF i f)):=(QM O2 ho hk hs).weak fun σ H Q aJ=>by
 obtain⟨Z,Θ,env,C,r,env',C',S,hf,q⟩:=aJ
 unfold qF at hf;split at hf
 case h_2=>cases hf
 rename_i n h0;split at hf
 case h_2=>cases hf
 rename_i z e1 C1 h1;split at hf
 case h_2=>cases hf
 rename_i ns hns;split at hf
 case h_2=>cases hf
 rename_i y hy;cases hf
 obtain⟨v,ev,a,rfl,hth⟩:=S.slot i _ h0
 refine⟨_,ev,Z,Θ,env,C,_,e1,C',S,h1,fun w H1 k1 f1 S1 b1=>?_⟩
 have S2:=S.go k1 S1.cell;have ha:=S1.cell.at_ n a ns hth hns
 refine⟨a,_,z,.int y,rfl,b1,bO.of ha,?_,q _ H1 k1 (Fz.refl _) ⟨S2,rfl⟩⟩
 unfold dJ at hy⊢;rw[aX];cases hj:mO ns.length z with
 |none=>rw[hj] at hy;cases hy
 |some j=>
  rw[hj] at hy
  show(ns.map V.int)[j]?=_
  rw[gh,show ns[j]?=some y from hy];rfl
def Bx(C:Ce)(b:Nat)(n:Int):Prop:=∃x y z:Int,C[b]?=some [x,y,z]∧0≤x∧0≤y∧y≤3000000000∧0≤z∧z≤n
theorem Bx.mono(h:Bx C b n)(hm:n≤m):Bx C b m:=by
 obtain⟨x,y,z,h1,h2,h3,h4,h5,h6⟩:=h
 exact⟨x,y,z,h1,h2,h3,h4,h5,by omega⟩
theorem Z4{C:Ce}{b:Nat}{l l':List Int}(h:C[b]?=some l):(C.set b l')[b]?=some l':=by
 rw[Ac,if_pos rfl,if_pos (jf.mp h).1]
theorem agX{C C':Ce}(h:C'.length=C.length):C'.take C.length=C':=List.take_of_length_le (by omega)
theorem mul_eq(h:(-18446744073709551616<i∧i<18446744073709551616)∨(-18446744073709551616<j∧j<18446744073709551616)):jc (.int i) (.int j)=some (.im (.int (i*j))):=by
 unfold jc;exact if_pos h
theorem mod_eq(h:0<j):ju (.int i) (.int j)=some (.im (.int (i%j))):=by
 unfold ju;exact if_pos h
theorem fdiv_eq(h:0<j)(h1:j<1073741824):uW (.int i) (.int j)=some (.im (.int (i / j))):=by
 unfold uW;exact if_pos ⟨h,h1⟩
theorem XN(I:Nat→En→Ce→Prop):∀{its:List ao}{env:En}{C:Ce}{k:Nat},I k env C→
  (∀i d env C,its[i]?=some d→I (k+i) env C→∃e1 fl env' C',g d env=some e1∧body e1 C=some (fl,env',C')∧(fl=.nx∨fl=.ct)∧I (k+i+1) env' C')→
  ∃env' C',iK g body its env C=some (.nx,env',C')∧I (k+its.length) env' C'
 |[],env,C,k,h,_=>⟨env,C,rfl,h⟩
 |d::r,env,C,k,h,st=>by
  obtain⟨e1,fl,ak9,C1,h1,h2,h3,h4⟩:=st 0 d env C rfl h
  obtain⟨ala,C2,h5,h6⟩:=XN I (its:=r) (env:=ak9) (C:=C1) (k:=k+1) h4 fun i d' env C hd hi=>by
   have:=st (i+1) d' env C (by simpa using hd) (by rw[show k+(i+1)=k+1+i by omega];exact hi);rw[show k+(i+1)+1=k+1+i+1 by omega] at this;exact this
  refine⟨ala,C2,?_,by rw[cR,show k+(r.length+1)=k+1+r.length by omega];exact h6⟩
  unfold iK;rw[h1];simp only;rw[h2];rcases h3 with rfl|rfl<;>exact h5
theorem yN(I:Nat→En→Ce→Prop)(h:I 0 env C)
  (st:∀i d env C,its[i]?=some d→I i env C→∃e1 fl env' C',g d env=some e1∧body e1 C=some (fl,env',C')∧(fl=.nx∨fl=.ct)∧I (i+1) env' C'):
  ∃env' C',iK g body its env C=some (.nx,env',C')∧I its.length env' C':=by
 have:=XN I (k:=0) h fun i d env C hd hi=>by
  rw[FP] at hi⊢;exact st i d env C hd hi
 rw[FP] at this;exact this
theorem G6(lo:Int)(n:Nat):(gK lo n).length=n:=by unfold gK;rw[aX,j5]
theorem Bv{lo:Int}{n i:Nat}{d:ao}(h:(gK lo n)[i]?=some d):d=.int (lo+i)∧i<n:=by
 unfold gK at h;rw[gh] at h;by_cases hi:i<n
 ·rw[TY hi] at h
  exact⟨(fW h).symm,hi⟩
 ·rw[Ef (by rw[j5];omega)] at h;cases h
theorem WW(I:Nat→Ce→Prop)(R:Nat→ao→Prop):∀{its:List ao}{C:Ce}{k:Nat},I k C→(∀i d C,its[i]?=some d→I (k+i) C→∃ts x e C' y,xX T d=some ts∧fe (dw ts++fs) C=some (x,e,C')∧still x=.im y∧R (k+i) y∧I (k+i+1) C')→
  ∃ys C',jP T gw fe fs its C=some (ys,C')∧I (k+its.length) C'∧ys.length=its.length∧∀i y,ys[i]?=some y→R (k+i) y
 |[],C,k,h,_=>⟨[],C,rfl,h,rfl,fun i y e=>by simp at e⟩
 |d::r,C,k,h,st=>by
  obtain⟨ts,x,e,C1,y,h1,h2,h3,h4,h5⟩:=st 0 d C rfl h
  obtain⟨ys,C2,h6,h7,h8,h9⟩:=WW I R (its:=r) (C:=C1) (k:=k+1) h5 fun i d' C hd hi=>by
   have:=st (i+1) d' C (by simpa using hd) (by rw[show k+(i+1)=k+1+i by omega];exact hi);rw[show k+(i+1)+1=k+1+i+1 by omega,show k+(i+1)=k+1+i by omega] at this;exact this
  refine⟨y::ys,C2,?_,by rw[cR,show k+(r.length+1)=k+1+r.length by omega];exact h7,by simp[h8],fun i z hz=>?_⟩
  ·unfold jP;simp only[h1,gw,h2,h3];rw[h6]
  ·cases i with
   |zero=>simp at hz;subst hz;exact h4
   |succ i=>
    have:=h9 i z (by simpa using hz);rw[show k+(i+1)=k+1+i by omega];exact this
theorem Z5(h0:0≤k)(h1:k<xs.length):∃x,dJ xs k=some x∧xs[k.toNat]?=some x:=by
 have hk:k.toNat<xs.length:=by omega
 refine⟨xs[k.toNat],?_,jg hk⟩
 unfold dJ mO;rw[if_pos h0,if_pos h1];exact jg hk
def Jx(z:Str):Bool:=z.cps.toList.all fun c=>decide (97≤c)&&decide (c≤122)
def nameB(z:Str):Bool:=decide (1≤z.length)&&decide (z.length≤8)&&Jx z
abbrev abc:Str:=fj "abcdefghijklmnopqrstuvwxyz"
theorem ajB(r0:0≤r)(r1:r<26):dJ abc.cps.toList r=some (97+r.toNat):=by
 have h:∀k:Nat,k<26→dJ abc.cps.toList (k:Int)=some (97+k):=by decide +kernel
 have:=h r.toNat (by omega)
 rwa [Int.toNat_of_nonneg r0] at this
theorem Wk:∀(l:List Nat)(a:Array Nat),((l.map fun c=>(⟨#[c]⟩:Str)).foldl (fun acc p=>acc++(fj "").cps++p.cps) a).toList=a.toList++l
 |[],a=>by simp
 |c::r,a=>by
  simp only[bY,Ex];rw[Wk r];have e:(fj "").cps=#[]:=by decide +kernel
  rw[e];simp
theorem Wl:∀(l:List Nat),(Txt.join (fj "") (l.map fun c=>(⟨#[c]⟩:Str))).cps.toList=l
 |[]=>by decide +kernel
 |c::r=>by
  show(((r.map fun c=>(⟨#[c]⟩:Str))).foldl (fun acc p=>acc++(fj "").cps++p.cps) #[c]).toList=c::r
  rw[Wk r];rfl
theorem Y7:∀ys:List Nat,(ys.map ((fun x:Str=>x.length) ∘ fun c=>(⟨#[c]⟩:Str))).sum=ys.length
 |[]=>rfl
 |c::r=>by
  rw[bY,adQ,Y7 r,cR];show 1+r.length=r.length+1;omega
theorem aii(hc:c∈(Txt.slice z l u).cps.toList):c∈z.cps.toList:=by
 unfold Txt.slice at hc;split at hc
 ·exact hc
 ·have hc':c∈((abY l u 1 z.length).filterMap (z.cps[·]?)):=by simpa using hc
  obtain⟨i,_,e⟩:=JW.mp hc'
  have:=acw e;simpa using this
def Names(zs:List Str):Prop:=zs.Nodup∧∀z∈zs,nameB z=true
theorem G7(z:Str)(zs:List Str):inD (.str z) (zs.map .str)=decide (z∈zs):=by
 unfold inD;rw[pN,ad8];simp[adk,qH,toV]
theorem agY(h:nameB z=true):1≤z.length∧z.length≤8∧∀c∈z.cps.toList,97≤c∧c≤122:=by
 unfold nameB Jx at h;simp only[gQ,decide_eq_true_eq,qU] at h
 exact⟨h.1.1,h.1.2,h.2⟩
def Asc(z:Str):Prop:=∀c∈z.cps.toList,c<128
def m6(n:Nat)(z:Str):Prop:=Asc z∧z.length≤n
theorem m6.mono(h:m6 n z)(hm:n≤m):m6 m z:=⟨h.1,jL h.2 hm⟩
theorem m6.line(h:m6 n z)(hn:n≤100000:=by omega):z.length≤bM:=ahS (m:=100000) (jL h.2 hn)
theorem m6.slice(h:m6 n z)(l u:Option Int):m6 n (Txt.slice z l u):=by
 refine⟨fun c hc=>?_,jL (Txt.slice_le z l u) h.2⟩
 unfold Txt.slice at hc;split at hc
 ·exact h.1 c hc
 ·have hc':c∈((abY l u 1 z.length).filterMap (z.cps[·]?)):=by simpa using hc
  obtain⟨i,_,e⟩:=JW.mp hc'
  refine h.1 c ?_;have:=acw e;simpa using this
theorem m6.add(h:m6 n x)(g:m6 m y):m6 (n+m) (x++y):=by
 have e:(x++y).cps=x.cps++y.cps:=rfl
 refine⟨fun c hc=>?_,?_⟩
 ·rw[e] at hc;have:c∈x.cps.toList∨c∈y.cps.toList:=by simpa using hc
  exact this.elim (h.1 c) (g.1 c)
 ·show(x++y).cps.size≤_
  rw[e,Uc];exact Nat.add_le_add h.2 g.2
theorem m6.name(h:nameB z=true):m6 8 z:=by
 unfold nameB Jx at h;simp only[gQ,decide_eq_true_eq,qU] at h
 exact⟨fun c hc=>by have:=h.2 c hc;omega,h.1.2⟩
def gn(zs:List Str)(ps:List (Str×Str)):Prop:=∀(i:Nat)(x:Str×Str),ps[i]?=some x→zs[i]?=some x.1∧(x.2=fj ""∨∃j,j<i∧zs[j]?=some x.2)
theorem gn.snoc(h:gn zs ps)(ha:zs[ps.length]?=some a)(hb:b=fj ""∨∃j,j<ps.length∧zs[j]?=some b):gn zs (ps++[(a,b)]):=by
 intro i x e;by_cases hi:i<ps.length
 ·rw[m8 hi] at e;exact h i x e
 ·rw[m7 (by omega)] at e;by_cases h0:i-ps.length=0
  ·rw[h0] at e;cases e;have:i=ps.length:=by omega
   subst this
   exact⟨ha,hb⟩
  ·rw[Ef (by simp;omega)] at e;cases e
def gF(ps:List (Str×Str))(z:Str):Option Str:=(ps.find? fun p=>decide (p.1=z)).map (·.2)
inductive Over(f:Str→Option Str):Str→List Str→Prop
 |stop {z:Str}:f z=none→Over f z []
 |step {z y:Str} {r:List Str}:f z=some y→Over f y r→Over f z (z::r)
structure Sg(e B:Nat)(d:ao):Prop where
 alb:d.showable=true
 deep:d.depth≤e
 len:d.shown.length≤B
theorem Sg.mono(h:Sg e B d)(he:e≤e')(hB:B≤B'):Sg e' B' d:=⟨h.alb,jL h.deep he,jL h.len hB⟩
abbrev qz:=Int×Str×Int×Str×Int×Int
abbrev cO:=Int×Str×Str×Str×Int×Int×Int
abbrev CN:=Int×Str
abbrev Ip:=Str×Int×List CN
def rR(r:qz):ao:=.tuple [.int r.1,.str r.2.1,.int r.2.2.1,.str r.2.2.2.1,.int r.2.2.2.2.1,.int r.2.2.2.2.2]
def cu(r:cO):ao:=.tuple [.int r.1,.str r.2.1,.str r.2.2.1,.str r.2.2.2.1,.int r.2.2.2.2.1,.int r.2.2.2.2.2.1,.int r.2.2.2.2.2.2]
def Ir(s:CN):ao:=.tuple [.int s.1,.str s.2]
def ajC(ss:List CN):ao:=.tuple (ss.map Ir)
def CP(r:Ip):ao:=.tuple [.str r.1,.int r.2.1,ajC r.2.2]
def rT(p:Str×Str):ao:=.tuple [.str p.1,.str p.2]
structure gq where
 ps:List (Str×Str)
 vh:List qz
 leaves:List cO
 rules:List Ip
def iZ(h:gq):ao:=.tuple [.tuple (h.ps.map rT),.tuple (h.vh.map rR),.tuple (h.leaves.map cu),.tuple (h.rules.map CP)]
structure ajD(zs own:List Str)(r:qz):Prop where
 num:0≤r.1∧r.1≤2000
 who:r.2.1∈zs
 rank:1≤r.2.2.1∧r.2.2.1≤9
 part:r.2.2.2.1∈own
 days:0≤r.2.2.2.2.1∧r.2.2.2.2.1≤r.2.2.2.2.2∧r.2.2.2.2.2≤99999
structure yX(zs own:List Str)(r:cO):Prop where
 num:0≤r.1∧r.1≤2000
 giver:r.2.1∈zs
 taker:r.2.2.1∈zs
 ne:r.2.1≠r.2.2.1
 part:r.2.2.2.1∈own
 days:0≤r.2.2.2.2.1∧r.2.2.2.2.1≤r.2.2.2.2.2.1∧r.2.2.2.2.2.1≤99999
 most:0≤r.2.2.2.2.2.2∧r.2.2.2.2.2.2≤1000000000
def ajE(own:List Str)(s:CN):Prop:=1≤s.1∧s.1≤9∧(s.2=fj ""∨s.2∈own)
structure ajF(own:List Str)(r:Ip):Prop where
 part:r.1∈own
 sum:0≤r.2.1∧r.2.1≤1000000000
 many:r.2.2.length≤6
 am4:∀s∈r.2.2,ajE own s
structure oM(zs:List Str)(ps:List (Str×Str))(h:gq):Prop where
 parts:h.ps.Perm ps
 p8:ps.length≤8
 r20:h.vh.length≤20
 lQ:h.leaves.length≤16
 u10:h.rules.length≤10
 vh:∀r∈h.vh,ajD zs (ps.map (·.1)) r
 rup:(h.vh.map (·.1)).Pairwise (·<·)
 leaves:∀r∈h.leaves,yX zs (ps.map (·.1)) r
 lnd:(h.leaves.map (·.1)).Nodup
 rules:∀r∈h.rules,ajF (ps.map (·.1)) r
 unlike:(h.rules.map fun r=>(r.1,r.2.1)).Nodup
theorem Wm(h:nameB z=true):K4 z=true:=by
 unfold K4;rw[Array.all_eq_true'];intro c hc;have:=(agY h).2.2 c (by simpa using hc);exact decide_eq_true (by omega)
theorem Oa:∀{zs:List Str},(∀z∈zs,K4 z=true)→Ud (zs.map cU)=true∧Ux (zs.map cU)=0∧vB (zs.map cU)=true
 |[],_=>⟨by simp[Ud],by simp[Ux],rfl⟩
 |z::zs,h=>by
  obtain⟨h1,h2,h3⟩:=Oa fun x hx=>h x (eZ _ hx)
  refine⟨by simp[Ud,adD,h z dR];simpa using h1,by simp only[bY,Ux,aea,h2];rfl,?_⟩
  show(true&&vB (zs.map cU))=true
  rw[h3];rfl
theorem aez{zs:List Str}(h:∀z∈zs,K4 z=true):lC (.list (zs.map cU))=true:=by
 obtain⟨h1,h2,_⟩:=Oa h
 unfold lC;simp only[adD,h1,aea,h2];decide
theorem aeb:∀{l:List α}{m:List β},m.Perm (l.map f)→∃l':List α,l'.Perm l∧m=l'.map f:=fun{l m} p=>by
 generalize e:l.map f=k at p;induction p generalizing l with
 |nil=>
  cases l with
  |nil=>exact⟨[],yz _,rfl⟩
  |cons _ _=>cases e
 |@cons x m k _ ih=>
  cases l with
  |nil=>cases e
  |cons a l=>
   rw[bY,Uy] at e
   obtain⟨l',p',rfl⟩:=ih e.2
   exact⟨a::l',p'.cons a,by rw[bY,e.1]⟩
 |swap x y m=>
  cases l with
  |nil=>cases e
  |cons a l=>
   cases l with
   |nil=>cases e
   |cons b l=>
    rw[bY,bY,Uy,Uy] at e
    obtain⟨e1,e2,e3⟩:=e
    exact⟨b::a::l,Kf a b l,by rw[bY,bY,e1,e2,e3]⟩
 |trans _ _ ih1 ih2=>
  obtain⟨l2,p2,e2⟩:=ih2 e
  obtain⟨l1,p1,e1⟩:=ih1 e2.symm
  exact⟨l1,p1.trans p2,e1⟩
theorem ae4(x:Str×Str)(ps:List (Str×Str))(z:Str):gF (x::ps) z=if x.1=z then some x.2 else gF ps z:=by
 unfold gF;rw[nq];by_cases h:x.1=z
 ·rw[decide_eq_true h,if_pos h];rfl
 ·rw[decide_eq_false h,if_neg h]
theorem tD:∀{ps:List (Str×Str)}{z w:Str},(ps.map (·.1)).Nodup→(gF ps z=some w↔(z,w)∈ps)
 |[],z,w,_=>by simp[gF]
 |x::ps,z,w,h=>by
  rw[bY,jB] at h;rw[ae4];by_cases hz:x.1=z
  ·rw[if_pos hz,bN];constructor
   ·intro e;left;rw[←hz,←fW e]
   ·rintro(e|e)
    ·rw[←e]
    ·exact absurd (dW.mpr ⟨(z,w),e,hz.symm⟩) h.1
  ·rw[if_neg hz,tD h.2,bN];constructor
   ·exact .inr
   ·rintro(e|e)
    ·exact absurd (by rw[←e]) hz
    ·exact e
theorem ae5(p:ps'.Perm ps)(h:(ps.map (·.1)).Nodup)(z:Str):gF ps' z=gF ps z:=by
 have h':(ps'.map (·.1)).Nodup:=(p.map (·.1)).nodup_iff.mpr h;cases e:gF ps z with
 |some w=>exact(tD h').mpr (p.mem_iff.mpr ((tD h).mp e))
 |none=>
  cases e':gF ps' z with
  |none=>rfl
  |some w=>
   have:=(tD h).mpr (p.mem_iff.mp ((tD h').mp e'));rw[e] at this;cases this
theorem Mf(h:gn zs ps):ps.map (·.1)=zs.take ps.length:=by
 apply ac7;intro i;rw[gh,T4];cases e:ps[i]? with
 |none=>
  rw[if_neg (by have:=Ti.mp e;omega)];rfl
 |some x=>
  rw[if_pos (jf.mp e).1,(h i x e).1];rfl
theorem Ar(hN:Names zs)(h:gn zs ps):(ps.map (·.1)).Nodup:=by
 rw[Mf h];exact hN.1.sublist (Er _ _)
theorem aec:nameB (fj "")=false:=by decide +kernel
theorem Wn(hN:Names zs)(h:gn zs ps)(hz:z∈ps.map (·.1)):nameB z=true:=by
 rw[Mf h] at hz;exact hN.2 z (uA hz)
theorem Wo(hN:Names zs)(h:gn zs ps):gF ps (fj "")=none:=by
 cases e:gF ps (fj "") with
 |none=>rfl
 |some w=>
  have:=(tD (Ar hN h)).mp e;have:=Wn hN h (dW.mpr ⟨_,this,rfl⟩);rw[aec] at this;cases this
def uw(f:Str→Option Str):Nat→Str→List Str
 |0,_=>[]
 |n+1,z=>match f z with
  |none=>[]
  |some y=>z::uw f n y
def up(ps:List (Str×Str))(z:Str):List Str:=uw (gF ps) (ps.length+1) z
theorem Oc(h:f z=none):∀n,uw f n z=[]
 |0=>rfl
 |n+1=>by unfold uw;rw[h]
theorem XQ(h:f z=some y)(n:Nat):uw f (n+1) z=z::uw f n y:=by
 rw[uw,h]
theorem Y8:∀n z,(uw f n z).length≤n
 |0,_=>bK 0
 |n+1,z=>by
  cases h:f z with
  |none=>rw[Oc h];exact lF _
  |some y=>
   rw[XQ h,cR];exact Ui (Y8 n y)
theorem Y9(hN:Names zs)(hP:gn zs ps):∀(n i:Nat),i<n→∀x,ps[i]?=some x→Over (gF ps) x.1 (uw (gF ps) n x.1)
 |0,_,h,_,_=>absurd h (vZ _)
 |n+1,i,h,x,hx=>by
  have e:gF ps x.1=some x.2:=(tD (Ar hN hP)).mpr (m9 hx);rw[XQ e];refine .step e ?_
  rcases(hP i x hx).2 with h2|⟨j,hj,h2⟩
  ·rw[h2,Oc (Wo hN hP)];exact .stop (Wo hN hP)
  ·have hi:=(jf.mp hx).1;have hjl:j<ps.length:=by omega
   have g:=hP j ps[j] (jg hjl);have e2:ps[j].1=x.2:=by
    have:=g.1;rw[h2] at this
    exact(fW this).symm
   rw[←e2];exact Y9 hN hP n j (by omega) ps[j] (jg hjl)
theorem Pn(hN:Names zs)(hP:gn zs ps)(z:Str):Over (gF ps) z (up ps z):=by
 unfold up;cases e:gF ps z with
 |none=>
  rw[Oc e];exact .stop e
 |some w=>
  obtain⟨i,hi,hx⟩:=vV ((tD (Ar hN hP)).mp e)
  have:=Y9 hN hP (ps.length+1) i (by omega) _ (jg hi);rw[hx] at this;exact this
theorem Qp(ps:List (Str×Str))(z:Str):(up ps z).length≤ps.length+1:=Y8 _ _
def aR(l:List (Str×ao)):List (ao×ao):=l.map fun p=>(.str p.1,p.2)
theorem Bj:∀l:List (Str×ao),cH cQ (aR l)=some (l.map fun p=>.inr p.1)
 |[]=>rfl
 |p::l=>by
  rw[show aR (p::l)=(.str p.1,p.2)::aR l from rfl];unfold cH;rw[Bj l];simp only[cQ];rfl
theorem yZ(x z:Str):(cQ (.str x)=some (.inr z))↔x=z:=by
 simp[cQ]
theorem WX(z:Str):∀l:List (Str×ao),o7 cQ (.inr z) (aR l)=(l.find? fun p=>decide (p.1=z)).map (·.2)
 |[]=>rfl
 |p::l=>by
  show(if cQ (.str p.1)=some (.inr z) then some p.2 else o7 cQ (.inr z) (aR l))=_
  rw[nq];by_cases h:p.1=z
  ·rw[if_pos ((yZ _ _).mpr h),decide_eq_true h];rfl
  ·rw[if_neg (fun e=>h ((yZ _ _).mp e)),decide_eq_false h,WX z l]
theorem MN(l:List (Str×ao))(z:Str):mC (aR l) (.str z)=some ((l.find? fun p=>decide (p.1=z)).map (·.2)):=by
 show(if(cH cQ (aR l)).isSome then some (o7 cQ (.inr z) (aR l)) else none)=_
 rw[Bj,WX];rfl
theorem XR(h:z∉l.map (·.1)):mK cQ (.inr z) (.str z) d (aR l)=aR (l++[(z,d)]):=by
 unfold mK;rw[if_neg,aR,aR,gU]
 ·rfl
 ·rw[Uj,acU];intro p hp
  obtain⟨q,hq,rfl⟩:=dW.mp hp
  have:¬(cQ (.str q.1)=some (.inr z)):=fun e=>h (dW.mpr ⟨q,hq,(yZ _ _).mp e⟩)
  simpa using this
theorem Od(h:z∉l.map (·.1)):putD (aR l) (.str z) d=some (aR (l++[(z,d)])):=by
 show(if(cH cQ (aR l)).isSome then some (mK cQ (.inr z) (.str z) d (aR l)) else none)=_
 rw[Bj,XR h];rfl
theorem agZ(ps:List (Str×Str))(g:Str×Str→α)(z:Str):((ps.map fun p=>(p.1,g p)).find? fun p=>decide (p.1=z)).map (·.2)=(ps.find? fun p=>decide (p.1=z)).map g:=by
 rw[U9,Ai];rfl
theorem q9(D:α→ao)(p:α→Bool)(g:α→ao):∀{l:List α},(∀a∈l,∃ts,xX T (D a)=some ts∧ft (dw ts++fs) C=some (p a,C)∧(p a=true→∃x e,fe (dw ts++fs) C=some (x,e,C)∧still x=.im (g a)))→
  jP T ft fe fs (l.map D) C=some ((l.filter p).map g,C)
 |[],_=>rfl
 |d::r,h=>by
  obtain⟨ts,h1,h2,h3⟩:=h d dR
  have ih:=q9 D p g (l:=r) fun d m=>h d (eZ _ m)
  rw[bY];unfold jP;simp only[h1];rw[h2];cases hp:p d with
  |true=>
   obtain⟨x,e,h4,h5⟩:=h3 hp
   simp only[h4,h5,ih,J1,hp,if_true,bY]
  |false=>
   simp only[ih,J1,hp];rfl
section
variable{prog:bf}{w:aY}{A:bU}{E:Value→au→Prop}{R:pZ→au→Prop}{s:au}
theorem afX(h:Q (.ref s.heap.objs.size) {s with heap:=s.heap.push (pB w)}):aM (model prog w) A (newSet (.type "set")) Q E s:=by
 unfold newSet Wh
 obtain⟨h0,g0,d0,t0,o0⟩:=s
 refine aC (aC (J2 (aW ?_)));dsimp only;simp only[newObj];exact aC (wpAny_alloc (aW h))
theorem afY{elt target iter:Expr}{ifs:List Expr}{rest:List Comprehension}{scope:iJ}{pos:Pos}{it acc:Value}{env:Env}(h0:jN (model prog w) A (.compLoop (.SetComp elt (⟨target,iter,ifs,0⟩::rest) scope pos) 0 it acc env) R s)
  (h:aM (model prog w) A (BJ it) (fun it' s'=>jN (model prog w) A (.compLoop (.SetComp elt (⟨target,iter,ifs,0⟩::rest) scope pos) 0 it' acc env) R s') (notedBy (model prog w) A env fun x s'=>R (.error x) s') s):
  jN (model prog w) A (.compStart (.SetComp elt (⟨target,iter,ifs,0⟩::rest) scope pos) 0 it acc env) R s:=by
 refine codeAny_of_tree (show aM _ A ((compStart (.SetComp elt (⟨target,iter,ifs,0⟩::rest) scope pos) 0 it acc env).onRaise (fun x=>do noteFrame x env;rD theWindowsPlace)) _ _ s from wpAny_notedAt ?_);unfold compStart
 refine(show aM _ A (ask >>= _) _ _ s from aC (J2 (wpAny_ite ?_)))
 split
 ·first
   |exact aC (aW (aW ⟨rfl,h0⟩))
   |exact aW ⟨rfl,h0⟩
 ·first
   |exact aC (wH (aC (sV (aC (mW h (fun it' s' h'=>aW ⟨rfl,h'⟩) fun _ _ x=>x)))))
   |exact aC (wH (show aM _ _ (rD iter.pos >>= _) _ _ s from aC (sV (aC (mW h (fun it' s' h'=>aW ⟨rfl,h'⟩) fun _ _ x=>x)))))
variable{T:Type}[DecidableEq T]{knd:wj prog w T}
theorem aeA(hk:knd.is k key=true)(hsc:key.scannable=true)(hS:mJ knd s.heap a ks)(room:ks.length+1<oK)
  (h:∀h',yG a s.heap h'→mJ knd h' a (jR ks k)→Q .none {s with heap:=h',toks:=s.toks+1}):aM (model prog w) A (call (.builtin "set.add") [.ref a,key]) Q E s:=by
 refine pL F.slot_set_add hS.ty F.entry_set_add ?_ (F.args_set_add_2 _ _);unfold jX.«set.add» amv;simp only[Uo,bind_assoc];unfold amW setAdd;refine aC (aW ?_)
 try dsimp only
 refine aC (aW ?_)
 try dsimp only
 refine aC (lW (aC (knd.pyHash hk ?_)));refine ahY (knd:=knd) (s:={s with toks:=s.toks+1}) hk hsc hS room fun _ h' hsb hS'=>?_
 exact(show aM _ _ (ret pP) _ _ _ from aW ⟨_,rfl,h h' hsb hS'⟩)
end
theorem aed(elt gens scope pos):eval (.SetComp elt gens scope pos) env=Vo (.SetComp elt gens scope pos) scope env (firstIterPos gens pos) (newSet (.type "set")) (firstAsync gens) (firstIter gens env):=rfl
section
variable{P:bf}{w:aY}{T0:Type}[DecidableEq T0](knd:wj P w T0)(mk:T0→V)
abbrev SO(a:aa)(ks:List T0):HO:=.ext fun h=>mJ knd h a ks
def QX(D:aa)(te:TE):TM:=fun σ H Q=>te σ H fun y H1=>∃ks k,H1 D=some (SO knd D ks)∧y=mk k∧ks.length+1<oK∧Q (upd H1 D (SO knd D (jR ks k)))
theorem aax(x:mJ knd h a ks):fM P w H h a (SO knd a ks):=
 ⟨x,let ⟨o,_,_,_,e,_⟩:=x;⟨o,e⟩,fun _ _ y e=>y.at e⟩
def tSC(K:aH)(wi:TI)(T:fU)(ts:Bk→TT)(te:Bk→TE)(js:List Nat):TE:=fun σ H Q=>wi σ H fun J H1=>∀D,H1 D=none→∀b,vA K T (ts b) (QX knd mk D (te b)) (frees js σ) J (upd H1 D (SO knd D [])) (Q (.ref D))
end
section
variable{X:Cx}{T0:Type}[DecidableEq T0]{knd:wj X.prog X.w T0}{mk:T0→V}{NT NF:List Str}{js:List Nat}{elt tg iter:Expr}{ifs:List Expr}{T:fU}{wi:TI}{ts:Bk→TT}{te:Bk→TE}{scope:iJ}{pos:Pos}
theorem ajG(hk:∀k v,RelV (mk k) v→knd.is k v=true∧v.scannable=true)(he:PE X elt t):PM X (do let v ←eval elt X.env;rD elt.pos;let _ ←call (.builtin "set.add") [.ref D,v]) (QX knd mk D t):=by
 intro pins s σ H Q I h;refine aC (bh (he pins s σ H _ I h) fun v s1 aJ=>?_)
 obtain⟨y,H1,I1,r1,ks,k,hD,ey,hz,q⟩:=aJ
 subst ey
 obtain⟨hS,_,_⟩:=I1.hok D _ hD
 obtain⟨k1,k2⟩:=hk _ _ r1
 refine aC (sV (aC (aeA k1 k2 hS hz fun h' same hS'=>?_)));refine aW ⟨_,?_,q⟩;exact wN I1 (by rw[hD];exact oJ) same (let ⟨o,_,_,_,e,_⟩:=hS';⟨o,e⟩) (aax knd hS')
theorem ajH{pins:List (aa×Obj)}{σ:St}{s2:au}{H2:Hp}{cl:List (Str×aa)}{it:aa}{fp:List aa}{tn:Nat→aV→Prop}{J:It}{Q:Hp→Prop}{RR:Value→aa→pZ→au→Prop}{E:Value→au→Prop}
  (hk:∀k v,RelV (mk k) v→knd.is k v=true∧v.scannable=true)(B:nO X NT NF js scope)(tk:mZ tg NT T)(hc:X.calm=true)
  (hin:∀b,lN (X.bk (NT++NF) scope b) ifs (ts b)∧PE (X.bk (NT++NF) scope b) elt (te b))
  (q2:∀n c,cl.lookup n=some c→X.env.cells.lookup n=some c)(q3:∀y∈scope.names,y.2=.free→∃c,cl.lookup y.1=some c)
  (I2:Inv X pins σ H2 s2)(TT:Turn X.prog X.w X.K tg J fp it tn)(st2:tn 0 s2.heap)(f2:∀b∈fp,jD X pins H2 b)
  (q:∀b,vA X.K T (ts b) (QX knd mk s2.heap.objs.size (te b)) (frees js σ) J (upd H2 s2.heap.objs.size (SO knd s2.heap.objs.size [])) Q)
  (hR:∀C H' s' m,Inv X pins σ H' s'→jD X pins H' C→s'.heap.Ns C m→Q H'→RR (.ref s2.heap.objs.size) C (.ok .next) s'):
  aM (model X.prog X.w) X.A (newSet (.type "set")) (fun acc s₃=>aM (model X.prog X.w) X.A (U5 scope X.env.globals cl [] X.env.qual none .none (some X.env)) (fun cenv s₄=>
   jN (model X.prog X.w) X.A (.compStart (.SetComp elt [⟨tg,iter,ifs,0⟩] scope pos) 0 (.ref it) acc {cenv with scope:=relabel scope X.env}) (RR acc cenv.locals) s₄) E s₃) E s2:=by
 refine afX ?_;have hD:H2 s2.heap.objs.size=none:=I2.hok.fresh (bK _);have I3:Inv X pins σ (upd H2 s2.heap.objs.size (SO knd s2.heap.objs.size [])) {s2 with heap:=s2.heap.push (pB X.w)}:=
  I2.laid (t':=s2.toks) (fun b o e=>cB _ e) (bK _) (aax knd (ajn (gP _ rfl)))
 have hsz:(s2.heap.push (pB X.w)).objs.size=s2.heap.objs.size+1:=wg ..;refine TJ B.cell (by intro y hy;simp at hy) (fun h₁ hns₁ hsb₁=>?_) B.kind;have vK:∀b∈fp,b<s2.heap.objs.size:=fun b hb=>by
  obtain⟨o,e,_⟩:=TT.obj 0 _ st2 b hb
  exact cz e
 have f3:∀b∈fp,jD X pins (upd H2 s2.heap.objs.size (SO knd s2.heap.objs.size [])) b:=fun b hb=>⟨by rw[cN (dM (vK b hb))];exact(f2 b hb).1,(f2 b hb).2⟩
 have keep:∀b o,(s2.heap.push (pB X.w)).get? b=some o→h₁.get? b=some o:=fun b o e=>hsb₁.extBut b o (dM (cz e)) (cB _ e)
 have vL:∀b∈fp,b<(s2.heap.push (pB X.w)).objs.size:=fun b hb=>by have:=vK b hb;rw[hsz];exact vW this
 have I4:=I3.blk (s1:={s2 with heap:=h₁,toks:=s2.toks+([]:List (Str×Value)).length}) B q2 q3 f3 vL hns₁ keep rfl I2.bare;have vM:tn 0 h₁:=TT.keep 0 _ _ st2 fun b _ o e=>keep b o (cB _ e)
 obtain⟨i1,i2⟩:=hin ⟨cl,(s2.heap.push (pB X.w)).objs.size,{s2 with heap:=s2.heap.push (pB X.w)},upd H2 s2.heap.objs.size (SO knd s2.heap.objs.size []),fp⟩
 have loop:jN (model X.prog X.w) X.A (.compLoop (.SetComp elt [⟨tg,iter,ifs,0⟩] scope pos) 0 (.ref it) (.ref s2.heap.objs.size) (Ni scope cl (s2.heap.push (pB X.w)).objs.size X.env))
   (RR (.ref s2.heap.objs.size) (s2.heap.push (pB X.w)).objs.size) {s2 with heap:=h₁,toks:=s2.toks+([]:List (Str×Value)).length}:=by
  refine Nj (X:=X.blk (NT++NF) scope cl (s2.heap.push (pB X.w)).objs.size {s2 with heap:=s2.heap.push (pB X.w)} (upd H2 s2.heap.objs.size (SO knd s2.heap.objs.size [])) fp)
   (T:=T) (fs:=frees js σ) (done:=Q) rfl (afD elt tg iter ifs scope pos _ _ _) rfl rfl rfl tk rfl B.nd hc (fun x hx=>TQ (B.tg x hx)) i1 (ajG (X:=X.bk (NT++NF) scope _) (knd:=knd) hk i2) TT (fun b hb=>?_) I4 vM (q _) fun H' s' σ' J' qd=>?_
  ·exact⟨(f3 b hb).1,dM (vL b hb),fun hb2=>by
    rcases bN.mp (I3.zb b hb2) with z|z
    ·exact(f3 b hb).2.1 z
    ·exact(f3 b hb).2.2.1 z,.inl hb,fun x c e=>(f3 b hb).2.2.2.2.1 x c (q2 x c e),fun p hp=>(nomatch(show p∈([]:List (aa×Obj)) from hp))⟩
  ·obtain⟨m,hn,_⟩:=J'.loc
   exact hR _ H' s' m (I3.QT f3 J') (I3.vp (bK _) J'.free) hn qd
 exact afY loop (TT.self _ 0 _ _ _ vM loop)
theorem akz(hk:∀k v,RelV (mk k) v→knd.is k v=true∧v.scannable=true)(B:nO X NT NF js scope)(tk:mZ tg NT T)(hc:X.calm=true)(hi:PI X tg iter wi)
  (hin:∀b,lN (X.bk (NT++NF) scope b) ifs (ts b)∧PE (X.bk (NT++NF) scope b) elt (te b))
  (hs:∀x,sO iter X.env x=pure x:=by intro _;rfl):PE X (.SetComp elt [⟨tg,iter,ifs,0⟩] scope pos) (tSC knd mk X.K wi T ts te js):=by
 intro pins s σ H Q I h
 obtain⟨cl,hclos,q2,q3⟩:=Gq (env:=X.env) (scope:=scope) fun y hy e=>I.ok.has y.1 (B.free y hy e)
 rw[aed];refine JN (use:=none) rfl hs hclos B.kind B.names (bh (hi pins s σ H _ I h) fun v s1 h1=>bh h1 fun itv s2 aJ=>?_)
 obtain⟨it,fp,tn,J,H2,e,I2,TT,st2,f2,q⟩:=aJ
 subst e;refine ajH (Q:=fun H'=>Q (.ref s2.heap.objs.size) H') (RR:=fun acc C=>Nk (model X.prog X.w) X.A X.xe none (EP X pins σ Q) acc C) hk B tk hc hin q2 q3 I2 TT st2 f2 (q _ (I2.hok.fresh (bK _))) fun C H' s' m I' fC hn qd=>?_
 refine⟨m,hn,fun h' sb=>⟨.ref s2.heap.objs.size,H',?_,rfl,qd⟩⟩
 exact I'.turned (t':=s'.toks) (fun b o hb e=>(sb.2 b hb).trans e) fC.1 fC.2.1 fC.2.2.2.1 fC.2.2.2.2.1 fC.2.2.2.2.2
end
def Z6{P:bf}{w:aY}(t:TE):TE:=fun σ H Q=>t σ H fun x H2=>∃D ks,x=.ref D∧H2 D=some (SO (Fg P w) D ks)∧ks.length<64∧∀(D':aa)(ns':List Str),H2 D'=none→ns'.Perm ks→sortedS ns'=true→Q (.ref D') (upd H2 D' (.lst (ns'.map V.str)))
theorem ag0(hc:X.calm=true)(hl:PE X e t)(g1:Gl X "sorted")(m1:X.mg "sorted"=none)
  (he:aZ [e] X.env=(false,eval e X.env)::aZ [] X.env:=by rfl)(hpl:(eO pos1 (aZ [] X.env)).any (·.1)=false:=by rfl):PE X (.Call (.Name "sorted" p1) [e] [] pos1) (Z6 (P:=X.prog) (w:=X.w) t):=by
 intro pins s σ H Q I h;refine z9 (tR I g1 m1 (u:=.builtin "sorted") rfl (Te ?_ he hpl));rw[he];show aM _ _ (Bo ((false,eval e X.env)::eO pos1 (aZ [] X.env))) _ _ s;refine z8 (bh (hl pins s σ H _ I h) fun v s1 ⟨y,H1,I1,r1,D,ks,ey,hD,h64,q⟩=>Ep ?_);subst ey;cases r1
 obtain⟨⟨o,es,ep,t,ho,ex,hd,⟨ks',ek,pk⟩,hb,hf,tb⟩,_,_⟩:=I1.hok D _ hD
 obtain⟨e1,e2⟩:=agJ ek
 have few:es.size<64:=by
  rw[←jm,ek.len,pk.length_eq];omega
 refine ae0 (Ok:=fun out=>∃ns',StrsAre out ns'∧ns'.Perm ks∧sortedS ns'=true) (I1.ok.hd hc) ⟨o,ho,ex,hd,hf,tb⟩ few (fun us pm B s2 a n P E' ho' hp=>?_) fun D h' d tk c out ok ge kk gD=>?_
 ·have hS:StrsAre us (us.map strOf):=strsAre_map us fun v hv=>e2 v (pm.mem_iff.mp hv)
  refine list_sort_treeK strKind_oneLt ho' hS.keysOf (fun v1 v2 rest e=>keyKind_strs (by rw[←e];exact hS)) (by rw[pm.length_eq,aX,jm];exact few) fun st hp1 hp2=>?_
  obtain⟨ss',b1,b2,b3⟩:=sorted_out_str hS hp1 hp2
  exact hp _ ⟨ss',b1,b2.trans ((pm.map strOf).trans (by rw[e1];exact pk)),b3⟩
 ·obtain⟨ns',a1,a2,a3⟩:=ok
  have hz:ns'.length≤bM:=by
   rw[a2.length_eq,iT];omega
  exact⟨.ref D,_,(I1.laid (o:=.lst (ns'.map V.str)) (t':=tk) kk ge ⟨by rw[aX];exact hz,out.toList,c,Mw a1,by simpa[seqObj] using gD⟩).drew d,rfl,q D ns' (I1.hok.fresh ge) a2 a3⟩
def DN(fi:FI)(T:fU)(ft:FT)(fe:FE)(js:List Nat):FE:=fun env C=>match fi env C with
 |some (its,e1,C1)=>match jP T ft fe (frB js e1) its C1 with
  |some (ys,C2)=>match G5 ys with
   |some l=>some (.ow (.list l),env,C2)
   |none=>none
  |none=>none
 |none=>none
def Rr(fe:FE):En→List Str→Ce→Option (List Str×Ce):=fun env acc C=>(fe env C).bind fun q=>(imO (still q.1)).bind fun y=>(strD y).bind fun z=>bif decide (acc.length<64) then some (acc++[z],q.2.2) else none
theorem Pq:∀{its:List ao}{ys acc:List Str}{C:Ce},jP T ft fe fs its C=some (ys.map .str,C')→acc.length+ys.length≤64→rQ T ft (Rr fe) fs its acc C=some (acc++ys,C')
 |[],ys,acc,C,h,_=>by
  cases ys with
  |cons _ _=>cases h
  |nil=>
  cases h;rw[j6];rfl
 |d::r,ys,acc,C,h,hl=>by
  unfold jP at h;unfold rQ;split at h
  case h_2=>cases h
  rename_i ts ht;rw[ht,gR];split at h
  case h_3=>cases h
  ·rename_i C1 hf;rw[hf,gR];exact Pq h hl
  ·rename_i C1 hf;rw[hf,gR];split at h
   case h_2=>cases h
   rename_i x e2 C2 hx;split at h
   case h_2=>cases h
   rename_i y hy;split at h
   case h_2=>cases h
   rename_i zs C3 hz;cases ys with
   |nil=>cases h
   |cons w ys=>
   injection h with h
   injection h with h1 h2
   injection h1 with h1 h3
   subst h1 h2 h3;rw[cR] at hl
   show(Rr fe (dw ts++fs) acc C1).bind _=_
   unfold Rr;rw[hx,gR,hy,show imO (.im (.str w))=some (.str w) from rfl,gR,show strD (.str w)=some w from rfl,gR,decide_eq_true (by omega),show acc++w::ys=(acc++[w])++ys by rw[j4];rfl];exact Pq hz (by rw[fP];show acc.length+1+_≤_;omega)
theorem aij{P:bf}{w:aY}{K:aH}{fi:FI}{T:fU}{ft:FT}{fe:FE}{js:List Nat}:∀σ H Q,tE K (DN fi T ft fe js) σ H Q→Z6 (P:=P) (w:=w) (tSC (Fg P w) V.str K (tI K true fi) T (fun _=>dZ K ft) (fun _=>tE K fe) js) σ H Q:=by
 rintro σ H Q ⟨Z,Θ,env,C,res,env',C',S,hf,q⟩;unfold DN at hf;split at hf
 case h_2=>cases hf
 rename_i its e1 C1 h1;split at hf
 case h_2=>cases hf
 rename_i ys C2 h2;split at hf
 case h_2=>cases hf
 rename_i l hs;cases hf;unfold G5 at hs;split at hs
 case isFalse=>cases hs
 rename_i hl;split at hs
 case h_2=>cases hs
 rename_i ns hns;cases hs;have hys:=XJ hns;subst hys;rw[aX] at hl
 refine⟨Z,Θ,env,C,its,e1,C1,S,h1,fun J H1 k1 f1 S1 it D hD b=>?_⟩
 have pC:D∉Θ:=fun m=>(S1.cell.dom D m).ne hD
 refine NP (a0:=[]) (Ob:=fun acc Hx=>Hx D=some (SO (Fg P w) D (dedup acc))) S1 it hD eN (fun a Hx Hy kk r=>kk.keep _ _ r pC) (fun a Hx r=>⟨_,r,fun _ z=>nomatch z⟩) ?_ (Pq (acc:=[]) h2 (by rw[Ag];omega)) fun H2 ki ci r=>?_
 ·intro ts acc C2 p vs H4 Q hs S4 k4 r4 hQ
  obtain⟨w,hfe,hs⟩:=gm hs
  obtain⟨yd,qL,hs⟩:=gm hs
  obtain⟨z,hz,hs⟩:=gm hs
  have qL:=BZ qL;have hz:=ah4 hz;subst hz;cases hlt:decide (acc.length<64) with
  |false=>rw[hlt] at hs;cases hs
  |true=>
  rw[hlt] at hs;cases hs
  refine⟨_,Θ,_,C2,w.1,w.2.1,w.2.2,S4,hfe,fun y H5 k5 f5 R5=>?_⟩
  obtain⟨S5,r5⟩:=R5.rP qL
  have lt:=of_decide_eq_true hlt;have ld:=WN acc
  exact⟨dedup acc,z,k5.keep _ _ r4 pC,r5,by unfold oK;omega,hQ _ (Qo (Hy:=H5) hD (k4.trans k5)) (G4 pC S5.cell) (by rw[aeV];exact eN)⟩
 ·have kk:=k1.trans ki;have ld:=WN ns
  refine⟨D,dedup ns,rfl,r,by omega,fun D' ns' hn p hp=>?_⟩
  rw[Z2 p hp];exact q _ _ (kk.trans (aP.upd hn)) (Fz.refl _) ((tO (S.go kk ci) (Xo _) hn).from kk)
theorem akA{X:Cx}{NT NF:List Str}{js:List Nat}{elt tg iter:Expr}{ifs:List Expr}{T:fU}{fi:FI}{ft:FT}{fe:FE}{scope:iJ}{pos p1 pos1:Pos}(B:nO X NT NF js scope)(tk:mZ tg NT T)(hc:X.calm=true)(g1:Gl X "sorted")(m1:X.mg "sorted"=none)(hi:PI X tg iter (tI X.K true fi))
  (hin:∀b,lN (X.bk (NT++NF) scope b) ifs (dZ X.K ft)∧PE (X.bk (NT++NF) scope b) elt (tE X.K fe))
  (hs:∀x,sO iter X.env x=pure x:=by intro _;rfl)
  (he:aZ [.SetComp elt [⟨tg,iter,ifs,0⟩] scope pos] X.env=(false,eval (.SetComp elt [⟨tg,iter,ifs,0⟩] scope pos) X.env)::aZ [] X.env:=by rfl)(hpl:(eO pos1 (aZ [] X.env)).any (·.1)=false:=by rfl):
  PE X (.Call (.Name "sorted" p1) [.SetComp elt [⟨tg,iter,ifs,0⟩] scope pos] [] pos1) (tE X.K (DN fi T ft fe js)):=
 (ag0 hc (akz (knd:=Fg X.prog X.w) (mk:=V.str) (fun k v r=>by obtain⟨t,rfl⟩:=r;exact⟨PySem.strKind_is _ _ _ _,rfl⟩) B tk hc hi hin hs) g1 m1 he hpl).weak aij
section
variable{X:Cx}{tg:Expr}
def Dh(f g:FB):FI:=fun env C=>match bCons f (bCons g bNil) env C with
 |some ([.int i,.int j],_,C1)=>if -(2^62)≤i∧i<2^62∧-(2^62)≤j∧j<2^62 then some (gK i (j-i).toNat,env,C1) else none
 |_=>none
theorem afZ(hg:Gl X "range")(hm:X.mg "range"=none)(ha:PA X [a,b] (vP X.K (bCons f (bCons g bNil))))(hs:aZ [a,b] X.env=[(false,eval a X.env),(false,eval b X.env)]:=by rfl)(hs2:aZ [b] X.env=[(false,eval b X.env)]:=by rfl):PI X tg (.Call (.Name "range" p) [a,b] [] pos) (tI X.K bb (Dh f g)):=
 (afp hg hm ha hs hs2).weak fun σ H R aJ=>by
  obtain⟨Z,Θ,env,C,its,env',C',S,hf,q⟩:=aJ
  unfold Dh at hf;split at hf
  ·rename_i i j e1 C1 h1;split at hf
   ·rename_i hj;cases hf
    refine⟨Z,Θ,env,C,[.int i,.int j],e1,C',S,h1,fun vs H1 k f S1 b1=>?_⟩
    cases b1 with
    |cons b1 b2=>
     cases b2 with
     |cons b2 b3=>
      cases b3
      exact⟨i,j,by rw[show _=V.int i from b1,show _=V.int j from b2],hj,q _ H1 k (Fz.refl _) (S.go k S1.cell) (Xz i (j-i).toNat)⟩
   ·cases hf
  ·cases hf
end
theorem a_t0(x:α)(r:List α):dJ (x::r) 0=some x:=uQ (j:=0) rfl
theorem a_t1(a x:α)(r:List α):dJ (a::x::r) 1=some x:=uQ (j:=1) rfl
theorem a_t2(a b x:α)(r:List α):dJ (a::b::x::r) 2=some x:=uQ (j:=2) rfl
theorem a_t3(a b c x:α)(r:List α):dJ (a::b::c::x::r) 3=some x:=uQ (j:=3) rfl
theorem a_t4(a b c d x:α)(r:List α):dJ (a::b::c::d::x::r) 4=some x:=uQ (j:=4) rfl
theorem a_t5(a b c d e x:α)(r:List α):dJ (a::b::c::d::e::x::r) 5=some x:=uQ (j:=5) rfl
theorem a_t6(a b c d e f x:α)(r:List α):dJ (a::b::c::d::e::f::x::r) 6=some x:=uQ (j:=6) rfl
theorem e_bin(op:ao→ao→Option Vl)(fa fb:FB)(env:En)(C:Ce):aG op fa fb env C=(fa env C).bind fun p=>(fb p.2.1 p.2.2).bind fun q=>(op p.1 q.1).bind fun r=>some (r,rst r env q.2.1,q.2.2):=by
 unfold aG;rcases h:fa env C with _|⟨x,e1,C1⟩
 ·rfl
 ·rcases h2:fb e1 C1 with _|⟨y,e2,C2⟩
  ·simp only[gR,h2];rfl
  ·simp only[gR,h2];cases op x y<;>rfl
theorem e_dat(f:FE)(env:En)(C:Ce):aj f env C=(f env C).bind fun p=>(dat p.1).map fun d=>(d,p.2.1,p.2.2):=by
 unfold aj;rcases h:f env C with _|⟨x,e1,C1⟩<;>rfl
theorem e_bv(i:Nat)(env:En)(C:Ce):aD i env C=(env[i]?).bind fun o=>o.bind fun x=>(dat x).map fun d=>(d,env,C):=by
 unfold aD;rcases env[i]? with _|(_|x)<;>rfl
theorem e_and(f g:FT)(env:En)(C:Ce):kJ f g env C=(f env C).bind fun p=>if p.1 then g env p.2 else some (false,p.2):=by
 unfold kJ;rcases h:f env C with _|⟨_|_,D⟩<;>rfl
theorem e_or(f g:FT)(env:En)(C:Ce):sr f g env C=(f env C).bind fun p=>if p.1 then some (true,p.2) else g env p.2:=by
 unfold sr;rcases h:f env C with _|⟨_|_,D⟩<;>rfl
theorem e_not(f:FT)(env:En)(C:Ce):w6 f env C=(f env C).map fun p=>(!p.1,p.2):=by
 unfold w6;rcases h:f env C with _|⟨b,D⟩<;>rfl
theorem e_if(c:FT)(f g:FS)(env:En)(C:Ce):jk c f g env C=(c env C).bind fun p=>if p.1 then f env p.2 else g env p.2:=by
 unfold jk;rcases h:c env C with _|⟨_|_,D⟩<;>rfl
theorem e_ifv(c:FT)(f g:FE)(env:En)(C:Ce):ug c f g env C=(c env C).bind fun p=>if p.1 then f env p.2 else g env p.2:=by
 unfold ug;rcases h:c env C with _|⟨_|_,D⟩<;>rfl
theorem aay(op op':ao→ao→Option Vl)(fa fb fc:FB)(h1:fa env C=some (x,e1,C1))(h2:fb e1 C1=some (y,e2,C2))(h3:op x y=some (.im (.bool a)))(h4:fc e2 C2=some (z,e3,C2))(h5:op' y z=some (.im (.bool b))):vC op op' fa fb fc env C=some (.im (.bool (a&&b)),env,C2):=by
 unfold vC;simp only[h1,h2,h3];cases a with
 |false=>rfl
 |true=>simp only[h4,h5];rfl
theorem r_ow(d:ao)(e f:En):rst (.ow d) e f=f:=rfl
theorem r_bool(b:Bool)(e f:En):rst (.im (.bool b)) e f=e:=rfl
theorem r_int(i:Int)(e f:En):rst (.im (.int i)) e f=e:=rfl
theorem r_str(z:Str)(e f:En):rst (.im (.str z)) e f=e:=rfl
theorem r_tl(l r:List ao)(e f:En):rst (.im (.tuple (.list l::r))) e f=f:=rfl
theorem add_int(i j:Int):bL (.int i) (.int j)=some (.im (.int (i+j))):=rfl
theorem sub_int(i j:Int):u9 (.int i) (.int j)=some (.im (.int (i-j))):=rfl
theorem le_int(i j:Int):nY (.int i) (.int j)=some (.im (.bool (decide (i≤j)))):=rfl
theorem lt_int(i j:Int):ue (.int i) (.int j)=some (.im (.bool (decide (i<j)))):=rfl
theorem ge_int(i j:Int):IW (.int i) (.int j)=some (.im (.bool (decide (j≤i)))):=rfl
theorem gt_int(i j:Int):uf (.int i) (.int j)=some (.im (.bool (decide (j<i)))):=rfl
theorem eq_int(i j:Int):lK (.int i) (.int j)=some (.im (.bool (i==j))):=rfl
theorem eq_bool(a b:Bool):lK (.bool a) (.bool b)=some (.im (.bool (a==b))):=rfl
theorem ne_bool(a b:Bool):iQ (.bool a) (.bool b)=some (.im (.bool (!(a==b)))):=rfl
theorem ne_int(i j:Int):iQ (.int i) (.int j)=some (.im (.bool (!(i==j)))):=rfl
theorem len_l(ds:List ao):jQ [.list ds]=some (.im (.int ds.length)):=rfl
theorem len_t(ds:List ao):jQ [.tuple ds]=some (.im (.int ds.length)):=rfl
theorem ix_t(ds:List ao)(i:Int):bu (.tuple ds) (.int i)=(dJ ds i).map .im:=rfl
theorem ix_l(ds:List ao)(i:Int):bu (.list ds) (.int i)=(dJ ds i).map .im:=rfl
theorem add_l(h:xs.length+ys.length≤1000000):bL (.list xs) (.list ys)=some (.ow (.list (xs++ys))):=if_pos h
theorem CQ(h:xs.length+ys.length≤1000000):bL (.tuple xs) (.tuple ys)=some (.im (.tuple (xs++ys))):=by
 unfold bL;cases xs with
 |nil=>rfl
 |cons x xs=>exact if_pos h
theorem rU{ds:List ao}{i:Nat}{d:ao}(h:ds[i]?=some d):bu (.tuple ds) (.int i)=some (.im d):=by
 simp only[bu,sE,uQ h,jW]
theorem h_ix0(h:gq):bu (iZ h) (.int 0)=some (.im (.tuple (h.ps.map rT))):=rU (i:=0) rfl
theorem h_ix1(h:gq):bu (iZ h) (.int 1)=some (.im (.tuple (h.vh.map rR))):=rU (i:=1) rfl
theorem h_ix2(h:gq):bu (iZ h) (.int 2)=some (.im (.tuple (h.leaves.map cu))):=rU (i:=2) rfl
theorem h_ix3(h:gq):bu (iZ h) (.int 3)=some (.im (.tuple (h.rules.map CP))):=rU (i:=3) rfl
theorem k_ix0(r:qz):bu (rR r) (.int 0)=some (.im (.int r.1)):=rU (i:=0) rfl
theorem k_ix1(r:qz):bu (rR r) (.int 1)=some (.im (.str r.2.1)):=rU (i:=1) rfl
theorem k_ix2(r:qz):bu (rR r) (.int 2)=some (.im (.int r.2.2.1)):=rU (i:=2) rfl
theorem k_ix3(r:qz):bu (rR r) (.int 3)=some (.im (.str r.2.2.2.1)):=rU (i:=3) rfl
theorem k_ix4(r:qz):bu (rR r) (.int 4)=some (.im (.int r.2.2.2.2.1)):=rU (i:=4) rfl
theorem k_ix5(r:qz):bu (rR r) (.int 5)=some (.im (.int r.2.2.2.2.2)):=rU (i:=5) rfl
theorem vD(h0:-1000000≤m)(h1:m≤1000000)(a b:α):(if -(2^62)≤m∧m<2^62 then a else b)=a:=if_pos (by omega)
theorem fX(en:En)(hk:xs.length=k)(he:xs.map some++gH (n-xs.length) none=en)(h:(body en C).map (fun p=>(p.1,p.2.2))=some (.rt r,C1))(hr:CJ C.length r=true)(hC:C1.length=C.length):fN k n body xs C=some (r,C1):=by
 unfold fN;rw[if_pos hk,he];cases hb:body en C with
 |none=>rw[hb] at h;cases h
 |some p=>
  rw[hb] at h
  obtain⟨fl,e1,C2⟩:=p
  have h:(fl,C2)=(Fl.rt r,C1):=fW h;injection h with h1 h2
  subst h1 h2;simp only[hr,if_true,agX hC]
theorem letters(k:Int)(h0:0≤k)(h1:k<26):sE (.str abc) (.int k)=some (.str ⟨#[97+k.toNat]⟩):=by
 have e:=ajB h0 h1;have hl:abc.length≤LIM:=by decide +kernel
 simp only[sE];rw[if_pos hl,e];rfl
theorem Mg:∀zs:List Str,strsOf (zs.map cU)=some zs
 |[]=>rfl
 |z::zs=>by
  show(match strsOf (zs.map cU) with|some t=>some (z::t)|none=>none)=_
  rw[Mg zs]
theorem Wq:∀ns:List Int,intsOf (ns.map j8)=some ns
 |[]=>rfl
 |n::ns=>by
  show(match intsOf (ns.map j8) with|some t=>some (n::t)|none=>none)=_
  rw[Wq ns]
theorem noLs_strs:∀zs:List Str,fL (zs.map cU)=true
 |[]=>rfl
 |z::zs=>by
  show(true&&fL (zs.map cU))=true
  rw[noLs_strs zs];rfl
theorem Mh:∀cs:List Nat,fL (cs.map fun c=>cU ⟨#[c]⟩)=true
 |[]=>rfl
 |c::cs=>by
  show(true&&fL (cs.map fun c=>cU ⟨#[c]⟩))=true
  rw[Mh cs];rfl
theorem VH:∀cs:List Nat,strsOf (cs.map fun c=>cU ⟨#[c]⟩)=some (cs.map fun c=>(⟨#[c]⟩:Str))
 |[]=>rfl
 |c::cs=>by
  show(match strsOf (cs.map fun c=>cU ⟨#[c]⟩) with|some t=>some (_::t)|none=>none)=_
  rw[VH cs];rfl
theorem af0:(fj "").length=0:=by decide +kernel
theorem ne_nil(zs:List Str)(hz:∀z∈zs,nameB z=true):iQ (.list (zs.map .str)) (.list [])=some (.im (.bool (!zs.isEmpty))):=by
 have s1:lC (.list (zs.map cU))=true:=aez fun z m=>Wm (hz z m)
 have n1:qJ (.list (zs.map cU))=true:=(Oa fun z m=>Wm (hz z m)).2.2;have e:xV (.list (zs.map .str)) (.list [])=some zs.isEmpty:=by
  show(if qJ (.list (zs.map cU))&&qJ (.list [])&&(lC (.list (zs.map cU))&&lC (.list [])) then some (Gr (.list (zs.map .str)) (.list [])) else none)=_
  rw[n1,s1];cases zs<;>rfl
 simp only[iQ,e,jW]
abbrev hEn(b:Nat)(zs:List Str)(ps:List (Str×Str))(own:List Str)(rk:List qz)(lv:List cO)(ru:List (ao×ao))(v7 v8 v9 v10 v11 bV gO jz jA Sh Sq Ss:Option Vl):En:=
 [some (.ce b),some (.im (.list (zs.map .str))),some (.ow (.list (ps.map rT))),some (.ow (.list (own.map .str))),some (.ow (.list (rk.map rR))),some (.ow (.list (lv.map cu))),some (.ow (.dict ru)),v7,v8,v9,v10,v11,bV,gO,jz,jA,Sh,Sq,Ss]
theorem rst_same(r:Vl)(e:En):rst r e e=e:=by
 cases r<;>simp[rst]
theorem aik{ns:List Int}{i:Nat}{d:ao}(h:(ns.map j8)[i]?=some d):∃x,d=.int x∧ns[i]?=some x∧x∈ns∧i<ns.length:=by
 rw[gh] at h;cases hx:ns[i]? with
 |none=>rw[hx] at h;cases h
 |some x=>
  rw[hx] at h
  exact⟨x,(fW h).symm,rfl,m9 hx,(jf.mp hx).1⟩
theorem take_snoc{ns:List Int}{i:Nat}{x:Int}(h:ns[i]?=some x):ns.take (i+1)=ns.take i++[x]:=by
 rw[List.take_add_one,h];rfl
theorem WY:∀ss:List CN,fL (ss.map Ir)=true
 |[]=>rfl
 |s::ss=>by
  show(true&&fL (ss.map Ir))=true
  rw[WY ss];rfl
theorem W0:∀rs:List Ip,fL (rs.map CP)=true
 |[]=>rfl
 |r::rs=>by
  show((true&&(true&&(fL (r.2.2.map Ir)&&true)))&&fL (rs.map CP))=true
  rw[W0 rs,WY];rfl
theorem MP:∀zs:List Str,(zs.map cU).all jt=true
 |[]=>rfl
 |z::zs=>by
  rw[bY,Kv,MP zs];rfl
theorem in_strs(z:Str)(zs:List Str):jd (.str z) (.list (zs.map .str))=some (.im (.bool (decide (z∈zs)))):=by
 have:inB (.str z) (.list (zs.map .str))=some (inD (.str z) (zs.map .str)):=if_pos (by rw[MP];rfl);unfold jd;rw[this,G7];rfl
theorem eq_strs(x z:Str):lK (.str x) (.str z)=some (.im (.bool (decide (x=z)))):=by
 have:(x==z)=decide (x=z):=by rw[pN];simp
 show some (Vl.im (.bool (x==z)))=_;rw[this]
theorem ne_strs(x z:Str):iQ (.str x) (.str z)=some (.im (.bool (!decide (x=z)))):=by
 have:(x==z)=decide (x=z):=by rw[pN];simp
 show some (Vl.im (.bool (!(x==z))))=_;rw[this]
def bz(q:List (Str×Str)):List (Str×ao):=q.map fun p=>(p.1,.str p.2)
theorem XS:∀q,xJ (aR (bz q))=true
 |[]=>rfl
 |x::q=>by
  show(true&&xJ (aR (bz q)))=true
  rw[XS q];rfl
theorem G8(q:List (Str×Str))(z:Str):mC (aR (bz q)) (.str z)=some ((gF q z).map .str):=by
 rw[MN];unfold bz gF;rw[agZ,Ai];rfl
theorem noLs_ints:∀l:List Int,fL (l.map j8)=true
 |[]=>rfl
 |x::l=>by
  show(true&&fL (l.map j8))=true
  rw[noLs_ints l];rfl
theorem rC{zs:List Str}{k:Int}(h0:0≤k)(h1:k<zs.length):∃z,z∈zs∧zs[k.toNat]?=some z∧dJ (zs.map cU) k=some (.str z):=by
 obtain⟨x,e1,e2⟩:=Z5 (xs:=zs.map cU) h0 (by rw[aX];exact h1)
 rw[gh] at e2;cases hz:zs[k.toNat]? with
 |none=>rw[hz] at e2;cases e2
 |some z=>
  rw[hz] at e2;cases e2
  exact⟨z,m9 hz,rfl,e1⟩
theorem ajI{α:Type}{f:α→ao}{l:List α}{i:Nat}{d:ao}(h:(l.map f)[i]?=some d):∃x,l[i]?=some x∧d=f x:=by
 rw[gh] at h;cases hx:l[i]? with
 |none=>rw[hx] at h;cases h
 |some x=>rw[hx] at h;exact⟨x,rfl,(fW h).symm⟩
def Bf(L:Nat)(C:Ce)(b k:Nat):Prop:=C.length=L∧∃x y z:Int,C[b]?=some [x,y,z]∧0≤x∧0≤y∧y≤3000000000∧0≤z∧z+k≤900000
theorem Bf.mono(h:Bf L C b k)(hj:j≤k):Bf L C b j:=by
 obtain⟨l,x,y,z,h1,h2,h3,h4,h5,h6⟩:=h
 exact⟨l,x,y,z,h1,h2,h3,h4,h5,by omega⟩
theorem Bf.dec(h:Bf L C b (k+1)):Bf L C b k:=h.mono (wF k)
theorem Bf.eq(h:Bf L C b k)(h':Bf L C' b' k'):C'.length=C.length:=h'.1.trans h.1.symm
inductive HE(b:Nat)(zs:List Str)(ps:List (Str×Str))(own:List Str)(rk:List qz)(lv:List cO)(ru:List (ao×ao)):En→Prop
 |mk (v7 v8 v9 v10 v11 bV gO jz jA Sh Sq Ss:Option Vl):HE b zs ps own rk lv ru (hEn b zs ps own rk lv ru v7 v8 v9 v10 v11 bV gO jz jA Sh Sq Ss)
theorem QZ(a c:Nat)(h:i<n):a+c*(n-i)=a+c*(n-(i+1))+c:=by
 rw[show n-i=(n-(i+1))+1 by omega,Nat.mul_add,Nat.mul_one,Nat.add_assoc]
theorem ajJ(a:Nat)(h:i<n):a+(n-i)=a+(n-(i+1))+1:=by omega
section
variable{prog:bf}{w:aY}{A:bU}{E:Value→au→Prop}{s:au}
end
section
variable{prog:bf}{w:aY}{A:bU}{E:Value→au→Prop}{s:au}{z TI TO i1 i2 l1 l2:aa}{f1 f2:List aa}{n:Nat}{P1 P2:Nat→Value→Prop}{S1 S2:Nat→aV→Prop}
end
section
variable{X:Cx}
end
def zJ(fk:FB)(fv:FE):FE:=fun env C=>match fk env C with
 |some (dk,e1,C1)=>match fv e1 C1 with
  |some (r,e2,C2)=>match cQ dk with
   |some _=>match still r with
    |.im d=>some (.ow (.dict [(dk,d)]),e2,C2)
    |_=>none
   |none=>none
  |none=>none
 |none=>none
theorem XX(hk:PE X k (cX X.K fk))(hv:PE X v (tE X.K fv)):PE X (.Dict [some k] [v] pos) (tE X.K (zJ fk fv)):=
 (ahM (agv hk hv ahL) rfl rfl (fun z=>nomatch z) (yf rfl)).weak fun σ H Q aJ=>by
 obtain⟨Z,Θ,env,C,r,env',C',S,hf,q⟩:=aJ
 unfold zJ at hf;split at hf
 case h_2=>cases hf
 rename_i dk e1 C1 h1;split at hf
 case h_2=>cases hf
 rename_i rv e2 C2 h2;split at hf
 case h_2=>cases hf
 rename_i kk hkk;split at hf
 case h_2=>cases hf
 rename_i d hs;cases hf;intro p hp
 refine⟨p::Z,Θ,env,C,dk,e1,C1,S.push hp _ (fun _ z=>nomatch z),h1,fun x H1 k1 f1 S1 bx=>?_⟩
 refine⟨p::Z,Θ,e1,C1,rv,env',C',S1,h2,fun y H2 k2 f2 r2=>?_⟩
 have R:=r2.still;rw[hs] at R
 obtain⟨S2,rz⟩:=R
 have ex:x=kV kk:=by
  cases dk<;>first|(cases hkk;exact bx)|cases hkk
 have vU:aP Θ H H2:=((aP.upd hp).trans k1).trans k2;have np:p∉Θ:=fun m=>by
  have:=(jB.mp S2.nd).1;exact this (dF _ (gf _ m))
 have e2p:H2 p=some (.dK []):=(k1.trans k2).keep _ _ eN np
 refine⟨e2p,[(kk,y)],by rw[ex];rfl,yf rfl,?_⟩
 have kf:aP Θ H (upd H2 p (.dK [(kk,y)])):=⟨fun a o ha na=>by
  rw[cN (oH ha hp)];exact vU.keep _ _ ha na,fun a ha=>by
  by_cases z:a=p
  ·exact absurd (z▸hp) ha
  ·rw[cN z];exact vU.2 a ha⟩
 have c2:mY Θ C' (upd H2 p (.dK [(kk,y)])):=⟨S2.cell.len,fun n b ns h3 h4=>by
  have:=S2.cell.at_ n b ns h3 h4;rw[cN (show b≠p from fun z=>np (by rw[←z];exact m9 h3))];exact this⟩
 refine q _ _ kf (f1.trans f2) ⟨p,rfl,hp,(S.fz (f1.trans f2)).xj hp kf ⟨_,eN,fun _ z=>nomatch z⟩ c2,[y],.inl ⟨[kk],?_,eN⟩,y,[],rfl,?_,rfl⟩
 ·unfold cH;rw[hkk];rfl
 ·refine rz.same fun a u e=>?_
  unfold er at e⊢;split at e
  ·cases e
  ·rename_i n;rw[if_neg n,cN (show a≠p from fun z=>n (by rw[z];exact dR))];exact e
def Je(i:Nat)(f:FB):FS:=fun env C=>if nP env[i]? then match f env C with
  |some (.list ys,e1,C1)=>match e1[i]? with
   |some (some (.ow (.list ds)))=>if ds.length+ys.length≤LIM then some (.nx,e1.set i (some (.ow (.list (ds++ys)))),C1) else none
   |_=>none
  |_=>none
 else none
theorem ajK(ho:PE X o (nW i))(he:PE X e (cX X.K f))
  (hs0:rm (.Call (.Attribute o "extend" apos) [e] [] cpos) none pos.line X.env=pure false:=by rfl)
  (hbase:sW o "extend" X.env (eval o X.env)=eval o X.env:=by rfl)
  (hfew:((eO cpos (aZ [e] X.env)).all (fun x=>!x.1)&&(wK cpos (wC [] X.env)).all (fun x=>x.1.isSome)
   &&decide (([e]:List Expr).length+([]:List lG).length+(if([]:List lG).isEmpty then 0 else 1)<30))=true:=by rfl)
  (hline:(apos.endLine==cpos.line)=true:=by rfl)(hs:aZ [e] X.env=(false,eval e X.env)::aZ [] X.env:=by rfl)(hplain:(eO cpos (aZ [] X.env)).any (·.1)=false:=by rfl):
  PS X (.Expr (.Call (.Attribute o "extend" apos) [e] [] cpos) pos) (tS X.K (Je i f)):=
 (Ou (Cu JQ acN PySem.F.type_list_extend (qI.r afx) ho (oR he pY hs) hbase hfew hline hs hplain) hs0).weak fun D σ H aJ=>by
  obtain⟨Z,Θ,env,C,fl,env',C',S,hf,q⟩:=aJ
  unfold Je at hf;split at hf
  ·rename_i h0
   obtain⟨ds0,h0⟩:=Xx h0
   obtain⟨v0,pI,a,rfl,zV,ha0,r0⟩:=S.slot i _ h0
   split at hf
   ·rename_i ys e1 C1 h1;split at hf
    ·rename_i ds hi;split at hf
     ·rename_i hl;cases hf
      refine⟨_,pI,.inl ⟨rfl,zV,bO.of ha0⟩,Z,Θ,env,C,.list ys,e1,C',S,h1,fun v H1 k f S1 bo=>?_⟩
      obtain⟨b,ws,rfl,hb,r1⟩:=bo
      obtain⟨v1,ev1,a1,RW,vs,ha1,r2⟩:=S1.slot i _ hi
      subst RW;rw[pI] at ev1;cases ev1
      refine⟨a,b,vs,ws,rfl,rfl,ha1,jh hb,by rw[gZ r2,gZ r1,iT];unfold LIM at hl;omega,?_⟩
      have w:cY X.K Z Θ e1 σ H1 Θ (e1.set i (some (.ow (.list (ds++ys))))) C' σ (upd H1 a (.lst (vs++ws))):=S1.write hi pI ⟨_,eN,wO r2 r1⟩;exact q Θ σ _ ((cY.pH k f S1).trans w)
     ·cases hf
    ·cases hf
   ·cases hf
  ·cases hf
section
variable{prog:bf}{w:aY}{A:bU}{E:Value→au→Prop}{s:au}{R:pZ→au→Prop}{I S:aa}{fp wr:List aa}{n:Nat}{Pv:Nat→Value→Prop}{St:Nat→aV→Prop}{bt:Nat→Nat→Bool}{HK:aV→Prop}
theorem ail(W:Walks prog w A.in1 I fp wr n Pv St)(cmp:∀(i j:Nat)(vi vj:Value)(s:au)(Q:Value→au→Prop)(E:Value→au→Prop),HK s.heap→Pv i vi→Pv j vj→Q (.bool (bt i j)) s→aM (model prog w) A.in1 (Aq .Lt vi vj) Q E s)
  (hk:∀h h',HK h→(∀b o,b∉wr→b≠S→h.get? b=some o→h'.get? b=some o)→HK h')(out:S∉fp):∀(m j:Nat)(s:au)(vb:Value)(c:Nat),n-(j+1)=m→j+1≤n→St (j+1) s.heap→HK s.heap→Pv (kj bt j) vb→s.heap.get? S=some (akt vb c)→
  (∀v h' tk,Pv (kj bt (n-1)) v→(∀b o,b∉wr→b≠S→s.heap.get? b=some o→h'.get? b=some o)→R (.ok (.ret v)) {s with heap:=h',toks:=tk})→jN (model prog w) A (.builtin "min.loop" ⟨[.ref I,.none,.ref S],[]⟩) R s:=by
 have Jf:S∉wr:=fun z=>out (W.sub _ z)
 have nm:(toString "min"++toString ".loop":String)="min.loop":=by decide
 intro m;induction m with
 |zero=>
  intro j s vb c hm hj st kp pb hS hR;have last:j+1=n:=by omega
  refine uE Tz ?_;rw[uz yc _];show aM _ A.in1 (seqItems? (.ref S) >>= _) _ _ s;refine aC (Fb hS rfl ?_);show aM _ A.in1 (tryCatch (nH (.ref I)) _ >>= _) _ _ s;refine aC (Kg (W.done s _ _ (last▸st) fun h' tk kk=>?_));have g:=kk S _ Jf hS;show aM _ A.in1 (Mz S (fun _=>#[]) >>= _) _ _ _;refine aC (Ey g rfl (aC (Lg (aW ?_))));exact hR vb _ tk (by rw[←last];exact pb) fun b o hb hbS e=>(qQ _ _ (jC hbS)).trans (kk b o hb e)
 |succ m ih=>
  intro j s vb c hm hj st kp pb hS hR;have lt:j+1<n:=by omega
  refine uE Tz ?_;rw[uz yc _];show aM _ A.in1 (seqItems? (.ref S) >>= _) _ _ s;refine aC (Fb hS rfl ?_);show aM _ A.in1 (tryCatch (nH (.ref I)) _ >>= _) _ _ s;refine aC (Kg (W.item (j+1) s _ _ lt st fun v h' tk pv st' kk=>?_));have g:=kk S _ Jf hS;have DP:HK h':=hk _ _ kp fun b o hb _ e=>kk b o hb e
  show aM _ A.in1 (tryCatch (oO [v,v] (Aq .Lt v vb >>= _)) _ >>= _) _ _ _;refine aC (Kg (lW (aC (cmp (j+1) (kj bt j) v vb _ _ _ DP pv pb ?_))));refine aC (lW (yh (aC (Lg (aW ?_)))));cases hb:bt (j+1) (kj bt j) with
  |true=>
   simp only[if_true];refine aC (Ey g rfl (aC (Lg ?_)));rw[nm];refine aW ⟨sX yc _,ih (j+1) _ v _ (by omega) lt (W.frame _ _ _ st' fun b hbf o e=>(qQ _ _ fun z:S=b=>out (z▸hbf)).trans e) (hk _ _ DP fun b o _ hbS e=>(qQ _ _ (jC hbS)).trans e) (by simp only[kj,hb,if_true];exact pv) (ye _ g rfl) fun v' h2 tk2 DQ vU=>?_⟩;exact hR v' h2 tk2 DQ fun b o hb' hbS e=>vU b o hb' hbS ((qQ _ _ (jC hbS)).trans (kk b o hb' e))
  |false=>
   simp only[oE,if_false];refine aC (Lg ?_);rw[nm];refine aW ⟨sX yc _,ih (j+1) _ vb c (by omega) lt st' DP (by simp only[kj,hb,oE,if_false];exact pb) g fun v' h2 tk2 DQ vU=>?_⟩;exact hR v' h2 tk2 DQ fun b o hb' hbS e=>vU b o hb' hbS (kk b o hb' e)
theorem aim(W:Walks prog w A.in1 I fp wr n Pv St)(cmp:∀(i j:Nat)(vi vj:Value)(s:au)(Q:Value→au→Prop)(E:Value→au→Prop),HK s.heap→Pv i vi→Pv j vj→Q (.bool (bt i j)) s→aM (model prog w) A.in1 (Aq .Lt vi vj) Q E s)
  (hk:∀h h',HK h→(∀b o,b∉wr→b≠S→h.get? b=some o→h'.get? b=some o)→HK h')(out:S∉fp)(pos:0<n)(st:St 0 s.heap)(kp:HK s.heap)(hS:s.heap.get? S=some {cls:=.type "list",dict:=none,data:=.seq #[] c,slots:=#[]})
  (hR:∀v h' tk,Pv (kj bt (n-1)) v→(∀b o,b∉wr→b≠S→s.heap.get? b=some o→h'.get? b=some o)→R (.ok (.ret v)) {s with heap:=h',toks:=tk}):jN (model prog w) A (.builtin "min.loop" ⟨[.ref I,.none,.ref S],[]⟩) R s:=by
 have Jf:S∉wr:=fun z=>out (W.sub _ z)
 have nm:(toString "min"++toString ".loop":String)="min.loop":=by decide
 refine uE Tz ?_;rw[uz yc _];show aM _ A.in1 (seqItems? (.ref S) >>= _) _ _ s;refine aC (Fb hS rfl ?_);show aM _ A.in1 (tryCatch (nH (.ref I)) _ >>= _) _ _ s;refine aC (Kg (W.item 0 s _ _ pos st fun v h' tk pv st' kk=>?_));have g:=kk S _ Jf hS;have DP:HK h':=hk _ _ kp fun b o hb _ e=>kk b o hb e
 show aM _ A.in1 (Mz S (fun _=>#[v,v]) >>= _) _ _ _;refine aC (Ey g rfl ?_);rw[nm];refine aW ⟨sX yc _,ail W cmp hk out _ 0 _ v _ rfl pos (W.frame _ _ _ st' fun b hbf o e=>(qQ _ _ fun z:S=b=>out (z▸hbf)).trans e) (hk _ _ DP fun b o _ hbS e=>(qQ _ _ (jC hbS)).trans e) pv (ye _ g rfl) fun v' h2 tk2 DQ vU=>?_⟩;exact hR v' h2 tk2 DQ fun b o hb' hbS e=>vU b o hb' hbS ((qQ _ _ (jC hbS)).trans (kk b o hb' e))
theorem ain(hh:A.handled=none)(hl:s.heap.IsList l items)(pos:0<items.size)
  (cmp:∀(i j:Nat)(vi vj:Value)(s':au)(Q:Value→au→Prop)(E:Value→au→Prop),(∀b o,s.heap.get? b=some o→s'.heap.get? b=some o)→items[i]?=some vi→items[j]?=some vj→Q (.bool (bt i j)) s'→aM (model prog w) A.in1 (Aq .Lt vi vj) Q E s')
  (h:∀(v:Value)(h':aV)(tk:Nat),items[kj bt (items.size-1)]?=some v→(∀b o,s.heap.get? b=some o→h'.get? b=some o)→Q v {s with heap:=h',toks:=tk}):aM (model prog w) A (call (.builtin "min") [.ref l]) Q E s:=by
 have nm:(toString "min"++toString ".loop":String)="min.loop":=by decide
 have ltl:l<s.heap.objs.size:=by obtain⟨o,ho,_⟩:=hl;exact cz ho
 refine ad7 PySem.F.kind_min PySem.F.plain_min PySem.F.entry_min (PySem.F.args_min1 _) ?_;show aM _ A.in1 (abZ "min" ["key","default"] 0 ⟨[],[]⟩ >>= _) _ _ s;refine aC (wpAny_of_eq (show abZ "min" ["key","default"] 0 ⟨[],[]⟩=pure [none,none] from rfl) ?_);refine aC (aW ?_);refine aC (acT hl (aC (lU ?_)));rw[nm];have vN:(s.heap.push {cls:=.type "list_iterator",data:=.fields #[.ref l,.int 0 0]}).objs.size=s.heap.objs.size+1:=wg ..;have W:=Walks.list (prog:=prog) (w:=w) (A:=A.in1) (by simp[hh]) s.heap.objs.size l (dM ltl) items;refine aW ⟨sX yc _,?_⟩;show jN (model prog w) A (.builtin "min.loop" ⟨[.ref s.heap.objs.size,.none,.ref (s.heap.push {cls:=.type "list_iterator",data:=.fields #[.ref l,.int 0 0]}).objs.size],[]⟩) _ {s with heap:=(s.heap.push {cls:=.type "list_iterator",data:=.fields #[.ref l,.int 0 0]}).push {cls:=.type "list",data:=.seq #[]}};have ol:∀b o,s.heap.get? b=some o→b∉[s.heap.objs.size]:=fun b o e=>by
  simp only[bN,nj,or_false];exact dM (cz e)
 have ol2:∀b o,s.heap.get? b=some o→b≠(s.heap.push {cls:=.type "list_iterator",data:=.fields #[.ref l,.int 0 0]}).objs.size:=fun b o e=>by
  rw[vN];exact dM (vW (cz e))
 refine aim (HK:=fun h=>∀b o,s.heap.get? b=some o→h.get? b=some o) W cmp (fun h h' k kk b o e=>kk b o (ol b o e) (ol2 b o e) (k b o e)) ?_ pos ⟨⟨_,cB _ (gP _ rfl),rfl,rfl⟩,(hl.push _).push _⟩ (fun b o e=>cB _ (cB _ e)) (gP _ rfl) fun v h' tk hv kk=>?_
 ·rw[vN];simp only[bN,nj,or_false,not_or]
  exact⟨yH (Um _),yH (vW ltl)⟩
 ·exact h v h' tk hv fun b o e=>kk b o (ol b o e) (ol2 b o e) (cB _ (cB _ e))
end
section
variable{X:Cx}
theorem adR(hc:X.calm=true)(hu:X.A.units+1<dY):jb X (.builtin "min") (fun xs H Q=>∃(p:aa)(rows:List Row)(sh:List Bool),xs=[.ref p]∧bO X.K H p (rows.map fun r=>V.ref r.1)∧0<rows.length∧(∀r∈rows,H r.1=some (.tup (r.2.map kV))∧r.2.map bG=sh)∧
  ∀r,rows[kj (kI rows) (rows.length-1)]?=some r→Q (.ref r.1) H):=by
 intro pins s σ H xs us Q I r h
 obtain⟨p,rows,sh,rfl,hp,pos,ha,q⟩:=h
 obtain⟨u,rfl,ru⟩:=vals1 r
 cases ru
 obtain⟨its,r',pl,hz⟩:=I.list hp
 have ei:its=rows.map fun r=>fG r.1:=by
  clear pos ha q pl hz hp;induction rows generalizing its with
  |nil=>cases r';rfl
  |cons a rows ih=>
   cases r' with
   |cons h t=>
    cases h;rw[ih _ t];rfl
 subst ei;have tu:∀r∈rows,TupAt s.heap r∧r.2.map bG=sh:=fun r hr=>by
  obtain⟨_,its,v,t⟩:=(show fM X.prog X.w H s.heap r.1 (.tup (r.2.map kV)) from I.hok r.1 _ (ha r hr).1)
  exact⟨⟨its,v,t⟩,(ha r hr).2⟩
 refine ain (bt:=kI rows) (I.ok.hd hc) pl.isList (by simpa using pos) (fun i j vi vj s' Q E k hi hj q=>?_) fun v h' tk hv k=>?_
 ·have hi':(rows.map fun r=>fG r.1)[i]?=some vi:=by simpa using hi
  have hj':(rows.map fun r=>fG r.1)[j]?=some vj:=by simpa using hj
  rw[gh] at hi' hj';cases ri:rows[i]? with
  |none=>rw[ri] at hi';cases hi'
  |some a=>
   cases rj:rows[j]? with
   |none=>rw[rj] at hj';cases hj'
   |some b=>
    rw[ri] at hi';rw[rj] at hj';cases hi';cases hj'
    obtain⟨⟨its,v,t⟩,sa⟩:=tu a (m9 ri)
    obtain⟨⟨its2,v2,t2⟩,sb⟩:=tu b (m9 rj)
    have ta:=(TupAt.keep (r:=a) ⟨its,v,t⟩ k)
    have tb:=(TupAt.keep (r:=b) ⟨its2,v2,t2⟩ k)
    obtain⟨its,v,t⟩:=ta
    obtain⟨its2,v2,t2⟩:=tb
    refine We t t2 (by simpa using v) (by simpa using v2) (sa.trans sb.symm) hu ?_;have e:kI rows i j=c7 a.2 b.2:=by
     unfold kI tU;simp[ri,rj]
    rw[←e];exact q
 ·have hv':(rows.map fun r=>fG r.1)[kj (kI rows) (rows.length-1)]?=some v:=by simpa using hv
  rw[gh] at hv';cases rv:rows[kj (kI rows) (rows.length-1)]? with
  |none=>rw[rv] at hv';cases hv'
  |some a=>
   rw[rv] at hv';cases hv'
   exact⟨.ref a.1,H,I.kept (t':=tk) k,rfl,q a rv⟩
end
def Su(K:aH)(a:aa):It:=⟨fun i H=>∃xs,bO K H a xs∧i<xs.length,
 fun i H v H'=>∃p x,H p=none∧v=.ref p∧H'=upd H p (.tup [.int i,x])∧∀xs,bO K H a xs→xs[i]?=some x,
 fun i H=>∃xs,bO K H a xs∧i=xs.length⟩
theorem af1{P:bf}{w:aY}{K:aH}{es:List Expr}{k:Nat}{ps:Pos}{a z j:aa}(hzj:z≠j):
  Turn P w K (.Tuple es k ps) (Su K a) [z,j] z (fun i h=>(∃old,IsEnum h z j i old)∧h.IsListIter j a i) where
 mem:=by simp
 obj:=fun i h st c hc=>by
  obtain⟨⟨_,h1⟩,⟨o4,e4,_,d4⟩⟩:=st
  simp only[bN,nj,or_false] at hc;rcases hc with rfl|rfl
  ·exact⟨_,h1,fun v q=>by cases q⟩
  ·exact⟨_,e4,fun v q=>by rw[d4] at q;cases q⟩
 keep:=fun i h h' st kk=>by
  obtain⟨⟨old,h1⟩,⟨o4,e4,r4⟩⟩:=st
  exact⟨⟨old,kk z (by simp) _ h1⟩,⟨o4,kk j (by simp) _ e4,r4⟩⟩
 item:=by
  intro X hP hw hK hc i pins s σ H E I hf st hg;subst hP hw hK
  obtain⟨xs,ha,hi⟩:=hg
  obtain⟨its,r1,p1,_⟩:=I.list ha
  obtain⟨⟨old,s1⟩,s2⟩:=st
  have ex:xs[i]?=some (xs.getD i .non):=by simp[tG,hi]
  obtain⟨u,hu,q1⟩:=r1.get ex
  have hx:its.toArray[i]?=some u:=by simpa using hu
  refine wpAny_pyNext_enum_item s1 s2 p1.isList hx hzj fun h' a1 a2 a3 a4 kk=>⟨_,rfl,wpAny_letOwnedTupleGo_enum a1 fun h2 z2 m2=>?_⟩
  have ltz:z<s.heap.objs.size:=cz s1;have hTn:H s.heap.objs.size=none:=I.hok.fresh (bK _);have kT:h2.get? s.heap.objs.size=some {cls:=.type "tuple",data:=.seq #[.int i s.toks,u]}:=m2.extBut _ _ (yH ltz) a3
  refine⟨.ref s.heap.objs.size,upd H s.heap.objs.size (.tup [.int i,xs.getD i .non]),Inv.O4 (s:=s) (h':=h2) (t':=s.toks+1) (ch:=[z,j]) I (fun c o hc e=>?_) hf (bw.upd hTn) (fun c o e n=>?_) (fun c v e=>?_),rfl,⟨_,_,hTn,rfl,rfl,fun xs' h1=>?_⟩,⟨⟨_,z2⟩,a2.extBut m2.extBut (jC hzj)⟩,fun c hc=>?_⟩
  ·simp only[bN,nj,or_false,not_or] at hc;exact m2.extBut _ _ hc.1 (kk c o hc.1 hc.2 e)
  ·rw[cN (dM (cz e))];exact n
  ·by_cases hcT:c=s.heap.objs.size
   ·subst hcT;rw[eN] at e;cases e;exact .inr ⟨by show 2≤bM;decide,[.int i s.toks,u],.cons ⟨_,rfl⟩ (.cons q1 .nil),_,kT,rfl,_,rfl⟩
   ·rw[cN hcT] at e;exact .inl e
  ·rw[I.Xd h1 ha];exact ex
  ·rw[cN]
   ·exact(hf c hc).1
   ·simp only[bN,nj,or_false] at hc
    obtain⟨o4,e4,_⟩:=s2
    rcases hc with rfl|rfl
    ·exact dM ltz
    ·exact dM (cz e4)
 done:=by
  intro X hP hw hK hc i pins s σ H E I hf st hg;subst hP hw hK
  obtain⟨xs,ha,hi⟩:=hg
  obtain⟨its,r1,p1,_⟩:=I.list ha
  obtain⟨⟨old,s1⟩,s2⟩:=st
  have l1:=r1.length;refine wpAny_pyNext_enum_end (I.ok.hd hc) s1 s2 p1.isList (by simp;omega) fun h' kk=>⟨rfl,I.O4 (t':=s.toks) (ch:=[z,j]) (fun c o hc e=>?_) hf (bw.refl H) (fun _ _ _ n=>n) fun _ _ e=>.inl e⟩
  simp only[bN,nj,or_false,not_or] at hc;exact kk _ _ hc.2 e
 self:=fun _ _ _ _ _ st h=>by
  obtain⟨⟨_,h1⟩,_⟩:=st
  exact ac8 h1 h
def alc(K:aH)(t:TA):TI:=fun σ H R=>t σ H fun vs H1=>∃a xs,vs=[.ref a]∧bO K H1 a xs∧R (Su K a) H1
theorem ajL{X:Cx}{es:List Expr}{k:Nat}{ps:Pos}{x:Expr}{t:TA}{p pos:Pos}(hg:Gl X "enumerate")(hm:X.mg "enumerate"=none)(ha:PA X [x] t)(hs:aZ [x] X.env=[(false,eval x X.env)]:=by rfl)(hs2:aZ ([]:List Expr) X.env=[]:=by rfl):
  PI X (.Tuple es k ps) (.Call (.Name "enumerate" p) [x] [] pos) (alc X.K t):=by
 intro pins s σ H R I h;refine Call_ (tR I hg hm amt (JG (bh (ha pos pins s σ H _ I h) fun us s1 aJ=>?_) (by rw[hs,hs2]) (by rw[hs2];rfl)))
 obtain⟨vs,H1,I1,r1,a,xs,e,h1,q⟩:=aJ
 subst e
 obtain⟨u,rfl,r⟩:=vals1 r1
 cases r
 obtain⟨its,v1,p1,_⟩:=I1.list h1
 refine call_enumerate_list p1.isList fun h' g1 g2 _ kk=>ac8 g1 ?_
 have I2:Inv X pins σ H1 {s1 with heap:=h'}:=I1.kept (t':=s1.toks) kk
 refine⟨s1.heap.objs.size+1,[s1.heap.objs.size+1,s1.heap.objs.size],_,_,H1,rfl,I2,af1 (Nat.succ_ne_self _),⟨⟨_,g1⟩,g2⟩,fun c hc=>?_,q⟩
 refine I1.vp ?_ (I1.hok.fresh ?_)
 all_goals
  simp only[bN,nj,or_false] at hc;rcases hc with rfl|rfl<;>omega
def xm(ds:List ao):List ao:=ds.zipIdx.map fun p=>.tuple [.int (p.2:Nat),p.1]
theorem X3{ds:List ao}{i:Nat}{d:ao}(h:(xm ds)[i]?=some d):∃x,ds[i]?=some x∧d=.tuple [.int i,x]:=by
 unfold xm at h;rw[gh,List.getElem?_zipIdx] at h;cases hx:ds[i]? with
 |none=>rw[hx] at h;cases h
 |some x=>
  rw[hx] at h
  refine⟨x,rfl,?_⟩
  have:=fW h;rw[←this,FP]
theorem W2(ds:List ao):(xm ds).length=ds.length:=by
 unfold xm;rw[aX,List.length_zipIdx]
theorem aio{K:aH}{P:List aa}{H:Hp}{a:aa}{ds:List ao}{vs:List V}(ha:er P H a=some (.lst vs))(r:cg (er P H) ds vs):xG P P H (Su K a) (xm ds):=fun i H2 P2 s1 s2 n=>by
 have h2:bO K H2 a vs:=bO.of (jh (s1 _ _ ha));have l1:=gZ r
 refine⟨fun d hd=>?_,fun hi=>⟨vs,h2,by rw[hi,W2];exact l1.symm⟩⟩
 obtain⟨x,e1,rfl⟩:=X3 hd
 obtain⟨v,ev,rv⟩:=wR r e1
 refine⟨⟨vs,h2,(jf.mp ev).1⟩,fun y H3 yl=>?_⟩
 obtain⟨p,v',hp,rfl,rfl,hh⟩:=yl
 have g1:=hh vs h2;rw[ev] at g1;cases g1;have sp:bw H2 (upd H2 p (.tup [.int i,v])):=bw.upd hp
 refine⟨sp,p,[.int i,v],rfl,?_,.int i,[v],rfl,rfl,v,[],rfl,rv.same (s1.trans (ahW sp)),rfl⟩
 unfold er;rw[if_neg (fun m=>n p m hp),eN]
def Jy(f:FE):FI:=fun env C=>match f env C with
 |some (r,e1,C1)=>match still r with
  |.im (.list ds)=>some (xm ds,e1,C1)
  |_=>none
 |none=>none
theorem aip(hg:Gl X "enumerate")(hm:X.mg "enumerate"=none)(ha:PE X x (tE X.K f))(hs:aZ [x] X.env=(false,eval x X.env)::aZ [] X.env:=by rfl)(hs1:aZ [x] X.env=[(false,eval x X.env)]:=by rfl)(hs2:aZ ([]:List Expr) X.env=[]:=by rfl):
  PI X (.Tuple es k ps) (.Call (.Name "enumerate" p) [x] [] pos) (tI X.K false (Jy f)):=(ajL hg hm (oR ha pY hs) hs1 hs2).weak fun σ H R aJ=>by
 obtain⟨Z,Θ,env,C,its,env',C',S,hf,q⟩:=aJ
 unfold Jy at hf;split at hf
 case h_2=>cases hf
 rename_i r e1 C1 h1;split at hf
 case h_2=>cases hf
 rename_i ds hd;cases hf
 refine⟨Z,Θ,env,C,_,env',C',S,h1,fun v H1 k f R=>?_⟩
 obtain⟨S1,a,vs,rfl,ha,r⟩:=R.rP hd
 exact⟨a,vs,rfl,bO.of (jh ha),q _ H1 k f S1 (aio ha r)⟩
theorem W3(h:(gY P w).is k u=true):RelV (kV k) u:=by
 rcases pO h with⟨i,t,rfl,rfl⟩|⟨x,t,rfl,rfl⟩<;>exact⟨t,rfl⟩
section
variable{prog:bf}{w:aY}{A:bU}{E:Value→au→Prop}{s:au}{r d:aa}{kvs:List (Key×Value)}{ep:Nat}{b c:Bool}{Q:Value→au→Prop}
def kO(as:List aa)(bW:List (Key×Key)):List Row:=as.zipWith (fun a p=>(a,[p.1,p.2])) bW
theorem adl(hh:A.handled=none)(hv:s.heap.IsItemsView r d)(hm:s.heap.DictAt (gY prog w) d kvs ep)(h64:bW.length<64)(hne:0<bW.length)(hk:kvs.map (·.1)=bW.map (·.1))(hx:Vals (bW.map fun p=>kV p.2) (kvs.map (·.2)))(hty:∀p∈bW,bG p.1=b∧bG p.2=c)
  (h:∀(as:List aa)(p:List Nat)(D:aa)(h':aV)(n tk:Nat),as.length=bW.length→as.Pairwise (·<·)→(∀a∈as,s.heap.objs.size≤a∧a≠D)→(∀r∈kO as bW,TupAt h' r)→p.Perm (dG (kO as bW).length)→p=rZ ((kO as bW).map (·.2))→s.heap.objs.size≤D→(∀b o,s.heap.get? b=some o→h'.get? b=some o)→
   h'.get? D=some (seqObj "list" ((p.map fun i=>(kO as bW).getD i (0,[])).map fun r=>fG r.1).toArray n)→Q (.ref D) {s with heap:=h',toks:=tk}):
  aM (model prog w) A (call (.builtin "sorted") [.ref r]) Q E s:=by
 have hlk:kvs.length=bW.length:=by have:=congrArg oG hk;simpa using this
 refine Th kind_sorted plain_sorted entry_sorted (args_sorted1 _) ?_;unfold jX.«sorted»;refine aC (m:=Wi "sorted" 1 1 _) (aW (aC (kdx_collect (A:=A.in1) (by simp[hh]) hv hm (by rw[iT];omega) fun h1 tk as kk hlen G=>?_)));have hla:as.length=bW.length:=by omega
 have hlr:(kO as bW).length=bW.length:=by unfold kO;rw[List.length_zipWith];omega
 have tu:∀r∈kO as bW,TupAt h1 r∧r.2.map bG=b::[c]:=fun r hr=>by
  obtain⟨j,hj,rfl⟩:=vV hr
  rw[hlr] at hj;have ea:as[j]?=some as[j]:=jg (by omega);have ek:bW[j]?=some bW[j]:=jg hj
  obtain⟨key,k,x,e1,e2,e3⟩:=G.pairs j _ ea
  have er:(kO as bW)[j]'(by omega)=(as[j],[bW[j].1,bW[j].2]):=by simp[kO]
  rw[er];have kk1:k=bW[j].1:=by
   have:=congrArg (·[j]?) hk;simp only[gh,e1,ek,jW] at this;exact fW this
  have kx:RelV (kV bW[j].2) x:=by
   have q1:(bW.map fun p=>kV p.2)[j]?=some (kV bW[j].2):=by rw[gh,ek];rfl
   obtain⟨u,g1,g2⟩:=hx.get q1
   rw[gh,e1] at g1;cases g1;exact g2
  refine⟨⟨[key,x],.cons (kk1▸W3 e2) (.cons kx .nil),_,e3,rfl,_,rfl⟩,?_⟩
  have:=hty bW[j] (yq hj)
  show[bG bW[j].1,bG bW[j].2]=_
  rw[this.1,this.2]
 have eu:as.map fG=(kO as bW).map fun r=>fG r.1:=by
  refine yp (by rw[aX,aX];omega) fun i h1 h2=>?_
  rw[adm,adm];simp[kO]
 rw[eu];have hsz:s.heap.objs.size≤h1.objs.size:=by
  have m:as[0]'(by omega)∈as:=yq _;exact uG (FJ (G.above _ m) (G.there m))
 generalize hR:kO as bW=rows at *;refine aC (Ky ?_ (by rw[aX,iT];omega));have hoL:(h1.push (seqObj "list" (rows.map fun r=>fG r.1).toArray 0)).get? h1.objs.size=some (seqObj "list" (rows.map fun r=>fG r.1).toArray 0):=gP _ rfl;have up:∀s':au,Kp h1.objs.size (h1.push (seqObj "list" (rows.map fun r=>fG r.1).toArray 0)) s'.heap→∀b o,h1.get? b=some o→s'.heap.get? b=some o:=fun s' k b o e=>k b o (dM (cz e)) (cB _ e)
 refine aC (lW (pL slot_list_sort ⟨_,hoL,rfl⟩ entry_list_sort (aeQ (κ:=tuples' true) (lt:=kI rows) (Rl:=fun p=>p=rZ (rows.map (·.2))) (vs:=rows.map fun r=>fG r.1) (s:={s with heap:=h1.push (seqObj "list" (rows.map fun r=>fG r.1).toArray 0),toks:=tk}) hoL (by rw[aX];omega) (fun h2=>afM (by rw[aX]) h2) (fun h2=>aeS (by rw[aX]) h2)
  (fun h2 s' k Q' q'=>afH (fun r hr=>⟨(tu r hr).1.keep (up s' k),(tu r hr).2⟩) (by rw[aX] at h2;omega) Q' q') (fun h2 s' k i j hi hj C q'=>agD (sh:=b::[c]) (fun r hr=>⟨(tu r hr).1.keep (up s' k),(tu r hr).2⟩) (by simpa using hi) (by simpa using hj) C q') fun p h' n hp hrl k e=>⟨_,rfl,?_⟩) (args_list_sort _)))
 rw[aX] at hp;rw[afJ hp] at e;have kh:=up {s with heap:=h'} k;subst hR;exact aW ⟨_,rfl,h as p h1.objs.size h' n tk hla G.rise (fun a ha=>⟨uG (G.above a ha),dM (G.there ha)⟩) (fun r hr=>(tu r hr).1.keep kh) hp hrl hsz (fun b o e=>kh b o (kk b o e)) e⟩
end
def layR(H:Hp)(rows:List Row):Hp:=fun a=>match rows.find? (fun r=>decide (r.1=a)) with
 |some r=>some (.tup (r.2.map kV))
 |none=>H a
theorem ag1(h:∀r∈rows,r.1≠a):layR H rows a=H a:=by
 unfold layR;rw[T5.mpr fun r hr=>by rw[decide_eq_false (h r hr)];exact iz]
theorem Za:∀{rows:List Row},(rows.map (·.1)).Nodup→∀r∈rows,layR H rows r.1=some (.tup (r.2.map kV))
 |q::rows,nd,r,hr=>by
  rw[bY,jB] at nd;unfold layR;rcases bN.mp hr with rfl|hr
  ·rw[List.find?_cons_of_pos (by simp)]
  ·have ne:¬decide (q.1=r.1)=true:=fun e=>nd.1 (dW.mpr ⟨r,hr,(of_decide_eq_true e).symm⟩)
   rw[List.find?_cons_of_neg (p:=fun r1:Row=>decide (r1.1=r.1)) ne];exact Za nd.2 r hr
theorem af2(h:layR H rows a=some u):H a=some u∨∃r∈rows,r.1=a∧u=.tup (r.2.map kV):=by
 unfold layR at h;cases hf:rows.find? (fun r=>decide (r.1=a)) with
 |none=>rw[hf] at h;exact .inl h
 |some r=>
  rw[hf] at h;exact .inr ⟨r,List.mem_of_find?_eq_some hf,of_decide_eq_true (List.find?_some (p:=fun r:Row=>decide (r.1=a)) hf),(fW h).symm⟩
theorem X4:∀{bW:List (Key×Key)}{vs:List (Key×Value)},KV (bW.map fun p=>(p.1,kV p.2)) vs→vs.map (·.1)=bW.map (·.1)∧Vals (bW.map fun p=>kV p.2) (vs.map (·.2))
 |[],vs,h=>by cases h;exact⟨rfl,.nil⟩
 |p::bW,vs,h=>by
  cases h with
  |cons h t=>
   obtain⟨a,b⟩:=X4 t
   exact⟨by rw[bY,bY,a,←h.1],.cons h.2 b⟩
def aiq(td:TE):TE:=fun σ H Q=>td σ H fun x H1=>∃(d:aa)(bW:List (Key×Key))(b c:Bool),x=.ref d∧H1 d=some (.dK (bW.map fun p=>(p.1,kV p.2)))∧bW.length<64∧0<bW.length∧(∀p∈bW,bG p.1=b∧bG p.2=c)∧
 ∀(l:aa)(rows:List Row)(H2:Hp),bw H1 H2→H1 l=none→H2 l=some (.lst (rows.map fun r=>V.ref r.1))→rows.map (·.2)=Dd (bW.map fun p=>[p.1,p.2])→(∀r∈rows,H2 r.1=some (.tup (r.2.map kV)))→Q (.ref l) H2
theorem af3(hc:X.calm=true)(ho:PE X o td)(g1:Gl X "sorted")(m1:X.mg "sorted"=none)
  (he:aZ [.Call (.Attribute o "items" apos) [] [] cpos] X.env=(false,eval (.Call (.Attribute o "items" apos) [] [] cpos) X.env)::aZ [] X.env:=by rfl)(hpl:(eO pos1 (aZ [] X.env)).any (·.1)=false:=by rfl)
  (hbase:sW o "items" X.env (eval o X.env)=eval o X.env:=by rfl)(hline:(apos.endLine==cpos.line)=true:=by rfl):
  PE X (.Call (.Name "sorted" p1) [.Call (.Attribute o "items" apos) [] [] cpos] [] pos1) (aiq td):=by
 intro pins s σ H Q I h;refine z9 (tR I g1 m1 (u:=.builtin "sorted") rfl ?_);refine Te ?_ he hpl;rw[he];show aM _ _ (Bo ((false,eval (.Call (.Attribute o "items" apos) [] [] cpos) X.env)::eO pos1 (aZ [] X.env))) _ _ s;refine z8 (ac6 (T:="dict") (id:="dict.items") hbase rfl hline ace acf PySem.F.type_dict_items (bh (ho pins s σ H _ I h) fun u s1 aJ=>?_))
 obtain⟨x,H1,I1,rx,d,bW,b,c,ex,hd,h64,hne,hty,q⟩:=aJ
 subst ex;obtain rfl:u=fG d:=rx
 obtain⟨z,lo,vs,rel,dd⟩:=Ii I1.hok hd
 obtain⟨hk,hx⟩:=X4 rel
 refine⟨dd.typeIs,dd.mapOf.noDict,?_⟩
 show aM _ _ (callWith cpos (.builtin "dict.items") [.ref d] [] []) _ _ s1;refine method_meetsIn acf PySem.F.entry_dict_items rfl (amw ⟨rfl,dd.typeIs,PySem.F.args_dict_items_1 _,_,meets_dict_items (gY X.prog X.w) d lo,⟨vs,dd⟩,Ep ?_⟩)
 obtain⟨od,es,ep,hod,hdr⟩:=dd
 have sz:(s1.heap.push {cls:=.type "dict_items",data:=.fields #[.ref d]}).objs.size=s1.heap.objs.size+1:=wg ..;refine adl (I1.ok.hd hc) (d:=d) ⟨_,gP _ rfl,rfl,rfl⟩ (ep:=ep) ⟨od,es,cB _ hod,hdr⟩ h64 hne hk hx hty fun as p D h' n tk hla hup hfr tu hp hrl hD kk e=>?_
 have nda:as.Nodup:=hup.imp fun h=>dM h
 obtain⟨rows,hR⟩:∃rows,rows=kO as bW:=⟨_,rfl⟩
 rw[←hR] at tu hp hrl e;have r1:rows.map (·.1)=as:=by
  rw[hR];refine yp (by simp[kO,hla]) fun i h1 h2=>?_
  simp[kO]
 have r2:rows.map (·.2)=bW.map fun p=>[p.1,p.2]:=by
  rw[hR];refine yp (by simp[kO,hla]) fun i h1 h2=>?_
  simp[kO]
 have ra:∀r∈rows,s1.heap.objs.size≤r.1∧r.1≠D:=fun r hr=>by
  have m:r.1∈as:=by rw[←r1];exact dW.mpr ⟨r,hr,rfl⟩
  have:=hfr _ m;rw[sz] at this
  exact⟨by omega,this.2⟩
 rw[sz] at hD;have hnD:H1 D=none:=I1.hok.fresh (by omega);have old:∀a,a<s1.heap.objs.size→upd (layR H1 rows) D (.lst ((p.map fun i=>rows.getD i (0,[])).map fun r=>V.ref r.1)) a=H1 a:=fun a ha=>by
  rw[cN (show a≠D by omega),ag1 fun r hr z=>by have:=(ra r hr).1;rw[z] at this;omega]
 have hin:∀r∈rows,upd (layR H1 rows) D (.lst ((p.map fun i=>rows.getD i (0,[])).map fun r=>V.ref r.1)) r.1=some (.tup (r.2.map kV)):=fun r hr=>by
  rw[cN (ra r hr).2];exact Za (by rw[r1];exact nda) r hr
 have sm:bw H1 (upd (layR H1 rows) D (.lst ((p.map fun i=>rows.getD i (0,[])).map fun r=>V.ref r.1))):=fun a u ha=>by
  have lt:a<s1.heap.objs.size:=by
   rcases Nat.lt_or_ge a s1.heap.objs.size with h|h
   ·exact h
   ·rw[I1.hok.fresh h] at ha;cases ha
  rw[old a lt];exact ha
 refine⟨.ref D,_,Inv.O4 (s:=s1) (h':=h') (t':=tk) (ch:=[]) I1 (fun a o _ q=>kk a o (cB _ q)) (fun _ m=>nomatch m) sm (fun a o q n=>by rw[old a (cz q)];exact n) (fun a u ha=>?_),rfl,q D (p.map fun i=>rows.getD i (0,[])) _ sm hnD eN ((ahV hp hrl).trans (by rw[r2])) fun r hr=>hin r ((afI hp).mem_iff.mp hr)⟩
 by_cases hz:a=D
 ·subst hz;rw[eN] at ha;cases ha;refine .inr ⟨?_,_,n,WM _,by simpa[seqObj] using e⟩;rw[aX,aX,hp.length_eq,j5,iT];have:=congrArg oG r2;rw[aX,aX] at this;omega
 ·rw[cN hz] at ha;rcases af2 ha with h|⟨r,hr,rfl,rfl⟩
  ·exact .inl h
  ·obtain⟨its,v,t⟩:=tu r hr
   refine .inr ⟨?_,its,v,t⟩;have m:r.2∈bW.map fun p=>[p.1,p.2]:=by rw[←r2];exact dW.mpr ⟨r,hr,rfl⟩
   obtain⟨pp,_,e2⟩:=dW.mp m
   rw[←e2,iT];show 2≤_;omega
def Di:List (ao×ao)→Option (List (Key×Key))
 |[]=>some []
 |p::r=>(cQ p.1).bind fun k=>(cQ p.2).bind fun v=>(Di r).map fun t=>(k,v)::t
theorem X5:∀{kvs:List (ao×ao)}{bW:List (Key×Key)}{ks:List Key}{vs:List V},Di kvs=some bW→cH cQ kvs=some ks→gA E kvs vs→ks.zip vs=bW.map (fun p=>(p.1,kV p.2))∧kvs.map (fun p=>uH [p.1,p.2])=bW.map (fun p=>.tuple [jJ p.1,jJ p.2])
 |[],bW,ks,vs,h,h1,_=>by cases h;cases h1;exact⟨rfl,rfl⟩
 |p::r,bW,ks,vs,h,h1,h2=>by
  obtain⟨k,e1,h⟩:=j0.mp h
  obtain⟨v,e2,h⟩:=j0.mp h
  obtain⟨t,e3,h⟩:=Ed.mp h
  subst h;unfold cH at h1;rw[e1] at h1;cases ha:cH cQ r with
  |none=>rw[ha] at h1;cases h1
  |some t1=>
   rw[ha] at h1;cases h1
   obtain⟨u,w,rfl,q,h2⟩:=h2
   obtain⟨a,b⟩:=X5 e3 ha h2
   obtain⟨p1,p2⟩:=p
   have hv:u=kV v:=ZP e2 q;have d1:p1=jJ k:=by cases p1<;>first|(cases e1;rfl)|cases e1
   have d2:p2=jJ v:=by cases p2<;>first|(cases e2;rfl)|cases e2
   refine⟨?_,?_⟩
   ·rw[Em,bY,a,hv]
   ·rw[bY,bY,b,d1,d2]
def Qq(kvs:List (ao×ao)):Option (List ao):=(Di kvs).bind fun bW=>bW.head?.bind fun p=>if bW.length<64∧∀q∈bW,bG q.1=bG p.1∧bG q.2=bG p.2 then some (Jd (kvs.map fun p=>.tuple [p.1,p.2])) else none
def Q0:ao→Option (List (ao×ao))
 |.dict kvs=>some kvs
 |_=>none
theorem ag2(h:Q0 d=some kvs):d=.dict kvs:=by
 cases d<;>first|(cases h;rfl)|cases h
def Pr(f:FB):FE:=fun env C=>(f env C).bind fun p=>(Q0 p.1).bind fun kvs=>(Qq kvs).map fun l=>(.ow (.list l),env,p.2.2)
theorem af4(hc:X.calm=true)(ho:PE X o (cX X.K f))(g1:Gl X "sorted")(m1:X.mg "sorted"=none)
  (he:aZ [.Call (.Attribute o "items" apos) [] [] cpos] X.env=(false,eval (.Call (.Attribute o "items" apos) [] [] cpos) X.env)::aZ [] X.env:=by rfl)(hpl:(eO pos1 (aZ [] X.env)).any (·.1)=false:=by rfl)
  (hbase:sW o "items" X.env (eval o X.env)=eval o X.env:=by rfl)(hline:(apos.endLine==cpos.line)=true:=by rfl):
  PE X (.Call (.Name "sorted" p1) [.Call (.Attribute o "items" apos) [] [] cpos] [] pos1) (tE X.K (Pr f)):=(af3 hc ho g1 m1 he hpl hbase hline).weak fun σ H Q aJ=>by
 obtain⟨Z,Θ,env,C,r,env',C',S,hf,q⟩:=aJ
 refine hide fun GG gg=>?_
 obtain⟨⟨d,e1,C1⟩,h1,hf⟩:=j0.mp hf
 obtain⟨kvs,hd,hf⟩:=j0.mp hf
 obtain⟨l,hl,hf⟩:=Ed.mp hf
 obtain⟨bW,hk,hl⟩:=j0.mp hl
 obtain⟨p,hp,hl⟩:=j0.mp hl
 split at hl
 case isFalse=>cases hl
 rename_i hall;cases hl;cases hf;cases ag2 hd;have pos:0<bW.length:=by
  cases bW with
  |nil=>cases hp
  |cons _ _=>exact FQ _
 refine gg ⟨Z,Θ,env,C,.dict kvs,e1,C1,S,h1,fun v H1 k f S1 b1=>?_⟩;refine hide fun G2 g2=>?_
 obtain⟨a,vs,rfl,da,rr⟩:=b1.dct
 rcases da with⟨ks,a1,a2⟩|⟨ks,⟨ne,a1⟩,a2⟩
 ·obtain⟨e2,e3⟩:=X5 hk a1 rr
  rw[e2] at a2;refine g2 ⟨a,bW,bG p.1,bG p.2,rfl,a2,hall.1,pos,hall.2,fun l rows H2 sm hn hl hr hin=>?_⟩;have kp:aP Θ H H2:=k.trans (aP.of sm);have SD:=S.xj (k.none hn) kp ⟨_,hl,fun _ z=>nomatch z⟩ ⟨S1.cell.len,fun n b ns e2 e3=>sm _ _ (S1.cell.at_ n b ns e2 e3)⟩;have es:(rows.map fun r=>uH (r.2.map jJ))=Jd (kvs.map fun p=>.tuple [p.1,p.2]):=by
   unfold Jd;rw[e3,dU];have:(bW.map (zH ∘ fun p=>uH [jJ p.1,jJ p.2]))=bW.map fun p=>[p.1,p.2]:=by
    refine yg fun q _=>?_
    show(keysOf ([q.1,q.2].map jJ)).getD []=[q.1,q.2]
    rw[N7];rfl
   rw[this,←hr,dU];rfl
  refine q _ H2 kp (Fz.refl _) ⟨l,rfl,k.none hn,SD,_,hl,?_⟩;rw[←es];exact N8 fun r m=>BX SD (hin r m)
 ·exfalso;cases kvs with
  |nil=>exact ne rfl
  |cons q r=>
   obtain⟨k',e1,_⟩:=j0.mp hk
   unfold cH at a1;split at a1
   ·rename_i g1 _;exact ZQ e1 g1
   ·cases a1
def CT(ks:List (List Key)):Nat:=kj (fun i j=>c7 (ks.getD i (ks.headD [])) (ks.getD j (ks.headD []))) (ks.length-1)
theorem ae6(rows:List Row):kj (kI rows) (rows.length-1)=CT (rows.map (·.2)):=by
 have e:kI rows=fun i j=>c7 ((rows.map (·.2)).getD i ((rows.map (·.2)).headD [])) ((rows.map (·.2)).getD j ((rows.map (·.2)).headD [])):=by
  funext i j;rw[kI,GX,GX]
 unfold CT;rw[e,aX]
def Qs(ds:List ao):Option Vl:=ds.head?.bind fun d0=>(Jc d0).bind fun sh=>if ∀d∈ds,Jc d=some sh then(ds[CT (ds.map zH)]?).map .im else none
def Ib:List ao→Option Vl
 |[.list ds]=>Qs ds
 |_=>none
theorem air{K:aH}:pG K (fun xs H Q=>∃(p:aa)(rows:List Row)(sh:List Bool),xs=[.ref p]∧bO K H p (rows.map fun r=>V.ref r.1)∧0<rows.length∧(∀r∈rows,H r.1=some (.tup (r.2.map kV))∧r.2.map bG=sh)∧
  ∀r,rows[kj (kI rows) (rows.length-1)]?=some r→Q (.ref r.1) H) Ib:=by
 intro Z Θ env C σ H xs ds res S b e Q q;refine hide fun GG gg=>?_
 unfold Ib at e;split at e
 case h_2=>cases e
 rename_i ds
 obtain⟨d0,h0,e⟩:=j0.mp e
 obtain⟨sh,_,e⟩:=j0.mp e
 split at e
 case isFalse=>cases e
 rename_i hall
 obtain⟨d,hd,rfl⟩:=Ed.mp e
 obtain⟨v,rfl,bb⟩:=qu b
 obtain⟨a,vs,rfl,ha,r⟩:=bb.lst
 obtain⟨rows,rfl,e2,e3⟩:=XH hall r
 have ek:ds.map zH=rows.map (·.2):=by
  rw[e2,dU];refine yg fun r _=>?_
  show(keysOf (r.2.map jJ)).getD []=r.2
  rw[N7];rfl
 rw[ek,←ae6] at hd;refine gg ⟨a,rows,sh,rfl,bO.of ha,?_,fun r m=>⟨jh (e3 r m).1,(e3 r m).2⟩,fun r hr=>?_⟩
 ·cases rows with
  |nil=>rw[e2] at h0;cases h0
  |cons _ _=>exact FQ _
 ·have m:=m9 hr;have hd':d=.tuple (r.2.map jJ):=by
   rw[e2,gh,hr] at hd
   exact(fW hd).symm
  obtain⟨u,t,e4,q4,_⟩:=N8 (E:=er (aQ Z Θ env σ) H) (rows:=[r]) fun x hx=>by rw[jn.mp hx];exact(e3 r m).1
  cases e4;refine q _ H (aP.refl _ _) ⟨S,?_⟩;rw[hd'];exact q4
def Bl(L:Nat)(C:Ce)(b k:Nat):Prop:=C.length=L∧∃x y z:Int,C[b]?=some [x,y,z]∧0≤x∧0≤z∧z+k≤900000
theorem Bl.mono(h:Bl L C b k)(hj:j≤k):Bl L C b j:=by
 obtain⟨l,x,y,z,h1,h2,h5,h6⟩:=h
 exact⟨l,x,y,z,h1,h2,h5,by omega⟩
theorem Bl.dec(h:Bl L C b (k+1)):Bl L C b k:=h.mono (wF k)
theorem Bl.eq(h:Bl L C b k)(h':Bl L C' b' k'):C'.length=C.length:=h'.1.trans h.1.symm
theorem ajM(C:Ce)(h0:0≤x):Bl (C.length+1) (C++[[x,y,0]]) C.length 800000:=by
 refine⟨by simp,x,y,0,?_,h0,sZ _,by omega⟩
 rw[m7 (bK _),VB];rfl
theorem Oe{n s u f i j:Int}(hu:s*u%n=1)(n0:0<n)(hi:0≤i)(hj:0≤j)(hi':i<n)(hj':j<n)(e:(f+s*i)%n=(f+s*j)%n):i=j:=by
 have h1:(f+s*i-(f+s*j))%n=0:=abT.mp e
 obtain⟨d,hd⟩:=Int.dvd_of_emod_eq_zero h1
 have hq:s*u=n*(s*u / n)+1:=by
  have:=Int.mul_ediv_add_emod (s*u) n;rw[hu] at this;exact this.symm
 generalize s*u / n=q at hq;have key:i-j=n*(u*d-q*(i-j)):=by grind
 have h2:(i-j)%n=0:=Int.emod_eq_zero_of_dvd ⟨_,key⟩;have h3:i%n=j%n:=abT.mpr h2;rw[J0 hi hi',J0 hj hj'] at h3;exact h3
def CV(s:Int):Prop:=(0<s∧s≤675)∧(∃u,s*u%676=1)∧∃u,s*u%26=1
theorem step_at(h0:0≤k)(h1:k<6):∃s,dJ [j8 1,.int 3,.int 5,.int 7,.int 25,.int 675] k=some (.int s)∧CV s:=by
 have hk:k=0∨k=1∨k=2∨k=3∨k=4∨k=5:=by omega
 rcases hk with rfl|rfl|rfl|rfl|rfl|rfl
 ·exact⟨1,rfl,by decide,⟨1,by decide⟩,⟨1,by decide⟩⟩
 ·exact⟨3,rfl,by decide,⟨451,by decide⟩,⟨9,by decide⟩⟩
 ·exact⟨5,rfl,by decide,⟨541,by decide⟩,⟨21,by decide⟩⟩
 ·exact⟨7,rfl,by decide,⟨483,by decide⟩,⟨15,by decide⟩⟩
 ·exact⟨25,rfl,by decide,⟨649,by decide⟩,⟨25,by decide⟩⟩
 ·exact⟨675,rfl,by decide,⟨675,by decide⟩,⟨25,by decide⟩⟩
theorem Pu(e:z.cps.toList=l)(h1:1≤l.length)(h2:l.length≤8)(h3:∀c∈l,97≤c∧c≤122):nameB z=true:=by
 have e2:z.length=l.length:=by rw[←e];show z.cps.size=_;simp
 unfold nameB Jx;rw[e,e2];simp only[gQ,decide_eq_true_eq,qU]
 exact⟨⟨h1,h2⟩,h3⟩
theorem J9(h:∀i j,i<n→j<n→f i=f j→i=j):((dG n).map f).Nodup:=by
 rw[Tf,List.pairwise_map];refine amX (R:=(·<·)) (fun{a b} ha hb hab e=>?_) JR;have:=h a b (qX.mp ha) (qX.mp hb) e;omega
def n1(f s:Int)(k:Nat):Str:=⟨#[97+((f+s*k)%26).toNat]⟩
theorem ag3{f s:Int}{n:Nat}(hs:CV s)(hn:n≤26):Names ((dG n).map (n1 f s)):=by
 refine⟨J9 fun i j hi hj e=>?_,fun z hz=>?_⟩
 ·obtain⟨_,_,u,hu⟩:=hs
  have e1:97+((f+s*i)%26).toNat=97+((f+s*j)%26).toNat:=by
   have:=congrArg (fun z:Str=>z.cps.toList) e;simpa[n1] using this
  have a1:0≤(f+s*i)%26:=lV _ (by decide);have a2:0≤(f+s*j)%26:=lV _ (by decide);have:=Oe (n:=26) (f:=f) (i:=i) (j:=j) hu (by decide) (by omega) (by omega) (by omega) (by omega) (by omega);omega
 ·obtain⟨k,_,rfl⟩:=dW.mp hz
  have a1:0≤(f+s*k)%26:=lV _ (by decide);have a2:(f+s*k)%26<26:=qT _ (by decide);refine Pu (l:=[97+((f+s*k)%26).toNat]) rfl (bK _) (by show 1≤8;decide) fun c hc=>?_
  rw[jn.mp hc];omega
def v2(f s:Int)(k:Nat):Int:=(f+s*k)%676
def two(v:Int):Str:=(⟨#[97+(v / 26).toNat]⟩:Str)++(⟨#[97+(v%26).toNat]⟩:Str)
def n2(hd tl:Str)(f s:Int)(q:Nat→Int)(k:Nat):Str:=hd++two (v2 f s k)++Txt.slice tl none (some (q k))
theorem X6(hd tl:Str)(f s:Int)(q:Nat→Int)(k:Nat):(n2 hd tl f s q k).cps.toList=hd.cps.toList++([97+(v2 f s k / 26).toNat,97+(v2 f s k%26).toNat]++(Txt.slice tl none (some (q k))).cps.toList):=by
 show((hd.cps++(#[97+(v2 f s k / 26).toNat]++#[97+(v2 f s k%26).toNat]))++(Txt.slice tl none (some (q k))).cps).toList=_
 simp
theorem ag4{hd tl:Str}{f s:Int}{q:Nat→Int}{n:Nat}(hs:CV s)(hn:n≤36)(hh:hd.length≤3)(ht:tl.length≤3)(ch:∀c∈hd.cps.toList,97≤c∧c≤122)(ct:∀c∈tl.cps.toList,97≤c∧c≤122):Names ((dG n).map (n2 hd tl f s q)):=by
 have b:∀k:Nat,0≤v2 f s k∧v2 f s k<676:=fun k=>⟨lV _ (by decide),qT _ (by decide)⟩
 refine⟨J9 fun i j hi hj e=>?_,fun z hz=>?_⟩
 ·obtain⟨_,⟨u,hu⟩,_⟩:=hs
  have e1:=congrArg (fun z:Str=>z.cps.toList) e;simp only[X6] at e1;have e2:=List.append_cancel_left e1;rw[jo,jo,iC,jo,jo,iC] at e2;injection e2 with e3 e4
  injection e4 with e5 _
  have b1:=b i;have b2:=b j;have ev:v2 f s i=v2 f s j:=by omega
  have:=Oe (n:=676) (f:=f) (i:=i) (j:=j) hu (by decide) (by omega) (by omega) (by omega) (by omega) ev;omega
 ·obtain⟨k,_,rfl⟩:=dW.mp hz
  have bk:=b k;have l1:hd.cps.toList.length=hd.length:=by show _=hd.cps.size;simp
  have l2:(Txt.slice tl none (some (q k))).cps.toList.length=(Txt.slice tl none (some (q k))).length:=by show _=(Txt.slice tl none (some (q k))).cps.size;simp
  have l3:=PyProof.Txt.length_slice_le tl none (some (q k));refine Pu (X6 hd tl f s q k) (by rw[fP,fP];show 1≤_+(2+_);omega) (by rw[fP,fP,l1,l2];show _+(2+_)≤8;omega) fun c hc=>?_
  rcases cL.mp hc with hc|hc
  ·exact ch c hc
  ·rcases cL.mp hc with hc|hc
   ·simp only[bN,nj,or_false] at hc;rcases hc with rfl|rfl<;>omega
   ·exact ct c (aii hc)
def kW(f:Int):List Nat:=(dG 8).map fun(k:Nat)=>97+((f+5*(k:Int))%26).toNat
def sl(z:Str)(n k:Nat):Str:=Txt.slice z (some (k:Int)) (some ((k:Int)+(n:Int)))
def sb(z:Str)(n:Nat):List Str:=(dG (8-n)).map (sl z (n+1))
def subs(z:Str)(m:Nat):List Str:=(dG m).flatMap (sb z)
theorem Og(hz:z.length=8)(h:k+n≤8):(sl z n k).cps.toList=(z.cps.toList.drop k).take n:=by
 have:=eq_of_beq (slice_closesL (x:=z) (i:=(k:Int)) (j:=(k:Int)+(n:Int)) (by omega) (by omega) (by omega));unfold sl;rw[this]
 show((z.cps.toList.drop (k:Int).toNat).take ((k:Int)+(n:Int)-(k:Int)).toNat)=_
 rw[show((k:Int)+(n:Int)-(k:Int)).toNat=n by omega,Ab]
theorem Zb{f:Int}{k:Nat}(h:k<8):(kW f)[k]?=some (97+((f+5*(k:Int))%26).toNat):=by
 unfold kW;rw[gh,TY h];rfl
theorem ais(f:Int):∀c∈kW f,97≤c∧c≤122:=fun c hc=>by
 obtain⟨k,_,rfl⟩:=dW.mp hc
 have a1:0≤(f+5*(k:Int))%26:=lV _ (by decide);have a2:(f+5*(k:Int))%26<26:=qT _ (by decide);omega
theorem Qt(hz:z.cps.toList=kW f)(hx:x∈sb z n):∃k,k<8-n∧x=sl z (n+1) k∧x.cps.toList=((kW f).drop k).take (n+1)∧x.cps.toList.length=n+1:=by
 obtain⟨k,hk,rfl⟩:=dW.mp hx
 have hk:=qX.mp hk;have hl:z.length=8:=by
  have:=congrArg oG hz;rw[show z.cps.toList.length=z.length by show _=z.cps.size;simp] at this;rw[this];simp[kW]
 have e:=Og (z:=z) (n:=n+1) (k:=k) hl (by omega);rw[hz] at e
 refine⟨k,hk,rfl,e,?_⟩
 rw[e,mV,Ae,show(kW f).length=8 by simp[kW]];omega
theorem ae7{z:Str}{f:Int}(hz:z.cps.toList=kW f):Names (subs z 8):=by
 refine⟨?_,fun x hx=>?_⟩
 ·unfold subs;rw[Tf,List.pairwise_flatMap]
  refine⟨fun n hn=>?_,?_⟩
  ·have hn:=qX.mp hn;rw[←Tf];refine J9 fun i j hi hj e=>?_
   have hl:z.length=8:=by
    have:=congrArg oG hz;rw[show z.cps.toList.length=z.length by show _=z.cps.size;simp] at this;rw[this];simp[kW]
   have e1:=congrArg (fun z:Str=>z.cps.toList[0]?) e;simp only[Og (z:=z) (n:=n+1) (k:=i) hl (by omega),Og (z:=z) (n:=n+1) (k:=j) hl (by omega),hz] at e1;rw[Tj (FQ n),Tj (FQ n),acP,acP,VD,VD,Zb (by omega),Zb (by omega)] at e1;have e2:=fW e1;have a1:0≤(f+5*(i:Int))%26:=lV _ (by decide);have a2:0≤(f+5*(j:Int))%26:=lV _ (by decide);have:=Oe (n:=26) (s:=5) (u:=21) (f:=f) (i:=i) (j:=j) (by decide) (by decide) (by omega) (by omega) (by omega) (by omega) (by omega);omega
  ·refine am2 (R:=(·<·)) (fun{a b} hab x hx y hy e=>?_) JR
   obtain⟨_,_,_,_,l1⟩:=Qt hz hx
   obtain⟨_,_,_,_,l2⟩:=Qt hz hy
   rw[e] at l1;omega
 ·obtain⟨n,hn,hx⟩:=List.mem_flatMap.mp hx
  have hn:=qX.mp hn
  obtain⟨k,hk,_,e,hl⟩:=Qt hz hx
  refine Pu rfl (by omega) (by omega) fun c hc=>?_
  rw[e] at hc;exact ais f c (Eh (uA hc))
theorem X7(z:Str):(subs z 8).length=36:=by
 unfold subs sb;simp only[acH,aX,j5];rfl
end L2
namespace L2
section
variable{β:Type}[DecidableEq β]{ws:List (Int×β×β)}{s:β}
inductive gB(ws:List (Int×β×β)):β→List Int→β→Prop
 |nil (p:β):gB ws p [] p
 |cons {n:Int} {p q s:β} {r:List Int}:(n,p,q)∈ws→gB ws q r s→gB ws p (n::r) s
def eX(st:List (β×Int))(p:β):Option Int:=(st.find? fun x=>decide (x.1=p)).map (·.2)
theorem oN{st:List (β×Int)}{p:β}:eX st p=none↔p∉st.map (·.1):=by
 unfold eX;rw[aco,T5];simp only[dW,not_exists,not_and,decide_eq_true_eq]
theorem Hu(st:List (β×Int))(new:List β)(k:Int)(p:β):eX (st++new.map fun g=>(g,k)) p=if p∈st.map (·.1) then eX st p else if p∈new then some k else none:=by
 unfold eX;rw[List.find?_append];by_cases h:p∈st.map (·.1)
 ·rw[if_pos h]
  obtain⟨x,hx,rfl⟩:=dW.mp h
  cases e:st.find? fun y=>decide (y.1=x.1) with
  |none=>exact absurd (decide_eq_true rfl) (T5.mp e x hx)
  |some y=>rfl
 ·rw[if_neg h,(aco.mp (oN.mpr h):st.find? _=none),Option.none_or];induction new with
  |nil=>rfl
  |cons g new ih=>
   rw[bY,nq];by_cases e:g=p
   ·subst e;rw[decide_eq_true rfl,if_pos dR];rfl
   ·rw[decide_eq_false e,ih];have:p∈g::new↔p∈new:=by rw[bN];exact⟨fun z=>z.resolve_left fun z=>e z.symm,.inr⟩
    simp only[this]
structure qM(ws:List (Int×β×β))(s:β)(st:List (β×Int))(new:List β)(k:Nat):Prop where
 sound:∀p d,eX st p=some d→d≤k∧∃r,gB ws p r s∧(r.length:Int)=d
 whole:∀p r,gB ws p r s→r.length≤k→∃d,eX st p=some d∧d≤r.length
 last:∀p,p∈new↔eX st p=some (k:Int)
 nd:(st.map (·.1)).Nodup
 sub:∀p∈st.map (·.1),p=s∨p∈ws.map (·.2.1)
 low:∀p d,eX st p=some d→d+1≤st.length
theorem qM.init(ws:List (Int×β×β))(s:β):qM ws s [(s,0)] [s] 0 where
 sound p d h:=by
  unfold eX at h;rw[nq] at h;by_cases e:s=p
  ·subst e;rw[decide_eq_true rfl] at h;cases h
   exact⟨sZ _,[],.nil _,rfl⟩
  ·rw[decide_eq_false e] at h;cases h
 whole p r h l:=by
  cases h with
  |nil=>exact⟨0,by unfold eX;rw[nq,decide_eq_true rfl];rfl,sZ _⟩
  |cons _ _=>exact absurd l (acD _)
 last p:=by
  unfold eX;rw[nq,jn];by_cases e:s=p
  ·subst e;rw[decide_eq_true rfl]
   exact⟨fun _=>rfl,fun _=>rfl⟩
  ·rw[decide_eq_false e]
   exact⟨fun z=>absurd z.symm e,fun z=>nomatch z⟩
 nd:=by simp
 sub p hp:=.inl (jn.mp hp)
 low p d h:=by
  unfold eX at h;rw[nq] at h;by_cases e:s=p
  ·rw[decide_eq_true e] at h;cases h;exact sZ _
  ·rw[decide_eq_false e] at h;cases h
theorem qM.step{st:List (β×Int)}{new new':List β}{k:Nat}(B:qM ws s st new k)(hn:new'.Nodup)(hm:∀g,g∈new'↔∃w∈ws,w.2.2∈new∧w.2.1∉st.map (·.1)∧w.2.1=g):qM ws s (st++new'.map fun g=>(g,(k:Int)+1)) new' (k+1) where
 sound p d h:=by
  rw[Hu] at h;split at h
  ·obtain⟨h1,h2⟩:=B.sound p d h
   exact⟨by omega,h2⟩
  ·split at h
   ·rename_i m;cases h
    refine⟨by omega,?_⟩
    obtain⟨w,m1,m2,m3,rfl⟩:=(hm p).mp m
    obtain⟨_,r,h3,h4⟩:=B.sound _ _ ((B.last _).mp m2)
    exact⟨w.1::r,.cons (p:=w.2.1) (q:=w.2.2) m1 h3,by rw[cR];omega⟩
   ·cases h
 whole p r h l:=by
  rw[Hu];by_cases hp:p∈st.map (·.1)
  ·rw[if_pos hp];cases e:eX st p with
   |none=>exact absurd hp (oN.mp e)
   |some d=>
    refine⟨d,rfl,?_⟩
    by_cases l':r.length≤k
    ·obtain⟨d',e',h'⟩:=B.whole p r h l'
     rw[e] at e';cases e';exact h'
    ·have:=(B.sound p d e).1;omega
  ·rw[if_neg hp];cases h with
   |nil=>
    obtain⟨d,e,_⟩:=B.whole s [] (.nil s) (lF _)
    rw[oN.mpr hp] at e;cases e
   |cons hw hr=>
    rename_i n q r;rw[cR] at l⊢
    obtain⟨d,e,hd⟩:=B.whole q r hr (by omega)
    obtain⟨hk,r2,hr2,l2⟩:=B.sound q d e
    by_cases hdk:d=k
    ·subst hdk;have m:p∈new':=(hm p).mpr ⟨_,hw,(B.last q).mpr e,hp,rfl⟩;rw[if_pos m]
     exact⟨_,rfl,by omega⟩
    ·obtain⟨d',e',_⟩:=B.whole p (n::r2) (.cons hw hr2) (by rw[cR];omega)
     rw[oN.mpr hp] at e';cases e'
 last p:=by
  rw[Hu];constructor
  ·intro m
   obtain⟨w,m1,m2,m3,rfl⟩:=(hm p).mp m
   rw[if_neg m3,if_pos m];rfl
  ·intro e;split at e
   ·have:=(B.sound p _ e).1;omega
   ·split at e
    ·rename_i m;exact m
    ·cases e
 nd:=by
  rw[gU,dU,show((fun x:β×Int=>x.1) ∘ fun g=>(g,(k:Int)+1))=id from rfl,Lf];refine jV.mpr ⟨B.nd,hn,fun a ha b hb e=>?_⟩;subst e
  obtain⟨w,_,_,m3,rfl⟩:=(hm a).mp hb
  exact m3 ha
 sub p hp:=by
  rw[gU,dU,show((fun x:β×Int=>x.1) ∘ fun g=>(g,(k:Int)+1))=id from rfl,Lf] at hp;rcases cL.mp hp with hp|hp
  ·exact B.sub p hp
  ·obtain⟨w,m1,_,_,rfl⟩:=(hm p).mp hp
   exact .inr (dW.mpr ⟨w,m1,rfl⟩)
 low p d h:=by
  rw[Hu] at h;rw[fP,aX];split at h
  ·have:=B.low p d h;omega
  ·split at h
   ·rename_i m;cases h
    obtain⟨w,m1,m2,m3,rfl⟩:=(hm p).mp m
    have:=B.low _ _ ((B.last _).mp m2);have:=acp m;omega
   ·cases h
theorem len_sub:∀{l m:List β},l.Nodup→(∀x∈l,x∈m)→l.length≤m.length
 |[],_,_,_=>lF _
 |a::l,m,hn,h=>by
  have ha:=h a dR;have:=len_sub (m:=m.erase a) (jB.mp hn).2 fun x hx=>(List.mem_erase_of_ne (show x≠a from fun z=>(jB.mp hn).1 (z▸hx))).mpr (h x (eZ _ hx))
  rw[List.length_erase_of_mem ha] at this;have:=acp ha;rw[cR];omega
theorem qM.few{st:List (β×Int)}{new:List β}{k:Nat}(B:qM ws s st new k):st.length≤ws.length+1:=by
 have h:(st.map (·.1)).length≤(s::ws.map (·.2.1)).length:=by
  refine len_sub B.nd fun p hp=>?_
  rcases B.sub p hp with rfl|h
  ·exact dR
  ·exact eZ _ h
 simpa using h
structure qN(ws:List (Int×β×β))(s:β)(st:List (β×Int)):Prop where
 sound:∀p d,eX st p=some d→∃r,gB ws p r s∧(r.length:Int)=d
 whole:∀p r,gB ws p r s→∃d,eX st p=some d∧d≤r.length
 few:∀p d,eX st p=some d→d≤ws.length
 nd:(st.map (·.1)).Nodup
theorem qM.done{st:List (β×Int)}{k:Nat}(B:qM ws s st [] k):qN ws s st where
 sound p d h:=(B.sound p d h).2
 nd:=B.nd
 few p d h:=by
  have:=B.low p d h;have:=B.few;omega
 whole p r h:=by
  induction h with
  |nil p=>exact B.whole p [] (.nil p) (lF _)
  |cons hw hr ih=>
   rename_i n p q s' r
   obtain⟨d,e,hd⟩:=ih B
   obtain⟨hk,r2,hr2,l2⟩:=B.sound q d e
   have:d≠k:=fun z=>by
    subst z;exact nomatch(B.last q).mpr e
   obtain⟨d',e',h'⟩:=B.whole p (n::r2) (.cons hw hr2) (by rw[cR];omega)
   refine⟨d',e',?_⟩
   rw[cR] at h'⊢;omega
theorem qN.self{st:List (β×Int)}(B:qN ws s st):eX st s=some 0:=by
 obtain⟨d,e,h⟩:=B.whole s [] (.nil s)
 obtain⟨r,_,l⟩:=B.sound s d e
 rw[e];simp only[Ag] at h;congr 1;omega
theorem qN.iff{st:List (β×Int)}(B:qN ws s st)(p:β):p∈st.map (·.1)↔∃r,gB ws p r s:=by
 constructor
 ·intro h;cases e:eX st p with
  |none=>exact absurd h (oN.mp e)
  |some d=>
   obtain⟨r,h,_⟩:=B.sound p d e
   exact⟨r,h⟩
 ·rintro⟨r,h⟩
  obtain⟨d,e,_⟩:=B.whole p r h
  apply ab5;intro n;rw[oN.mpr n] at e;cases e
def Rch(ws:List (Int×β×β))(a b:β):Prop:=∃r,gB ws a r b
theorem gB.snoc{a b c:β}{n:Int}{r:List Int}(h:gB ws a r b)(hw:(n,b,c)∈ws):gB ws a (r++[n]) c:=by
 induction h with
 |nil p=>exact .cons hw (.nil _)
 |cons h1 _ ih=>exact .cons h1 (ih hw)
def CW(w:Int×β×β):Int×β×β:=(w.1,w.2.2,w.2.1)
theorem Oh{n:Int}{a b:β}:(n,a,b)∈ws.map CW↔(n,b,a)∈ws:=by
 rw[dW];constructor
 ·rintro⟨w,h,e⟩
  injection e with e1 e2
  injection e2 with e2 e3
  subst e1 e2 e3;exact h
 ·exact fun h=>⟨_,h,rfl⟩
theorem gB.turn{a b:β}{r:List Int}(h:gB (ws.map CW) a r b):gB ws b r.reverse a:=by
 induction h with
 |nil p=>exact .nil p
 |cons h1 _ ih=>
  rw[JX];exact ih.snoc (Oh.mp h1)
theorem gB.Z7{a b:β}{r:List Int}(h:gB ws a r b):gB (ws.map CW) b r.reverse a:=by
 induction h with
 |nil p=>exact .nil p
 |cons h1 _ ih=>
  rw[JX];exact ih.snoc (Oh.mpr h1)
theorem qN.ag5{st:List (β×Int)}(B:qN (ws.map CW) s st){p:β}(h:Rch ws s p):∃r,gB ws s r p∧r.length≤ws.length:=by
 obtain⟨r,h⟩:=h
 obtain⟨d,e,_⟩:=B.whole p _ h.Z7
 obtain⟨r',h',l⟩:=B.sound p d e
 have:=B.few p d e;rw[aX] at this
 exact⟨_,h'.turn,by rw[acI];omega⟩
def lexLe:List Int→List Int→Prop
 |[],_=>True
 |_::_,[]=>False
 |a::r,b::q=>a<b∨(a=b∧lexLe r q)
def rW(ws:List (Int×β×β))(p s:β)(r:List Int):Prop:=gB ws p r s∧∀r',gB ws p r' s→r.length<r'.length∨(r.length=r'.length∧lexLe r r')
theorem rW.self(ws:List (Int×β×β))(s:β):rW ws s s []:=⟨.nil s,fun r' _=>by
 cases r' with
 |nil=>exact .inr ⟨rfl,trivial⟩
 |cons _ _=>exact .inl (FQ _)⟩
theorem rW.go{p q:β}{n d:Int}{r:List Int}{st:List (β×Int)}(hU:∀w∈ws,∀w'∈ws,w.1=w'.1→w=w')(B:qN ws s st)(hp:eX st p=some d)(hw:(n,p,q)∈ws)(hq:∃e,eX st q=some e∧e<d)(hmin:∀n' q' e,(n',p,q')∈ws→eX st q'=some e→e<d→n≤n')(hr:rW ws q s r):rW ws p s (n::r):=by
 obtain⟨e,hq,hlt⟩:=hq
 obtain⟨r1,hr1,l1⟩:=B.sound q e hq
 have hle:r.length≤r1.length:=by rcases hr.2 r1 hr1 with h|h<;>omega
 refine⟨.cons hw hr.1,fun r' h'=>?_⟩
 obtain⟨d',e',hd'⟩:=B.whole p r' h'
 rw[hp] at e';cases e';rw[cR];cases h' with
 |nil=>
  simp only[Ag] at hd';omega
 |cons hw' hr'=>
  rename_i n' q' r';rw[cR] at hd'⊢
  obtain⟨e2,h2,l2⟩:=B.whole q' r' hr'
  by_cases hl:r.length<r'.length
  ·exact .inl (by omega)
  ·refine .inr ⟨by omega,?_⟩;have hn:=hmin n' q' e2 hw' h2 (by omega);by_cases hnn:n<n'
   ·exact .inl hnn
   ·have:n=n':=by omega
    subst this;have:=hU _ hw _ hw' rfl;cases this;refine .inr ⟨rfl,?_⟩;rcases hr.2 r' hr' with h|h
    ·omega
    ·exact h.2
end
end L2
namespace L2
open PySem PySem.Spec PyProof.Rows PySem.W
def xK:Option (Option Vl)→Option (List ao)
 |some (some (.ow (.list ds)))=>some ds
 |_=>none
theorem Hv(h:xK x=some ds):x=some (some (.ow (.list ds))):=by
 unfold xK at h;split at h
 ·cases h;rfl
 ·cases h
def Q3(i j:Nat)(f:FB):FS:=fun env C=>(xK env[i]?).bind fun _=>(xK env[j]?).bind fun _=>(f env C).bind fun p=>(xK p.2.1[i]?).bind fun ds=>(xK p.2.1[j]?).bind fun es=>(intD p.1).bind fun k=>(if 0≤k∧k<LIM then es[k.toNat]? else none).bind fun y=>if ds.length<LIM∧i≠j then some (.nx,(p.2.1.set j (some (.ow (.list (es.eraseIdx k.toNat))))).set i (some (.ow (.list (ds++[y])))),p.2.2) else none
theorem W4:∀{ds:List ao}{vs:List V}(n:Nat),cg H ds vs→cg H (ds.eraseIdx n) (vs.eraseIdx n)
 |[],vs,n,r=>by
  have:vs=[]:=r;subst this;exact r
 |x::ds,vs,0,r=>by
  obtain⟨v,r',rfl,_,w⟩:=r
  exact w
 |x::ds,vs,n+1,r=>by
  obtain⟨v,r',rfl,q,w⟩:=r
  exact⟨v,_,rfl,q,W4 n w⟩
theorem ait(ho:PE X o (nW i))(ho2:PE X o2 (nW j))(he:PE X e (cX X.K f))
  (hs0:rm (.Call (.Attribute o "append" apos) [.Call (.Attribute o2 "pop" zK) [e] [] tW] [] cpos) none pos.line X.env=pure false:=by rfl)
  (hbase:sW o "append" X.env (eval o X.env)=eval o X.env:=by rfl)
  (hfew:((eO cpos (aZ [.Call (.Attribute o2 "pop" zK) [e] [] tW] X.env)).all (fun x=>!x.1)&&(wK cpos (wC [] X.env)).all (fun x=>x.1.isSome)
   &&decide (([.Call (.Attribute o2 "pop" zK) [e] [] tW]:List Expr).length+([]:List lG).length+(if([]:List lG).isEmpty then 0 else 1)<30))=true:=by rfl)
  (hline:(apos.endLine==cpos.line)=true:=by rfl)(hs:aZ [.Call (.Attribute o2 "pop" zK) [e] [] tW] X.env=(false,eval (.Call (.Attribute o2 "pop" zK) [e] [] tW) X.env)::aZ [] X.env:=by rfl)(hplain:(eO cpos (aZ [] X.env)).any (·.1)=false:=by rfl)
  (ajN:sW o2 "pop" X.env (eval o2 X.env)=eval o2 X.env:=by rfl)
  (akB:((eO tW (aZ [e] X.env)).all (fun x=>!x.1)&&(wK tW (wC [] X.env)).all (fun x=>x.1.isSome)
   &&decide (([e]:List Expr).length+([]:List lG).length+(if([]:List lG).isEmpty then 0 else 1)<30))=true:=by rfl)
  (ajO:(zK.endLine==tW.line)=true:=by rfl)(hs2:aZ [e] X.env=(false,eval e X.env)::aZ [] X.env:=by rfl)(aiu:(eO tW (aZ [] X.env)).any (·.1)=false:=by rfl):
  PS X (.Expr (.Call (.Attribute o "append" apos) [.Call (.Attribute o2 "pop" zK) [e] [] tW] [] cpos) pos) (tS X.K (Q3 i j f)):=
 (Ou (Cu JQ T3 ab7 (qI.r Mu) ho
  (oR (Cu JQ adp PySem.F.type_list_pop (qI.r agt) ho2 (oR he pY hs2) ajN akB ajO hs2 aiu) pY hs) hbase hfew hline hs hplain) hs0).weak fun D σ H aJ=>by
  obtain⟨Z,Θ,env,C,fl,env',C',S,hf,q⟩:=aJ
  obtain⟨_,g1,hf⟩:=j0.mp hf
  obtain⟨_,g2,hf⟩:=j0.mp hf
  obtain⟨p,g3,hf⟩:=j0.mp hf
  obtain⟨ds,g4,hf⟩:=j0.mp hf
  obtain⟨es,g5,hf⟩:=j0.mp hf
  obtain⟨k,g6,hf⟩:=j0.mp hf
  obtain⟨y,g7,hf⟩:=j0.mp hf
  split at hf
  case isFalse=>cases hf
  rename_i g8;split at g7
  case isFalse=>cases g7
  rename_i g9;cases hf
  obtain⟨v0,pI,a,rfl,zV,ha0,r0⟩:=S.slot i _ (Hv g1)
  obtain⟨v1,ev1,b,rfl,vs1,ha1,r1⟩:=S.slot j _ (Hv g2)
  refine⟨_,pI,.inl ⟨rfl,zV,bO.of ha0⟩,_,ev1,.inl ⟨rfl,vs1,bO.of ha1⟩,Z,Θ,env,C,p.1,p.2.1,p.2.2,S,g3,fun v H1 kk ff S1 bb=>?_⟩
  rw[Hl g6] at bb;have bb:v=.int k:=bb;subst bb;have g4:=Hv g4;have g5:=Hv g5
  obtain⟨w0,ew0,a',ea,ws0,hw0,s0⟩:=S1.slot i _ g4
  obtain⟨w1,ew1,b',eb,DR,hw1,s1⟩:=S1.slot j _ g5
  subst ea eb;rw[pI] at ew0;rw[ev1] at ew1;cases ew0;cases ew1
  obtain⟨yv,hy,ry⟩:=wR s1 g7
  have hk:k.toNat<DR.length:=(jf.mp hy).1;have g9:0≤k∧k<1000000:=g9;have six:Mt k DR.length=some k.toNat:=by
   exact amr g9.1 (by omega)
  refine⟨b,DR,k,k.toNat,yv,rfl,rfl,hw1,by omega,by omega,six,hy,?_⟩
  have w1:cY X.K Z Θ p.2.1 σ H1 Θ (p.2.1.set j (some (.ow (.list (es.eraseIdx k.toNat))))) p.2.2 σ (upd H1 b (.lst (DR.eraseIdx k.toNat))):=S1.write g5 ev1 ⟨_,eN,W4 _ s1⟩
  obtain⟨x0,ex0,a',ea,xs0,hx0,t0⟩:=w1.sm.slot i _ (show(p.2.1.set j (some (.ow (.list (es.eraseIdx k.toNat)))))[i]?=_ by rw[uy (fun z=>g8.2 z.symm)];exact g4)
  subst ea;rw[pI] at ex0;cases ex0
  refine⟨a,xs0,yv,rfl,rfl,hx0,by rw[gZ t0,iT];have:ds.length<1000000:=g8.1;omega,?_⟩
  have ep:aQ Z Θ (p.2.1.set j (some (.ow (.list (es.eraseIdx k.toNat))))) σ=aQ Z Θ p.2.1 σ:=by show _++(_++_)=_;rw[NB g5]
  have mp:b∈aQ Z Θ p.2.1 σ:=iH.mpr (.inr (.inr (j9.mpr ⟨j,_,g5,ev1⟩)));have ry':RZ (er (aQ Z Θ (p.2.1.set j (some (.ow (.list (es.eraseIdx k.toNat))))) σ) (upd H1 b (.lst (DR.eraseIdx k.toNat)))) y yv:=by rw[ep,HY mp];exact ry
  have w2:=w1.sm.write (o:=.lst (xs0++[yv])) (d':=.list (ds++[y])) (show(p.2.1.set j (some (.ow (.list (es.eraseIdx k.toNat)))))[i]?=_ by rw[uy (fun z=>g8.2 z.symm)];exact g4) pI ⟨_,eN,wO t0 ⟨yv,[],rfl,ry',rfl⟩⟩;exact q Θ σ _ (((cY.pH kk ff S1).trans w1).trans w2)
def akC(i j k:Nat)(ta:TA):TS:=fun D σ H=>ta σ H fun vs H1=>vs.length=3∧(∀v w z,vs=[v,w,z]→D.nx (((σ.set i (some v)).set j (some w)).set k (some z)) H1)
section
variable{X:Cx}{pos:Pos}
theorem aiv{kt k2 mL}(hc:X.calm=true)(hN:X.N.Nodup)(hi:X.N[i]?=some x)(hj:X.N[j]?=some y)(hk:X.N[k]?=some z)(hij:i≠j)(hik:i≠k)(hjk:j≠k)
  (hx:X.env.scope.names.lookup x=some .local)(hy:X.env.scope.names.lookup y=some .local)(hz:X.env.scope.names.lookup z=some .local)(ha:PA X [a,b,c] ta)
  (hw:wA [.Tuple [.Name x px,.Name y py,.Name z pz] kt pt] (.Tuple [a,b,c] k2 mL) X.env=pure (some [x,y,z]))
  (hs:wz [.Tuple [.Name x px,.Name y py,.Name z pz] kt pt] (.Tuple [a,b,c] k2 mL) pos.line X.env=pure false:=by rfl):
  PS X (.Assign [.Tuple [.Name x px,.Name y py,.Name z pz] kt pt] (.Tuple [a,b,c] k2 mL) pos) (akC i j k ta):=by
 intro pins s σ H D I h;rw[exec_Assign_arm];refine aC (sV ?_);rw[hs];refine aC (aW ?_);rw[if_neg (by decide)];refine aC (Tuple_ (bh (ha _ pins s σ H _ I h) fun us s1 aJ=>?_))
 obtain⟨vs,H1,I1,r1,l1,q1⟩:=aJ
 cases r1 with
 |nil=>cases l1
 |cons rv r1=>
 cases r1 with
 |nil=>cases l1
 |cons rw' r1=>
 cases r1 with
 |nil=>cases l1
 |cons rz r1=>
 cases r1 with
 |cons _ _=>cases l1
 |nil=>
 rename_i v u1 w u2 zz u3;refine lU ?_ (by show 3≤bM;decide);have I2:Inv X pins σ H1 {s1 with heap:=s1.heap.push {cls:=.type "tuple",data:=.seq [u1,u2,u3].toArray}}:=I1.kept (t':=s1.toks) fun b o e=>cB _ e
 rw[hw];refine aC (aW ?_);show aM (model X.prog X.w) X.A (do rule "assign.swapped-stores";let items ←unpackItems (.ref s1.heap.objs.size) 3 none;Aj [fun v=>tH X.env z v,fun v=>tH X.env y v,fun v=>tH X.env x v] items.reverse;pure Mq) _ _ _;refine aC (wH (aC (unpackItems_tuple (items:=#[u1,u2,u3]) (I.ok.hd hc) (IsTup.new s1.heap _) fun h' hx'=>?_)));have I3:=I2.kept (h':=h') (t':=s1.toks) fun b o e=>hx' b o (dM (cz e)) e
 show aM _ _ (Aj [fun v=>tH X.env z v,fun v=>tH X.env y v,fun v=>tH X.env x v] [u3,u2,u1] >>= fun _=>pure Mq) _ _ _;refine aC (assignInOrder_cons (Ez (rA I3 hN hk (.inl hz) rz (fun s2 I4=>?_) (.inr hz))));refine assignInOrder_cons (Ez (rA I4 hN hj (.inl hy) rw' (fun s3 I5=>?_) (.inr hy)));refine assignInOrder_cons (Ez (rA I5 hN hi (.inl hx) rv (fun s4 I6=>assignInOrder_nil (aW ?_)) (.inr hx)));rw[Ku _ _ (jC hij),Ku _ _ (jC hik),Ku _ _ (jC hjk)] at I6
 exact⟨_,H1,I6,q1 _ _ _ rfl⟩
theorem aiw{kt k2 mL}(hc:X.calm=true)(hN:X.N.Nodup)(hi:X.N[i]?=some x)(hj:X.N[j]?=some y)(hk:X.N[k]?=some z)(hij:i≠j)(hik:i≠k)(hjk:j≠k)
  (hx:X.env.scope.names.lookup x=some .local)(hy:X.env.scope.names.lookup y=some .local)(hz:X.env.scope.names.lookup z=some .local)(ha:PA X [a,b,c] (vR X.K g))
  (hw:wA [.Tuple [.Name x px,.Name y py,.Name z pz] kt pt] (.Tuple [a,b,c] k2 mL) X.env=pure (some [x,y,z]))
  (hs:wz [.Tuple [.Name x px,.Name y py,.Name z pz] kt pt] (.Tuple [a,b,c] k2 mL) pos.line X.env=pure false:=by rfl):
  PS X (.Assign [.Tuple [.Name x px,.Name y py,.Name z pz] kt pt] (.Tuple [a,b,c] k2 mL) pos) (tS X.K (fPar [i,j,k] g)):=(aiv hc hN hi hj hk hij hik hjk hx hy hz ha hw hs).weak fun D σ H aJ=>by
 obtain⟨Z,Θ,env,C,fl,env',C',S,hf,q⟩:=aJ
 unfold fPar at hf;split at hf
 case h_2=>cases hf
 rename_i xs e1 C1 h1;split at hf
 case isFalse=>cases hf
 rename_i hl;cases hf
 refine⟨Z,Θ,env,C,xs,e1,C',S,h1,fun vs as H1 k1 f1 n1 S1 a1=>⟨by rw[Hq a1,←hl.1];rfl,fun v w zz e=>?_⟩⟩
 obtain⟨S2,o2⟩:=Pa a1 hl.1 (bw.refl _) S1
 subst e;refine q Θ _ H1 ⟨jy.refl _ _,tQ k1,fun b m=>?_,S2⟩;rcases o2 b m with m|m
 ·exact .inl (f1.own.subset m)
 ·exact .inr (n1 b m)
end
theorem ag6(rel:KV kvs vs):∀{us:List Value},us.length=vs.length→(∀(i:Nat)(v:Value),us[i]?=some v→∃k x,vs[i]?=some (k,x)∧(gY P w).is k v=true)→Vals (kvs.map fun kv=>kV kv.1) us:=by
 induction rel with
 |nil=>
  intro us h2 h3;cases us with
  |nil=>exact .nil
  |cons _ _=>cases h2
 |@cons p w ps ws hp _ ih=>
  intro us h2 h3;cases us with
  |nil=>cases h2
  |cons u us=>
   refine .cons ?_ (ih (K5 h2) fun i v e=>h3 (i+1) v e)
   obtain⟨k,x,e1,e2⟩:=h3 0 u rfl
   have ek:k=p.1:=by rw[hp.1];exact congrArg Prod.fst (fW e1.symm)
   subst ek;exact W3 e2
section
variable{X:Cx}
theorem Va(hc:X.calm=true):jb X (.builtin "sorted") (fun xs H Q=>∃(d:aa)(kvs:List (Key×V))(ns:List Str),xs=[.ref d]∧H d=some (.dK kvs)∧kvs.map (·.1)=ns.map .inr∧ns.length<64∧∀(l:aa)(ns':List Str),H l=none→ns'.Perm ns→sortedS ns'=true→Q (.ref l) (upd H l (.lst (ns'.map V.str)))):=by
 intro pins s σ H xs us Q I r h
 obtain⟨d,kvs,ns,rfl,hd,hns,few,q⟩:=h
 obtain⟨u,rfl,ru⟩:=vals1 r
 cases ru
 obtain⟨z,lo,vs,rel,dd⟩:=I.hok d _ hd
 obtain⟨ep,da⟩:=dd.dictAt
 have lv:vs.length=kvs.length:=(Paired.length rel).symm;have ln:kvs.length=ns.length:=by have:=congrArg oG hns;simpa using this
 refine Th kind_sorted plain_sorted entry_sorted (args_sorted1 _) ?_;unfold jX.«sorted»;refine aC (m:=Wi "sorted" 1 1 _) (aW (aC (aew (A:=X.A.in1) (kdl_dict (knd:=gY X.prog X.w) (ep:=ep) lo) (I.ok.hd hc) da (by rw[lv];exact z) fun h1 tk acc hsz kk hacc=>?_)));have hV:=ag6 (P:=X.prog) (w:=X.w) rel (us:=acc.toList) (by rw[jm];exact hacc.1) fun i v e=>hacc.2 i v (by rw[←JS];exact e)
 have hV:Vals (ns.map V.str) acc.toList:=by
  rw[show ns.map V.str=(ns.map iU).map kV by rw[dU];rfl,←hns,dU];exact hV
 have hS:StrsAre acc.toList ns:=LK hV;have lu:acc.toList.length=ns.length:=by rw[←hV.length,aX]
 refine aC (Ky ?_ (by rw[iT];omega));have gL:(h1.push (seqObj "list" acc.toList.toArray 0)).get? h1.objs.size=some (seqObj "list" acc.toList.toArray 0):=gP _ rfl;refine aC (lW (pL slot_list_sort ⟨_,gL,rfl⟩ entry_list_sort (list_sort_treeK strKind_oneLt gL hS.keysOf (fun v1 v2 rest e=>keyKind_strs (by rw[←e];exact hS)) (by omega) fun st hp1 hp2=>⟨_,rfl,?_⟩) (args_list_sort _)))
 obtain⟨ns',b1,b2,b3⟩:=sorted_out_str hS hp1 hp2
 obtain⟨c,gD⟩:=sortedHeap_at (out:=(arrOf st).map (·.2)) gL
 have kb:∀b o,s.heap.get? b=some o→(sortedHeap (h1.push (seqObj "list" acc.toList.toArray 0)) h1.objs.size acc.toList ((arrOf st).map (·.2))).get? b=some o:=fun b o e=>by
  have lb:b<h1.objs.size:=cz (kk b o e);rw[sortedHeap_old (dM lb) (by rw[wg];exact vW lb)];exact cB _ (kk b o e)
 exact aW ⟨_,rfl,.ref h1.objs.size,_,I.laid (o:=.lst (ns'.map V.str)) (t':=tk) kb hsz ⟨by rw[aX,b2.length_eq,iT];omega,((arrOf st).map (·.2)).toList,c,Mw b1,by rw[Array.toArray_toList];exact gD⟩,rfl,q _ ns' (I.hok.fresh hsz) b2 b3⟩
def Bw:List ao→Option Vl
 |[.dict kvs]=>(strsOf (kvs.map (·.1))).bind fun ns=>bif decide (ns.length<64) then some (.ow (.list ((mG strLt ns).map .str))) else none
 |_=>none
theorem W5:∀{kvs:List (ao×ao)}{ns:List Str},strsOf (kvs.map (·.1))=some ns→cH cQ kvs=some (ns.map .inr)
 |[],ns,h=>by cases h;rfl
 |(.str z,v)::kvs,ns,h=>by
  obtain⟨ns',h1,rfl⟩:∃ns',strsOf (kvs.map (·.1))=some ns'∧ns=z::ns':=by
   have h:(strsOf (cU z::kvs.map (·.1)))=some ns:=h;unfold strsOf at h;cases e:strsOf (kvs.map (·.1)) with
   |none=>rw[e] at h;cases h
   |some t=>rw[e] at h;cases h;exact⟨t,rfl,rfl⟩
  show cH cQ ((.str z,v)::kvs)=_;unfold cH;rw[W5 h1];rfl
 |(.none,v)::kvs,ns,h=>by cases h
 |(.bool _,v)::kvs,ns,h=>by cases h
 |(.int _,v)::kvs,ns,h=>by cases h
 |(.list _,v)::kvs,ns,h=>by cases h
 |(.tuple _,v)::kvs,ns,h=>by cases h
 |(.dict _,v)::kvs,ns,h=>by cases h
theorem X8{K:aH}:pG K (fun xs H Q=>∃(d:aa)(kvs:List (Key×V))(ns:List Str),xs=[.ref d]∧H d=some (.dK kvs)∧kvs.map (·.1)=ns.map .inr∧ns.length<64∧∀(l:aa)(ns':List Str),H l=none→ns'.Perm ns→sortedS ns'=true→Q (.ref l) (upd H l (.lst (ns'.map V.str)))) Bw:=by
 intro Z Θ env C σ H xs ds res S b e Q q;refine hide fun GG gg=>?_
 unfold Bw at e;split at e
 case h_2=>cases e
 rename_i kvs
 obtain⟨ns,hns,e⟩:=gm e
 cases hl:decide (ns.length<64) with
 |false=>rw[hl] at e;cases e
 |true=>
 rw[hl] at e;cases e;have hl:=of_decide_eq_true hl
 obtain⟨v,rfl,bb⟩:=qu b
 obtain⟨a,vs,rfl,da,r⟩:=bb.dct
 have hk:=W5 hns;rcases da with⟨ks,h1,ha⟩|⟨ks,⟨ne,h2⟩,ha⟩
 ·rw[hk] at h1;cases h1;have lz:vs.length=(ns.map (iU:Str→Key)).length:=by rw[Br r,uL hk]
  refine gg ⟨a,_,ns,rfl,ha,by rw[List.map_fst_zip (by omega)],hl,fun l ns' hn p hp=>?_⟩;rw[Z2 p hp];exact q _ _ (aP.upd hn) (tO S (Xo _) hn)
 ·exact absurd (uM hk h2) ne
end
def ajP(K:aH)(tl td:TE):TE:=fun σ H Q=>tl σ H fun x H1=>td σ H1 fun y H2=>∃(a:aa)(ns:List Int),x=.ref a∧y=.bl true∧bO K H2 a (ns.map V.int)∧ns.length<64∧∀(l:aa)(ns':List Int),H2 l=none→ns'.Perm ns→Ordered true ns'→Q (.ref l) (upd H2 l (.lst (ns'.map V.int)))
section
variable{X:Cx}{l de:Expr}{tl td:TE}{p pos kp:Pos}
theorem ag7(hc:X.calm=true)(hl:PE X l tl)(hd:PE X de td)(hg:Gl X "sorted")(hm:X.mg "sorted"=none)(he:aZ [l] X.env=(false,eval l X.env)::aZ [] X.env:=by rfl):PE X (.Call (.Name "sorted" p) [l] [⟨some "reverse",de,kp⟩] pos) (ajP X.K tl td):=by
 intro pins s σ H Q I h;refine z9 (tR I hg hm (u:=.builtin "sorted") rfl ?_);have he2:eO pos (aZ [l] X.env)=(false,eval l X.env)::eO pos (aZ [] X.env):=by rw[he];rfl
 refine callWith_kw (e:=l) (rest:=[]) ?_ (he:=he2) (hplain:=by rw[he2];rfl);show aM _ _ (Bo (eO pos (aZ [l] X.env))) _ _ s;rw[he];show aM _ _ (Bo ((false,eval l X.env)::eO pos (aZ [] X.env))) _ _ s;refine z8 (bh (hl pins s σ H _ I h) fun v s1 ⟨x,H1,I1,r1,q1⟩=>Ep ?_);refine kws_cons (bh (hd pins s1 σ H1 _ I1 q1) fun u s2 ⟨y,H2,I2,r2,a,ns,ex,ey,ha,h64,q2⟩=>kws_nil ?_);subst ex ey;cases r1;cases r2
 obtain⟨its,rv,pl,_⟩:=I2.list ha
 have hi:IntsAre its ns:=intsAre_of rv;have hll:=rv.length;rw[aX] at hll;refine sorted_ints_rev (b:=true) pl.isList hi (by omega) fun out ns' a1 a2 a3=>?_
 obtain⟨e,he⟩:=sortedAll_at s2.heap its out
 have hz:ns'.length≤bM:=by rw[a2.length_eq,iT];omega
 exact⟨.ref (s2.heap.objs.size+1),_,I2.laid (o:=.lst (ns'.map V.int)) (t':=s2.toks) (fun _ _=>sortedAll_old) (wF _) ⟨by rw[aX];exact hz,out.toList,e,Mv a1,by simpa[seqObj] using he⟩,rfl,q2 _ ns' (I2.hok.fresh (wF _)) a2 a3⟩
end
def Qu(f g:FB):FE:=fun env C=>(f env C).bind fun p=>(g p.2.1 p.2.2).bind fun q=>(match p.1,q.1 with|.list ds,.bool true=>intsOf ds|_,_=>none).bind fun ns=>bif decide (ns.length<64) then some (.ow (.list ((mG ltI ns).reverse.map .int)),env,q.2.2) else none
theorem ag8{X:Cx}{l de:Expr}{f g:FB}{p pos kp:Pos}(hc:X.calm=true)(hl:PE X l (cX X.K f))(hd:PE X de (cX X.K g))(hg:Gl X "sorted")(hm:X.mg "sorted"=none)(he:aZ [l] X.env=(false,eval l X.env)::aZ [] X.env:=by rfl):
  PE X (.Call (.Name "sorted" p) [l] [⟨some "reverse",de,kp⟩] pos) (tE X.K (Qu f g)):=(ag7 hc hl hd hg hm he).weak fun σ H Q aJ=>by
 obtain⟨Z,Θ,env,C,r,env',C',S,hf,q⟩:=aJ
 obtain⟨p1,h1,hf⟩:=gm hf
 obtain⟨p2,h2,hf⟩:=gm hf
 obtain⟨ns,hns,hf⟩:=gm hf
 cases h64:decide (ns.length<64) with
 |false=>rw[h64] at hf;cases hf
 |true=>
 rw[h64] at hf;cases hf;have h64:=of_decide_eq_true h64
 obtain⟨d1,e1,C1⟩:=p1
 obtain⟨d2,e2,C2⟩:=p2
 split at hns
 case h_2=>cases hns
 rename_i ds k1 k2;have k1:d1=.list ds:=k1;have k2:d2=.bool true:=k2;subst k1 k2
 refine⟨Z,Θ,env,C,_,e1,C1,S,h1,fun v H1 k1 f1 S1 b1=>⟨Z,Θ,e1,C1,_,e2,C2,S1,h2,fun w H2 k2 f2 S2 b2=>?_⟩⟩
 obtain⟨a,vs,rfl,ha,r⟩:=(b1.go S1 k2 f2).lst
 rw[NK hns r] at ha
 refine⟨a,ns,rfl,b2,bO.of ha,h64,fun l' ns' hn p hp=>?_⟩
 have hp:ns'.Pairwise (·≥·):=hp;have e:ns'=(mG ltI ns).reverse:=by
  rw[←sortI (ns':=ns'.reverse) ((List.reverse_perm ns').trans p) (acy.mpr hp),List.reverse_reverse]
 rw[e];have kk:=k1.trans k2;exact q _ _ (kk.trans (aP.upd hn)) (Fz.refl _) ((tO (S.go kk S2.cell) (agK _) hn).from kk)
inductive f9(K:aH)(x:Str)(st:cP):Prop
 |mk {f:aa} {oc:Value} {od an:Option aa} {osl:Array (Option Value)} {kV doc pm cdv ct:Value} (a:nD K gC x=some (some (.ref f))) (l:K.lookup f=some ⟨oc,od,.func (wB x x (yV st) (uR st) (cM st) .none kV doc pm an cdv ct),osl⟩) (c:Kd K cdv x=true) (k:yx K (.ref f)=true):f9 K x st
abbrev Z8(x:Str)(st:cP)(ps:List Str):Prop:=∀(kV doc pm:Value)(an:Option aa)(cdv ct:Value)(us:List Value),us.length=ps.length→bindArgs (wB x x (yV st) (uR st) (cM st) .none kV doc pm an cdv ct) ⟨us,[]⟩=pure (ps.zip us)
section
variable{P:bf}{w:aY}{K:aH}{mg:Str→Option Value}{base h:aV}{x:Str}{st:cP}{k:Nat}{ps:List Str}{sp:Sp}
theorem f9.has(d:f9 K x st)(X:K.In h)(G:h.Ns gC mg)(o:∀f fd,fO K x x st f fd→cW P w K mg base eV k f fd ps sp)(hb:Z8 x st ps):dN P w K mg base x k ps sp:=by
 obtain⟨a,l,c,kp⟩:=d
 have F:=Zy l c kp
 exact⟨_,_,Vp X G a,kp,F.binds hb,o _ _ F⟩
theorem f9.law{y:Str}{fa:aa}(d:f9 K x st)(X:K.In h)(G:h.Ns gC mg)(hfa:mg x=some (.ref fa))(o:∀base f fd,fO K x x st f fd→cW P w K mg base eV k f fd [y] sp)(hb:Z8 x st [y]):
  ∃fd:di,(∀(s:au)(v:Value),wM s fd ⟨[v],[]⟩ [(y,v)])∧∀base:aV,K.In base→base.Ns gC mg→cW P w K mg base eV k fa fd [y] sp:=by
 obtain⟨a,l,c,kp⟩:=d
 have e:=hfa.symm.trans (Vp X G a);cases e
 exact⟨_,fun s v=>.of_eq (hb _ _ _ _ _ _ [v] rfl),fun base _ _=>o base _ _ (Zy l c kp)⟩
theorem iu{B:List Value→Prop}(h:B []):∀us:List Value,us.length=0→B us
 |[],_=>h
theorem bT{n:Nat}{B:List Value→Prop}(h:∀a,∀us:List Value,us.length=n→B (a::us)):∀us:List Value,us.length=n+1→B us
 |a::us,e=>h a us (K5 e)
end
section
open PySem.SeqAt
open PySem.AutoSeq1 (wpAny_loadPart')
open PySem.MeetsSeq PySem.MeetsSeq2 PySem.MeetsSeq3
theorem Zc{xs:Array Value}{i:Nat}(h:xs.toList.drop i=x::r):xs[i]?=some x∧xs.toList.drop (i+1)=r:=by
 have h1:xs.toList[i]?=some x:=by
  have:=congrArg (·[0]?) h;simpa using this
 refine⟨by simpa using h1,?_⟩
 rw[←List.tail_drop,h,List.tail_cons]
theorem Zd(l b:aa)(items items2:Array Value)(n n2:Nat)(dd dd2:Option aa)(sl sl2:Array (Option Value))(hsz:items.size=items2.size):
  ∀(ns ms:List Key)(i:Nat),Vals (ns.map kV) (items.toList.drop i)→Vals (ms.map kV) (items2.toList.drop i)→ns.map bG=ms.map bG→Meets (jX.«list.__eq__.loop» ⟨[.ref l,.ref b,iW i,iW 0],[]⟩)
   (fun _ R s=>s.heap.get? l=some {cls:=.type "list",dict:=dd,data:=.seq items n,slots:=sl}∧s.heap.get? b=some {cls:=.type "list",dict:=dd2,data:=.seq items2 n2,slots:=sl2}∧R (.ok (.ret (.bool (c7 ns ms)))) s)
 |[],[],i,h1,h2,_=>fun prog w A R s h=>by
  obtain⟨hp,g,d,tk,os⟩:=s;obtain⟨hl,hb,h⟩:=h
  have z1:=h1.length;rw[Ae,jm] at z1;have z1:0=items.size-i:=z1;have i1:items[((i:Nat):Int).toNat]?=none:=by simp;omega
  have i2:items2[((i:Nat):Int).toNat]?=none:=by simp;omega
  wp_walk using nu hl,nu hb;rw[i1,i2];wp_walk using nu hl,nu hb;show R (.ok (.ret (.bool (decide (items.size<items2.size))))) _;rw[decide_eq_false (by omega)];exact h
 |a::ns,c::ms,i,h1,h2,ht=>fun prog w A R s h=>by
  obtain⟨hp,g,d,tk,os⟩:=s;obtain⟨hl,hb,h⟩:=h
  generalize e1:items.toList.drop i=xs at h1;generalize e2:items2.toList.drop i=ys at h2;cases h1 with
  |cons r1 t1=>
   cases h2 with
   |cons r2 t2=>
    obtain⟨i1,d1⟩:=Zc e1
    obtain⟨i2,d2⟩:=Zc e2
    have k1:bG a=bG c:=(yD ht).1;have hc:((i:Int)+1)=((i+1:Nat):Int):=rfl;unfold c7 at h;wp_walk using nu hl,nu hb;rw[Ab,i1,i2];refine aC (Nq A.in1 ⟨hp,g,d,tk,os⟩ r1 r2 k1 prog w _ _ ?_);by_cases hac:a=c
    ·rw[if_pos hac] at h;rw[decide_eq_true hac];wp_walk;rw[hc]
     refine⟨sX plain_eq_loop _,uE entry_eq_loop ?_⟩
     rw[uz plain_eq_loop _];exact Zd l b items items2 n n2 dd dd2 sl sl2 hsz ns ms (i+1) (by rw[d1];exact t1) (by rw[d2];exact t2) (yD ht).2 prog w A R _ ⟨hl,hb,h⟩
    ·rw[if_neg hac] at h;rw[decide_eq_false hac];have rc:=GR A.in1 ⟨hp,g,d,tk,os⟩ r1 r2 k1 prog w;wp_walk using nu hl,nu hb;rw[i1,i2];wp_walk using rc;simpa using h
theorem aix(l b:aa)(items items2:Array Value)(n n2:Nat)(dd dd2:Option aa)(sl sl2:Array (Option Value))(hsz:items.size=items2.size)(ns ms:List Key)(h1:Vals (ns.map kV) items.toList)(h2:Vals (ms.map kV) items2.toList)(ht:ns.map bG=ms.map bG):
  Meets (jX.«list.__lt__» ⟨[.ref l,.ref b],[]⟩)
   (fun _ R s=>s.heap.get? l=some {cls:=.type "list",dict:=dd,data:=.seq items n,slots:=sl}∧s.heap.get? b=some {cls:=.type "list",dict:=dd2,data:=.seq items2 n2,slots:=sl2}∧R (.ok (.ret (.bool (c7 ns ms)))) s):=by
 intro prog w A R s h
 obtain⟨hp,g,d,tk,os⟩:=s;obtain⟨hl,hb,h⟩:=h
 have f3:=AutoSeq1.sub_list_list;wp_walk using nu hl,nu hb
 refine⟨sX plain_eq_loop _,uE entry_eq_loop ?_⟩
 rw[uz plain_eq_loop _];exact Zd l b items items2 n n2 dd dd2 sl sl2 hsz ns ms 0 h1 h2 ht prog w A R _ ⟨hl,hb,h⟩
def aa6(A:bU)(s:au)(x y:Value)(r:Bool):Prop:=∀(prog:bf)(w:aY)(E Q:Value→au→Prop),Q (.bool r) s→aM (model prog w) A (Aq .Lt x y) Q E s
theorem ae8(hl:s.heap.IsList l items)(hb:s.heap.IsList b items2)(h1:Vals (ns.map kV) items.toList)(h2:Vals (ms.map kV) items2.toList)(ht:ns.map bG=ms.map bG)(hu:A.units<dY):aa6 A s (.ref l) (.ref b) (c7 ns ms):=fun prog w E Q h=>by
 obtain⟨⟨cls,dd,data,sl⟩,ho,hc,n,hd⟩:=id hl
 obtain⟨⟨cls2,dd2,data2,sl2⟩,ho2,hc2,n2,hd2⟩:=id hb
 simp only at hc hd hc2 hd2;subst hc hd hc2 hd2;have z1:ns.length=items.size:=by have:=h1.length;simpa using this
 have z2:ms.length=items2.size:=by have:=h2.length;simpa using this
 have z3:ns.length=ms.length:=by have:=congrArg oG ht;simpa using this
 exact Tw (op:=.Lt) ⟨_,ho,rfl⟩ ⟨_,ho2,rfl⟩ PySem.F.slot_list_lt PySem.F.entry_list_lt (PySem.F.args_list_lt_2 _ _) (aix l b items items2 n n2 dd dd2 sl sl2 (by omega) ns ms h1 h2 ht)
  ⟨ho,ho2,show Aw (c7 ns ms)≠TV∧Q (.bool (c7 ns ms)) s from⟨(fun x=>nomatch x),h⟩⟩ hu
inductive tX(A:bU)(s:au):List Value→List Value→Bool→Prop
 |nil:tX A s [] [] false
 |eq:EqAt A s x y true→tX A s xs ys r→tX A s (x::xs) (y::ys) r
 |ne:EqAt A s x y false→aa6 A s x y r→xs.length=ys.length→tX A s (x::xs) (y::ys) r
theorem tX.len(h:tX A s xs ys r):xs.length=ys.length:=by
 induction h with
 |nil=>rfl
 |eq _ _ ih=>rw[cR,cR,ih]
 |ne _ _ e=>rw[cR,cR,e]
theorem ag9(l b:aa)(items items2:Array Value)(n n2:Nat)(dd dd2:Option aa)(sl sl2:Array (Option Value))(r:Bool):
  Meets (jX.«tuple.__lt__» ⟨[.ref l,.ref b],[]⟩)
   (fun A R s=>s.heap.get? l=some {cls:=.type "tuple",dict:=dd,data:=.seq items n,slots:=sl}∧s.heap.get? b=some {cls:=.type "tuple",dict:=dd2,data:=.seq items2 n2,slots:=sl2}∧tX A.in1 s items.toList items2.toList r∧R (.ok (.ret (.bool r))) s):=
 .of_wp fun prog w A R s h=>by
  obtain⟨hp,g,d,tk,os⟩:=s;obtain⟨hl,hb,hr,h⟩:=h
  have f2:=ab6;have z0:=hr.len;rw[jm,jm] at z0;wp_walk using nu hl,nu hb,adf _ (fun rest b s'=>b.1=none∧s'=⟨hp,g,d,tk,os⟩∧∃vs ws,rest=vs.zip ws∧tX A.in1 ⟨hp,g,d,tk,os⟩ vs ws r) _
  case turn=>
   rintro⟨y,x⟩ rest b s' ⟨hb',rfl,vs,ws,hz,hr⟩
   cases hr with
   |nil=>cases hz
   |eq e t=>
    rw[Em] at hz;cases hz;refine aC (e prog w _ _ ?_);wp_walk
    exact⟨rfl,rfl,_,_,rfl,t⟩
   |ne e c _=>
    rw[Em] at hz;cases hz;refine aC (e prog w _ _ ?_);have c:=c prog w;wp_walk using c
    exact⟨_,rfl,by simpa using h⟩
  case fin=>
   rintro⟨b1,b2⟩ s' ⟨hb',rfl,vs,ws,hz,hr⟩
   simp only at hb';subst hb';cases hr with
   |nil=>
    wp_walk
    exact⟨_,rfl,by simpa[abU,z0] using h⟩
   |eq=>cases hz
   |ne=>cases hz
  case h=>exact⟨rfl,rfl,_,_,rfl,hr⟩
end
theorem Oi:∀{ns:List Key}{xs:List Value}{j:Nat}{v:Value},Vals (ns.map kV) xs→xs[j]?=some v→∃x,ns[j]?=some x∧RelV (kV x) v
 |[],_,j,v,.nil,h=>by cases h
 |n::ns,_::xs,0,v,.cons r _,h=>⟨n,rfl,by cases h;exact r⟩
 |n::ns,_::xs,j+1,v,.cons _ t,h=>Oi (ns:=ns) t (by simpa using h)
theorem af5{ns ms:List Key}(hl:s.heap.IsList l items)(hb:s.heap.IsList b items2)(h1:Vals (ns.map kV) items.toList)(h2:Vals (ms.map kV) items2.toList)(ht:ns.map bG=ms.map bG)(hs:l=b→ns=ms)(hu:A.units<dY):Gp A s (.ref l) (.ref b) (decide (ns=ms)):=by
 by_cases e:l=b
 ·subst e;rw[decide_eq_true (hs rfl)];exact ado _
 ·have z1:ns.length=items.size:=by have:=h1.length;simpa using this
  have z2:ms.length=items2.size:=by have:=h2.length;simpa using this
  have z3:ns.length=ms.length:=by have:=congrArg oG ht;simpa using this
  have key:∀j (a1:j<items.size)(a2:j<items2.size),∃x y,ns[j]?=some x∧ms[j]?=some y∧Gp A.in1 s items[j] items2[j] (decide (x=y)):=fun j a1 a2=>by
   obtain⟨x,e1,r1⟩:=Oi h1 (j:=j) (v:=items[j]) (by simp[a1])
   obtain⟨y,e2,r2⟩:=Oi h2 (j:=j) (v:=items2[j]) (by simp[a2])
   refine⟨x,y,e1,e2,Nq _ _ r1 r2 ?_⟩
   have:=congrArg (·[j]?) ht;simpa[e1,e2] using this
  refine SeqAt.EqAt.of_refs e ?_;have:=SeqAt.RcAt.lists (e:=fun j=>decide (ns[j]?=ms[j]?)) hl hb (by omega) hu (fun j a1 a2=>by
   obtain⟨x,y,e1,e2,h⟩:=key j a1 a2
   rw[e1,e2];simpa using h)
  have eq:(dG items.size).all (fun j=>decide (ns[j]?=ms[j]?))=decide (ns=ms):=by
   rw[pN,qU,decide_eq_true_iff]
   refine⟨fun h=>ac7 fun i=>?_,fun h j _=>by rw[h];exact decide_eq_true rfl⟩
   by_cases hi:i<items.size
   ·exact of_decide_eq_true (h i (qX.mpr hi))
   ·rw[Ef (by omega),Ef (by omega)]
  rw[←eq];exact this
theorem Z9:∀ks:List Key,c7 ks ks=false
 |[]=>by unfold c7;rfl
 |k::ks=>by
  unfold c7;rw[if_pos rfl];exact Z9 ks
def aa7:R2:=fun x y H Q=>∃a b i j l m ks js,x=.ref a∧y=.ref b∧H a=some (.tup [.int i,.ref l])∧H b=some (.tup [.int j,.ref m])∧H l=some (.lst (ks.map kV))∧H m=some (.lst (js.map kV))∧(i=j→ks.map bG=js.map bG)∧Q (.bl (if i=j then c7 ks js else decide (i<j))) H
theorem ajQ{X:Cx}(hu:X.A.units+1<dY):cA X (dH .Lt) aa7:=by
 intro pins s σ H x y v u Q I rx ry h
 obtain⟨a,b,i,j,l,m,ks,js,rfl,rfl,ha,hb,hl,hm,ht,q⟩:=h
 cases rx;cases ry
 obtain⟨i1,r1,p1,_⟩:=I.tuple (cI.of (K:=X.K) ha)
 obtain⟨i2,r2,p2,_⟩:=I.tuple (cI.of (K:=X.K) hb)
 obtain⟨i3,r3,p3,_⟩:=I.list (bO.of (K:=X.K) hl)
 obtain⟨i4,r4,p4,_⟩:=I.list (bO.of (K:=X.K) hm)
 obtain⟨w1,w2,e1,x1,x2⟩:=r1.two
 obtain⟨w3,w4,e2,x3,x4⟩:=r2.two
 obtain⟨t1,rfl⟩:=x1
 obtain⟨t3,rfl⟩:=x3
 cases x2;cases x4;have row:tX X.A.in1 s i1 i2 (if i=j then c7 ks js else decide (i<j)):=by
  rw[e1,e2];have q1:=acM (A:=X.A.in1) (s:=s) i t1 j t3;by_cases h:i=j
  ·rw[beq_iff_eq.mpr h] at q1;rw[if_pos h];refine .eq q1 ?_;have q2:=af5 (A:=X.A.in1) p3.isList p4.isList r3 r4 (ht h) (fun e=>by
    subst e;have:=fW (hl.symm.trans hm);injection this with this
    exact Yu this) hu
   by_cases k:ks=js
   ·rw[decide_eq_true k] at q2;rw[k,Z9];exact .eq q2 .nil
   ·rw[decide_eq_false k] at q2;exact .ne q2 (ae8 p3.isList p4.isList r3 r4 (ht h) hu) rfl
  ·rw[beq_eq_false_iff_ne.mpr h] at q1;rw[if_neg h];exact .ne q1 (fun prog w E Q q=>GR (a:=.inl i) (b:=.inl j) X.A.in1 s ⟨t1,rfl⟩ ⟨t3,rfl⟩ rfl prog w E Q q) rfl
 obtain⟨⟨cls,dd,data,sl⟩,ho,hc,n,hd⟩:=id p1
 obtain⟨⟨cls2,dd2,data2,sl2⟩,ho2,hc2,n2,hd2⟩:=id p2
 simp only at hc hd hc2 hd2;subst hc hd hc2 hd2;exact Tw (op:=.Lt) ⟨_,ho,rfl⟩ ⟨_,ho2,rfl⟩ acs ack (ab9 _ _) (ag9 a b i1.toArray i2.toArray n n2 dd dd2 sl sl2 _)
  ⟨ho,ho2,row,show Aw _≠TV∧_ from⟨(fun x=>nomatch x),fB I q rfl⟩⟩ (by omega)
def CZ:ao→ao→Option Vl
 |.tuple [.int a,.list xs],.tuple [.int b,.list ys]=>(keysOf xs).bind fun ks=>(keysOf ys).bind fun js=>if a=b→ks.map bG=js.map bG then some (.im (.bool (if a=b then c7 ks js else decide (a<b)))) else none
 |_,_=>none
theorem aaz(h:er P H a=some o):H a=some o:=by
 unfold er at h;split at h
 ·cases h
 ·exact h
theorem ajR{K:aH}:fH K aa7 CZ:=by
 intro Z Θ env C σ H x y dx dy res S bx cV e Q q;unfold CZ at e;split at e
 ·obtain⟨ks,h1,e⟩:=j0.mp e
  obtain⟨js,h2,e⟩:=j0.mp e
  split at e
  ·rename_i ht;cases e
   obtain⟨a,vs,rfl,ha,v1,_,rfl,z1,_,_,rfl,⟨l,ls,rfl,hl,r1⟩,rfl⟩:=bx.tup
   obtain⟨b,ws,rfl,hb,v2,_,rfl,z2,_,_,rfl,⟨m,ms,rfl,hm,r2⟩,rfl⟩:=cV.tup
   cases(show v1=.int _ from z1)
   cases(show v2=.int _ from z2)
   rw[uI h1 r1] at hl;rw[uI h2 r2] at hm
   exact⟨a,b,_,_,l,m,ks,js,rfl,rfl,ha,hb,aaz hl,aaz hm,ht,q _ _ (aP.refl _ _) (gW S rfl rfl)⟩
  ·cases e
 ·cases e
end L2
namespace Sv
open PySem L2
def top(i:Nat):cP:=PySem.Challenge.pw_rankseals_k21_sums_that_rows_let.main.body.getD i (.Pass ⟨0,0,0,0⟩)
abbrev FW:cP:=top 1
theorem Fi:gj (["house","part","outer","over"]:List Str) (["house","part"]:List Str) (cM FW):=⟨rfl,rfl,rfl,by decide +kernel,rfl,by decide +kernel,by decide +kernel⟩
abbrev Oj:cP:=top 3
theorem af6:gj (["house","paper","holder","signer","day"]:List Str) (["house","paper","holder","signer","day"]:List Str) (cM Oj):=⟨rfl,rfl,rfl,by decide +kernel,rfl,by decide +kernel,by decide +kernel⟩
abbrev MT:cP:=top 4
theorem ae9:gj (["paper","person"]:List Str) (["paper","person"]:List Str) (cM MT):=⟨rfl,rfl,rfl,by decide +kernel,rfl,by decide +kernel,by decide +kernel⟩
abbrev Gz:cP:=top 5
theorem Wr:gj (["house","paper","day","over"]:List Str) (["house","paper","day"]:List Str) (cM Gz):=⟨rfl,rfl,rfl,by decide +kernel,rfl,by decide +kernel,by decide +kernel⟩
abbrev Lh:cP:=top 6
theorem An:gj (["ways","holder","signer","steps","row","number"]:List Str) (["ways","holder","signer"]:List Str) (cM Lh):=⟨rfl,rfl,rfl,by decide +kernel,rfl,by decide +kernel,by decide +kernel⟩
abbrev FZ:cP:=top 7
theorem adS:gj (["ways","steps","person"]:List Str) (["ways","steps","person"]:List Str) (cM FZ):=⟨rfl,rfl,rfl,by decide +kernel,rfl,by decide +kernel,by decide +kernel⟩
abbrev Gs:cP:=top 8
theorem wG:gj (["ways","signer","steps","newest","many","person"]:List Str) (["ways","signer"]:List Str) (cM Gs):=⟨rfl,rfl,rfl,by decide +kernel,rfl,by decide +kernel,by decide +kernel⟩
abbrev M3:cP:=top 11
theorem Gu:gj (["house","part","sides","holder","signer","day","asker","getter","amount"]:List Str) (["house","part","sides","holder","signer","day"]:List Str) (cM M3):=⟨rfl,rfl,rfl,by decide +kernel,rfl,by decide +kernel,by decide +kernel⟩
abbrev Fj:cP:=top 12
theorem Vb:gj (["house","bounds"]:List Str) (["house"]:List Str) (cM Fj):=⟨rfl,rfl,rfl,by decide +kernel,rfl,by decide +kernel,by decide +kernel⟩
abbrev Qv:cP:=top 14
theorem Ze:gj (["_law_cell","_law_k","_law_m"]:List Str) (["_law_cell","_law_k"]:List Str) (cM Qv):=⟨rfl,rfl,rfl,by decide +kernel,rfl,by decide +kernel,by decide +kernel⟩
abbrev KC:cP:=top 15
theorem Vc:gj (["_law_script","_law_k","_law_cell"]:List Str) (["_law_script","_law_k"]:List Str) (cM KC):=⟨rfl,rfl,rfl,by decide +kernel,rfl,by decide +kernel,by decide +kernel⟩
abbrev Px:cP:=top 16
theorem Yb:gj (["_law_left","_law_many","_law_digit"]:List Str) (["_law_left","_law_many"]:List Str) (cM Px):=⟨rfl,rfl,rfl,by decide +kernel,rfl,by decide +kernel,by decide +kernel⟩
abbrev uF:cP:=top 17
theorem nA:gj (["_law_left","_law_many","_law_letters","_law_head","_law_tail","_law_first","_law_by","_law_stem","_law_found","_law_size","_law_k","_law_value","_law_two"]:List Str) (["_law_left","_law_many"]:List Str) (cM uF):=⟨rfl,rfl,rfl,by decide +kernel,rfl,by decide +kernel,by decide +kernel⟩
abbrev Li:cP:=top 18
theorem VJ:gj (["_law_left","_law_things","_law_rest","_law_found"]:List Str) (["_law_left","_law_things"]:List Str) (cM Li):=⟨rfl,rfl,rfl,by decide +kernel,rfl,by decide +kernel,by decide +kernel⟩
abbrev Lj:cP:=top 19
theorem VL:gj (["_law_left","_law_first"]:List Str) (["_law_left"]:List Str) (cM Lj):=⟨rfl,rfl,rfl,by decide +kernel,rfl,by decide +kernel,by decide +kernel⟩
abbrev Lk:cP:=top 20
theorem aee:gj (["_law_left"]:List Str) (["_law_left"]:List Str) (cM Lk):=⟨rfl,rfl,rfl,by decide +kernel,rfl,by decide +kernel,by decide +kernel⟩
abbrev KD:cP:=top 21
theorem Fd:gj (["_law_left","_law_names","_law_found","_law_k","_law_name"]:List Str) (["_law_left","_law_names"]:List Str) (cM KD):=⟨rfl,rfl,rfl,by decide +kernel,rfl,by decide +kernel,by decide +kernel⟩
abbrev KH:cP:=top 22
theorem Kh:gj (["_law_parts","_law_part","_law_found"]:List Str) (["_law_parts","_law_part"]:List Str) (cM KH):=⟨rfl,rfl,rfl,by decide +kernel,rfl,by decide +kernel,by decide +kernel⟩
abbrev M4:cP:=top 23
theorem Gv:gj (["_law_left","_law_many","_law_found","_law_last","_law_k"]:List Str) (["_law_left","_law_many"]:List Str) (cM M4):=⟨rfl,rfl,rfl,by decide +kernel,rfl,by decide +kernel,by decide +kernel⟩
abbrev Kl:cP:=top 24
theorem sU:gj (["_law_left","_law_parts","_law_people","_law_many","_law_paper","_law_day","_law_found","_law_over","_law_number","_law_at","_law_to","_law_part","_law_days","_law_most"]:List Str) (["_law_left","_law_parts","_law_people","_law_many","_law_paper","_law_day"]:List Str) (cM Kl):=⟨rfl,rfl,rfl,by decide +kernel,rfl,by decide +kernel,by decide +kernel⟩
abbrev Ln:cP:=top 25
theorem aef:gj (["_law_parts","_law_leaves"]:List Str) (["_law_parts","_law_leaves"]:List Str) (cM Ln):=⟨rfl,rfl,rfl,by decide +kernel,rfl,by decide +kernel,by decide +kernel⟩
abbrev Py:cP:=top 26
theorem tM:gj (["_law_left","_law_most","_law_names","_law_parts","_law_people","_law_some","_law_sides","_law_part","_law_paper","_law_day"]:List Str) (["_law_left","_law_most"]:List Str) (cM Py):=⟨rfl,rfl,rfl,by decide +kernel,rfl,by decide +kernel,by decide +kernel⟩
abbrev Pz:cP:=top 27
theorem aha:gj (["_law_parts","_law_paper","_law_day","_law_leave"]:List Str) (["_law_parts","_law_paper","_law_day","_law_leave"]:List Str) (cM Pz):=⟨rfl,rfl,rfl,by decide +kernel,rfl,by decide +kernel,by decide +kernel⟩
abbrev Gf:cP:=top 28
theorem Ao:gj (["_law_parts","_law_leaves","_law_paper","_law_holder","_law_day","_law_steps","_law_best","_law_turn","_law_leave","_law_row","_law_old"]:List Str) (["_law_parts","_law_leaves","_law_paper","_law_holder","_law_day"]:List Str) (cM Gf):=⟨rfl,rfl,rfl,by decide +kernel,rfl,by decide +kernel,by decide +kernel⟩
abbrev Iu:cP:=top 29
theorem mq:gj (["_law_script","_law_k","_law_left","_law_parts","_law_people","_law_leaves","_law_paper","_law_day","_law_house","_law_some","_law_holder","_law_signer","_law_found","_law_sums","_law_rows","_law_least"]:List Str) (["_law_script"]:List Str) (cM Iu):=⟨rfl,rfl,rfl,by decide +kernel,rfl,by decide +kernel,by decide +kernel⟩
structure Txt(K:aH)(mg:Str→Option Value)(cC:Tok):Prop where
 Iv:mg "abs"=none
 Qw:mg "bool"=none
 Lp:mg "enumerate"=none
 vm:mg "int"=none
 Ga:mg "isinstance"=none
 kY:mg "len"=none
 Qx:mg "list"=none
 Q4:mg "max"=none
 vo:mg "min"=none
 oV:mg "range"=none
 wL:mg "sorted"=none
 Hw:mg "tuple"=none
 Vd:mg "GREATEST_SUM"=some (.int 1000000000 cC)
@[reducible] def Uz:FT:=(fTst (aG jd (aD 1) (aD 2)))
@[reducible] def UG:FS:=(fSeq (lq 3 (fVar 1)) (fSet 1 (aG bu (aD 2) (aD 1))))
@[reducible] def Ka:FE:=(fVar 0)
@[reducible] def Kc:FE:=(fVar 1)
@[reducible] def K6:FS:=(fSeq (fSet 2 (DK (iB2 (aj (aG bu (aD 0) (aj (fCst (.int 0)))))) (.many 2) gw Ka Kc [])) (fSeq (fSet 3 (fLst aNil)) (fSeq (qK Uz UG) (fRetV 3))))
def Gb:FN:=fN 2 4 K6
@[reducible] def M5:FS:=(fRet (aG jd (aD 1) (aj (dO (aD 0) (cZ (aj (fCst (.int 2)))) (cZ (aj (fCst (.int 4))))))))
def uJ:FN:=fN 2 2 M5
@[reducible] def K7:FT:=(kJ (fTst (aG jd (aD 3) (aD 7))) (kJ (fTst (vC nY nY (aD 4) (aD 8) (aD 5))) (kJ (fTst (aG nY (aj (aG bu (aD 9) (aj (fCst (.int 1))))) (aD 6))) (kJ (w6 (fTru (aj (fCal uJ (aCons (fVar 9) (aCons (fVar 1) aNil)))))) (w6 (fTru (aj (fCal uJ (aCons (fVar 9) (aCons (fVar 2) aNil))))))))))
@[reducible] def K8:FE:=(fTup (aCons (fVar 0) (aCons (fVar 1) (aCons (fVar 2) aNil))))
@[reducible] def M6:FS:=(fSeq (fSet 3 (fCal Gb (aCons (fVar 0) (aCons (aG bu (aD 1) (aj (fCst (.int 0)))) aNil)))) (fRet (fLC (iB2 (aj (aG bu (aD 0) (aj (fCst (.int 2)))))) (.many 7) K7 K8 [3,2,1])))
def Bc:FN:=fN 3 4 M6
@[reducible] def Vq:FS:=(nZ 2 (aD 5) (fVar 4))
@[reducible] def Vr:FT:=(kJ (fTst (aG jd (aD 2) (aD 3))) (fTst (aG uT (aD 1) (aD 4))))
@[reducible] def Vs:FE:=(fVar 1)
@[reducible] def Vt:FT:=(fTru (aD 3))
@[reducible] def Vu:FS:=(fSeq (Jb 4 (aj (fCst (.int 1)))) (fSeq (fSet 3 (DN (iB2 (aD 0)) (.many 3) Vr Vs [3,2])) (fQ (iV (fVar 3)) (gNm 5) Vq)))
@[reducible] def Mi:FS:=(fSeq (fSet 2 (zJ (aD 1) (fCst (.int 0)))) (fSeq (fSet 3 (fLst (aCons (fVar 1) aNil))) (fSeq (fSet 4 (fCst (.int 0))) (fSeq (qK Vt Vu) (fRetV 2)))))
def Gw:FN:=fN 2 6 Mi
@[reducible] def UJ:FT:=(kJ (fTst (aG lK (aD 1) (aD 3))) (kJ (fTst (aG jd (aD 2) (aD 4))) (fTst (aG ue (aj (aG bu (aD 4) (aD 2))) (aj (aG bu (aD 4) (aD 3)))))))
@[reducible] def UL:FE:=(fTup (aCons (fVar 0) (aCons (fVar 2) aNil)))
@[reducible] def K9:FS:=(fRet (fFun Ib (bCons (aj (fLC (iB2 (aD 0)) (.many 3) UJ UL [2,1])) bNil)))
def Gd:FN:=fN 3 3 K9
@[reducible] def Ve:FT:=(fTst (aG iQ (aD 1) (aD 2)))
@[reducible] def Vf:FS:=(fSeq (fUnp (fCal Gd (aCons (fVar 0) (aCons (fVar 3) (aCons (fVar 1) aNil)))) (gTp 2 (gsCons (gNm 5) (gsCons (gNm 1) gsNil)))) (lq 4 (fVar 5)))
@[reducible] def Gg:FS:=(fSeq (fSet 3 (fCal Gw (aCons (fVar 0) (aCons (fVar 2) aNil)))) (fSeq (jk (fTst (aG uT (aD 1) (aD 3))) (fRet (fCst .none)) fNext) (fSeq (fSet 4 (fLst aNil)) (fSeq (qK Ve Vf) (fRetV 4)))))
def Gh:FN:=fN 3 6 Gg
@[reducible] def Bm:FS:=(fSeq (jk (sr (fTru (aj (fCal uJ (aCons (fVar 1) (aCons (fVar 2) aNil))))) (fTru (aj (fCal uJ (aCons (fVar 1) (aCons (fVar 3) aNil)))))) (fRet (fCst .none)) fNext) (fRet (fCal Gh (aCons (fCal Bc (aCons (fVar 0) (aCons (fVar 1) (aCons (fVar 4) aNil)))) (aCons (fVar 2) (aCons (fVar 3) aNil))))))
def yP:FN:=fN 5 5 Bm
@[reducible] def Uq:FE:=(fFun qe (bCons (aj (aG bu (aD 0) (aj (fCst (.int 6))))) (bCons (aj (fCst (.int 1000000000))) bNil)))
@[reducible] def KJ:FS:=(fSeq (fSet 1 (fLC (iB (aj (aG bu (aD 0) (aj (fCst (.int 2)))))) .one gw Uq [])) (fRet (Qu (aj (aG bL (aj (fLst (aCons (fCst (.int 1000000000)) aNil))) (aD 1))) (aj (fCst (.bool true))))))
def Fo:FN:=fN 1 2 KJ
@[reducible] def VM:FS:=(jk (fTst (aG rJ (aj (fCal yP (aCons (fVar 0) (aCons (fTup (aCons (fVar 1) (aCons (fVar 8) (aCons (fVar 6) (aCons (fVar 7) aNil))))) (aCons (fVar 3) (aCons (fVar 4) (aCons (fVar 5) aNil))))))) (aj (fCst .none)))) (fRetV 8) fNext)
@[reducible] def GC:FS:=(fSeq (fUnp (fVar 2) (gTp 2 (gsCons (gNm 6) (gsCons (gNm 7) gsNil)))) (fSeq (fQ (iV (fCal Fo (aCons (fVar 0) aNil))) (gNm 8) VM) (fRet (fCst .none))))
def GD:FN:=fN 6 9 GC
@[reducible] def Qy:FS:=(fSeq (fSet 2 (aG ju (aj (aG jc (aj (aG bL (aj (aG bL (aj (aG ju (aD 0) (aj (fCst (.int 2147483629))))) (aj (aG jc (aj (aG jc (aD 1) (aD 1))) (aj (fCst (.int 7919))))))) (aj (fCst (.int 11))))) (aj (fCst (.int 48271))))) (aj (fCst (.int 2147483647))))) (fRet (aG ju (aj (aG jc (aD 2) (aD 2))) (aj (fCst (.int 1999999973))))))
def Cp:FN:=fN 2 3 Qy
@[reducible] def KN:FS:=(fSeq (fSet 2 (ug (fTst (aG ue (aD 1) (aj (vf 0)))) (Df 0 (aD 1)) (fCst (.int 0)))) (fRet (fLst (aCons (aG bu (aj (fLst (aCons (fCst (.int 0)) (aCons (fFun CK (bCons (aD 2) bNil)) aNil)))) (aj (fFun nQ (bCons (aj (aG IW (aj (fFun CK (bCons (aD 2) bNil))) (aj (aG qj (aj (fCst (.int 10))) (aj (fCst (.int 18))))))) bNil)))) (aCons (aG bL (aD 2) (aj (aG jc (aj (fCst (.int 1000003))) (aD 1)))) (aCons (fCst (.int 0)) aNil))))))
def Fp:FN:=fN 2 3 KN
@[reducible] def Hz:FS:=(fSeq (nZ 0 (aj (fCst (.int 2))) (aG bL (aj (qF 0 (aj (fCst (.int 2))))) (aj (fCst (.int 1))))) (fSeq (jk (fTst (aG uf (aj (qF 0 (aj (fCst (.int 0))))) (aj (fCst (.int 0))))) (fSeq (fSet 2 (aG ju (aj (qF 0 (aj (fCst (.int 0))))) (aD 1))) (fSeq (nZ 0 (aj (fCst (.int 0))) (aG uW (aj (qF 0 (aj (fCst (.int 0))))) (aD 1))) (fRetV 2))) fNext) (fRet (aG ju (aj (aG uW (aj (fCal Cp (aCons (fCal Cp (aCons (qF 0 (aj (fCst (.int 1)))) (aCons (qF 0 (aj (fCst (.int 2)))) aNil))) (aCons (aG bL (aj (qF 0 (aj (fCst (.int 2))))) (aj (fCst (.int 64)))) aNil)))) (aj (fCst (.int 64))))) (aD 1)))))
def bQ:FN:=fN 2 3 Hz
@[reducible] def yr:FS:=(fSeq (fSet 11 (aG ju (aj (aG bL (aD 5) (aj (aG jc (aD 6) (aD 10))))) (aj (fCst (.int 676))))) (fSeq (fSet 12 (aG bL (aj (aG bu (aD 2) (aj (aG uW (aD 11) (aj (fCst (.int 26))))))) (aj (aG bu (aD 2) (aj (aG ju (aD 11) (aj (fCst (.int 26))))))))) (lq 8 (aG bL (aj (aG bL (aD 3) (aD 12))) (aj (dO (aD 4) fY (cZ (aj (aG ju (aj (aG bL (aj (aG jc (aD 10) (aD 10))) (aD 5))) (aj (fCst (.int 4))))))))))))
@[reducible] def Eu:FE:=(aG bu (aD 1) (aj (aG ju (aj (aG bL (aD 2) (aj (aG jc (aD 3) (aD 0))))) (aj (fCst (.int 26))))))
@[reducible] def J3:FE:=(dO (aD 1) (cZ (aD 0)) (cZ (aj (aG bL (aD 0) (aD 2)))))
@[reducible] def yt:FS:=(Je 8 (aj (fLC (gM (aj (aG u9 (aj (fCst (.int 9))) (aD 9)))) .one gw J3 [7,9])))
@[reducible] def Ew:FE:=(aG bu (aD 1) (aj (aG ju (aj (aG bL (aD 2) (aj (aG jc (aj (fCst (.int 5))) (aD 0))))) (aj (fCst (.int 26))))))
@[reducible] def J4:FE:=(aG bu (aD 1) (aj (fCal bQ (aCons (fVar 2) (aCons (fCst (.int 26)) aNil)))))
@[reducible] def J5:FE:=(aG bu (aD 1) (aj (fCal bQ (aCons (fVar 2) (aCons (fCst (.int 26)) aNil)))))
@[reducible] def Am:FS:=(fSeq (fSet 2 (fCst (.str (fj "abcdefghijklmnopqrstuvwxyz")))) (fSeq (fSet 3 (qw (aj (fCst (.str (fj "")))) (aj (fLC (gM (aj (fCal bQ (aCons (fVar 0) (aCons (fCst (.int 4)) aNil))))) .one gw J5 [2,0])))) (fSeq (fSet 4 (qw (aj (fCst (.str (fj "")))) (aj (fLC (gM (aj (fCal bQ (aCons (fVar 0) (aCons (fCst (.int 4)) aNil))))) .one gw J4 [2,0])))) (fSeq (fPar [5,6] (oCons (fCal bQ (aCons (fVar 0) (aCons (fCst (.int 676)) aNil))) (oCons (aG bu (aj (fLst (aCons (fCst (.int 1)) (aCons (fCst (.int 3)) (aCons (fCst (.int 5)) (aCons (fCst (.int 7)) (aCons (fCst (.int 25)) (aCons (fCst (.int 675)) aNil)))))))) (aj (fCal bQ (aCons (fVar 0) (aCons (fCst (.int 6)) aNil))))) aNil))) (fSeq (jk (fTst (aG lK (aj (fCal bQ (aCons (fVar 0) (aCons (fCst (.int 4)) aNil)))) (aj (fCst (.int 0))))) (fSeq (fPar [7,8] (oCons (qw (aj (fCst (.str (fj "")))) (aj (fLC (gM (aj (fCst (.int 8)))) .one gw Ew [2,5]))) (oCons (fLst aNil) aNil))) (fSeq (fQ (Dh (aj (fCst (.int 1))) (aj (fCst (.int 9)))) (gNm 9) yt) (fRet (dO (aD 8) fY (cZ (aD 1)))))) fNext) (fSeq (jk (kJ (fTst (aG ue (aD 1) (aj (fCst (.int 27))))) (fTst (aG lK (aj (fCal bQ (aCons (fVar 0) (aCons (fCst (.int 3)) aNil)))) (aj (fCst (.int 0)))))) (fRet (fLC (gM (aD 1)) .one gw Eu [2,5,6])) fNext) (fSeq (fSet 8 (fLst aNil)) (fSeq (fQ (gM (aD 1)) (gNm 10) yr) (fRetV 8)))))))))
def Fq:FN:=fN 2 13 Am
@[reducible] def Vg:FT:=(fTst (aG iQ (aD 2) (aj (fLst aNil))))
@[reducible] def Vh:FS:=(Q3 3 2 (aj (fCal bQ (aCons (fVar 0) (aCons (fFun jQ (bCons (aD 2) bNil)) aNil)))))
@[reducible] def Lq:FS:=(fSeq (fPar [2,3] (oCons (fFun Ht (bCons (aD 1) bNil)) (oCons (fLst aNil) aNil))) (fSeq (qK Vg Vh) (fRetV 3)))
def Av:FN:=fN 2 4 Lq
@[reducible] def Lr:FS:=(fSeq (fSet 1 (aG bu (aj (fLst (aCons (fCal bQ (aCons (fVar 0) (aCons (fCst (.int 9)) aNil))) (aCons (fCal bQ (aCons (fVar 0) (aCons (fCst (.int 9)) aNil))) (aCons (aG u9 (aj (fCst (.int 99990))) (aj (fCal bQ (aCons (fVar 0) (aCons (fCst (.int 9)) aNil))))) aNil))))) (aj (fCal bQ (aCons (fVar 0) (aCons (fCst (.int 3)) aNil)))))) (fRet (fTup (aCons (fVar 1) (aCons (fFun qe (bCons (aj (fCst (.int 99999))) (bCons (aj (aG bL (aD 1) (aj (aG bu (aj (fLst (aCons (fCst (.int 0)) (aCons (fCal bQ (aCons (fVar 0) (aCons (fCst (.int 12)) aNil))) (aCons (fCst (.int 99999)) aNil))))) (aj (fCal bQ (aCons (fVar 0) (aCons (fCst (.int 3)) aNil)))))))) bNil))) aNil)))))
def yJ:FN:=fN 1 2 Lr
@[reducible] def Ls:FS:=(fRet (aG bu (aj (fLst (aCons (fCal bQ (aCons (fVar 0) (aCons (fCst (.int 4)) aNil))) (aCons (aG bL (aj (fCst (.int 100))) (aj (fCal bQ (aCons (fVar 0) (aCons (fCst (.int 4)) aNil))))) (aCons (aG u9 (aj (aG qj (aj (fCst (.int 10))) (aj (fCst (.int 9))))) (aj (fCal bQ (aCons (fVar 0) (aCons (fCst (.int 3)) aNil))))) aNil))))) (aj (fCal bQ (aCons (fVar 0) (aCons (fCst (.int 3)) aNil))))))
def yK:FN:=fN 1 1 Ls
@[reducible] def Af:FS:=(nZ 2 (aD 4) (aG bu (aj (aG bL (aj (fLst (aCons (fCst (.str (fj ""))) aNil))) (aj (dO (aD 1) fY (cZ (aD 3)))))) (aj (ug (fTst (aG uf (aj (fCal bQ (aCons (fVar 0) (aCons (fCst (.int 4)) aNil)))) (aj (fCst (.int 0))))) (fCal bQ (aCons (fVar 0) (aCons (aG bL (aD 3) (aj (fCst (.int 1)))) aNil))) (fCst (.int 0))))))
@[reducible] def KQ:FS:=(fSeq (fSet 2 Cj) (fSeq (fQ (Jy (fVar 1)) (gTp 2 (gsCons (gNm 3) (gsCons (gNm 4) gsNil))) Af) (fRetV 2)))
def Ft:FN:=fN 2 5 KQ
@[reducible] def Ur:FT:=(fTst (aG jd (aD 1) (aD 0)))
@[reducible] def Us:FS:=(fSeq (lq 2 (fVar 1)) (fSet 1 (aG bu (aD 0) (aD 1))))
@[reducible] def KR:FS:=(fSeq (fSet 2 (fLst aNil)) (fSeq (qK Ur Us) (fRetV 2)))
def yE:FN:=fN 2 3 KR
@[reducible] def La:FS:=(fSeq (lq 2 (fVar 3)) (fSet 3 (aG bL (aj (aG bL (aD 3) (aj (fCst (.int 1))))) (aj (aG jc (aj (fCal bQ (aCons (fVar 0) (aCons (fCst (.int 2)) aNil)))) (aj (fCal bQ (aCons (fVar 0) (aCons (fCst (.int 3)) aNil)))))))))
@[reducible] def M7:FS:=(fSeq (fPar [2,3] (oCons (fLst aNil) (oCons (fCal bQ (aCons (fVar 0) (aCons (fCst (.int 3)) aNil))) aNil))) (fSeq (fQ (gM (aD 1)) (gNm 4) La) (fRetV 2)))
def GF:FN:=fN 2 5 M7
@[reducible] def vX:FS:=(fSeq (fSet 9 (fCal bQ (aCons (fVar 0) (aCons (fFun jQ (bCons (aD 2) bNil)) aNil)))) (fSeq (fSet 10 (aG ju (aj (aG bL (aj (aG bL (aD 9) (aj (fCst (.int 1))))) (aj (aG jc (aj (fCal bQ (aCons (fVar 0) (aCons (aG u9 (aj (fFun jQ (bCons (aD 2) bNil))) (aj (fCst (.int 1)))) aNil)))) (aj (fCal bQ (aCons (fVar 0) (aCons (fCst (.int 2)) aNil)))))))) (aj (fFun jQ (bCons (aD 2) bNil))))) (fSeq (fPar [11,12,13] (oCons (aG bu (aj (fFun Bw (bCons (aD 1) bNil))) (aj (fCal bQ (aCons (fVar 0) (aCons (fFun jQ (bCons (aD 1) bNil)) aNil))))) (oCons (fCal yJ (aCons (fVar 0) aNil)) (oCons (fCal yK (aCons (fVar 0) aNil)) aNil)))) (fSeq (jk (kJ (fTst (aG uf (aj (fCal bQ (aCons (fVar 0) (aCons (fCst (.int 3)) aNil)))) (aj (fCst (.int 0))))) (fTst (aG iQ (aD 7) (aj (fLst aNil))))) (fSeq (fSet 11 (aG bu (aD 7) (aj (fCal bQ (aCons (fVar 0) (aCons (fFun jQ (bCons (aD 7) bNil)) aNil)))))) (fSeq (fSet 12 (fTup (aCons (fFun zu (bCons (aj (fCst (.int 0))) (bCons (aj (aG u9 (aD 5) (aj (fCal bQ (aCons (fVar 0) (aCons (fCst (.int 2)) aNil)))))) bNil))) (aCons (fFun qe (bCons (aj (fCst (.int 99999))) (bCons (aj (aG bL (aD 5) (aj (fCal bQ (aCons (fVar 0) (aCons (fCst (.int 2)) aNil)))))) bNil))) aNil)))) (fSet 13 (fFun qe (bCons (aj (aG qj (aj (fCst (.int 10))) (aj (fCst (.int 9))))) (bCons (aj (aG bL (aj (aG bu (aD 4) (aj (fCst (.int 1))))) (aj (fCal bQ (aCons (fVar 0) (aCons (fCst (.int 2)) aNil)))))) bNil)))))) fNext) (lq 6 (aG bL (aj (aG bL (aj (fTup (aCons (fVar 8) (aCons (aG bu (aD 2) (aD 9)) (aCons (aG bu (aD 2) (aD 10)) (aCons (fVar 11) aNil)))))) (aD 12))) (aj (fTup (aCons (fVar 13) aNil)))))))))
@[reducible] def Km:FS:=(fSeq (fPar [6,7] (oCons (fLst aNil) (oCons (fCal yE (aCons (fVar 1) (aCons (aG bu (aD 4) (aj (fCst (.int 0)))) aNil))) aNil))) (fSeq (fQ (iV (fCal GF (aCons (fVar 0) (aCons (aG jc (aD 3) (aj (fFun nQ (bCons (aj (aG uf (aj (fFun jQ (bCons (aD 2) bNil))) (aj (fCst (.int 1))))) bNil)))) aNil)))) (gNm 8) vX) (fRetV 6)))
def Fe:FN:=fN 6 14 Km
@[reducible] def Lw:FS:=(fRet (fTup (aCons (fFun Bu (bCons (aj (Pr (aD 0))) bNil)) (aCons (fTup aNil) (aCons (fFun Bu (bCons (aD 1) bNil)) (aCons (fTup aNil) aNil))))))
def Gi:FN:=fN 2 2 Lw
@[reducible] def PB:FS:=(fSeq (fSet 2 (fCal Fq (aCons (fVar 0) (aCons (fCst (.int 24)) aNil)))) (fSeq (fSet 3 (fCal Ft (aCons (fVar 0) (aCons (dO (aD 2) fY (cZ (aj (aG bL (aj (fCst (.int 1))) (aj (fCal bQ (aCons (fVar 0) (aCons (fCst (.int 8)) aNil)))))))) aNil)))) (fSeq (fSet 4 (dO (aD 2) (cZ (aj (fCst (.int 2)))) (cZ (aj (aG bL (aj (aG bL (aj (fCst (.int 2))) (aj (fCst (.int 2))))) (aj (fCal bQ (aCons (fVar 0) (aCons (aG bu (aj (fLst (aCons (fCst (.int 4)) (aCons (fCst (.int 9)) (aCons (fCst (.int 16)) aNil))))) (aj (fCal bQ (aCons (fVar 0) (aCons (fCst (.int 3)) aNil))))) aNil))))))))) (fSeq (fSet 5 (aG bL (aD 4) (aj (dO (aD 2) (cZ (aj (fCst (.int 18)))) (cZ (aj (fCst (.int 20)))))))) (fSeq (fSet 6 (fTup (aCons (aG bu (aD 5) (aj (fCal bQ (aCons (fVar 0) (aCons (fFun jQ (bCons (aD 5) bNil)) aNil))))) (aCons (aG bu (aD 5) (aj (fCal bQ (aCons (fVar 0) (aCons (fFun jQ (bCons (aD 5) bNil)) aNil))))) aNil)))) (fSeq (jk (fTst (aG uf (aj (fCal bQ (aCons (fVar 0) (aCons (fCst (.int 3)) aNil)))) (aj (fCst (.int 0))))) (fSet 6 (fTup (aCons (aG bu (aD 2) (aj (fCst (.int 20)))) (aCons (aG bu (aD 2) (aj (aG bL (aj (fCst (.int 20))) (aj (fCal bQ (aCons (fVar 0) (aCons (fCst (.int 2)) aNil))))))) aNil)))) fNext) (fSeq (fSet 7 (aG bu (aj (aG bL (aj (fFun Bw (bCons (aD 3) bNil))) (aj (dO (aD 2) (cZ (aj (fCst (.int 22)))) (cZ (aj (fCst (.int 23)))))))) (aj (fCal bQ (aCons (fVar 0) (aCons (aG bL (aj (fFun jQ (bCons (aD 3) bNil))) (aj (fFun nQ (bCons (aj (aG lK (aj (fCal bQ (aCons (fVar 0) (aCons (fCst (.int 9)) aNil)))) (aj (fCst (.int 0))))) bNil)))) aNil)))))) (fSeq (fPar [8,9] (oCons (aG bL (aj (fTup (aCons (fVar 7) (aCons (fCal yK (aCons (fVar 0) aNil)) aNil)))) (aD 6)) (oCons (aG bu (aj (fCal yJ (aCons (fVar 0) aNil))) (aj (fCal bQ (aCons (fVar 0) (aCons (fCst (.int 2)) aNil))))) aNil))) (fRet (fTup (aCons (fVar 3) (aCons (fVar 4) (aCons (fCal Fe (aCons (fVar 0) (aCons (fVar 3) (aCons (fVar 4) (aCons (fCal bQ (aCons (fVar 0) (aCons (aG bL (aD 1) (aj (fCst (.int 1)))) aNil))) (aCons (fVar 8) (aCons (fVar 9) aNil))))))) (aCons (fVar 8) (aCons (fVar 9) aNil)))))))))))))))
def HB:FN:=fN 2 10 PB
@[reducible] def za:FS:=(fSeq (jk (sr (fTst (aG jd (aj (aG bu (aD 3) (aj (fCst (.int 1))))) (aj (dO (aD 1) (cZ (aj (fCst (.int 2)))) fY)))) (sr (fTst (aG jd (aj (aG bu (aD 3) (aj (fCst (.int 2))))) (aj (dO (aD 1) (cZ (aj (fCst (.int 2)))) fY)))) (fTst (aG uT (aj (aG bu (aD 3) (aj (fCst (.int 3))))) (aj (fCal yE (aCons (fVar 0) (aCons (aG bu (aD 1) (aj (fCst (.int 0)))) aNil)))))))) (fRet (fCst (.bool false))) fNext) (fRet (Ik (vC nY nY (aj (aG bu (aD 3) (aj (fCst (.int 4))))) (aD 2) (aj (aG bu (aD 3) (aj (fCst (.int 5)))))) (aG nY (aj (aG bu (aD 1) (aj (fCst (.int 1))))) (aj (aG bu (aD 3) (aj (fCst (.int 6)))))))))
def HD:FN:=fN 4 4 za
@[reducible] def Ko:FS:=(jk (fTst (aG jd (aj (aG bu (aD 8) (aj (fCst (.int 1))))) (aD 6))) (fSeq (fPar [9,10] (oCons (aG bL (aj (aG bu (aD 6) (aj (aG bu (aD 8) (aj (fCst (.int 1))))))) (aj (fLst (aCons (aG bu (aD 8) (aj (fCst (.int 0)))) aNil)))) (oCons (zR (aD 6) (aj (aG bu (aD 8) (aj (fCst (.int 2))))) (fCst .none)) aNil))) (jk (sr (fTst (aG o5 (aD 10) (aj (fCst .none)))) (fTst (aG CZ (aj (fTup (aCons (fFun jQ (bCons (aD 9) bNil)) (aCons (fVar 9) aNil)))) (aj (fTup (aCons (fFun jQ (bCons (aD 10) bNil)) (aCons (fVar 10) aNil))))))) (nZ 6 (aj (aG bu (aD 8) (aj (fCst (.int 2))))) (fVar 9)) fNext)) fNext)
@[reducible] def Vi:FS:=(fQ (iV (fVar 5)) (gNm 8) Ko)
@[reducible] def Kq:FT:=(fTru (aj (fCal HD (aCons (fVar 1) (aCons (fVar 2) (aCons (fVar 3) (aCons (fVar 0) aNil)))))))
@[reducible] def Kr:FE:=(fVar 0)
@[reducible] def Gj:FS:=(fSeq (jk (fTst (aG jd (aD 3) (aj (dO (aD 2) (cZ (aj (fCst (.int 2)))) fY)))) (fRet Cj) fNext) (fSeq (fPar [5,6] (oCons (fLC (iB (aD 1)) .one Kq Kr [0,2,4]) (oCons (zJ (aD 3) (fLst aNil)) aNil))) (fSeq (fQ (gM (aj (fFun jQ (bCons (aD 5) bNil)))) (gNm 7) Vi) (fRetV 6))))
def Gk:FN:=fN 5 11 Gj
@[reducible] def Ol:FE:=(aG jd (aD 1) (aj (fCal Gk (aCons (fVar 2) (aCons (fVar 3) (aCons (aG bL (aj (fTup (aCons (aG bu (aD 4) (aj (fCst (.int 0)))) (aCons (fVar 0) aNil)))) (aj (dO (aD 4) (cZ (aj (fCst (.int 2)))) fY))) (aCons (fVar 5) (aCons (fVar 6) aNil))))))))
@[reducible] def Om:FS:=(fSeq (fSet 12 (fCal GD (aCons (fVar 8) (aCons (aG bu (aD 6) (aj (fCst (.int 0)))) (aCons (dO (aD 6) (cZ (aj (fCst (.int 2)))) fY) (aCons (fVar 10) (aCons (fVar 11) (aCons (fVar 7) aNil)))))))) (fSeq (fSet 13 (ug (fTst (aG o5 (aD 12) (aj (fCst .none)))) (fLst (aCons (fCst (.int 0)) aNil)) (ug (fTst (aG iQ (aD 12) (aj (aG qj (aj (fCst (.int 10))) (aj (fCst (.int 9))))))) (fLst (aCons (fVar 12) (aCons (aG bL (aD 12) (aj (fCst (.int 1)))) aNil))) (fLst (aCons (fVar 12) aNil))))) (fSeq (fSet 14 (fLC (iB (aD 13)) .one gw Ol [11,3,5,6,10,7])) (fSeq (jk (fTst (aG iQ (aD 14) (aj (aG bu (aj (fLst (aCons (fLst (aCons (fCst (.bool false)) aNil)) (aCons (fLst (aCons (fCst (.bool true)) (aCons (fCst (.bool false)) aNil))) (aCons (fLst (aCons (fCst (.bool true)) aNil)) aNil))))) (aj (aG bL (aj (fFun nQ (bCons (aj (aG rJ (aD 12) (aj (fCst .none)))) bNil))) (aj (fFun nQ (bCons (aj (aG lK (aD 12) (aj (aG qj (aj (fCst (.int 10))) (aj (fCst (.int 9))))))) bNil))))))))) (fRet (fCst (.bool false))) fNext) (fSeq (jk (kJ (fTst (aG rJ (aD 12) (aj (fCst .none)))) (sr (w6 (fTru (aj (xH "int" (aD 12))))) (fTru (aj (xH "bool" (aD 12)))))) (fRet (fCst (.bool false))) fNext) (fSeq (fSet 15 (aG bL (aj (fTup (aCons (aG bu (aD 6) (aj (fCst (.int 0)))) (aCons (aG bu (aD 13) (aj (fCst (.int 0)))) aNil)))) (aj (dO (aD 6) (cZ (aj (fCst (.int 2)))) fY)))) (jk (fTst (aG iQ (aj (aG o5 (aj (fCal yP (aCons (fVar 8) (aCons (fVar 15) (aCons (fVar 10) (aCons (fVar 11) (aCons (fVar 7) aNil))))))) (aj (fCst .none)))) (aj (aG o5 (aD 12) (aj (fCst .none)))))) (fRet (fCst (.bool false))) fNext)))))))
@[reducible] def Oo:FS:=(fQ (iV (fVar 9)) (gNm 11) Om)
@[reducible] def Oq:FS:=(fSeq (De 2 (fCal Fp (aCons (fVar 0) (aCons (fVar 1) aNil)))) (fSeq (fUnp (fCal HB (aCons (fVar 2) (aCons (fCst (.int 16)) aNil))) (gTp 5 (gsCons (gNm 3) (gsCons (gNm 4) (gsCons (gNm 5) (gsCons (gNm 6) (gsCons (gNm 7) gsNil))))))) (fSeq (fPar [8,9] (oCons (fCal Gi (aCons (fVar 3) (aCons (fVar 5) aNil))) (oCons (dO (aj (fCal Av (aCons (fVar 2) (aCons (fVar 4) aNil)))) fY (cZ (aj (fCst (.int 5))))) aNil))) (fQ (iV (fVar 9)) (gNm 10) Oo))))
@[reducible] def Q5:FS:=(fSeq (fQ (gM (aj (aG bL (aj (fCst (.int 1))) (aj (fFun qe (bCons (aj (fCst (.int 4))) (bCons (aj (vf 0)) bNil))))))) (gNm 1) Oq) (fRet (fCst (.bool true))))
def zL:FN:=fN 1 16 Q5
theorem adT{P:bf}{w:aY}{K:aH}{mg:Str→Option Value}{base:aV}{cC:Tok}{f:aa}{fd:di}(F:fO K "parts_over" "parts_over" FW f fd)(T:Txt K mg cC):cW P w K mg base eV 1 f fd (["house","part"]:List Str) (spT K Gb):=
 ie (body:=K6) F Fi fun cdv A outer s H E hr=>(bD (agV (i:=2) (T:=(.many 2)) (NT:=(["name","within"]:List Str)) (NF:=([]:List Str)) (js:=[]) (pA.ok (N0:=(["house","part","outer","over"]:List Str)) (lO:=cM FW) (by decide +kernel) rfl rfl) (⟨_,_,_,rfl,(.cons ⟨_,rfl⟩ (.cons ⟨_,rfl⟩ .nil)),rfl⟩) rfl hr.bH (Io (aq (cF (cD hr.bH) cG (aL (pv 0)) (aq (aK aN)) (fun _ _=>rfl)))) (fun b=>⟨uV,(aO (pv 0)),(aO (pv 1))⟩) (by rfl) Fi.nd rfl rfl) (bD (dX (i:=3) Fi.nd rfl (cJ rfl) (gk aU)) (bD (Bh lD (fK (p7 hr.bH) qm (aL (pv 1)) (aL (pv 2)) (by with_unfolding_all rfl)) (bD (zm (pv 3) (aO (pv 1))) (cj (dX (i:=1) Fi.nd rfl (cJ rfl) (cF (cD hr.bH) cG (aL (pv 2)) (aL (pv 1)) (fun _ _=>rfl)))))) (cj (oU (pv 3))))))
theorem afa{P:bf}{w:aY}{K:aH}{mg:Str→Option Value}{base:aV}{cC:Tok}{f:aa}{fd:di}(F:fO K "is_side" "is_side" MT f fd)(T:Txt K mg cC):cW P w K mg base eV 1 f fd (["paper","person"]:List Str) (spT K uJ):=
 ie (body:=M5) F ae9 fun cdv A outer s H E hr=>(cj (iI (rH (p7 hr.bH) qm (aL (pv 1)) (aq (lH (aL (pv 0)) (jw (aq (aK aN))) (jw (aq (aK aN))))) (by with_unfolding_all rfl))))
theorem afb{P:bf}{w:aY}{K:aH}{mg:Str→Option Value}{base:aV}{cC:Tok}{f:aa}{fd:di}(F:fO K "ways_on" "ways_on" Gz f fd)(T:Txt K mg cC)(Lb:dN P w K mg base "parts_over" 1 (["house","part"]:List Str) (spT K Gb))(uK:dN P w K mg base "is_side" 1 (["paper","person"]:List Str) (spT K uJ)):cW P w K mg base eV 2 f fd (["house","paper","day"]:List Str) (spT K Bc):=
 ie (body:=M6) F Wr fun cdv A outer s H E hr=>(bD (dX (i:=3) Wr.nd rfl (kE rfl) (bJ Lb (hr.mono (by decide)) rfl (az (aO (pv 0)) (az (cF (cD hr.bH) cG (aL (pv 1)) (aq (aK aN)) (fun _ _=>rfl)) aU)))) (cj (iI (vd (T:=(.many 7)) (NT:=(["number","giver","taker","part","first","last","most"]:List Str)) (NF:=(["over","day","paper"]:List Str)) (js:=[3,2,1]) (pA.ok (N0:=(["house","paper","day","over"]:List Str)) (lO:=cM Gz) (by decide +kernel) rfl rfl) (⟨_,_,_,rfl,(.cons ⟨_,rfl⟩ (.cons ⟨_,rfl⟩ (.cons ⟨_,rfl⟩ (.cons ⟨_,rfl⟩ (.cons ⟨_,rfl⟩ (.cons ⟨_,rfl⟩ (.cons ⟨_,rfl⟩ .nil))))))),rfl⟩) rfl (Io (aq (cF (cD hr.bH) cG (aL (pv 0)) (aq (aK aN)) (fun _ _=>rfl)))) (fun b=>⟨(Hs (PW.pt (rK (fK (p7 hr.bH) qm (aL (pv 3)) (aL (pv 7)) (by with_unfolding_all rfl)) (rK (ajs zj zE zj zE (aL (pv 4)) (aL (pv 8)) (aL (pv 5))) (rK (fK zj zE (aq (cF (cD hr.bH) cG (aL (pv 9)) (aq (aK aN)) (fun _ _=>rfl))) (aL (pv 6)) (fZ _)) (rK (Ql (uX (aq (bJ uK (hr.mono (by decide)) rfl (az (aO (pv 9)) (az (aO (pv 1)) aU)))))) (yW (Ql (uX (aq (bJ uK (hr.mono (by decide)) rfl (az (aO (pv 9)) (az (aO (pv 2)) aU))))))))))))),(jY (az (aO (pv 0)) (az (aO (pv 1)) (az (aO (pv 2)) aU))))⟩)))))
theorem aeB{P:bf}{w:aY}{K:aH}{mg:Str→Option Value}{base:aV}{cC:Tok}{f:aa}{fd:di}(F:fO K "steps_to" "steps_to" Gs f fd)(T:Txt K mg cC):cW P w K mg base eV 1 f fd (["ways","signer"]:List Str) (spT K Gw):=
 ie (body:=Mi) F wG fun cdv A outer s H E hr=>(bD (dX (i:=2) wG.nd rfl (kE rfl) (XX (aL (pv 1)) (aK aN))) (bD (dX (i:=3) wG.nd rfl (kE rfl) (gk (az (aO (pv 1)) aU))) (bD (dX (i:=4) wG.nd rfl (cJ rfl) (aK aN)) (bD (Bh lD (uX (aL (pv 3))) (bD (ajw (i:=4) wG.nd rfl (cJ rfl) (aq (aK aN))) (bD (dX (i:=3) wG.nd rfl (kE rfl) (akA (T:=(.many 3)) (NT:=(["number","giver","taker"]:List Str)) (NF:=(["newest","steps"]:List Str)) (js:=[3,2]) (pA.ok (N0:=(["ways","signer","steps","newest","many","person"]:List Str)) (lO:=cM Gs) (by decide +kernel) rfl rfl) (⟨_,_,_,rfl,(.cons ⟨_,rfl⟩ (.cons ⟨_,rfl⟩ (.cons ⟨_,rfl⟩ .nil))),rfl⟩) rfl rfl T.wL (Io (aL (pv 0))) (fun b=>⟨(Hs (PW.pt (rK (fK (p7 hr.bH) qm (aL (pv 2)) (aL (pv 3)) (by with_unfolding_all rfl)) (yW (fK (MF hr.bH) Nx (aL (pv 1)) (aL (pv 4)) (by with_unfolding_all rfl)))))),(aO (pv 1))⟩))) (cj (oZ lD rfl (zP (aO (pv 3))) (gJ (i:=5) wG.nd rfl (cJ rfl)) ji (cj (Ck hr.bH (pv 2) (aL (pv 5)) (aO (pv 4))))))))) (cj (oU (pv 2)))))))
theorem adU{P:bf}{w:aY}{K:aH}{mg:Str→Option Value}{base:aV}{cC:Tok}{f:aa}{fd:di}(F:fO K "nearer_way" "nearer_way" FZ f fd)(T:Txt K mg cC):cW P w K mg base eV 1 f fd (["ways","steps","person"]:List Str) (spT K Gd):=
 ie (body:=K9) F adS fun cdv A outer s H E hr=>(cj (iI (iG (adR rfl hr.bH) air rfl T.vo (by decide +kernel) (dz (aq (vd (T:=(.many 3)) (NT:=(["number","giver","taker"]:List Str)) (NF:=(["person","steps"]:List Str)) (js:=[2,1]) (pA.ok (N0:=(["ways","steps","person"]:List Str)) (lO:=cM FZ) (by decide +kernel) rfl rfl) (⟨_,_,_,rfl,(.cons ⟨_,rfl⟩ (.cons ⟨_,rfl⟩ (.cons ⟨_,rfl⟩ .nil))),rfl⟩) rfl (Io (aL (pv 0))) (fun b=>⟨(Hs (PW.pt (rK (fK (Cg hr.units) Cv (aL (pv 1)) (aL (pv 3)) (fZ _)) (rK (fK (p7 hr.bH) qm (aL (pv 2)) (aL (pv 4)) (by with_unfolding_all rfl)) (yW (fK (LQ hr.Qg) QW (aq (cF (cD hr.bH) cG (aL (pv 4)) (aL (pv 2)) (fun _ _=>rfl))) (aq (cF (cD hr.bH) cG (aL (pv 4)) (aL (pv 3)) (fun _ _=>rfl))) (fZ _))))))),(jY (az (aO (pv 0)) (az (aO (pv 2)) aU)))⟩))) fJ))))
theorem aeg{P:bf}{w:aY}{K:aH}{mg:Str→Option Value}{base:aV}{cC:Tok}{f:aa}{fd:di}(F:fO K "first_row" "first_row" Lh f fd)(T:Txt K mg cC)(Mj:dN P w K mg base "steps_to" 1 (["ways","signer"]:List Str) (spT K Gw))(Ld:dN P w K mg base "nearer_way" 1 (["ways","steps","person"]:List Str) (spT K Gd)):cW P w K mg base eV 2 f fd (["ways","holder","signer"]:List Str) (spT K Gh):=
 ie (body:=Gg) F An fun cdv A outer s H E hr=>(bD (dX (i:=3) An.nd rfl (cJ rfl) (bJ Mj (hr.mono (by decide)) rfl (az (aO (pv 0)) (az (aO (pv 2)) aU)))) (bD (mD (fK (MF hr.bH) Nx (aL (pv 1)) (aL (pv 3)) (by with_unfolding_all rfl)) (cj (iI (aK pW))) mj) (bD (dX (i:=4) An.nd rfl (cJ rfl) (gk aU)) (bD (Bh lD (fK (zg hr.units) zB (aL (pv 1)) (aL (pv 2)) (fZ _)) (bD (Qm (bJ Ld (hr.mono (by decide)) rfl (az (aO (pv 0)) (az (aO (pv 3)) (az (aO (pv 1)) aU)))) (zc rfl (lY (gJ (i:=5) An.nd rfl (cJ rfl)) (lY (gJ (i:=1) An.nd rfl (cJ rfl)) yR))) (HX (pR ji (pR ji Ho)))) (cj (zm (pv 4) (aO (pv 5)))))) (cj (oU (pv 4)))))))
theorem af7{P:bf}{w:aY}{K:aH}{mg:Str→Option Value}{base:aV}{cC:Tok}{f:aa}{fd:di}(F:fO K "row_of" "row_of" Oj f fd)(T:Txt K mg cC)(uK:dN P w K mg base "is_side" 1 (["paper","person"]:List Str) (spT K uJ))(M8:dN P w K mg base "ways_on" 2 (["house","paper","day"]:List Str) (spT K Bc))(Lx:dN P w K mg base "first_row" 2 (["ways","holder","signer"]:List Str) (spT K Gh)):cW P w K mg base eV 3 f fd (["house","paper","holder","signer","day"]:List Str) (spT K yP):=
 ie (body:=Bm) F af6 fun cdv A outer s H E hr=>(bD (mD (PW.pt (Cy (uX (aq (bJ uK (hr.mono (by decide)) rfl (az (aO (pv 1)) (az (aO (pv 2)) aU))))) (HW (uX (aq (bJ uK (hr.mono (by decide)) rfl (az (aO (pv 1)) (az (aO (pv 3)) aU)))))))) (cj (iI (aK pW))) mj) (cj (iI (bJ Lx (hr.mono (by decide)) rfl (az (bJ M8 (hr.mono (by decide)) rfl (az (aO (pv 0)) (az (aO (pv 1)) (az (aO (pv 4)) aU)))) (az (aO (pv 2)) (az (aO (pv 3)) aU)))))))
theorem adE{P:bf}{w:aY}{K:aH}{mg:Str→Option Value}{base:aV}{cC:Tok}{f:aa}{fd:di}(F:fO K "sums_to_try" "sums_to_try" Fj f fd)(T:Txt K mg cC):cW P w K mg base eV 1 f fd (["house"]:List Str) (spT K Fo):=
 ie (body:=KJ) F Vb fun cdv A outer s H E hr=>(bD (XC (i:=1) (T:=.one) (NT:=(["leave"]:List Str)) (NF:=([]:List Str)) (js:=[]) (pA.ok (N0:=(["house","bounds"]:List Str)) (lO:=cM Fj) (by decide +kernel) rfl rfl) (⟨_,⟨_,rfl⟩,rfl⟩) rfl (Rk (aq (cF (cD hr.bH) cG (aL (pv 0)) (aq (aK aN)) (fun _ _=>rfl)))) (fun b=>⟨uV,(iG (Az rfl) Bt rfl T.vo (by decide +kernel) (dz (aq (cF (cD hr.bH) cG (aL (pv 0)) (aq (aK aN)) (fun _ _=>rfl))) (dz (aq (aK (Yp (v:=toV (.int 1000000000)) rfl T.Vd ⟨_,rfl⟩))) fJ)))⟩) (by rfl) Vb.nd rfl rfl) (cj (iI (ag8 rfl (aq (bI dB dD (aq (gk (az (aK (Yp (v:=toV (.int 1000000000)) rfl T.Vd ⟨_,rfl⟩)) aU))) (aL (pv 1)))) (aq (aK rN)) rfl T.wL))))
theorem afc{P:bf}{w:aY}{K:aH}{mg:Str→Option Value}{base:aV}{cC:Tok}{f:aa}{fd:di}(F:fO K "most_of" "most_of" M3 f fd)(T:Txt K mg cC)(yQ:dN P w K mg base "row_of" 3 (["house","paper","holder","signer","day"]:List Str) (spT K yP))(KY:dN P w K mg base "sums_to_try" 1 (["house"]:List Str) (spT K Fo)):cW P w K mg base eV 4 f fd (["house","part","sides","holder","signer","day"]:List Str) (spT K GD):=
 ie (body:=GC) F Gu fun cdv A outer s H E hr=>(bD (Qm (aO (pv 2)) (zc rfl (lY (gJ (i:=6) Gu.nd rfl (cJ rfl)) (lY (gJ (i:=7) Gu.nd rfl (cJ rfl)) yR))) (HX (pR ji (pR ji Ho)))) (bD (oZ lD rfl (zP (bJ KY (hr.mono (by decide)) rfl (az (aO (pv 0)) aU))) (gJ (i:=8) Gu.nd rfl (cJ rfl)) ji (cj (mD (fK OD O8 (aq (bJ yQ (hr.mono (by decide)) rfl (az (aO (pv 0)) (az (jY (az (aO (pv 1)) (az (aO (pv 8)) (az (aO (pv 6)) (az (aO (pv 7)) aU))))) (az (aO (pv 3)) (az (aO (pv 4)) (az (aO (pv 5)) aU))))))) (aq (aK pW)) (fZ _)) (cj (oU (pv 8))) mj))) (cj (iI (aK pW)))))
theorem aiy{P:bf}{w:aY}{K:aH}{mg:Str→Option Value}{base:aV}{cC:Tok}{f:aa}{fd:di}(F:fO K "_law_mix" "_law_mix" Qv f fd)(T:Txt K mg cC):cW P w K mg base eV 1 f fd (["_law_cell","_law_k"]:List Str) (spT K Cp):=
 ie (body:=Qy) F Ze fun cdv A outer s H E hr=>(bD (dX (i:=2) Ze.nd rfl (cJ rfl) (bI pX p6 (aq (bI oW oX (aq (bI dB dD (aq (bI dB dD (aq (bI pX p6 (aL (pv 0)) (aq (aK aN)))) (aq (bI oW oX (aq (bI oW oX (aL (pv 1)) (aL (pv 1)))) (aq (aK aN)))))) (aq (aK aN)))) (aq (aK aN)))) (aq (aK aN)))) (cj (iI (bI pX p6 (aq (bI oW oX (aL (pv 2)) (aL (pv 2)))) (aq (aK aN))))))
theorem adF{P:bf}{w:aY}{K:aH}{mg:Str→Option Value}{base:aV}{cC:Tok}{f:aa}{fd:di}(F:fO K "_law_drawn_from" "_law_drawn_from" KC f fd)(T:Txt K mg cC):cW P w K mg base eV 1 f fd (["_law_script","_law_k"]:List Str) (spT K Fp):=
 ie (body:=KN) F Vc fun cdv A outer s H E hr=>(bD (dX (i:=2) Vc.nd rfl (cJ rfl) (Il (fK (LQ hr.Qg) QW (aL (pv 1)) (aq (Y5 (pv 0) rfl T.kY (by decide +kernel))) (fZ _)) (ajy (pv 0) (aL (pv 1)) (fun _ _=>rfl)) (aK aN))) (cj (iI (gk (az (cF (cD hr.bH) cG (aq (gk (az (aK aN) (az (iG Xf ZW rfl T.Iv (by decide +kernel) (dz (aL (pv 2)) fJ)) aU)))) (aq (uN Ba Cm rfl T.vm (by decide +kernel) (dz (aq (rH aki aku (aq (iG Xf ZW rfl T.Iv (by decide +kernel) (dz (aL (pv 2)) fJ))) (aq (bI BP Cd (aq (aK aN)) (aq (aK aN)))) (fZ _))) fJ))) (fun _ _=>rfl)) (az (bI dB dD (aL (pv 2)) (aq (bI oW oX (aq (aK aN)) (aL (pv 1))))) (az (aK aN) aU)))))))
theorem ahb{P:bf}{w:aY}{K:aH}{mg:Str→Option Value}{base:aV}{cC:Tok}{f:aa}{fd:di}(F:fO K "_law_pick" "_law_pick" Px f fd)(T:Txt K mg cC)(Ie:dN P w K mg base "_law_mix" 1 (["_law_cell","_law_k"]:List Str) (spT K Cp)):cW P w K mg base eV 2 f fd (["_law_left","_law_many"]:List Str) (spT K bQ):=
 ie (body:=Hz) F Yb fun cdv A outer s H E hr=>(bD (Ck hr.bH (pv 0) (aq (aK aN)) (bI dB dD (aq (wV (pv 0) (aq (aK aN)) (fun _ _=>rfl))) (aq (aK aN)))) (bD (mD (fK Cr Cw (aq (wV (pv 0) (aq (aK aN)) (fun _ _=>rfl))) (aq (aK aN)) (fZ _)) (bD (dX (i:=2) Yb.nd rfl (cJ rfl) (bI pX p6 (aq (wV (pv 0) (aq (aK aN)) (fun _ _=>rfl))) (aL (pv 1)))) (bD (Ck hr.bH (pv 0) (aq (aK aN)) (bI Ow O7 (aq (wV (pv 0) (aq (aK aN)) (fun _ _=>rfl))) (aL (pv 1)))) (cj (oU (pv 2))))) mj) (cj (iI (bI pX p6 (aq (bI Ow O7 (aq (bJ Ie (hr.mono (by decide)) rfl (az (bJ Ie (hr.mono (by decide)) rfl (az (wV (pv 0) (aq (aK aN)) (fun _ _=>rfl)) (az (wV (pv 0) (aq (aK aN)) (fun _ _=>rfl)) aU))) (az (bI dB dD (aq (wV (pv 0) (aq (aK aN)) (fun _ _=>rfl))) (aq (aK aN))) aU)))) (aq (aK aN)))) (aL (pv 1)))))))
theorem adG{P:bf}{w:aY}{K:aH}{mg:Str→Option Value}{base:aV}{cC:Tok}{f:aa}{fd:di}(F:fO K "_law_some_names" "_law_some_names" uF f fd)(T:Txt K mg cC)(bZ:dN P w K mg base "_law_pick" 2 (["_law_left","_law_many"]:List Str) (spT K bQ)):cW P w K mg base eV 3 f fd (["_law_left","_law_many"]:List Str) (spT K Fq):=
 ie (body:=Am) F nA fun cdv A outer s H E hr=>(bD (dX (i:=2) nA.nd rfl (kE rfl) (aK By)) (bD (dX (i:=3) nA.nd rfl (cJ rfl) (Ph (aq (aK By)) (aq (vd (T:=.one) (NT:=(["_law_turn"]:List Str)) (NF:=(["_law_letters","_law_left"]:List Str)) (js:=[2,0]) (pA.ok (N0:=(["_law_left","_law_many","_law_letters","_law_head","_law_tail","_law_first","_law_by","_law_stem","_law_found","_law_size","_law_k","_law_value","_law_two"]:List Str)) (lO:=cM uF) (by decide +kernel) rfl rfl) (⟨_,⟨_,rfl⟩,rfl⟩) rfl (tL rfl T.oV (aq (bJ bZ (hr.mono (by decide)) rfl (az (aO (pv 0)) (az (aK aN) aU))))) (fun b=>⟨uV,(cF (cD hr.bH) cG (aL (pv 1)) (aq (bJ bZ (hr.mono (by decide)) rfl (az (aO (pv 2)) (az (aK aN) aU)))) (fun _ _=>rfl))⟩))))) (bD (dX (i:=4) nA.nd rfl (cJ rfl) (Ph (aq (aK By)) (aq (vd (T:=.one) (NT:=(["_law_turn"]:List Str)) (NF:=(["_law_letters","_law_left"]:List Str)) (js:=[2,0]) (pA.ok (N0:=(["_law_left","_law_many","_law_letters","_law_head","_law_tail","_law_first","_law_by","_law_stem","_law_found","_law_size","_law_k","_law_value","_law_two"]:List Str)) (lO:=cM uF) (by decide +kernel) rfl rfl) (⟨_,⟨_,rfl⟩,rfl⟩) rfl (tL rfl T.oV (aq (bJ bZ (hr.mono (by decide)) rfl (az (aO (pv 0)) (az (aK aN) aU))))) (fun b=>⟨uV,(cF (cD hr.bH) cG (aL (pv 1)) (aq (bJ bZ (hr.mono (by decide)) rfl (az (aO (pv 2)) (az (aK aN) aU)))) (fun _ _=>rfl))⟩))))) (bD (YW (is:=[5,6]) (jr (bJ bZ (hr.mono (by decide)) rfl (az (aO (pv 0)) (az (aK aN) aU))) (jr (cF (cD hr.bH) cG (aq (gk (az (aK aN) (az (aK aN) (az (aK aN) (az (aK aN) (az (aK aN) (az (aK aN) aU)))))))) (aq (bJ bZ (hr.mono (by decide)) rfl (az (aO (pv 0)) (az (aK aN) aU)))) (fun _ _=>rfl)) rM)) (zc rfl (lY (gJ (i:=5) nA.nd rfl (kE rfl)) (lY (gJ (i:=6) nA.nd rfl (kE rfl)) yR)))) (bD (mD (fK (Cg hr.units) Cv (aq (bJ bZ (hr.mono (by decide)) rfl (az (aO (pv 0)) (az (aK aN) aU)))) (aq (aK aN)) (fZ _)) (bD (YW (is:=[7,8]) (jr (Ph (aq (aK By)) (aq (vd (T:=.one) (NT:=(["_law_k"]:List Str)) (NF:=(["_law_letters","_law_first"]:List Str)) (js:=[2,5]) (pA.ok (N0:=(["_law_left","_law_many","_law_letters","_law_head","_law_tail","_law_first","_law_by","_law_stem","_law_found","_law_size","_law_k","_law_value","_law_two"]:List Str)) (lO:=cM uF) (by decide +kernel) rfl rfl) (⟨_,⟨_,rfl⟩,rfl⟩) rfl (tL rfl T.oV (aq (aK aN))) (fun b=>⟨uV,(cF (cD hr.bH) cG (aL (pv 1)) (aq (bI pX p6 (aq (bI dB dD (aL (pv 2)) (aq (bI oW oX (aq (aK aN)) (aL (pv 0)))))) (aq (aK aN)))) (fun _ _=>rfl))⟩)))) (jr (gk aU) rM)) (zc rfl (lY (gJ (i:=7) nA.nd rfl (kE rfl)) (lY (gJ (i:=8) nA.nd rfl (cJ rfl)) yR)))) (bD (oZ lD rfl (afZ rfl T.oV (dz (aq (aK aN)) (dz (aq (aK aN)) fJ))) (gJ (i:=9) nA.nd rfl (kE rfl)) ji (cj (ajK (pv 8) (aq (vd (T:=.one) (NT:=(["_law_k"]:List Str)) (NF:=(["_law_stem","_law_size"]:List Str)) (js:=[7,9]) (pA.ok (N0:=(["_law_left","_law_many","_law_letters","_law_head","_law_tail","_law_first","_law_by","_law_stem","_law_found","_law_size","_law_k","_law_value","_law_two"]:List Str)) (lO:=cM uF) (by decide +kernel) rfl rfl) (⟨_,⟨_,rfl⟩,rfl⟩) rfl (tL rfl T.oV (aq (bI BL Ca (aq (aK aN)) (aL (pv 9))))) (fun b=>⟨uV,(lH (aL (pv 1)) (jw (aL (pv 0))) (jw (aq (bI dB dD (aL (pv 0)) (aL (pv 2))))))⟩)))))) (cj (iI (lH (aL (pv 8)) qx (jw (aL (pv 1)))))))) mj) (bD (mD (PW.pt (rK (fK (LQ hr.Qg) QW (aL (pv 1)) (aq (aK aN)) (fZ _)) (yW (fK (Cg hr.units) Cv (aq (bJ bZ (hr.mono (by decide)) rfl (az (aO (pv 0)) (az (aK aN) aU)))) (aq (aK aN)) (fZ _))))) (cj (iI (vd (T:=.one) (NT:=(["_law_k"]:List Str)) (NF:=(["_law_letters","_law_first","_law_by"]:List Str)) (js:=[2,5,6]) (pA.ok (N0:=(["_law_left","_law_many","_law_letters","_law_head","_law_tail","_law_first","_law_by","_law_stem","_law_found","_law_size","_law_k","_law_value","_law_two"]:List Str)) (lO:=cM uF) (by decide +kernel) rfl rfl) (⟨_,⟨_,rfl⟩,rfl⟩) rfl (tL rfl T.oV (aL (pv 1))) (fun b=>⟨uV,(cF (cD hr.bH) cG (aL (pv 1)) (aq (bI pX p6 (aq (bI dB dD (aL (pv 2)) (aq (bI oW oX (aL (pv 3)) (aL (pv 0)))))) (aq (aK aN)))) (fun _ _=>rfl))⟩)))) mj) (bD (dX (i:=8) nA.nd rfl (cJ rfl) (gk aU)) (bD (oZ lD rfl (tL rfl T.oV (aL (pv 1))) (gJ (i:=10) nA.nd rfl (cJ rfl)) ji (bD (dX (i:=11) nA.nd rfl (cJ rfl) (bI pX p6 (aq (bI dB dD (aL (pv 5)) (aq (bI oW oX (aL (pv 6)) (aL (pv 10)))))) (aq (aK aN)))) (bD (dX (i:=12) nA.nd rfl (cJ rfl) (bI dB dD (aq (cF (cD hr.bH) cG (aL (pv 2)) (aq (bI Ow O7 (aL (pv 11)) (aq (aK aN)))) (fun _ _=>rfl))) (aq (cF (cD hr.bH) cG (aL (pv 2)) (aq (bI pX p6 (aL (pv 11)) (aq (aK aN)))) (fun _ _=>rfl))))) (cj (zm (pv 8) (bI dB dD (aq (bI dB dD (aL (pv 3)) (aL (pv 12)))) (aq (lH (aL (pv 4)) qx (jw (aq (bI pX p6 (aq (bI dB dD (aq (bI oW oX (aL (pv 10)) (aL (pv 10)))) (aL (pv 5)))) (aq (aK aN))))))))))))) (cj (oU (pv 8)))))))))))
theorem aeh{P:bf}{w:aY}{K:aH}{mg:Str→Option Value}{base:aV}{cC:Tok}{f:aa}{fd:di}(F:fO K "_law_shuffled" "_law_shuffled" Li f fd)(T:Txt K mg cC)(bZ:dN P w K mg base "_law_pick" 2 (["_law_left","_law_many"]:List Str) (spT K bQ)):cW P w K mg base eV 3 f fd (["_law_left","_law_things"]:List Str) (spT K Av):=
 ie (body:=Lq) F VJ fun cdv A outer s H E hr=>(bD (wU (i:=2) (j:=3) rfl VJ.nd rfl rfl (by decide) rfl rfl (jr (uN (ae3 rfl) agW rfl T.Qx (by decide +kernel) (dz (aL (pv 1)) fJ)) (jr (gk aU) rM)) rfl) (bD (Bh lD (fK (zg hr.units) zB (aL (pv 2)) (aq (gk aU)) (fZ _)) (cj (ait (pv 3) (pv 2) (aq (bJ bZ (hr.mono (by decide)) rfl (az (aO (pv 0)) (az (iG nF nJ rfl T.kY (by decide +kernel) (dz (aL (pv 2)) fJ)) aU))))))) (cj (oU (pv 3)))))
theorem aei{P:bf}{w:aY}{K:aH}{mg:Str→Option Value}{base:aV}{cC:Tok}{f:aa}{fd:di}(F:fO K "_law_two_days" "_law_two_days" Lj f fd)(T:Txt K mg cC)(bZ:dN P w K mg base "_law_pick" 2 (["_law_left","_law_many"]:List Str) (spT K bQ)):cW P w K mg base eV 3 f fd (["_law_left"]:List Str) (spT K yJ):=
 ie (body:=Lr) F VL fun cdv A outer s H E hr=>(bD (dX (i:=1) VL.nd rfl (cJ rfl) (cF (cD hr.bH) cG (aq (gk (az (bJ bZ (hr.mono (by decide)) rfl (az (aO (pv 0)) (az (aK aN) aU))) (az (bJ bZ (hr.mono (by decide)) rfl (az (aO (pv 0)) (az (aK aN) aU))) (az (bI BL Ca (aq (aK aN)) (aq (bJ bZ (hr.mono (by decide)) rfl (az (aO (pv 0)) (az (aK aN) aU))))) aU))))) (aq (bJ bZ (hr.mono (by decide)) rfl (az (aO (pv 0)) (az (aK aN) aU)))) (fun _ _=>rfl))) (cj (iI (jY (az (aO (pv 1)) (az (iG (Az rfl) Bt rfl T.vo (by decide +kernel) (dz (aq (aK aN)) (dz (aq (bI dB dD (aL (pv 1)) (aq (cF (cD hr.bH) cG (aq (gk (az (aK aN) (az (bJ bZ (hr.mono (by decide)) rfl (az (aO (pv 0)) (az (aK aN) aU))) (az (aK aN) aU))))) (aq (bJ bZ (hr.mono (by decide)) rfl (az (aO (pv 0)) (az (aK aN) aU)))) (fun _ _=>rfl))))) fJ))) aU))))))
theorem aej{P:bf}{w:aY}{K:aH}{mg:Str→Option Value}{base:aV}{cC:Tok}{f:aa}{fd:di}(F:fO K "_law_some_sum" "_law_some_sum" Lk f fd)(T:Txt K mg cC)(bZ:dN P w K mg base "_law_pick" 2 (["_law_left","_law_many"]:List Str) (spT K bQ)):cW P w K mg base eV 3 f fd (["_law_left"]:List Str) (spT K yK):=
 ie (body:=Ls) F aee fun cdv A outer s H E hr=>(cj (iI (cF (cD hr.bH) cG (aq (gk (az (bJ bZ (hr.mono (by decide)) rfl (az (aO (pv 0)) (az (aK aN) aU))) (az (bI dB dD (aq (aK aN)) (aq (bJ bZ (hr.mono (by decide)) rfl (az (aO (pv 0)) (az (aK aN) aU))))) (az (bI BL Ca (aq (bI BP Cd (aq (aK aN)) (aq (aK aN)))) (aq (bJ bZ (hr.mono (by decide)) rfl (az (aO (pv 0)) (az (aK aN) aU))))) aU))))) (aq (bJ bZ (hr.mono (by decide)) rfl (az (aO (pv 0)) (az (aK aN) aU)))) (fun _ _=>rfl))))
theorem adH{P:bf}{w:aY}{K:aH}{mg:Str→Option Value}{base:aV}{cC:Tok}{f:aa}{fd:di}(F:fO K "_law_some_parts" "_law_some_parts" KD f fd)(T:Txt K mg cC)(bZ:dN P w K mg base "_law_pick" 2 (["_law_left","_law_many"]:List Str) (spT K bQ)):cW P w K mg base eV 3 f fd (["_law_left","_law_names"]:List Str) (spT K Ft):=
 ie (body:=KQ) F Fd fun cdv A outer s H E hr=>(bD (dX (i:=2) Fd.nd rfl (cJ rfl) Xu) (bD (oZ lD rfl (aip rfl T.Lp (aO (pv 1))) (zc rfl (lY (gJ (i:=3) Fd.nd rfl (cJ rfl)) (lY (gJ (i:=4) Fd.nd rfl (cJ rfl)) yR))) (HX (pR ji (pR ji Ho))) (cj (Ck hr.bH (pv 2) (aL (pv 4)) (cF (cD hr.bH) cG (aq (bI dB dD (aq (gk (az (aK By) aU))) (aq (lH (aL (pv 1)) qx (jw (aL (pv 3))))))) (aq (Il (fK Cr Cw (aq (bJ bZ (hr.mono (by decide)) rfl (az (aO (pv 0)) (az (aK aN) aU)))) (aq (aK aN)) (fZ _)) (bJ bZ (hr.mono (by decide)) rfl (az (aO (pv 0)) (az (bI dB dD (aL (pv 3)) (aq (aK aN))) aU))) (aK aN))) (fun _ _=>rfl))))) (cj (oU (pv 2)))))
theorem adI{P:bf}{w:aY}{K:aH}{mg:Str→Option Value}{base:aV}{cC:Tok}{f:aa}{fd:di}(F:fO K "_law_parts_over" "_law_parts_over" KH f fd)(T:Txt K mg cC):cW P w K mg base eV 1 f fd (["_law_parts","_law_part"]:List Str) (spT K yE):=
 ie (body:=KR) F Kh fun cdv A outer s H E hr=>(bD (dX (i:=2) Kh.nd rfl (cJ rfl) (gk aU)) (bD (Bh lD (fK (p7 hr.bH) qm (aL (pv 1)) (aL (pv 0)) (by with_unfolding_all rfl)) (bD (zm (pv 2) (aO (pv 1))) (cj (dX (i:=1) Kh.nd rfl (cJ rfl) (cF (cD hr.bH) cG (aL (pv 0)) (aL (pv 1)) (fun _ _=>rfl)))))) (cj (oU (pv 2)))))
theorem afd{P:bf}{w:aY}{K:aH}{mg:Str→Option Value}{base:aV}{cC:Tok}{f:aa}{fd:di}(F:fO K "_law_rising" "_law_rising" M4 f fd)(T:Txt K mg cC)(bZ:dN P w K mg base "_law_pick" 2 (["_law_left","_law_many"]:List Str) (spT K bQ)):cW P w K mg base eV 3 f fd (["_law_left","_law_many"]:List Str) (spT K GF):=
 ie (body:=M7) F Gv fun cdv A outer s H E hr=>(bD (wU (i:=2) (j:=3) rfl Gv.nd rfl rfl (by decide) rfl rfl (jr (gk aU) (jr (bJ bZ (hr.mono (by decide)) rfl (az (aO (pv 0)) (az (aK aN) aU))) rM)) rfl) (bD (oZ lD rfl (tL rfl T.oV (aL (pv 1))) (gJ (i:=4) Gv.nd rfl (cJ rfl)) ji (bD (zm (pv 2) (aO (pv 3))) (cj (dX (i:=3) Gv.nd rfl (cJ rfl) (bI dB dD (aq (bI dB dD (aL (pv 3)) (aq (aK aN)))) (aq (bI oW oX (aq (bJ bZ (hr.mono (by decide)) rfl (az (aO (pv 0)) (az (aK aN) aU)))) (aq (bJ bZ (hr.mono (by decide)) rfl (az (aO (pv 0)) (az (aK aN) aU))))))))))) (cj (oU (pv 2)))))
theorem adx{P:bf}{w:aY}{K:aH}{mg:Str→Option Value}{base:aV}{cC:Tok}{f:aa}{fd:di}(F:fO K "_law_some_leaves" "_law_some_leaves" Kl f fd)(T:Txt K mg cC)(bZ:dN P w K mg base "_law_pick" 2 (["_law_left","_law_many"]:List Str) (spT K bQ))(yL:dN P w K mg base "_law_two_days" 3 (["_law_left"]:List Str) (spT K yJ))(yM:dN P w K mg base "_law_some_sum" 3 (["_law_left"]:List Str) (spT K yK))(yF:dN P w K mg base "_law_parts_over" 1 (["_law_parts","_law_part"]:List Str) (spT K yE))(M9:dN P w K mg base "_law_rising" 3 (["_law_left","_law_many"]:List Str) (spT K GF)):cW P w K mg base eV 4 f fd (["_law_left","_law_parts","_law_people","_law_many","_law_paper","_law_day"]:List Str) (spT K Fe):=
 ie (body:=Km) F sU fun cdv A outer s H E hr=>(bD (wU (i:=6) (j:=7) rfl sU.nd rfl rfl (by decide) rfl rfl (jr (gk aU) (jr (bJ yF (hr.mono (by decide)) rfl (az (aO (pv 1)) (az (cF (cD hr.bH) cG (aL (pv 4)) (aq (aK aN)) (fun _ _=>rfl)) aU))) rM)) rfl) (bD (oZ lD rfl (zP (bJ M9 (hr.mono (by decide)) rfl (az (aO (pv 0)) (az (bI oW oX (aL (pv 3)) (aq (uN Ba Cm rfl T.vm (by decide +kernel) (dz (aq (rH Cr Cw (aq (iG nF nJ rfl T.kY (by decide +kernel) (dz (aL (pv 2)) fJ))) (aq (aK aN)) (fZ _))) fJ)))) aU)))) (gJ (i:=8) sU.nd rfl (cJ rfl)) ji (bD (dX (i:=9) sU.nd rfl (cJ rfl) (bJ bZ (hr.mono (by decide)) rfl (az (aO (pv 0)) (az (iG nF nJ rfl T.kY (by decide +kernel) (dz (aL (pv 2)) fJ)) aU)))) (bD (dX (i:=10) sU.nd rfl (cJ rfl) (bI pX p6 (aq (bI dB dD (aq (bI dB dD (aL (pv 9)) (aq (aK aN)))) (aq (bI oW oX (aq (bJ bZ (hr.mono (by decide)) rfl (az (aO (pv 0)) (az (bI BL Ca (aq (iG nF nJ rfl T.kY (by decide +kernel) (dz (aL (pv 2)) fJ))) (aq (aK aN))) aU)))) (aq (bJ bZ (hr.mono (by decide)) rfl (az (aO (pv 0)) (az (aK aN) aU)))))))) (aq (iG nF nJ rfl T.kY (by decide +kernel) (dz (aL (pv 2)) fJ))))) (bD (aiw (i:=11) (j:=12) (k:=13) rfl sU.nd rfl rfl rfl (by decide) (by decide) (by decide) rfl rfl rfl (jr (cF (cD hr.bH) cG (aq (iG (Va rfl) X8 rfl T.wL (by decide +kernel) (dz (aL (pv 1)) fJ))) (aq (bJ bZ (hr.mono (by decide)) rfl (az (aO (pv 0)) (az (iG nF nJ rfl T.kY (by decide +kernel) (dz (aL (pv 1)) fJ)) aU)))) (fun _ _=>rfl)) (jr (bJ yL (hr.mono (by decide)) rfl (az (aO (pv 0)) aU)) (jr (bJ yM (hr.mono (by decide)) rfl (az (aO (pv 0)) aU)) rM))) rfl) (bD (mD (PW.pt (rK (fK Cr Cw (aq (bJ bZ (hr.mono (by decide)) rfl (az (aO (pv 0)) (az (aK aN) aU)))) (aq (aK aN)) (fZ _)) (yW (fK (zg hr.units) zB (aL (pv 7)) (aq (gk aU)) (fZ _))))) (bD (dX (i:=11) sU.nd rfl (cJ rfl) (cF (cD hr.bH) cG (aL (pv 7)) (aq (bJ bZ (hr.mono (by decide)) rfl (az (aO (pv 0)) (az (iG nF nJ rfl T.kY (by decide +kernel) (dz (aL (pv 7)) fJ)) aU)))) (fun _ _=>rfl))) (bD (dX (i:=12) sU.nd rfl (cJ rfl) (jY (az (iG (afr rfl) aid rfl T.Q4 (by decide +kernel) (dz (aq (aK aN)) (dz (aq (bI BL Ca (aL (pv 5)) (aq (bJ bZ (hr.mono (by decide)) rfl (az (aO (pv 0)) (az (aK aN) aU)))))) fJ))) (az (iG (Az rfl) Bt rfl T.vo (by decide +kernel) (dz (aq (aK aN)) (dz (aq (bI dB dD (aL (pv 5)) (aq (bJ bZ (hr.mono (by decide)) rfl (az (aO (pv 0)) (az (aK aN) aU)))))) fJ))) aU)))) (cj (dX (i:=13) sU.nd rfl (cJ rfl) (iG (Az rfl) Bt rfl T.vo (by decide +kernel) (dz (aq (bI BP Cd (aq (aK aN)) (aq (aK aN)))) (dz (aq (bI dB dD (aq (cF (cD hr.bH) cG (aL (pv 4)) (aq (aK aN)) (fun _ _=>rfl))) (aq (bJ bZ (hr.mono (by decide)) rfl (az (aO (pv 0)) (az (aK aN) aU)))))) fJ))))))) mj) (cj (zm (pv 6) (bI dB dD (aq (bI dB dD (aq (jY (az (aO (pv 8)) (az (cF (cD hr.bH) cG (aL (pv 2)) (aL (pv 9)) (fun _ _=>rfl)) (az (cF (cD hr.bH) cG (aL (pv 2)) (aL (pv 10)) (fun _ _=>rfl)) (az (aO (pv 11)) aU)))))) (aL (pv 12)))) (aq (jY (az (aO (pv 13)) aU))))))))))) (cj (oU (pv 6)))))
theorem aek{P:bf}{w:aY}{K:aH}{mg:Str→Option Value}{base:aV}{cC:Tok}{f:aa}{fd:di}(F:fO K "_law_house_of" "_law_house_of" Ln f fd)(T:Txt K mg cC):cW P w K mg base eV 1 f fd (["_law_parts","_law_leaves"]:List Str) (spT K Gi):=
 ie (body:=Lw) F aef fun cdv A outer s H E hr=>(cj (iI (jY (az (uN Vm XD rfl T.Hw (by decide +kernel) (dz (aq (af4 rfl (aL (pv 0)) rfl T.wL)) fJ)) (az (jY aU) (az (uN Vm XD rfl T.Hw (by decide +kernel) (dz (aL (pv 1)) fJ)) (az (jY aU) aU)))))))
theorem ahc{P:bf}{w:aY}{K:aH}{mg:Str→Option Value}{base:aV}{cC:Tok}{f:aa}{fd:di}(F:fO K "_law_case" "_law_case" Py f fd)(T:Txt K mg cC)(bZ:dN P w K mg base "_law_pick" 2 (["_law_left","_law_many"]:List Str) (spT K bQ))(KZ:dN P w K mg base "_law_some_names" 3 (["_law_left","_law_many"]:List Str) (spT K Fq))(yL:dN P w K mg base "_law_two_days" 3 (["_law_left"]:List Str) (spT K yJ))(yM:dN P w K mg base "_law_some_sum" 3 (["_law_left"]:List Str) (spT K yK))(K1:dN P w K mg base "_law_some_parts" 3 (["_law_left","_law_names"]:List Str) (spT K Ft))(Ks:dN P w K mg base "_law_some_leaves" 4 (["_law_left","_law_parts","_law_people","_law_many","_law_paper","_law_day"]:List Str) (spT K Fe)):cW P w K mg base eV 5 f fd (["_law_left","_law_most"]:List Str) (spT K HB):=
 ie (body:=PB) F tM fun cdv A outer s H E hr=>(bD (dX (i:=2) tM.nd rfl (cJ rfl) (bJ KZ (hr.mono (by decide)) rfl (az (aO (pv 0)) (az (aK aN) aU)))) (bD (dX (i:=3) tM.nd rfl (cJ rfl) (bJ K1 (hr.mono (by decide)) rfl (az (aO (pv 0)) (az (lH (aL (pv 2)) qx (jw (aq (bI dB dD (aq (aK aN)) (aq (bJ bZ (hr.mono (by decide)) rfl (az (aO (pv 0)) (az (aK aN) aU)))))))) aU)))) (bD (dX (i:=4) tM.nd rfl (cJ rfl) (lH (aL (pv 2)) (jw (aq (aK aN))) (jw (aq (bI dB dD (aq (bI dB dD (aq (aK aN)) (aq (aK aN)))) (aq (bJ bZ (hr.mono (by decide)) rfl (az (aO (pv 0)) (az (cF (cD hr.bH) cG (aq (gk (az (aK aN) (az (aK aN) (az (aK aN) aU))))) (aq (bJ bZ (hr.mono (by decide)) rfl (az (aO (pv 0)) (az (aK aN) aU)))) (fun _ _=>rfl)) aU))))))))) (bD (dX (i:=5) tM.nd rfl (cJ rfl) (bI dB dD (aL (pv 4)) (aq (lH (aL (pv 2)) (jw (aq (aK aN))) (jw (aq (aK aN))))))) (bD (dX (i:=6) tM.nd rfl (cJ rfl) (jY (az (cF (cD hr.bH) cG (aL (pv 5)) (aq (bJ bZ (hr.mono (by decide)) rfl (az (aO (pv 0)) (az (iG nF nJ rfl T.kY (by decide +kernel) (dz (aL (pv 5)) fJ)) aU)))) (fun _ _=>rfl)) (az (cF (cD hr.bH) cG (aL (pv 5)) (aq (bJ bZ (hr.mono (by decide)) rfl (az (aO (pv 0)) (az (iG nF nJ rfl T.kY (by decide +kernel) (dz (aL (pv 5)) fJ)) aU)))) (fun _ _=>rfl)) aU)))) (bD (mD (fK Cr Cw (aq (bJ bZ (hr.mono (by decide)) rfl (az (aO (pv 0)) (az (aK aN) aU)))) (aq (aK aN)) (fZ _)) (cj (dX (i:=6) tM.nd rfl (cJ rfl) (jY (az (cF (cD hr.bH) cG (aL (pv 2)) (aq (aK aN)) (fun _ _=>rfl)) (az (cF (cD hr.bH) cG (aL (pv 2)) (aq (bI dB dD (aq (aK aN)) (aq (bJ bZ (hr.mono (by decide)) rfl (az (aO (pv 0)) (az (aK aN) aU)))))) (fun _ _=>rfl)) aU))))) mj) (bD (dX (i:=7) tM.nd rfl (cJ rfl) (cF (cD hr.bH) cG (aq (bI dB dD (aq (iG (Va rfl) X8 rfl T.wL (by decide +kernel) (dz (aL (pv 3)) fJ))) (aq (lH (aL (pv 2)) (jw (aq (aK aN))) (jw (aq (aK aN))))))) (aq (bJ bZ (hr.mono (by decide)) rfl (az (aO (pv 0)) (az (bI dB dD (aq (iG nF nJ rfl T.kY (by decide +kernel) (dz (aL (pv 3)) fJ))) (aq (uN Ba Cm rfl T.vm (by decide +kernel) (dz (aq (rH (Cg hr.units) Cv (aq (bJ bZ (hr.mono (by decide)) rfl (az (aO (pv 0)) (az (aK aN) aU)))) (aq (aK aN)) (fZ _))) fJ)))) aU)))) (fun _ _=>rfl))) (bD (wU (i:=8) (j:=9) rfl tM.nd rfl rfl (by decide) rfl rfl (jr (bI dB dD (aq (jY (az (aO (pv 7)) (az (bJ yM (hr.mono (by decide)) rfl (az (aO (pv 0)) aU)) aU)))) (aL (pv 6))) (jr (cF (cD hr.bH) cG (aq (bJ yL (hr.mono (by decide)) rfl (az (aO (pv 0)) aU))) (aq (bJ bZ (hr.mono (by decide)) rfl (az (aO (pv 0)) (az (aK aN) aU)))) (fun _ _=>rfl)) rM)) rfl) (cj (iI (jY (az (aO (pv 3)) (az (aO (pv 4)) (az (bJ Ks (hr.mono (by decide)) rfl (az (aO (pv 0)) (az (aO (pv 3)) (az (aO (pv 4)) (az (bJ bZ (hr.mono (by decide)) rfl (az (aO (pv 0)) (az (bI dB dD (aL (pv 1)) (aq (aK aN))) aU))) (az (aO (pv 8)) (az (aO (pv 9)) aU))))))) (az (aO (pv 8)) (az (aO (pv 9)) aU))))))))))))))))
theorem ahd{P:bf}{w:aY}{K:aH}{mg:Str→Option Value}{base:aV}{cC:Tok}{f:aa}{fd:di}(F:fO K "_law_lets" "_law_lets" Pz f fd)(T:Txt K mg cC)(yF:dN P w K mg base "_law_parts_over" 1 (["_law_parts","_law_part"]:List Str) (spT K yE)):cW P w K mg base eV 2 f fd (["_law_parts","_law_paper","_law_day","_law_leave"]:List Str) (spT K HD):=
 ie (body:=za) F aha fun cdv A outer s H E hr=>(bD (mD (PW.pt (Cy (fK (p7 hr.bH) qm (aq (cF (cD hr.bH) cG (aL (pv 3)) (aq (aK aN)) (fun _ _=>rfl))) (aq (lH (aL (pv 1)) (jw (aq (aK aN))) qx)) (by with_unfolding_all rfl)) (Cy (fK (p7 hr.bH) qm (aq (cF (cD hr.bH) cG (aL (pv 3)) (aq (aK aN)) (fun _ _=>rfl))) (aq (lH (aL (pv 1)) (jw (aq (aK aN))) qx)) (by with_unfolding_all rfl)) (HW (fK (MF hr.bH) Nx (aq (cF (cD hr.bH) cG (aL (pv 3)) (aq (aK aN)) (fun _ _=>rfl))) (aq (bJ yF (hr.mono (by decide)) rfl (az (aO (pv 0)) (az (cF (cD hr.bH) cG (aL (pv 1)) (aq (aK aN)) (fun _ _=>rfl)) aU)))) (by with_unfolding_all rfl)))))) (cj (iI (aK rN))) mj) (cj (iI (aju (ajr zj zE zj zE (aq (cF (cD hr.bH) cG (aL (pv 3)) (aq (aK aN)) (fun _ _=>rfl))) (aL (pv 2)) (aq (cF (cD hr.bH) cG (aL (pv 3)) (aq (aK aN)) (fun _ _=>rfl)))) (ajt (rH zj zE (aq (cF (cD hr.bH) cG (aL (pv 1)) (aq (aK aN)) (fun _ _=>rfl))) (aq (cF (cD hr.bH) cG (aL (pv 3)) (aq (aK aN)) (fun _ _=>rfl))) (fZ _)))))))
theorem ael{P:bf}{w:aY}{K:aH}{mg:Str→Option Value}{base:aV}{cC:Tok}{f:aa}{fd:di}(F:fO K "_law_all_rows" "_law_all_rows" Gf f fd)(T:Txt K mg cC)(PJ:dN P w K mg base "_law_lets" 2 (["_law_parts","_law_paper","_law_day","_law_leave"]:List Str) (spT K HD)):cW P w K mg base eV 3 f fd (["_law_parts","_law_leaves","_law_paper","_law_holder","_law_day"]:List Str) (spT K Gk):=
 ie (body:=Gj) F Ao fun cdv A outer s H E hr=>(bD (mD (fK (p7 hr.bH) qm (aL (pv 3)) (aq (lH (aL (pv 2)) (jw (aq (aK aN))) qx)) (by with_unfolding_all rfl)) (cj (iI Xu)) mj) (bD (wU (i:=5) (j:=6) rfl Ao.nd rfl rfl (by decide) rfl rfl (jr (vd (T:=.one) (NT:=(["_law_leave"]:List Str)) (NF:=(["_law_parts","_law_paper","_law_day"]:List Str)) (js:=[0,2,4]) (pA.ok (N0:=(["_law_parts","_law_leaves","_law_paper","_law_holder","_law_day","_law_steps","_law_best","_law_turn","_law_leave","_law_row","_law_old"]:List Str)) (lO:=cM Gf) (by decide +kernel) rfl rfl) (⟨_,⟨_,rfl⟩,rfl⟩) rfl (Rk (aL (pv 1))) (fun b=>⟨(Hs (uX (aq (bJ PJ (hr.mono (by decide)) rfl (az (aO (pv 1)) (az (aO (pv 2)) (az (aO (pv 3)) (az (aO (pv 0)) aU)))))))),(aO (pv 0))⟩)) (jr (XX (aL (pv 3)) (gk aU)) rM)) rfl) (bD (oZ lD rfl (tL rfl T.oV (aq (iG nF nJ rfl T.kY (by decide +kernel) (dz (aL (pv 5)) fJ)))) (gJ (i:=7) Ao.nd rfl (cJ rfl)) ji (cj (oZ lD rfl (zP (aO (pv 5))) (gJ (i:=8) Ao.nd rfl (cJ rfl)) ji (cj (mD (fK (p7 hr.bH) qm (aq (cF (cD hr.bH) cG (aL (pv 8)) (aq (aK aN)) (fun _ _=>rfl))) (aL (pv 6)) (by with_unfolding_all rfl)) (bD (wU (i:=9) (j:=10) rfl Ao.nd rfl rfl (by decide) rfl rfl (jr (bI dB dD (aq (cF (cD hr.bH) cG (aL (pv 6)) (aq (cF (cD hr.bH) cG (aL (pv 8)) (aq (aK aN)) (fun _ _=>rfl))) (fun _ _=>rfl))) (aq (gk (az (cF (cD hr.bH) cG (aL (pv 8)) (aq (aK aN)) (fun _ _=>rfl)) aU)))) (jr (ajA hr.bH (aL (pv 6)) (aq (cF (cD hr.bH) cG (aL (pv 8)) (aq (aK aN)) (fun _ _=>rfl))) (aK pW) ⟨rfl,rfl,rfl,rfl⟩) rM)) rfl) (cj (mD (PW.pt (Cy (fK HJ HS (aL (pv 10)) (aq (aK pW)) (fZ _)) (HW (fK (ajQ hr.bH) ajR (aq (jY (az (iG nF nJ rfl T.kY (by decide +kernel) (dz (aL (pv 9)) fJ)) (az (aO (pv 9)) aU)))) (aq (jY (az (iG nF nJ rfl T.kY (by decide +kernel) (dz (aL (pv 10)) fJ)) (az (aO (pv 10)) aU)))) (fZ _))))) (cj (Ck hr.bH (pv 6) (aq (cF (cD hr.bH) cG (aL (pv 8)) (aq (aK aN)) (fun _ _=>rfl))) (aO (pv 9)))) mj))) mj))))) (cj (oU (pv 6))))))
theorem ajS{P:bf}{w:aY}{K:aH}{mg:Str→Option Value}{base:aV}{cC:Tok}{f:aa}{fd:di}(F:fO K "law" "law" Iu f fd)(T:Txt K mg cC)(yQ:dN P w K mg base "row_of" 3 (["house","paper","holder","signer","day"]:List Str) (spT K yP))(Nb:dN P w K mg base "most_of" 4 (["house","part","sides","holder","signer","day"]:List Str) (spT K GD))(K3:dN P w K mg base "_law_drawn_from" 1 (["_law_script","_law_k"]:List Str) (spT K Fp))(Ly:dN P w K mg base "_law_shuffled" 3 (["_law_left","_law_things"]:List Str) (spT K Av))(Lz:dN P w K mg base "_law_house_of" 1 (["_law_parts","_law_leaves"]:List Str) (spT K Gi))(PK:dN P w K mg base "_law_case" 5 (["_law_left","_law_most"]:List Str) (spT K HB))(LC:dN P w K mg base "_law_all_rows" 3 (["_law_parts","_law_leaves","_law_paper","_law_holder","_law_day"]:List Str) (spT K Gk)):cW P w K mg base eV 6 f fd (["_law_script"]:List Str) (spT K zL):=
 ie (body:=Q5) F mq fun cdv A outer s H E hr=>(bD (oZ lD rfl (tL rfl T.oV (aq (bI dB dD (aq (aK aN)) (aq (iG (Az rfl) Bt rfl T.vo (by decide +kernel) (dz (aq (aK aN)) (dz (aq (Y5 (pv 0) rfl T.kY (by decide +kernel))) fJ))))))) (gJ (i:=1) mq.nd rfl (cJ rfl)) ji (bD (ajv (i:=2) mq.nd rfl (cJ rfl) (bJ K3 (hr.mono (by decide)) rfl (az (aO (pv 0)) (az (aO (pv 1)) aU)))) (bD (Qm (bJ PK (hr.mono (by decide)) rfl (az (aO (pv 2)) (az (aK aN) aU))) (zc rfl (lY (gJ (i:=3) mq.nd rfl (kE rfl)) (lY (gJ (i:=4) mq.nd rfl (cJ rfl)) (lY (gJ (i:=5) mq.nd rfl (kE rfl)) (lY (gJ (i:=6) mq.nd rfl (kE rfl)) (lY (gJ (i:=7) mq.nd rfl (kE rfl)) yR)))))) (HX (pR ji (pR ji (pR ji (pR ji (pR ji Ho))))))) (bD (wU (i:=8) (j:=9) rfl mq.nd rfl rfl (by decide) rfl rfl (jr (bJ Lz (hr.mono (by decide)) rfl (az (aO (pv 3)) (az (aO (pv 5)) aU))) (jr (lH (aq (bJ Ly (hr.mono (by decide)) rfl (az (aO (pv 2)) (az (aO (pv 4)) aU)))) qx (jw (aq (aK aN)))) rM)) rfl) (cj (oZ lD rfl (zP (aO (pv 9))) (gJ (i:=10) mq.nd rfl (kE rfl)) ji (cj (oZ lD rfl (zP (aO (pv 9))) (gJ (i:=11) mq.nd rfl (kE rfl)) ji (bD (dX (i:=12) mq.nd rfl (cJ rfl) (bJ Nb (hr.mono (by decide)) rfl (az (aO (pv 8)) (az (cF (cD hr.bH) cG (aL (pv 6)) (aq (aK aN)) (fun _ _=>rfl)) (az (lH (aL (pv 6)) (jw (aq (aK aN))) qx) (az (aO (pv 10)) (az (aO (pv 11)) (az (aO (pv 7)) aU)))))))) (bD (dX (i:=13) mq.nd rfl (cJ rfl) (Il (fK HJ HS (aL (pv 12)) (aq (aK pW)) (fZ _)) (gk (az (aK aN) aU)) (Il (fK (zg hr.units) zB (aL (pv 12)) (aq (bI BP Cd (aq (aK aN)) (aq (aK aN)))) (fZ _)) (gk (az (aO (pv 12)) (az (bI dB dD (aL (pv 12)) (aq (aK aN))) aU))) (gk (az (aO (pv 12)) aU))))) (bD (XC (i:=14) (T:=.one) (NT:=(["_law_sum_here"]:List Str)) (NF:=(["_law_signer","_law_parts","_law_leaves","_law_paper","_law_holder","_law_day"]:List Str)) (js:=[11,3,5,6,10,7]) (pA.ok (N0:=(["_law_script","_law_k","_law_left","_law_parts","_law_people","_law_leaves","_law_paper","_law_day","_law_house","_law_some","_law_holder","_law_signer","_law_found","_law_sums","_law_rows","_law_least"]:List Str)) (lO:=cM Iu) (by decide +kernel) rfl rfl) (⟨_,⟨_,rfl⟩,rfl⟩) rfl (Rk (aL (pv 13))) (fun b=>⟨uV,(rH (p7 hr.bH) qm (aL (pv 1)) (aq (bJ LC (hr.mono (by decide)) rfl (az (aO (pv 2)) (az (aO (pv 3)) (az (bI dB dD (aq (jY (az (cF (cD hr.bH) cG (aL (pv 4)) (aq (aK aN)) (fun _ _=>rfl)) (az (aO (pv 0)) aU)))) (aq (lH (aL (pv 4)) (jw (aq (aK aN))) qx))) (az (aO (pv 5)) (az (aO (pv 6)) aU))))))) (by with_unfolding_all rfl))⟩) (by rfl) mq.nd rfl rfl) (bD (mD (fK (zg hr.units) zB (aL (pv 14)) (aq (cF (cD hr.bH) cG (aq (gk (az (gk (az (aK rN) aU)) (az (gk (az (aK rN) (az (aK rN) aU))) (az (gk (az (aK rN) aU)) aU))))) (aq (bI dB dD (aq (uN Ba Cm rfl T.vm (by decide +kernel) (dz (aq (rH OD O8 (aL (pv 12)) (aq (aK pW)) (fZ _))) fJ))) (aq (uN Ba Cm rfl T.vm (by decide +kernel) (dz (aq (rH (Cg hr.units) Cv (aL (pv 12)) (aq (bI BP Cd (aq (aK aN)) (aq (aK aN)))) (fZ _))) fJ))))) (fun _ _=>rfl))) (fZ _)) (cj (iI (aK rN))) mj) (bD (mD (PW.pt (rK (fK OD O8 (aL (pv 12)) (aq (aK pW)) (fZ _)) (yW (PW.pt (Cy (Ql (uX (aq (ZX (by decide) (aL (pv 12)) (Yq (v:=.ty "int") rfl T.vm (by decide +kernel) rfl) rfl T.Ga (by decide +kernel))))) (HW (uX (aq (ZX (by decide) (aL (pv 12)) (Yq (v:=.ty "bool") rfl T.Qw (by decide +kernel) rfl) rfl T.Ga (by decide +kernel)))))))))) (cj (iI (aK rN))) mj) (bD (dX (i:=15) mq.nd rfl (cJ rfl) (bI dB dD (aq (jY (az (cF (cD hr.bH) cG (aL (pv 6)) (aq (aK aN)) (fun _ _=>rfl)) (az (cF (cD hr.bH) cG (aL (pv 13)) (aq (aK aN)) (fun _ _=>rfl)) aU)))) (aq (lH (aL (pv 6)) (jw (aq (aK aN))) qx)))) (cj (mD (fK (zg hr.units) zB (aq (rH HJ HS (aq (bJ yQ (hr.mono (by decide)) rfl (az (aO (pv 8)) (az (aO (pv 15)) (az (aO (pv 10)) (az (aO (pv 11)) (az (aO (pv 7)) aU))))))) (aq (aK pW)) (fZ _))) (aq (rH HJ HS (aL (pv 12)) (aq (aK pW)) (fZ _))) (fZ _)) (cj (iI (aK rN))) mj)))))))))))))))) (cj (iI (aK rN))))
local macro_rules|`(tactic|simp_arith[$ts,*])=>`(tactic|simp only[e_bin,e_dat,e_bv,e_and,e_or,e_not,e_if,e_ifv,fVar,fTst,fTru,truD,fCst,dat,still,fCal,fFun,aCons,aNil,bCons,bNil,oCons,fSet,fSeq,fRet,fRetV,fNext,fNeg,fLst,fTup,allIm,iB,iV,iB2,iV2,itD,itD2,fLC,frB,fPar,setM,fUnp,gTp,gsCons,gsNil,gNm,LIM,add_int,sub_int,le_int,lt_int,ge_int,gt_int,eq_int,eq_strs,ne_strs,in_strs,ix_t,ix_l,a_t0,a_t1,a_t2,a_t3,a_t4,a_t5,a_t6,rst_same,r_ow,r_bool,r_int,r_str,r_tl,Option.bind_some,Option.map_some,List.getElem?_cons_zero,List.getElem?_cons_succ,List.set_cons_zero,List.set_cons_succ,List.map_cons,List.map_nil,List.length_cons,List.length_nil,Bool.not_true,Bool.not_false,if_true,if_false,ite_self,Bool.false_eq_true,Option.join,id_eq,Nat.reduceAdd,Nat.reduceLeDiff,Nat.reduceLT,and_true,true_and,and_self,String.reduceBEq,Bool.or_false,Bool.or_true,Bool.false_or,Bool.true_or,Bool.and_true,Bool.and_false,Bool.true_and,Bool.false_and,decide_true,decide_false,reduceCtorEq,eq_bool,ne_bool,ne_int,len_l,len_t,beq_self_eq_true,List.length_map,h_ix0,h_ix1,h_ix2,h_ix3,k_ix0,k_ix1,k_ix2,k_ix3,k_ix4,k_ix5,noLs_strs,noLs_ints,imO,putO,intD,strD,cond_true,cond_false,$ts,*])
theorem aaa{C:Ce}{c k:Int}(k0:0≤k)(k1:k≤1000000):∃r:Int,Cp [.im (.int c),.im (.int k)] C=some (.im (.int r),C)∧0≤r:=by
 obtain⟨m,hm⟩:∃m,(c%2147483629+k*k*7919+11)*48271%2147483647=m:=⟨_,rfl⟩
 have m0:0≤m:=by rw[←hm];exact lV _ (by decide)
 have m1:m<2147483647:=by rw[←hm];exact qT _ (by decide)
 refine⟨m*m%1999999973,fX [some (.im (.int c)),some (.im (.int k)),none] rfl rfl ?_ rfl rfl,lV _ (by decide)⟩
 simp_arith[Qy,mod_eq (i:=c) (j:=2147483629) (by decide),mul_eq (i:=k) (j:=k) (.inl (by omega)),mul_eq (i:=k*k) (j:=7919) (.inr (by decide)),mul_eq (i:=c%2147483629+k*k*7919+11) (j:=48271) (.inr (by decide)),mod_eq (i:=(c%2147483629+k*k*7919+11)*48271) (j:=2147483647) (by decide),hm,mul_eq (i:=m) (j:=m) (.inl (by omega)),mod_eq (i:=m*m) (j:=1999999973) (by decide)]
theorem dj{C:Ce}{b L k:Nat}{m:Int}(h:Bl L C b (k+1))(h0:0<m)(h1:m<1073741824):
  ∃t C',bQ [.ce b,.im (.int m)] C=some (.im (.int t),C')∧0≤t∧t<m∧Bl L C' b k:=by
 obtain⟨hL,x,y,z,hc,hx,hz,hz2⟩:=h
 have i0:mO 3 0=some 0:=rfl;have i2:mO 3 2=some 2:=rfl;have c2:(C.set b [x,y,z+1])[b]?=some [x,y,z+1]:=Z4 hc;by_cases hp:0<x
 ·refine⟨x%m,(C.set b [x,y,z+1]).set b [x / m,y,z+1],fX [some (.ce b),some (.im (.int m)),none] rfl rfl ?_ rfl (by simp),lV _ (by omega),qT _ h0,⟨by simpa using hL,x / m,y,z+1,Z4 c2,ady hx (by omega),by omega,by omega⟩⟩
  simp_arith[Hz,qF,hc,c2,hp,mod_eq h0,fdiv_eq h0 h1,nZ,qt,i0,i2]
 ·obtain⟨r1,e1,p1⟩:=aaa (C:=C.set b [x,y,z+1]) (c:=y) (k:=z+1) (by omega) (by omega)
  obtain⟨r2,e2,p2⟩:=aaa (C:=C.set b [x,y,z+1]) (c:=r1) (k:=z+1+64) (by omega) (by omega)
  refine⟨r2 / 64%m,C.set b [x,y,z+1],fX [some (.ce b),some (.im (.int m)),none] rfl rfl ?_ rfl (by simp),lV _ (by omega),qT _ h0,⟨by simpa using hL,x,y,z+1,c2,hx,by omega,by omega⟩⟩
  simp_arith[Hz,qF,hc,c2,hp,nZ,qt,i0,i2,e1,e2,fdiv_eq (j:=64) (by omega) (by omega),mod_eq h0]
theorem ahe{C:Ce}{ns:List Int}{k:Int}(k0:0≤k)(k9:k≤100):∃x y:Int,Fp [.sc ns,.im (.int k)] C=some (.ow (.list [.int x,.int y,.int 0]),C)∧0≤x:=by
 obtain⟨c,hc⟩:∃c:Int,ug (fTst (aG ue (aD 1) (aj (vf 0)))) (Df 0 (aD 1)) (fCst (.int 0)) [some (.sc ns),some (.im (.int k)),none] C=some (.im (.int c),[some (.sc ns),some (.im (.int k)),none],C):=by
  by_cases h:k<ns.length
  ·obtain⟨c,hc,_⟩:=Z5 (xs:=ns) k0 h
   exact⟨c,by simp_arith[vf,Df,h,hc]⟩
  ·exact⟨0,by simp_arith[vf,h]⟩
 have a0:0≤(if c<0 then -c else c):=by split<;>omega
 obtain⟨a,hA⟩:∃a,(if c<0 then -c else c)=a:=⟨_,rfl⟩
 rw[hA] at a0;have pw:qj (.int 10) (.int 18)=some (.im (.int 1000000000000000000)):=rfl
 obtain⟨j,x,hj,hx,x0⟩:∃(j x:Int),(if decide (1000000000000000000≤a)=true then(1:Int) else 0)=j∧dJ [j8 0,.int a] j=some (.int x)∧0≤x:=by
  by_cases h:1000000000000000000≤a
  ·exact⟨1,a,by rw[if_pos (decide_eq_true h)],rfl,a0⟩
  ·exact⟨0,0,by rw[if_neg (by simpa using h)],rfl,sZ _⟩
 refine⟨x,c+1000003*k,fX [some (.sc ns),some (.im (.int k)),none] rfl rfl ?_ rfl rfl,x0⟩
 simp_arith[KN,↓hc,CK,hA,pw,nQ,hj,hx,mul_eq (i:=1000003) (j:=k) (.inl (by decide))]
theorem aiz{fe:FE}(he:fe=aG bu (aD 1) (aj (fCal bQ (aCons (fVar 2) (aCons (fCst (.int 26)) aNil))))){C:Ce}{b L j:Nat}{size:Int}(h:Bl L C b (j+3))(h0:0≤size)(h1:size≤3):
  ∃(cs:List Nat)(C':Ce),jP .one gw fe [some (.im (.str abc)),some (.ce b)] (gK 0 size.toNat) C=some ((cs.map fun c=>.str ⟨#[c]⟩),C')∧cs.length=size.toNat∧(∀c∈cs,97≤c∧c≤122)∧Bl L C' b j:=by
 subst he;refine hide fun GG gg=>?_
 obtain⟨ys,C',e,hB,hl,hr⟩:=WW (T:=.one) (fe:=aG bu (aD 1) (aj (fCal bQ (aCons (fVar 2) (aCons (fCst (.int 26)) aNil))))) (fs:=[some (.im (.str abc)),some (.ce b)]) (fun i C1=>Bl L C1 b (j+(3-i))) (fun _ y=>∃c:Nat,y=.str ⟨#[c]⟩∧97≤c∧c≤122) (its:=gK 0 size.toNat) (C:=C) (k:=0) h (fun i d C1 hd hB=>by
  obtain⟨rfl,hi⟩:=Bv hd
  rw[FP] at hB⊢;rw[ajJ j (by omega:i<3)] at hB
  obtain⟨k1,C2,e1,a1,b1,iR⟩:=dj (m:=26) hB (by decide) (by decide)
  refine⟨_,.im (.str ⟨#[97+k1.toNat]⟩),[some (.im (.int (0+i))),some (.im (.str abc)),some (.ce b)],C2,.str ⟨#[97+k1.toNat]⟩,rfl,?_,rfl,⟨_,rfl,by omega,by omega⟩,iR⟩
  simp_arith[dw,jo,iC,e1,bu,letters k1 a1 b1])
 rw[G6] at hB hl
 obtain⟨cs,rfl,hcs⟩:∃cs:List Nat,ys=cs.map (fun c=>.str ⟨#[c]⟩)∧∀c∈cs,97≤c∧c≤122:=by
  clear e hl hB gg;induction ys with
  |nil=>exact⟨[],rfl,fun _ m=>(nomatch m)⟩
  |cons y ys ih=>
   obtain⟨c,rfl,c1,c2⟩:=hr 0 y rfl
   obtain⟨cs,rfl,h2⟩:=ih fun i z hz=>hr (i+1) z (by simpa using hz)
   exact⟨c::cs,rfl,fun x hx=>by
    rcases bN.mp hx with rfl|hx
    ·exact⟨c1,c2⟩
    ·exact h2 x hx⟩
 exact gg ⟨cs,C',e,by simpa using hl,hcs,hB.mono (J6 _ _)⟩
theorem Zf{cs:List Nat}(h:cs.length≤100):∃z:Str,Ia (.str (fj "")) (.list (cs.map fun c=>.str ⟨#[c]⟩))=some (.im (.str z))∧z.cps.toList=cs∧z.length=cs.length:=by
 refine⟨Txt.join (fj "") (cs.map fun c=>⟨#[c]⟩),?_,Wl cs,?_⟩
 ·simp only[Ia,VH];refine if_pos ?_;rw[dU,Y7,af0,Nat.mul_zero];unfold LIM;omega
 ·have:=congrArg oG (Wl cs);rw[←this];show _=(Txt.join (fj "") (cs.map fun c=>⟨#[c]⟩)).cps.toList.length;simp;rfl
theorem PL(n:Nat):gK 0 n=(dG n).map fun(i:Nat)=>j8 (i:Int):=by
 unfold gK;refine yg fun i _=>?_
 rw[aem]
theorem af8{C:Ce}(f:Int):jP .one gw Ew [some (.im (.str abc)),some (.im (.int f))] (gK 0 8) C=some ((kW f).map (fun c=>.str ⟨#[c]⟩),C):=by
 rw[PL];have:=q9 (T:=.one) (ft:=gw) (fe:=Ew) (fs:=[some (.im (.str abc)),some (.im (.int f))]) (C:=C) (fun(i:Nat)=>j8 (i:Int)) (fun _=>true) (fun(k:Nat)=>.str ⟨#[97+((f+5*(k:Int))%26).toNat]⟩) (l:=dG 8) fun k _=>by
  have a1:0≤(f+5*(k:Int))%26:=lV _ (by decide);have a2:(f+5*(k:Int))%26<26:=qT _ (by decide)
  refine⟨[.int (k:Int)],rfl,rfl,fun _=>⟨.im (.str ⟨#[97+((f+5*(k:Int))%26).toNat]⟩),[some (.im (.int (k:Int))),some (.im (.str abc)),some (.im (.int f))],?_,rfl⟩⟩
  simp_arith[dw,jo,iC,mul_eq (i:=5) (j:=(k:Int)) (.inl (by decide)),mod_eq (i:=f+5*(k:Int)) (j:=26) (by decide),bu,letters _ a1 a2]
 rw[Ek.mpr fun _ _=>rfl] at this;unfold kW;rw[dU];exact this
theorem ahf{C:Ce}{f s:Int}(s0:0<s)(s1:s≤675)(n:Nat):jP .one gw Eu [some (.im (.str abc)),some (.im (.int f)),some (.im (.int s))] (gK 0 n) C=some (((dG n).map (n1 f s)).map .str,C):=by
 rw[PL];have:=q9 (T:=.one) (ft:=gw) (fe:=Eu) (fs:=[some (.im (.str abc)),some (.im (.int f)),some (.im (.int s))]) (C:=C) (fun(i:Nat)=>j8 (i:Int)) (fun _=>true) (fun(k:Nat)=>.str (n1 f s k)) (l:=dG n) fun k _=>by
  have a1:0≤(f+s*(k:Int))%26:=lV _ (by decide);have a2:(f+s*(k:Int))%26<26:=qT _ (by decide)
  refine⟨[.int (k:Int)],rfl,rfl,fun _=>⟨.im (.str (n1 f s k)),[some (.im (.int (k:Int))),some (.im (.str abc)),some (.im (.int f)),some (.im (.int s))],?_,rfl⟩⟩
  simp_arith[dw,jo,iC,mul_eq (i:=s) (j:=(k:Int)) (.inl (by omega)),mod_eq (i:=f+s*(k:Int)) (j:=26) (by decide),bu,letters _ a1 a2];rfl
 rw[Ek.mpr fun _ _=>rfl] at this;rw[dU];exact this
theorem ahg{C:Ce}{z:Str}(hz:z.length≤8)(n:Nat):jP .one gw J3 [some (.im (.str z)),some (.im (.int (1+(n:Int))))] (gK 0 (8-n)) C=some ((sb z n).map .str,C):=by
 rw[PL];have hl:(z.length≤1000000)=True:=eq_true (by omega);have:=q9 (T:=.one) (ft:=gw) (fe:=J3) (fs:=[some (.im (.str z)),some (.im (.int (1+(n:Int))))]) (C:=C) (fun(i:Nat)=>j8 (i:Int)) (fun _=>true) (fun(k:Nat)=>.str (sl z (n+1) k)) (l:=dG (8-n)) fun k _=>by
  refine⟨[.int (k:Int)],rfl,rfl,fun _=>⟨.im (.str (sl z (n+1) k)),[some (.im (.int (k:Int))),some (.im (.str z)),some (.im (.int (1+(n:Int))))],?_,rfl⟩⟩
  have e:(k:Int)+(1+(n:Int))=(k:Int)+((n+1:Nat):Int):=by omega
  simp_arith[dw,jo,iC,dO,cZ,jK,hl,e];rfl
 rw[Ek.mpr fun _ _=>rfl] at this;unfold sb;rw[dU];exact this
theorem Q6{x y:Str}(h:x.length+y.length≤1000000):bL (.str x) (.str y)=some (.im (.str (x++y))):=if_pos h
abbrev eY(b:Nat)(m:Int)(hd tl:Str)(f s:Int)(v7 v8 v9 v10 v11 bV:Option Vl):En:=
 [some (.ce b),some (.im (.int m)),some (.im (.str abc)),some (.im (.str hd)),some (.im (.str tl)),some (.im (.int f)),some (.im (.int s)),v7,v8,v9,v10,v11,bV]
theorem akD{C:Ce}{b:Nat}{m f s k q:Int}{hd tl:Str}{v7 v8 v9 v11 bV:Option Vl}(k0:0≤k)(k1:k<40)(hq:(k*k+f)%4=q):aG ju (aj (aG bL (aj (aG jc (aD 10) (aD 10))) (aD 5))) (aj (fCst (.int 4))) (eY b m hd tl f s v7 v8 v9 (some (.im (.int k))) v11 bV) C=some (.im (.int q),eY b m hd tl f s v7 v8 v9 (some (.im (.int k))) v11 bV,C):=by
 have m1:jc (.int k) (.int k)=some (.im (.int (k*k))):=mul_eq (.inl (by omega));generalize k*k=kk at m1 hq;have m2:ju (.int (kk+f)) (.int 4)=some (.im (.int ((kk+f)%4))):=mod_eq (by omega);rw[hq] at m2;simp_arith[eY,m1,m2]
theorem akE{C:Ce}{b:Nat}{m f s k q:Int}{hd tl cut:Str}{v7 v8 v9 v11 bV:Option Vl}(k0:0≤k)(k1:k<40)(hq:(k*k+f)%4=q)(ht:tl.length≤3)(hc:Txt.slice tl none (some q)=cut):dO (aD 4) fY (cZ (aj (aG ju (aj (aG bL (aj (aG jc (aD 10) (aD 10))) (aD 5))) (aj (fCst (.int 4)))))) (eY b m hd tl f s v7 v8 v9 (some (.im (.int k))) v11 bV) C=some (.im (.str cut),eY b m hd tl f s v7 v8 v9 (some (.im (.int k))) v11 bV,C):=by
 have e:=akD (C:=C) (b:=b) (m:=m) (s:=s) (hd:=hd) (tl:=tl) (v7:=v7) (v8:=v8) (v9:=v9) (v11:=v11) (bV:=bV) k0 k1 hq;have q1:(tl.length≤1000000)=True:=eq_true (by omega);simp only[eY] at e⊢;simp_arith[dO,fY,cZ,↓e,jK,q1,hc]
theorem ajT{C:Ce}{b:Nat}{m f s k q v:Int}{hd tl cut tw ht nm:Str}{acc:List ao}{v7 v9:Option Vl}(k0:0≤k)(k1:k<40)(hq:(k*k+f)%4=q)(hl:tl.length≤3)(hc:Txt.slice tl none (some q)=cut)(t2:bL (.str hd) (.str tw)=some (.im (.str ht)))(t3:bL (.str ht) (.str cut)=some (.im (.str nm)))(la:(acc.length<1000000)=True):
  lq 8 (aG bL (aj (aG bL (aD 3) (aD 12))) (aj (dO (aD 4) fY (cZ (aj (aG ju (aj (aG bL (aj (aG jc (aD 10) (aD 10))) (aD 5))) (aj (fCst (.int 4))))))))) (eY b m hd tl f s v7 (some (.ow (.list acc))) v9 (some (.im (.int k))) (some (.im (.int v))) (some (.im (.str tw)))) C=some (.nx,eY b m hd tl f s v7 (some (.ow (.list (acc++[.str nm])))) v9 (some (.im (.int k))) (some (.im (.int v))) (some (.im (.str tw))),C):=by
 have e:=akE (C:=C) (b:=b) (m:=m) (s:=s) (hd:=hd) (tl:=tl) (v7:=v7) (v8:=some (.ow (.list acc))) (v9:=v9) (v11:=some (.im (.int v))) (bV:=some (.im (.str tw))) k0 k1 hq hl hc;simp only[eY] at e⊢;simp_arith[lq,nP,t2,↓e,t3,la]
theorem ajU{C:Ce}{b:Nat}{m f s:Int}{hd tl z:Str}{i:Nat}{v10 v11 bV:Option Vl}(hz:z.length=8)(hi:i<8):
  yt (eY b m hd tl f s (some (.im (.str z))) (some (.ow (.list ((subs z i).map .str)))) (some (.im (.int (1+(i:Int))))) v10 v11 bV) C=some (.nx,eY b m hd tl f s (some (.im (.str z))) (some (.ow (.list ((subs z (i+1)).map .str)))) (some (.im (.int (1+(i:Int))))) v10 v11 bV,C):=by
 have e:=ahg (C:=C) (z:=z) (by omega) i;have e1:(9-(1+(i:Int))).toNat=8-i:=by omega
 have l1:(sb z i).length≤8:=by unfold sb;rw[aX,j5];omega
 have l2:(subs z i).length≤64:=by
  unfold subs sb;rw[acH];have:∀n,n≤8→((dG n).map fun a=>((dG (8-a)).map (sl z (a+1))).length).sum≤8*n:=by
   intro n;induction n with
   |zero=>intro _;exact bK _
   |succ n ih=>
    intro h;rw[UT,gU,List.sum_append];have:=ih (by omega);simp only[bY,jq,adQ,List.sum_nil,aX,j5] at this⊢;omega
  have:=this i (by omega);omega
 have q1:((sb z i).length≤1000000)=True:=eq_true (by omega);have q2:((subs z i).length+(sb z i).length≤1000000)=True:=eq_true (by omega);have es:subs z (i+1)=subs z i++sb z i:=by
  unfold subs;rw[UT,List.flatMap_append,List.flatMap_singleton]
 rw[es,gU];simp_arith[yt,eY,Je,nP,gM,vD (m:=9-(1+(i:Int))) (by omega) (by omega),e1,e,q1,q2]
theorem ajV{C:Ce}{b:Nat}{m f s:Int}{hd tl:Str}{i:Nat}{v7 v9 v11 bV:Option Vl}(f0:0≤f)(f1:f<676)(s0:0<s)(s1:s≤675)(hi:i<40)(hh:hd.length≤3)(ht:tl.length≤3):
  ∃w11 w12,yr (eY b m hd tl f s v7 (some (.ow (.list (((dG i).map (n2 hd tl f s fun k=>((k:Int)*k+f)%4)).map .str)))) v9 (some (.im (.int (i:Int)))) v11 bV) C
   =some (.nx,eY b m hd tl f s v7 (some (.ow (.list (((dG (i+1)).map (n2 hd tl f s fun k=>((k:Int)*k+f)%4)).map .str)))) v9 (some (.im (.int (i:Int)))) w11 w12,C):=by
 obtain⟨v,hv⟩:∃v,v2 f s i=v:=⟨_,rfl⟩
 have hv':(f+s*(i:Int))%676=v:=hv;have v0:0≤v:=by rw[←hv];exact lV _ (by decide)
 have v1:v<676:=by rw[←hv];exact qT _ (by decide)
 have a1:0≤v / 26:=ady v0 (by decide);have a2:v / 26<26:=by omega
 have a3:0≤v%26:=lV _ (by decide);have a4:v%26<26:=qT _ (by decide);have t1:bL (.str ⟨#[97+(v / 26).toNat]⟩) (.str ⟨#[97+(v%26).toNat]⟩)=some (.im (.str (two v))):=Q6 (by show 1+1≤1000000;omega);have lt:(two v).length=2:=by
  show((#[97+(v / 26).toNat]:Array Nat)++#[97+(v%26).toNat]).size=2
  rw[Uc];rfl
 have t2:bL (.str hd) (.str (two v))=some (.im (.str (hd++two v))):=Q6 (by rw[lt];omega);have l3:=PyProof.Txt.length_slice_le tl none (some (((i:Int)*i+f)%4));have l4:(hd++two v).length=hd.length+2:=by
  show(hd.cps++(two v).cps).size=hd.cps.size+2
  rw[Uc,show(two v).cps.size=2 from lt]
 have t3:bL (.str (hd++two v)) (.str (Txt.slice tl none (some (((i:Int)*i+f)%4))))=some (.im (.str (n2 hd tl f s (fun k=>((k:Int)*k+f)%4) i))):=by
  unfold n2;rw[hv];exact Q6 (by rw[l4];omega)
 have q1:(tl.length≤1000000)=True:=eq_true (by omega);have q2:(i<1000000)=True:=eq_true (by omega)
 obtain⟨acc,hacc⟩:∃acc,acc=((dG i).map (n2 hd tl f s fun k=>((k:Int)*k+f)%4)).map cU:=⟨_,rfl⟩
 have la:(acc.length<1000000)=True:=eq_true (by rw[hacc,aX,aX,j5];omega);have hn:((dG (i+1)).map (n2 hd tl f s fun k=>((k:Int)*k+f)%4)).map cU=acc++[.str (n2 hd tl f s (fun k=>((k:Int)*k+f)%4) i)]:=by
  rw[UT,gU,gU,hacc];rfl
 rw[hn,←hacc];clear hn hacc;generalize n2 hd tl f s (fun k=>((k:Int)*k+f)%4) i=nm at t3⊢
 obtain⟨cut,Rt⟩:∃c,Txt.slice tl none (some (((i:Int)*i+f)%4))=c:=⟨_,rfl⟩
 rw[Rt] at t3;have s1:fSet 11 (aG ju (aj (aG bL (aD 5) (aj (aG jc (aD 6) (aD 10))))) (aj (fCst (.int 676)))) (eY b m hd tl f s v7 (some (.ow (.list acc))) v9 (some (.im (.int (i:Int)))) v11 bV) C=some (.nx,eY b m hd tl f s v7 (some (.ow (.list acc))) v9 (some (.im (.int (i:Int)))) (some (.im (.int v))) bV,C):=by
  simp_arith[eY,mul_eq (i:=s) (j:=(i:Int)) (.inl (by omega)),mod_eq (i:=f+s*(i:Int)) (j:=676) (by omega),hv']
 have s2:fSet 12 (aG bL (aj (aG bu (aD 2) (aj (aG uW (aD 11) (aj (fCst (.int 26))))))) (aj (aG bu (aD 2) (aj (aG ju (aD 11) (aj (fCst (.int 26)))))))) (eY b m hd tl f s v7 (some (.ow (.list acc))) v9 (some (.im (.int (i:Int)))) (some (.im (.int v))) bV) C=some (.nx,eY b m hd tl f s v7 (some (.ow (.list acc))) v9 (some (.im (.int (i:Int)))) (some (.im (.int v))) (some (.im (.str (two v)))),C):=by
  simp_arith[eY,fdiv_eq (i:=v) (j:=26) (by omega) (by omega),mod_eq (i:=v) (j:=26) (by omega),bu,letters _ a1 a2,letters _ a3 a4,t1]
 obtain⟨q,hq⟩:∃q,((i:Int)*(i:Int)+f)%4=q:=⟨_,rfl⟩
 rw[hq] at Rt;have s3:=ajT (C:=C) (b:=b) (m:=m) (s:=s) (v:=v) (v7:=v7) (v9:=v9) (by omega) (by omega) hq ht Rt t2 t3 la
 refine⟨some (.im (.int v)),some (.im (.str (two v))),?_⟩
 unfold yr;simp only[fSeq,s1,s2,s3]
theorem Zg{fe:FE}(he:fe=aG bu (aD 1) (aj (fCal bQ (aCons (fVar 2) (aCons (fCst (.int 26)) aNil))))){C:Ce}{b L j:Nat}{v1 v3 v4 v5 v6 v7 v8 v9 v10 v11 bV:Option Vl}(h:Bl L C b (j+4)):
  ∃(z:Str)(C':Ce),qw (aj (fCst (.str (fj "")))) (aj (fLC (gM (aj (fCal bQ (aCons (fVar 0) (aCons (fCst (.int 4)) aNil))))) .one gw fe [2,0])) [some (.ce b),v1,some (.im (.str abc)),v3,v4,v5,v6,v7,v8,v9,v10,v11,bV] C=some (.im (.str z),[some (.ce b),v1,some (.im (.str abc)),v3,v4,v5,v6,v7,v8,v9,v10,v11,bV],C')∧z.length≤3∧(∀c∈z.cps.toList,97≤c∧c≤122)∧Bl L C' b j:=by
 refine hide fun GG gg=>?_
 obtain⟨k1,C1,e1,a1,b1,iR⟩:=dj (m:=4) h (by decide) (by decide)
 obtain⟨cs,C2,e2,l2,hc,hB2⟩:=aiz he (j:=j) (size:=k1) iR a1 (by omega)
 obtain⟨z,e3,e4,e5⟩:=Zf (cs:=cs) (by omega)
 have g5:(k1.toNat≤1000000)=True:=eq_true (by omega);refine gg ⟨z,C2,?_,by omega,by rw[e4];exact hc,hB2⟩;simp_arith[qw,gM,e1,vD (m:=k1) (by omega) (by omega),e2,l2,g5,Mh,e3]
theorem ajW{C:Ce}{b L j:Nat}{m:Int}(R:FS)(h:Bl L C b (j+10)):
  ∃(hd tl:Str)(f s:Int)(C':Ce),(fSeq (fSet 2 (fCst (.str (fj "abcdefghijklmnopqrstuvwxyz")))) (fSeq (fSet 3 (qw (aj (fCst (.str (fj "")))) (aj (fLC (gM (aj (fCal bQ (aCons (fVar 0) (aCons (fCst (.int 4)) aNil))))) .one gw J5 [2,0])))) (fSeq (fSet 4 (qw (aj (fCst (.str (fj "")))) (aj (fLC (gM (aj (fCal bQ (aCons (fVar 0) (aCons (fCst (.int 4)) aNil))))) .one gw J4 [2,0])))) (fSeq (fPar [5,6] (oCons (fCal bQ (aCons (fVar 0) (aCons (fCst (.int 676)) aNil))) (oCons (aG bu (aj (fLst (aCons (fCst (.int 1)) (aCons (fCst (.int 3)) (aCons (fCst (.int 5)) (aCons (fCst (.int 7)) (aCons (fCst (.int 25)) (aCons (fCst (.int 675)) aNil)))))))) (aj (fCal bQ (aCons (fVar 0) (aCons (fCst (.int 6)) aNil))))) aNil))) R)))) [some (.ce b),some (.im (.int m)),none,none,none,none,none,none,none,none,none,none,none] C
   =R (eY b m hd tl f s none none none none none none) C'∧hd.length≤3∧tl.length≤3∧(∀c∈hd.cps.toList,97≤c∧c≤122)∧(∀c∈tl.cps.toList,97≤c∧c≤122)∧0≤f∧f<676∧CV s∧Bl L C' b j:=by
 refine hide fun GG gg=>?_
 obtain⟨hd,C1,e1,l1,c1,iR⟩:=Zg (fe:=J5) rfl (j:=j+6) (v1:=some (.im (.int m))) (v3:=none) (v4:=none) (v5:=none) (v6:=none) (v7:=none) (v8:=none) (v9:=none) (v10:=none) (v11:=none) (bV:=none) h
 obtain⟨tl,C2,e2,l2,c2,hB2⟩:=Zg (fe:=J4) rfl (j:=j+2) (v1:=some (.im (.int m))) (v3:=some (.im (.str hd))) (v4:=none) (v5:=none) (v6:=none) (v7:=none) (v8:=none) (v9:=none) (v10:=none) (v11:=none) (bV:=none) iR
 obtain⟨f,C3,e3,f0,f1,hB3⟩:=dj (m:=676) hB2 (by decide) (by decide)
 obtain⟨k,C4,e4,k0,k1,sG⟩:=dj (m:=6) hB3 (by decide) (by decide)
 obtain⟨s,e5,hs⟩:=step_at k0 k1
 refine gg ⟨hd,tl,f,s,C4,?_,l1,l2,c1,c2,f0,f1,hs,sG⟩;simp_arith[↓e1,↓e2,e3,e4,e5]
section
variable{C:Ce}{b:Nat}{m f s:Int}{hd tl:Str}
theorem ald{v10 v11 bV:Option Vl}(z:Str)(hz:z.length=8)(v9:Option Vl):∃w9,iK (gNm 9) yt (gK 1 8) (eY b m hd tl f s (some (.im (.str z))) (some (.ow (.list []))) v9 v10 v11 bV) C=some (.nx,eY b m hd tl f s (some (.im (.str z))) (some (.ow (.list ((subs z 8).map .str)))) w9 v10 v11 bV,C):=by
 obtain⟨env',C',e,w9,he,hC⟩:=yN (g:=gNm 9) (body:=yt) (its:=gK 1 8) (env:=eY b m hd tl f s (some (.im (.str z))) (some (.ow (.list []))) v9 v10 v11 bV) (C:=C)
  (fun i env C1=>∃w9,env=eY b m hd tl f s (some (.im (.str z))) (some (.ow (.list ((subs z i).map .str)))) w9 v10 v11 bV∧C1=C) ⟨v9,rfl,rfl⟩ (fun i d env C1 hd hI=>by
   obtain⟨w9,rfl,rfl⟩:=hI
   obtain⟨rfl,hi⟩:=Bv hd
   exact⟨_,.nx,_,C1,rfl,ajU hz hi,.inl rfl,_,rfl,rfl⟩)
 rw[G6] at he;subst he;subst hC
 exact⟨w9,e⟩
theorem ale{v7 v9 v11 bV:Option Vl}{n:Nat}(hn:n≤30)(f0:0≤f)(f1:f<676)(hs:CV s)(hh:hd.length≤3)(ht:tl.length≤3)(v10:Option Vl):
  ∃w10 w11 w12,iK (gNm 10) yr (gK 0 n) (eY b m hd tl f s v7 (some (.ow (.list []))) v9 v10 v11 bV) C=some (.nx,eY b m hd tl f s v7 (some (.ow (.list (((dG n).map (n2 hd tl f s fun k=>((k:Int)*k+f)%4)).map .str)))) v9 w10 w11 w12,C):=by
 obtain⟨env',C',e,w10,w11,w12,he,hC⟩:=yN (g:=gNm 10) (body:=yr) (its:=gK 0 n) (env:=eY b m hd tl f s v7 (some (.ow (.list []))) v9 v10 v11 bV) (C:=C)
  (fun i env C1=>∃w10 w11 w12,env=eY b m hd tl f s v7 (some (.ow (.list (((dG i).map (n2 hd tl f s fun k=>((k:Int)*k+f)%4)).map .str)))) v9 w10 w11 w12∧C1=C) ⟨v10,v11,bV,rfl,rfl⟩ (fun i d env C1 hd' hI=>by
   obtain⟨w10,w11,w12,rfl,rfl⟩:=hI
   obtain⟨rfl,hi⟩:=Bv hd'
   rw[aem]
   obtain⟨u11,u12,e⟩:=ajV (C:=C1) (b:=b) (m:=m) (v7:=v7) (v9:=v9) (v11:=w11) (bV:=w12) (i:=i) f0 f1 hs.1.1 hs.1.2 (by omega) hh ht
   exact⟨_,.nx,_,C1,rfl,e,.inl rfl,_,u11,u12,rfl,rfl⟩)
 rw[G6] at he;subst he;subst hC
 exact⟨w10,w11,w12,e⟩
end
theorem Qz{zs:List Str}{m:Int}(m0:0≤m)(m1:m≤zs.length):jG (zs.map cU) none (some m)=(zs.take m.toNat).map .str:=by
 obtain⟨k,rfl⟩:∃k:Nat,m=(k:Int):=⟨m.toNat,by omega⟩
 unfold jG;rw[aX,HT.G9,show HT.bR zs.length 0 none=0 from rfl,List.drop_zero,Nat.sub_zero,Vv,Ab,UW (by omega)]
theorem ahh{C:Ce}{b L j:Nat}{m:Int}(h:Bl L C b (j+12))(m0:0≤m)(m1:m≤30):
  ∃(zs:List Str)(C':Ce),Fq [.ce b,.im (.int m)] C=some (.ow (.list (zs.map .str)),C')∧Names zs∧zs.length=m.toNat∧Bl L C' b j:=by
 refine hide fun GG gg=>?_
 obtain⟨R,hR⟩:∃R:FS,R=fSeq (jk (fTst (aG lK (aj (fCal bQ (aCons (fVar 0) (aCons (fCst (.int 4)) aNil)))) (aj (fCst (.int 0))))) (fSeq (fPar [7,8] (oCons (qw (aj (fCst (.str (fj "")))) (aj (fLC (gM (aj (fCst (.int 8)))) .one gw Ew [2,5]))) (oCons (fLst aNil) aNil))) (fSeq (fQ (Dh (aj (fCst (.int 1))) (aj (fCst (.int 9)))) (gNm 9) yt) (fRet (dO (aD 8) fY (cZ (aD 1)))))) fNext) (fSeq (jk (kJ (fTst (aG ue (aD 1) (aj (fCst (.int 27))))) (fTst (aG lK (aj (fCal bQ (aCons (fVar 0) (aCons (fCst (.int 3)) aNil)))) (aj (fCst (.int 0)))))) (fRet (fLC (gM (aD 1)) .one gw Eu [2,5,6])) fNext) (fSeq (fSet 8 (fLst aNil)) (fSeq (fQ (gM (aD 1)) (gNm 10) yr) (fRetV 8)))):=⟨_,rfl⟩
 obtain⟨hd,tl,f,s,C1,e1,l1,l2,c1,c2,f0,f1,hs,iR⟩:=ajW (m:=m) (j:=j+2) R h
 rw[hR] at e1
 obtain⟨k,C2,e2,a2,b2,hB2⟩:=dj (m:=4) iR (by decide) (by decide)
 by_cases hk:k=0
 ·subst hk
  obtain⟨z,e3,e4,e5⟩:=Zf (cs:=kW f) (by simp[kW])
  have hz:z.length=8:=by rw[e5];simp[kW]
  have st:=af8 (C:=C2) f
  obtain⟨w9,e6⟩:=ald (C:=C2) (b:=b) (m:=m) (f:=f) (s:=s) (hd:=hd) (tl:=tl) (v10:=none) (v11:=none) (bV:=none) z hz none
  have ct:=Qz (zs:=subs z 8) m0 (by rw[X7];omega);have nm:=ae7 e4;have q:((kW f).length≤1000000)=True:=eq_true (by simp[kW]);refine gg ⟨(subs z 8).take m.toNat,C2,fX [some (.ce b),some (.im (.int m)),none,none,none,none,none,none,none,none,none,none,none] rfl rfl ?_ rfl (h.eq hB2),⟨nm.1.sublist (Er _ _),fun x hx=>nm.2 x (uA hx)⟩,by rw[mV,X7];omega,hB2.mono (by omega)⟩;unfold Am;rw[e1];have i8:Int.toNat 8=8:=rfl;have i9:Int.toNat (9-1)=8:=rfl;have rg2:(-(2^62)≤(1:Int)∧(1:Int)<2^62∧-(2^62)≤(9:Int)∧(9:Int)<2^62)=True:=eq_true (by decide);simp only[eY] at e6;simp_arith[eY,e2,qw,gM,vD (m:=(8:Int)) (by decide) (by decide),i8,st,q,Mh,e3,Dh,rg2,i9,fQ,e6,dO,fY,cZ,jK,ct]
 ·have hk':(k==0)=false:=beq_eq_false_iff_ne.mpr hk;have fin:∀C3,Bl L C3 b j→kJ (fTst (aG ue (aD 1) (aj (fCst (.int 27))))) (fTst (aG lK (aj (fCal bQ (aCons (fVar 0) (aCons (fCst (.int 3)) aNil)))) (aj (fCst (.int 0))))) (eY b m hd tl f s none none none none none none) C2=some (false,C3)→GG:=fun C3 hB3 ht=>by
   obtain⟨w10,w11,w12,e7⟩:=ale (C:=C3) (b:=b) (m:=m) (v7:=none) (v9:=none) (v11:=none) (bV:=none) (n:=m.toNat) (by omega) f0 f1 hs l1 l2 none
   refine gg ⟨_,C3,fX [some (.ce b),some (.im (.int m)),none,none,none,none,none,none,none,none,none,none,none] rfl rfl ?_ rfl (h.eq hB3),ag4 (f:=f) (q:=fun k=>((k:Int)*k+f)%4) (n:=m.toNat) hs (by omega) l1 l2 c1 c2,by rw[aX,j5],hB3⟩;unfold Am;rw[e1];simp only[eY] at e7 ht;simp_arith[eY,e2,hk',↓ht,fQ,gM,vD (m:=m) (by omega) (by omega),e7]
  by_cases Sw:m<27
  ·obtain⟨k6,C3,e3,a3,b3,hB3⟩:=dj (m:=3) hB2 (by decide) (by decide)
   by_cases hk6:k6=0
   ·subst hk6;have lc:=ahf (C:=C3) (f:=f) (s:=s) hs.1.1 hs.1.2 m.toNat;have q:(m.toNat≤1000000)=True:=eq_true (by omega);refine gg ⟨_,C3,fX [some (.ce b),some (.im (.int m)),none,none,none,none,none,none,none,none,none,none,none] rfl rfl ?_ rfl (h.eq hB3),ag3 (f:=f) (n:=m.toNat) hs (by omega),by rw[aX,j5],hB3⟩;unfold Am;rw[e1];simp_arith[eY,e2,hk',Sw,e3,gM,vD (m:=m) (by omega) (by omega),lc,j5,q]
   ·have alf:(k6==0)=false:=beq_eq_false_iff_ne.mpr hk6;exact fin C3 hB3 (by simp_arith[eY,Sw,e3,alf])
  ·exact fin C2 hB2.dec (by simp_arith[eY,Sw])
theorem af9{C:Ce}{b L j:Nat}{zs:List Str}(h:Bl L C b (j+16))(h8:zs.length≤8)(hz:Names zs):
  ∃(ps:List (Str×Str))(C':Ce),Ft [.ce b,.im (.list (zs.map .str))] C=some (.ow (.dict (aR (bz ps))),C')∧gn zs ps∧ps.length=zs.length∧Bl L C' b j:=by
 refine hide fun GG gg=>?_
 obtain⟨env',C',e,ps,v3,v4,he,hl,hP,hB⟩:=yN (g:=gTp 2 (gsCons (gNm 3) (gsCons (gNm 4) gsNil))) (body:=Af) (its:=xm (zs.map .str)) (env:=[some (.ce b),some (.im (.list (zs.map .str))),some (.ow (.dict [])),none,none]) (C:=C)
  (fun i env C2=>∃(ps:List (Str×Str))(v3 v4:Option Vl),env=[some (.ce b),some (.im (.list (zs.map .str))),some (.ow (.dict (aR (bz ps)))),v3,v4]∧ps.length=i∧gn zs ps∧Bl L C2 b (j+2*(8-i)))
  ⟨[],none,none,rfl,rfl,(fun i x e=>by simp at e),h⟩ (fun i d env C2 hd hI=>by
   obtain⟨ps,v3,v4,rfl,hl,hP,hB⟩:=hI
   obtain⟨x,hx,rfl⟩:=X3 hd
   obtain⟨z,hz1,rfl⟩:=ajI hx
   refine hide fun GG gg=>?_
   have hi:i<zs.length:=(jf.mp hz1).1;rw[QZ j 2 (by omega:i<8)] at hB
   obtain⟨k1,C3,e1,a1,b1,iR⟩:=dj (m:=4) hB (by decide) (by decide)
   have ct:=Qz (zs:=zs) (m:=(i:Int)) (by omega) (by omega);rw[Ab] at ct;have ad:bL (.list [.str (fj "")]) (.list ((zs.take i).map .str))=some (.ow (.list (cU (fj "")::(zs.take i).map .str))):=add_l (xs:=[.str (fj "")]) (by rw[aX,mV];show 1+_≤_;omega);have g:((aR (bz ps)).length<1000000)=True:=eq_true (by unfold aR bz;rw[aX,aX];omega);have fin:∀(t:Int)(C4:Ce),0≤t→t≤i→Bl L C4 b (j+2*(8-(i+1)))→(∀y:Str,dJ (cU (fj "")::(zs.take i).map .str) t=some (.str y)→putD (aR (bz ps)) (.str z) (.str y)=some (aR (bz (ps++[(z,y)])))→
     Af [some (.ce b),some (.im (.list (zs.map .str))),some (.ow (.dict (aR (bz ps)))),some (.im (.int (i:Int))),some (.im (.str z))] C2=some (.nx,[some (.ce b),some (.im (.list (zs.map .str))),some (.ow (.dict (aR (bz (ps++[(z,y)]))))),some (.im (.int (i:Int))),some (.im (.str z))],C4))→GG:=fun t C4 t0 t1 hB2 run=>by
    obtain⟨y,my,hy1,iy⟩:=rC (zs:=fj ""::zs.take i) (k:=t) t0 (by rw[cR,mV];omega)
    have hy2:y=fj ""∨∃j,j<ps.length∧zs[j]?=some y:=by
     rcases bN.mp my with rfl|my
     ·exact .inl rfl
     ·obtain⟨jj,hj,e⟩:=vV my
      rw[mV] at hj;refine .inr ⟨jj,by omega,?_⟩;rw[ac0] at e;rw[←e];exact jg (by omega)
    have pu:putD (aR (bz ps)) (.str z) (.str y)=some (aR (bz (ps++[(z,y)]))):=by
     rw[Od (l:=bz ps) (z:=z) (d:=.str y)]
     ·unfold bz;rw[gU];rfl
     ·unfold bz;rw[dU];intro hm
      obtain⟨q,hq,e⟩:=dW.mp hm
      obtain⟨jj,hj,rfl⟩:=vV hq
      have g1:=(hP jj ps[jj] (jg hj)).1;have e:ps[jj].1=z:=e;rw[e] at g1
      obtain⟨x1,y1⟩:=jf.mp g1
      obtain⟨x2,y2⟩:=jf.mp hz1
      exact Ec.mp hz.1 jj i x1 x2 (by omega) (y1.trans y2.symm)
    rw[bY] at iy;exact gg ⟨_,.nx,_,C4,rfl,run y iy pu,.inl rfl,ps++[(z,y)],_,_,rfl,by simp[hl],hP.snoc (by rw[hl];exact hz1) hy2,hB2⟩
   by_cases hk:0<k1
   ·obtain⟨t,C4,e3,t0,t1,hB2⟩:=dj (m:=(i:Int)+1) iR (by omega) (by omega)
    exact fin t C4 t0 (by omega) hB2 fun y iy pu=>by simp_arith[Af,dO,fY,cZ,jK,ct,ad,e1,hk,e3,iy,nZ,qt,pu,g]
   ·exact fin 0 C3 (by omega) (by omega) iR.dec fun y iy pu=>by simp_arith[Af,dO,fY,cZ,jK,ct,ad,e1,hk,iy,nZ,qt,pu,g])
 rw[W2,aX] at hl hB;subst he;refine gg ⟨ps,C',fX [some (.ce b),some (.im (.list (zs.map .str))),none,none,none] rfl rfl ?_ rfl (h.eq hB),hP,hl,hB.mono (J6 _ _)⟩;simp_arith[KQ,Cj,fQ,Jy,e]
theorem ahi{C:Ce}{ps:List (Str×Str)}:∀{z:Str}{os:List Str},Over (gF ps) z os→∀(n:Nat)(acc:List Str),os.length<n→acc.length+os.length<1000→
  ∃z',iY Ur Us n [some (.im (.dict (aR (bz ps)))),some (.im (.str z)),some (.ow (.list (acc.map .str)))] C=some (.nx,[some (.im (.dict (aR (bz ps)))),some (.im (.str z')),some (.ow (.list ((acc++os).map .str)))],C):=by
 have hin:∀z,jd (.str z) (.dict (aR (bz ps)))=some (.im (.bool (gF ps z).isSome)):=fun z=>by
  show((mC (aR (bz ps)) (.str z)).map (·.isSome)).map (fun b=>Vl.im (.bool b))=_
  rw[G8];cases gF ps z<;>rfl
 intro z os ho;induction ho with
 |@stop z h=>
  intro n acc hn ha;cases n with
  |zero=>exact absurd hn (vZ _)
  |succ n=>
   refine⟨z,?_⟩
   unfold iY;simp_arith[hin,h,T6,j6]
 |@step z y r h _ ih=>
  intro n acc hn ha;cases n with
  |zero=>exact absurd hn (vZ _)
  |succ n=>
   rw[cR] at hn ha
   obtain⟨z',e⟩:=ih n (acc++[z]) (by omega) (by rw[fP];show acc.length+1+_<_;omega)
   refine⟨z',?_⟩
   have g:(acc.length<1000000)=True:=eq_true (by omega);have i:bu (.dict (aR (bz ps))) (.str z)=some (.im (.str y)):=by
    unfold bu sE;simp only[G8,h,jW]
   simp only[gU,bY,jq,j4,jo,iC] at e⊢;unfold iY;simp_arith[hin,h,Aa,g,lq,nP,i,e]
theorem Yc{C:Ce}{zs:List Str}{ps:List (Str×Str)}(hN:Names zs)(hP:gn zs ps)(h8:ps.length≤8)(z:Str):
  yE [.im (.dict (aR (bz ps))),.im (.str z)] C=some (.ow (.list ((up ps z).map .str)),C):=by
 have hul:=Qp ps z
 obtain⟨z',e⟩:=ahi (C:=C) (Pn hN hP z) zF [] (by show _<100000;omega) (by show 0+_<1000;omega)
 rw[jq,iC] at e;refine fX [some (.im (.dict (aR (bz ps)))),some (.im (.str z)),none] rfl rfl ?_ rfl rfl;simp_arith[KR,qK,e]
theorem aga{C:Ce}{b L j:Nat}{m:Int}(h:Bl L C b (j+101))(h0:0≤m)(h1:m≤50):
  ∃(ns:List Int)(C':Ce),GF [.ce b,.im (.int m)] C=some (.ow (.list (ns.map .int)),C')∧ns.length=m.toNat∧(∀x∈ns,0≤x∧x≤2000)∧ns.Pairwise (·<·)∧Bl L C' b j:=by
 refine hide fun GG gg=>?_
 obtain⟨k0,C0,e0,a0,b0,hB0⟩:=dj (m:=3) (k:=j+100) h (by decide) (by decide)
 obtain⟨env',C',e,ns,nx,v4,he,hl,hr,hp,hx0,hx1,hB⟩:=yN (g:=gNm 4) (body:=La) (its:=gK 0 m.toNat) (env:=[some (.ce b),some (.im (.int m)),some (.ow (.list [])),some (.im (.int k0)),none]) (C:=C0)
  (fun i env C1=>∃(ns:List Int)(nx:Int)(v4:Option Vl),env=[some (.ce b),some (.im (.int m)),some (.ow (.list (ns.map .int))),some (.im (.int nx)),v4]∧ns.length=i∧(∀x∈ns,0≤x∧x<nx)∧ns.Pairwise (·<·)∧0≤nx∧nx≤2+3*i∧Bl L C1 b (j+2*(50-i)))
  ⟨[],k0,none,rfl,rfl,(fun _ m=>nomatch m),yj,a0,by omega,hB0⟩ (fun i d env C1 hd hI=>by
   obtain⟨ns,nx,v4,rfl,hl,hr,hp,hx0,hx1,hB⟩:=hI
   obtain⟨rfl,hi⟩:=Bv hd
   refine hide fun GG gg=>?_
   rw[QZ j 2 (by omega:i<50)] at hB
   obtain⟨k1,C2,e1,a1,b1,iR⟩:=dj (m:=2) hB (by decide) (by decide)
   obtain⟨k2,C3,e2,a2,b2,hB2⟩:=dj (m:=3) iR (by decide) (by decide)
   obtain⟨y,hy,y0,y2⟩:∃y,k1*k2=y∧0≤y∧y≤2:=by
    have hk:k1=0∨k1=1:=by omega
    rcases hk with rfl|rfl
    ·exact⟨0,by rw[Int.zero_mul],by decide,by decide⟩
    ·exact⟨k2,by rw[Int.one_mul],a2,by omega⟩
   have lm:(ns.length<1000000)=True:=eq_true (by omega);refine gg ⟨_,.nx,[some (.ce b),some (.im (.int m)),some (.ow (.list ((ns++[nx]).map .int))),some (.im (.int (nx+1+y))),some (.im (.int (0+i)))],C3,rfl,?_,.inl rfl,ns++[nx],nx+1+y,_,rfl,by simp[hl],fun x hx=>?_,?_,by omega,by omega,hB2⟩
   ·simp_arith[La,e1,e2,mul_eq (i:=k1) (j:=k2) (.inl (by omega)),hy,lq,nP,lm,gU]
   ·rcases cL.mp hx with hx|hx
    ·have:=hr x hx;omega
    ·rw[jn.mp hx];omega
   ·rw[JT]
    refine⟨hp,by simp,fun x hx z hz=>?_⟩
    rw[jn.mp hz]
    exact(hr x hx).2)
 rw[G6] at hl hx1 hB;subst he;refine gg ⟨ns,C',fX [some (.ce b),some (.im (.int m)),none,none,none] rfl rfl ?_ rfl (h.eq hB),hl,fun x hx=>?_,hp,hB.mono (J6 _ _)⟩
 ·simp_arith[M7,e0,fQ,gM,vD (m:=m) (by omega) (by omega),e]
 ·have:=hr x hx;omega
theorem Yd{C:Ce}:∀(l q:List (Str×Str)),((q++l).map (·.1)).Nodup→(q++l).length≤8→vg (.many 2) gw Ka Kc [] (l.map rT) (aR (bz q)) C=some (aR (bz (q++l)),C)
 |[],q,_,_=>by rw[j6];rfl
 |x::l,q,nd,h8=>by
  have ih:=Yd (C:=C) l (q++[x]) (by rw[j4];exact nd) (by rw[j4];exact h8);have hx:x.1∉(bz q).map (·.1):=by
   unfold bz;rw[dU];show x.1∉q.map (·.1);rw[gU,jV] at nd;exact fun hm=>nd.2.2 _ hm _ dR rfl
  have hl:(aR (bz q)).length<LIM:=by
   unfold aR bz;rw[fP] at h8;rw[aX,aX];show _<1000000;omega
  rw[bY];unfold vg;rw[show xX (.many 2) (rT x)=some [.str x.1,.str x.2] from rfl]
  show(if(aR (bz q)).length<LIM then vg (.many 2) gw Ka Kc [] (l.map rT) (mK cQ (.inr x.1) (.str x.1) (.str x.2) (aR (bz q))) C else none)=_
  rw[if_pos hl,XR hx];have e:bz q++[(x.1,.str x.2)]=bz (q++[x]):=by unfold bz;rw[gU];rfl
  rw[e,ih,j4];rfl
theorem aiA{C:Ce}{hs:Option Vl}{q ps:List (Str×Str)}(hl:∀z,gF q z=gF ps z):∀{z:Str}{os:List Str},Over (gF ps) z os→∀(n:Nat)(acc:List Str),os.length<n→acc.length+os.length<1000→
  ∃z',iY Uz UG n [hs,some (.im (.str z)),some (.ow (.dict (aR (bz q)))),some (.ow (.list (acc.map .str)))] C=some (.nx,[hs,some (.im (.str z')),some (.ow (.dict (aR (bz q)))),some (.ow (.list ((acc++os).map .str)))],C):=by
 have hin:∀z,jd (.str z) (.dict (aR (bz q)))=some (.im (.bool (gF ps z).isSome)):=fun z=>by
  show((mC (aR (bz q)) (.str z)).map (·.isSome)).map (fun b=>Vl.im (.bool b))=_
  rw[G8,hl];cases gF ps z<;>rfl
 intro z os ho;induction ho with
 |@stop z h=>
  intro n acc hn ha;cases n with
  |zero=>exact absurd hn (vZ _)
  |succ n=>
   refine⟨z,?_⟩
   unfold iY;simp_arith[hin,h,T6,j6]
 |@step z y r h _ ih=>
  intro n acc hn ha;cases n with
  |zero=>exact absurd hn (vZ _)
  |succ n=>
   rw[cR] at hn ha
   obtain⟨z',e⟩:=ih n (acc++[z]) (by omega) (by rw[fP];show acc.length+1+_<_;omega)
   refine⟨z',?_⟩
   have g:(acc.length<1000000)=True:=eq_true (by omega);have i:bu (.dict (aR (bz q))) (.str z)=some (.im (.str y)):=by
    unfold bu sE;simp only[G8,hl,h,jW]
   simp only[gU,bY,jq,j4,jo,iC] at e⊢;unfold iY;simp_arith[hin,h,Aa,g,lq,nP,i,e]
theorem adV{C:Ce}{zs:List Str}{ps:List (Str×Str)}{ht:gq}(hN:Names zs)(hP:gn zs ps)(hG:oM zs ps ht)(z:Str):
  Gb [.im (iZ ht),.im (.str z)] C=some (.ow (.list ((up ps z).map .str)),C):=by
 have nd:=Ar hN hP;have nd':(ht.ps.map (·.1)).Nodup:=(hG.parts.map (·.1)).nodup_iff.mpr nd;have hL:ht.ps.length≤8:=by rw[hG.parts.length_eq];exact hG.p8
 have t:=Yd (C:=C) ht.ps [] nd' hL;rw[show aR (bz [])=[] from rfl,iC] at t;have hul:=Qp ps z;have h8:=hG.p8
 obtain⟨z',e⟩:=aiA (C:=C) (hs:=some (.im (iZ ht))) (ae5 hG.parts nd) (Pn hN hP z) zF [] (by show _<100000;omega) (by show 0+_<1000;omega)
 rw[jq,iC] at e;refine fX [some (.im (iZ ht)),some (.im (.str z)),none,none] rfl rfl ?_ rfl rfl;simp_arith[K6,DK,t,XS,qK,e]
theorem HF{C:Ce}{z a1 b1 p:Str}{n:Int}:uJ [.im (.tuple [.str z,.int n,.str a1,.str b1]),.im (.str p)] C=some (.im (.bool (decide (p=a1∨p=b1))),C):=by
 have ct:jG [cU z,.int n,.str a1,.str b1] (some 2) (some 4)=[.str a1,.str b1]:=rfl;have i1:jd (.str p) (.tuple [.str a1,.str b1])=some (.im (.bool (decide (p=a1∨p=b1)))):=by
  have:inB (.str p) (.tuple [.str a1,.str b1])=some (inD (.str p) ([a1,b1].map .str)):=if_pos (c:=(jt (.str p)&&[cU a1,.str b1].all jt)=true) (e:=none) rfl;unfold jd;rw[this,G7];simp
 refine fX [some (.im (.tuple [.str z,.int n,.str a1,.str b1])),some (.im (.str p))] rfl rfl ?_ rfl rfl;simp_arith[M5,dO,cZ,jK,ct,i1]
def jZ(os:List Str)(n day:Int)(a1 b1:Str)(r:cO):Bool:=decide (r.2.2.2.1∈os)&&((decide (r.2.2.2.2.1≤day)&&decide (day≤r.2.2.2.2.2.1))&&(decide (n≤r.2.2.2.2.2.2)&&(!decide (r.2.1=a1∨r.2.1=b1)&&!decide (r.2.2.1=a1∨r.2.2.1=b1))))
def zT(r:cO):ao:=.tuple [.int r.1,.str r.2.1,.str r.2.2.1]
abbrev dm(z a1 b1:Str)(n:Int):ao:=.tuple [.str z,.int n,.str a1,.str b1]
theorem aiB{C:Ce}{zs:List Str}{ps:List (Str×Str)}{ht:gq}(hN:Names zs)(hP:gn zs ps)(hG:oM zs ps ht)(z a1 b1:Str)(n day:Int):
  Bc [.im (iZ ht),.im (dm z a1 b1 n),.im (.int day)] C=some (.ow (.list ((ht.leaves.filter (jZ (up ps z) n day a1 b1)).map zT)),C):=by
 have p:=adV (C:=C) hN hP hG z;have h16:=hG.lQ
 obtain⟨l,lE⟩:∃l,l=ht.leaves.filter (jZ (up ps z) n day a1 b1):=⟨_,rfl⟩
 have ll:l.length≤16:=by rw[lE];exact jL (Eg _ _) h16
 have t:jP (.many 7) K7 K8 [some (.im (.list ((up ps z).map .str))),some (.im (.int day)),some (.im (dm z a1 b1 n))] (ht.leaves.map cu) C=some (l.map zT,C):=by
  rw[lE];refine q9 (T:=.many 7) (ft:=K7) (fe:=K8) (fs:=[some (.im (.list ((up ps z).map .str))),some (.im (.int day)),some (.im (dm z a1 b1 n))]) (C:=C) cu (jZ (up ps z) n day a1 b1) zT (l:=ht.leaves) fun r _=>?_
  refine⟨[.int r.1,.str r.2.1,.str r.2.2.1,.str r.2.2.2.1,.int r.2.2.2.2.1,.int r.2.2.2.2.2.1,.int r.2.2.2.2.2.2],rfl,?_,fun _=>⟨.im (zT r),[some (.im (.int r.1)),some (.im (.str r.2.1)),some (.im (.str r.2.2.1)),some (.im (.str r.2.2.2.1)),some (.im (.int r.2.2.2.2.1)),some (.im (.int r.2.2.2.2.2.1)),some (.im (.int r.2.2.2.2.2.2)),some (.im (.list ((up ps z).map .str))),some (.im (.int day)),some (.im (dm z a1 b1 n))],by simp_arith[dw,jo,iC];rfl,rfl⟩⟩
  have c:=aay nY nY (aD 4) (aD 8) (aD 5) (env:=[some (.im (.int r.1)),some (.im (.str r.2.1)),some (.im (.str r.2.2.1)),some (.im (.str r.2.2.2.1)),some (.im (.int r.2.2.2.2.1)),some (.im (.int r.2.2.2.2.2.1)),some (.im (.int r.2.2.2.2.2.2)),some (.im (.list ((up ps z).map .str))),some (.im (.int day)),some (.im (dm z a1 b1 n))]) (C:=C) (a:=decide (r.2.2.2.2.1≤day)) (b:=decide (day≤r.2.2.2.2.2.1)) rfl rfl rfl rfl rfl;have s1:=HF (C:=C) (z:=z) (a1:=a1) (b1:=b1) (n:=n) (p:=r.2.1);have s2:=HF (C:=C) (z:=z) (a1:=a1) (b1:=b1) (n:=n) (p:=r.2.2.1);simp_arith[dw,jo,iC,c,s1,s2];unfold jZ;cases decide (r.2.2.2.1∈up ps z)<;>cases decide (r.2.2.2.2.1≤day)<;>cases decide (day≤r.2.2.2.2.2.1)<;>cases decide (n≤r.2.2.2.2.2.2)<;>cases decide (r.2.1=a1∨r.2.1=b1)<;>rfl
 have q:(l.length≤1000000)=True:=eq_true (by omega);have nl:fL (l.map zT)=true:=by
  clear t lE ll q;induction l with
  |nil=>rfl
  |cons r l ih=>show(true&&fL (l.map zT))=true;rw[ih];rfl
 refine fX [some (.im (iZ ht)),some (.im (dm z a1 b1 n)),some (.im (.int day)),none] rfl rfl ?_ rfl rfl;simp_arith[M6,p,t,q,nl];rw[lE]
theorem Cq(p a1 b1:Str):jd (.str p) (.tuple [.str a1,.str b1])=some (.im (.bool (decide (p=a1∨p=b1)))):=by
 have:inB (.str p) (.tuple [.str a1,.str b1])=some (inD (.str p) ([a1,b1].map .str)):=if_pos (c:=(jt (.str p)&&[cU a1,.str b1].all jt)=true) (e:=none) rfl;unfold jd;rw[this,G7];simp
theorem Ws(o:Str)(zs:List Str):uT (.str o) (.list (zs.map .str))=some (.im (.bool (!decide (o∈zs)))):=by
 have:inB (.str o) (.list (zs.map .str))=some (inD (.str o) (zs.map .str)):=if_pos (by rw[MP];rfl);unfold uT;rw[this,G7,jW]
theorem Ye:∀ps:List (Str×Str),Di (aR (bz ps))=some (ps.map fun p=>(.inr p.1,.inr p.2))
 |[]=>rfl
 |p::ps=>by
  show((some (iU p.1):Option Key).bind fun k=>(some (iU p.2):Option Key).bind fun v=>(Di (aR (bz ps))).map fun t=>(k,v)::t)=_
  rw[Ye ps];rfl
theorem aeC(ps:List (Str×Str))(h0:0<ps.length)(h8:ps.length≤8):∃ps':List (Str×Str),ps'.Perm ps∧Qq (aR (bz ps))=some (ps'.map rT):=by
 have em:(aR (bz ps)).map (fun p=>uH [p.1,p.2])=ps.map rT:=by
  unfold aR bz;rw[dU,dU];rfl
 obtain⟨ps',p1,p2⟩:=aeb (afW (ds:=ps.map rT) fun d hd=>by obtain⟨p,_,rfl⟩:=dW.mp hd;rfl)
 refine⟨ps',p1,?_⟩
 unfold Qq;rw[Ye,em];cases ps with
 |nil=>cases h0
 |cons p r=>
  rw[gR,bY,List.head?_cons,gR,if_pos,p2]
  refine⟨by rw[cR,aX];rw[cR] at h8;omega,fun q hq=>?_⟩
  rw[←bY (f:=fun p:Str×Str=>((iU p.1,iU p.2):Key×Key))] at hq
  obtain⟨x,_,rfl⟩:=dW.mp hq
  exact⟨rfl,rfl⟩
theorem aeD{C:Ce}{ps:List (Str×Str)}(h0:0<ps.length)(h8:ps.length≤8)(lv:List cO):∃ps':List (Str×Str),ps'.Perm ps∧Gi [.im (.dict (aR (bz ps))),.im (.list (lv.map cu))] C=some (.im (iZ ⟨ps',[],lv,[]⟩),C):=by
 obtain⟨ps',p1,e⟩:=aeC ps h0 h8
 refine⟨ps',p1,fX [some (.im (.dict (aR (bz ps)))),some (.im (.list (lv.map cu)))] rfl rfl ?_ rfl rfl⟩
 simp_arith[Lw,Pr,Q0,e,Bu];rfl
def stL(st:List (Str×Int)):List (Str×ao):=st.map fun x=>(x.1,.int x.2)
abbrev wD(w:Int×Str×Str):ao:=.tuple [.int w.1,.str w.2.1,.str w.2.2]
theorem PN(st:List (Str×Int))(z:Str):mC (aR (stL st)) (.str z)=some ((eX st z).map .int):=by
 rw[MN];unfold stL eX;rw[U9,Ai,Ai];rfl
theorem Iw(st:List (Str×Int))(z:Str):((eX st z).map j8).isSome=decide (z∈st.map (·.1)):=by
 by_cases h:z∈st.map (·.1)
 ·cases e:eX st z with
  |none=>exact absurd h (oN.mp e)
  |some d=>rw[decide_eq_true h];rfl
 ·rw[oN.mpr h,decide_eq_false h];rfl
theorem aaA(st:List (Str×Int))(z:Str):jd (.str z) (.dict (aR (stL st)))=some (.im (.bool (decide (z∈st.map (·.1))))):=by
 show((mC (aR (stL st)) (.str z)).map (·.isSome)).map (fun b=>Vl.im (.bool b))=_
 rw[PN,jW,Iw];rfl
theorem Ot(st:List (Str×Int))(z:Str):uT (.str z) (.dict (aR (stL st)))=some (.im (.bool (!decide (z∈st.map (·.1))))):=by
 show((mC (aR (stL st)) (.str z)).map (·.isSome)).map (fun b=>Vl.im (.bool (!b)))=_
 rw[PN,jW,Iw];rfl
theorem aaB{st:List (Str×Int)}{z:Str}{d:Int}(h:eX st z=some d):bu (.dict (aR (stL st))) (.str z)=some (.im (.int d)):=by
 unfold bu sE;simp only[PN,h,jW]
theorem Zh{C:Ce}{v0 v1 nw:Option Vl}{k:Int}:∀(new:List Str)(st:List (Str×Int))(v5:Option Vl),(st.map (·.1)++new).Nodup→st.length+new.length≤1000→
  ∃DW,iK (gNm 5) Vq (new.map .str) [v0,v1,some (.ow (.dict (aR (stL st)))),nw,some (.im (.int k)),v5] C=some (.nx,[v0,v1,some (.ow (.dict (aR (stL (st++new.map fun g=>(g,k)))))),nw,some (.im (.int k)),DW],C)
 |[],st,v5,_,_=>⟨v5,by rw[jq,jq,j6];rfl⟩
 |g::new,st,v5,nd,hl=>by
  rw[cR] at hl
  obtain⟨DW,e⟩:=Zh (C:=C) (v0:=v0) (v1:=v1) (nw:=nw) (k:=k) new (st++[(g,k)]) (some (.im (.str g))) (by rw[gU,j4];exact nd) (by rw[fP];show st.length+1+_≤_;omega)
  refine⟨DW,?_⟩
  have hn:g∉(stL st).map (·.1):=by
   unfold stL;rw[dU];exact fun hm=>(jV.mp nd).2.2 _ hm _ dR rfl
  have pu:putD (aR (stL st)) (.str g) (.int k)=some (aR (stL (st++[(g,k)]))):=by
   rw[Od hn];unfold stL;rw[gU];rfl
  have q:((aR (stL st)).length<1000000)=True:=eq_true (by unfold aR stL;rw[aX,aX];omega);rw[j4] at e;rw[bY];unfold iK;simp_arith[nZ,qt,pu,q];exact e
theorem Wt{C:Ce}{ws:List (Int×Str×Str)}{s:Str}(hl:ws.length≤60):∀(n:Nat)(st:List (Str×Int))(new:List Str)(k:Nat)(nv:Vl)(v5:Option Vl),(nv=.ow (.list (new.map .str))∨nv=.im (.list (new.map .str)))→qM ws s st new k→(new=[]→0<n)→(new≠[]→ws.length+2-st.length<n)→
  ∃(st':List (Str×Int))(e':En),iY Vt Vu n [some (.im (.list (ws.map wD))),some (.im (.str s)),some (.ow (.dict (aR (stL st)))),some nv,some (.im (.int k)),v5] C=some (.nx,e',C)∧e'[2]?=some (some (.ow (.dict (aR (stL st')))))∧qN ws s st'
 |0,st,new,k,nv,v5,hv,B,h0,h1=>by
  by_cases h:new=[]
  ·exact absurd (h0 h) (wu _)
  ·exact absurd (h1 h) (vZ _)
 |n+1,st,new,k,nv,v5,hv,B,h0,h1=>by
  by_cases hnew:new=[]
  ·subst hnew
   refine⟨st,[some (.im (.list (ws.map wD))),some (.im (.str s)),some (.ow (.dict (aR (stL st)))),some nv,some (.im (.int k)),v5],?_,rfl,B.done⟩
   unfold iY;rcases hv with rfl|rfl<;>simp_arith[]<;>rfl
  have h1:=h1 hnew;have ht:(new.map cU).isEmpty=false:=by cases new with|nil=>exact absurd rfl hnew|cons _ _=>rfl
  have c:=q9 (T:=.many 3) (ft:=Vr) (fe:=Vs) (fs:=[some (.im (.list (new.map .str))),some (.im (.dict (aR (stL st))))]) (C:=C) wD (fun w=>decide (w.2.2∈new)&&!decide (w.2.1∈st.map (·.1))) (fun w=>.str w.2.1) (l:=ws) fun w _=>by
   refine⟨[.int w.1,.str w.2.1,.str w.2.2],rfl,?_,fun _=>⟨.im (.str w.2.1),_,by simp_arith[dw,jo,iC];rfl,rfl⟩⟩
   simp_arith[dw,jo,iC,Ot];cases decide (w.2.2∈new)<;>rfl
  obtain⟨gs,Sx⟩:∃gs,gs=(ws.filter fun w=>decide (w.2.2∈new)&&!decide (w.2.1∈st.map (·.1))).map (·.2.1):=⟨_,rfl⟩
  have c2:(ws.filter fun w=>decide (w.2.2∈new)&&!decide (w.2.1∈st.map (·.1))).map (fun w=>cU w.2.1)=gs.map .str:=by rw[Sx,dU];rfl
  rw[c2] at c;have gl:gs.length≤60:=by rw[Sx,aX];exact jL (Eg _ _) hl
  have sS:G5 (gs.map .str)=some ((mG strLt (dedup gs)).map .str):=by
   unfold G5;rw[if_pos (by rw[aX];omega),Mg]
  obtain⟨ns,nsE⟩:∃ns,ns=mG strLt (dedup gs):=⟨_,rfl⟩
  rw[←nsE] at sS;have hm:∀g,g∈ns↔∃w∈ws,w.2.2∈new∧w.2.1∉st.map (·.1)∧w.2.1=g:=fun g=>by
   rw[nsE,(wI _).mem_iff,afN,Sx,dW];constructor
   ·rintro⟨w,h1,h2⟩
    obtain⟨h1,h3⟩:=pM.mp h1
    rw[gQ,decide_eq_true_eq,Ub,decide_eq_false_iff_not] at h3
    exact⟨w,h1,h3.1,h3.2,h2⟩
   ·rintro⟨w,h1,h2,h3,h4⟩
    exact⟨w,pM.mpr ⟨h1,by rw[decide_eq_true h2,decide_eq_false h3];rfl⟩,h4⟩
  have hn:ns.Nodup:=by rw[nsE];exact(wI _).nodup_iff.mpr (aex _)
  have B2:=B.step hn hm;have f1:=B.few;have f2:=B2.few;have nd:=B2.nd;rw[gU,dU,show((fun x:Str×Int=>x.1) ∘ fun g=>(g,(k:Int)+1))=id from rfl,Lf] at nd;rw[fP,aX] at f2
  obtain⟨DW,e1⟩:=Zh (C:=C) (v0:=some (.im (.list (ws.map wD)))) (v1:=some (.im (.str s))) (nw:=some (.im (.list (ns.map .str)))) (k:=(k:Int)+1) ns st v5 nd (by omega)
  obtain⟨st',e',e2,e3,e4⟩:=Wt (C:=C) hl n (st++ns.map fun g=>(g,(k:Int)+1)) ns (k+1) (.im (.list (ns.map .str))) DW (.inr rfl) B2 (fun z=>by omega) (fun z=>by
   rw[fP,aX];have:=JV.mpr z;omega)
  refine⟨st',e',?_,e3,e4⟩
  unfold iY;rcases hv with rfl|rfl<;>simp_arith[ht,Jb,DN,↓c,sS,fQ,e1]<;>exact e2
theorem Yg{C:Ce}{ws:List (Int×Str×Str)}{s:Str}(hl:ws.length≤60):∃st:List (Str×Int),Gw [.im (.list (ws.map wD)),.im (.str s)] C=some (.ow (.dict (aR (stL st))),C)∧qN ws s st:=by
 obtain⟨st,e',e1,e2,e3⟩:=Wt (C:=C) hl zF [(s,0)] [s] 0 (.ow (.list [.str s])) none (.inl rfl) (qM.init ws s) (fun z=>nomatch z) (fun _=>by show _+2-1<100000;omega)
 rw[show(((0:Nat):Nat):Int)=0 from rfl] at e1
 refine⟨st,fX [some (.im (.list (ws.map wD))),some (.im (.str s)),none,none,none,none] rfl rfl ?_ rfl rfl,e3⟩
 simp_arith[Mi,zJ,qK,cQ];rw[show[(cU s,j8 0)]=aR (stL [(s,0)]) from rfl];simp only[e1];simp_arith[e2]
def tY(st:List (Str×Int))(d:Int)(p:Str)(w:Int×Str×Str):Bool:=decide (w.2.1=p)&&(decide (w.2.2∈st.map (·.1))&&(eX st w.2.2).any fun e=>decide (e<d))
theorem Nf{st:List (Str×Int)}{d:Int}{p:Str}{w:Int×Str×Str}:tY st d p w=true↔w.2.1=p∧∃e,eX st w.2.2=some e∧e<d:=by
 unfold tY;rw[gQ,gQ,decide_eq_true_eq,decide_eq_true_eq];refine and_congr_right fun _=>⟨fun h=>?_,fun⟨e,h1,h2⟩=>⟨?_,by rw[h1];exact decide_eq_true h2⟩⟩
 ·cases e:eX st w.2.2 with
  |none=>exact absurd h.1 (oN.mp e)
  |some x=>
   have:=h.2;rw[e] at this
   exact⟨x,rfl,of_decide_eq_true this⟩
 ·apply ab5;intro n;rw[oN.mpr n] at h1;cases h1
theorem Zi(bt:Nat→Nat→Bool)(val:Nat→Int)(h1:∀i j,bt i j=true→val i≤val j)(h2:∀i j,bt i j=false→val j≤val i):∀k,kj bt k≤k∧∀i,i≤k→val (kj bt k)≤val i
 |0=>⟨bK _,fun i hi=>by rw[Nat.le_zero.mp hi];exact sZ _⟩
 |k+1=>by
  obtain⟨a,b⟩:=Zi bt val h1 h2 k
  unfold kj;cases e:bt (k+1) (kj bt k) with
  |true=>
   rw[if_pos rfl]
   refine⟨bK _,fun i hi=>?_⟩
   rcases acQ hi with hi|rfl
   ·exact aen (h1 _ _ e) (b i (ac9 hi))
   ·exact sZ _
  |false=>
   rw[if_neg iz]
   refine⟨Ue a,fun i hi=>?_⟩
   rcases acQ hi with hi|rfl
   ·exact b i (ac9 hi)
   ·exact h2 _ _ e
theorem agb(cs:List (Int×Str))(h:cs≠[]):∃c∈cs,Ib [.list (cs.map fun c=>.tuple [.int c.1,.str c.2])]=some (.im (.tuple [.int c.1,.str c.2]))∧∀c'∈cs,c.1≤c'.1:=by
 obtain⟨c0,hc0⟩:∃c0,cs.head?=some c0:=by
  cases cs with
  |nil=>exact absurd rfl h
  |cons c _=>exact⟨c,rfl⟩
 have ek:(cs.map fun c=>uH [.int c.1,.str c.2]).map zH=cs.map fun c=>[jM c.1,iU c.2]:=by
  rw[dU];rfl
 have hd:(cs.map fun c=>([jM c.1,iU c.2]:List Key)).headD []=[jM c0.1,iU c0.2]:=by
  cases cs with
  |nil=>cases hc0
  |cons c _=>cases hc0;rfl
 have gt:∀i,(cs.map fun c=>([jM c.1,iU c.2]:List Key)).getD i [jM c0.1,iU c0.2]=[jM (cs.getD i c0).1,iU (cs.getD i c0).2]:=fun i=>by
  rw[JK,JK,gh];cases cs[i]?<;>rfl
 obtain⟨b1,b2⟩:=Zi (fun i j=>c7 ((cs.map fun c=>([jM c.1,iU c.2]:List Key)).getD i [jM c0.1,iU c0.2]) ((cs.map fun c=>([jM c.1,iU c.2]:List Key)).getD j [jM c0.1,iU c0.2])) (fun i=>(cs.getD i c0).1) (fun i j e=>by
   simp only[gt,c7] at e;split at e
   ·rename_i z;have:=VP z;omega
   ·exact Int.le_of_lt (of_decide_eq_true e)) (fun i j e=>by
   simp only[gt,c7] at e;split at e
   ·rename_i z;have:=VP z;omega
   ·have:=of_decide_eq_false e;omega) (cs.length-1)
 have pos:0<cs.length:=JV.mpr h
 obtain⟨k,hk⟩:∃k,k=CT (cs.map fun c=>([jM c.1,iU c.2]:List Key)):=⟨_,rfl⟩
 have hk':=hk;unfold CT at hk';rw[hd,aX] at hk';rw[←hk'] at b1 b2;have lt:k<cs.length:=by omega
 refine⟨cs[k],yq lt,?_,fun c' hc'=>?_⟩
 ·show Qs (cs.map fun c=>.tuple [.int c.1,.str c.2])=_;unfold Qs;rw[List.head?_map,hc0,ek,←hk,gh,jg lt];refine if_pos fun d hd=>?_
  obtain⟨c,_,rfl⟩:=dW.mp hd
  rfl
 ·obtain⟨i,hi,rfl⟩:=vV hc'
  have:=b2 i (by omega);rw[JK,JK,jg lt,jg hi] at this;exact this
theorem agc{C:Ce}{ws:List (Int×Str×Str)}{st:List (Str×Int)}{p:Str}{d:Int}(hl:ws.length≤60)(hp:eX st p=some d)(hne:∃w∈ws,tY st d p w=true):
  ∃(n:Int)(t:Str),Gd [.im (.list (ws.map wD)),.im (.dict (aR (stL st))),.im (.str p)] C=some (.im (.tuple [.int n,.str t]),C)∧(n,p,t)∈ws∧(∃e,eX st t=some e∧e<d)∧∀n' q' e,(n',p,q')∈ws→eX st q'=some e→e<d→n≤n':=by
 have c:=q9 (T:=.many 3) (ft:=UJ) (fe:=UL) (fs:=[some (.im (.str p)),some (.im (.dict (aR (stL st))))]) (C:=C) wD (tY st d p) (fun w=>.tuple [.int w.1,.str w.2.2]) (l:=ws) fun w _=>by
  refine⟨[.int w.1,.str w.2.1,.str w.2.2],rfl,?_,fun _=>⟨.im (.tuple [.int w.1,.str w.2.2]),_,by simp_arith[dw,jo,iC];rfl,rfl⟩⟩
  have ip:=aaB hp;unfold tY;cases h1:decide (w.2.1=p) with
  |false=>simp_arith[dw,jo,iC,h1]
  |true=>
   cases e:eX st w.2.2 with
   |none=>
    have h2:=decide_eq_false (oN.mp e);simp_arith[dw,jo,iC,h1,aaA,h2]
   |some x=>
    have h2:decide (w.2.2∈st.map (·.1))=true:=by rw[←Iw,e];rfl
    have iw:=aaB e;simp_arith[dw,jo,iC,h1,aaA,h2,ip,iw,Option.any_some]
 obtain⟨cs,DX⟩:∃cs:List (Int×Str),cs=(ws.filter (tY st d p)).map fun w=>(w.1,w.2.2):=⟨_,rfl⟩
 have c2:(ws.filter (tY st d p)).map (fun w=>uH [.int w.1,.str w.2.2])=cs.map fun c=>.tuple [.int c.1,.str c.2]:=by rw[DX,dU];rfl
 rw[c2] at c;have cl:(cs.length≤1000000)=True:=eq_true (by rw[DX,aX];have:=Eg (tY st d p) ws;omega);have mem:∀n t,(n,t)∈cs↔(n,p,t)∈ws∧∃e,eX st t=some e∧e<d:=fun n t=>by
  rw[DX,dW];constructor
  ·rintro⟨w,hw,e⟩
   cases e
   obtain⟨h1,h2⟩:=pM.mp hw
   obtain⟨h3,h4⟩:=Nf.mp h2
   rw[←h3]
   exact⟨h1,h4⟩
  ·rintro⟨h1,h2⟩
   exact⟨(n,p,t),pM.mpr ⟨h1,Nf.mpr ⟨rfl,h2⟩⟩,rfl⟩
 have ne:cs≠[]:=fun z=>by
  obtain⟨w,hw,h⟩:=hne
  have:(w.1,w.2.2)∈cs:=by rw[DX];exact dW.mpr ⟨w,pM.mpr ⟨hw,h⟩,rfl⟩
  rw[z] at this;cases this
 have nl:fL (cs.map fun c=>uH [.int c.1,.str c.2])=true:=by
  clear c c2 DX cl mem ne;induction cs with
  |nil=>rfl
  |cons r l ih=>show(true&&fL (l.map _))=true;rw[ih];rfl
 obtain⟨⟨n,t⟩,m,e,hmin⟩:=agb cs ne
 obtain⟨m1,m2⟩:=(mem n t).mp m
 refine⟨n,t,fX [some (.im (.list (ws.map wD))),some (.im (.dict (aR (stL st)))),some (.im (.str p))] rfl rfl ?_ rfl rfl,m1,m2,fun n' q' e' h1 h2 h3=>hmin (n',q') ((mem n' q').mpr ⟨h1,e',h2,h3⟩)⟩
 simp_arith[K9,c,cl,nl,e]
theorem ahj{C:Ce}{ws:List (Int×Str×Str)}{s:Str}{st:List (Str×Int)}(hl:ws.length≤60)(hU:∀w∈ws,∀w'∈ws,w.1=w'.1→w=w')(B:qN ws s st):∀(m:Nat)(p:Str)(d:Int),eX st p=some d→d≤m→∀(n:Nat)(acc:List Int)(v5:Option Vl),m<n→acc.length+m≤100000→
  ∃(r:List Int)(e':En),iY Ve Vf n [some (.im (.list (ws.map wD))),some (.im (.str p)),some (.im (.str s)),some (.ow (.dict (aR (stL st)))),some (.ow (.list (acc.map .int))),v5] C=some (.nx,e',C)∧e'[4]?=some (some (.ow (.list ((acc++r).map .int))))∧rW ws p s r:=by
 intro m;induction m with
 |zero=>
  intro p d hp hd n acc v5 hn ha;have:p=s:=by
   obtain⟨r,h1,h2⟩:=B.sound p d hp
   cases h1 with
   |nil=>rfl
   |cons _ _=>rw[cR] at h2;omega
  subst this;cases n with
  |zero=>exact absurd hn (wu _)
  |succ n=>
   refine⟨[],[some (.im (.list (ws.map wD))),some (.im (.str p)),some (.im (.str p)),some (.ow (.dict (aR (stL st)))),some (.ow (.list (acc.map .int))),v5],?_,by rw[j6];rfl,rW.self ws p⟩
   unfold iY;simp_arith[ne_strs]
 |succ m ih=>
  intro p d hp hd n acc v5 hn ha;cases n with
  |zero=>exact absurd hn (vZ _)
  |succ n=>
   by_cases hs:p=s
   ·subst hs
    refine⟨[],[some (.im (.list (ws.map wD))),some (.im (.str p)),some (.im (.str p)),some (.ow (.dict (aR (stL st)))),some (.ow (.list (acc.map .int))),v5],?_,by rw[j6];rfl,rW.self ws p⟩
    unfold iY;simp_arith[ne_strs]
   ·have hne:∃w∈ws,tY st d p w=true:=by
     obtain⟨r,h1,h2⟩:=B.sound p d hp
     cases h1 with
     |nil=>exact absurd rfl hs
     |cons hw hr=>
      rename_i n q r
      obtain⟨e,h3,h4⟩:=B.whole q r hr
      rw[cR] at h2
      exact⟨_,hw,Nf.mpr ⟨rfl,e,h3,by omega⟩⟩
    obtain⟨n1,t,e1,m1,⟨e,m2,m3⟩,hmin⟩:=agc (C:=C) hl hp hne
    obtain⟨r,e',e2,e3,e4⟩:=ih t e m2 (by omega) n (acc++[n1]) (some (.im (.int n1))) (by omega) (by rw[fP];show acc.length+1+_≤_;omega)
    have R:=rW.go hU B hp m1 ⟨e,m2,m3⟩ hmin e4;rw[j4] at e3
    refine⟨n1::r,e',?_,e3,R⟩
    have g:(acc.length<1000000)=True:=eq_true (by omega);have q:(p=s)=False:=eq_false hs;rw[gU] at e2;unfold iY;have rp:∀e e',rst (.im (.tuple [.int n1,.str t])) e e'=e:=fun _ _=>rfl
    simp_arith[ne_strs,q,e1,lq,nP,g,rp];exact e2
def xM:Option (List Int)→Vl
 |none=>.im .none
 |some r=>.ow (.list (r.map .int))
def Iz(ws:List (Int×Str×Str))(h s:Str):Option (List Int)→Prop
 |none=>∀r,¬gB ws h r s
 |some r=>rW ws h s r
theorem ahk{C:Ce}{ws:List (Int×Str×Str)}{h s:Str}(hl:ws.length≤60)(hU:∀w∈ws,∀w'∈ws,w.1=w'.1→w=w'):∃o,Gh [.im (.list (ws.map wD)),.im (.str h),.im (.str s)] C=some (xM o,C)∧Iz ws h s o:=by
 obtain⟨st,e1,B⟩:=Yg (C:=C) (s:=s) hl
 cases e:eX st h with
 |none=>
  have hn:=oN.mp e
  refine⟨none,fX [some (.im (.list (ws.map wD))),some (.im (.str h)),some (.im (.str s)),none,none,none] rfl rfl ?_ rfl rfl,fun r p=>hn ((B.iff h).mpr ⟨r,p⟩)⟩
  have q:=decide_eq_false hn;simp_arith[Gg,e1,Ot,q];rfl
 |some d=>
  obtain⟨r0,h1,h2⟩:=B.sound h d e
  have q:decide (h∈st.map (·.1))=true:=by rw[←Iw,e];rfl
  obtain⟨r,e',e2,e3,e4⟩:=ahj (C:=C) hl hU B d.toNat h d e (by omega) zF [] none (by have:=B.few h d e;show _<100000;omega) (by have:=B.few h d e;show 0+_≤_;omega)
  refine⟨some r,fX [some (.im (.list (ws.map wD))),some (.im (.str h)),some (.im (.str s)),none,none,none] rfl rfl ?_ rfl rfl,e4⟩
  rw[jq] at e2;rw[iC] at e3;simp_arith[Gg,e1,Ot,q,qK,e2,e3];rfl
def um(r:cO):Int×Str×Str:=(r.1,r.2.1,r.2.2.1)
theorem Zj:∀{l:List cO},(l.map (·.1)).Nodup→∀r∈l,∀r'∈l,r.1=r'.1→r=r'
 |[],_,_,h,_,_,_=>nomatch h
 |a::l,hp,r,h,r',h',e=>by
  rw[bY,jB] at hp;rcases bN.mp h with h1|h1<;>rcases bN.mp h' with h2|h2
  ·rw[h1,h2]
  ·exact absurd (dW.mpr ⟨r',h2,by rw[←h1,e]⟩) hp.1
  ·exact absurd (dW.mpr ⟨r,h1,by rw[←h2,e]⟩) hp.1
  ·exact Zj hp.2 r h1 r' h2 e
def rY(ht:gq)(os:List Str)(n day:Int)(a1 b1:Str):List (Int×Str×Str):=(ht.leaves.filter (jZ os n day a1 b1)).map um
theorem ahl{zs:List Str}{ps:List (Str×Str)}{ht:gq}(hG:oM zs ps ht)(os:List Str)(n day:Int)(a1 b1:Str):(rY ht os n day a1 b1).length≤60:=by
 unfold rY;rw[aX];have:=Eg (jZ os n day a1 b1) ht.leaves;have:=hG.lQ;omega
theorem aeE{zs:List Str}{ps:List (Str×Str)}{ht:gq}(hG:oM zs ps ht)(os:List Str)(n day:Int)(a1 b1:Str):∀w∈rY ht os n day a1 b1,∀w'∈rY ht os n day a1 b1,w.1=w'.1→w=w':=fun w h w' h' e=>by
 obtain⟨r,m,rfl⟩:=dW.mp h
 obtain⟨r',m',rfl⟩:=dW.mp h'
 rw[Zj hG.lnd r (pM.mp m).1 r' (pM.mp m').1 e]
theorem ajX{C:Ce}{zs:List Str}{ps:List (Str×Str)}{ht:gq}(hN:Names zs)(hP:gn zs ps)(hG:oM zs ps ht)(z a1 b1:Str)(n day:Int):
  Bc [.im (iZ ht),.im (dm z a1 b1 n),.im (.int day)] C=some (.ow (.list ((rY ht (up ps z) n day a1 b1).map wD)),C):=by
 rw[aiB hN hP hG];unfold rY;rw[dU];rfl
theorem Yh{C:Ce}{zs:List Str}{ps:List (Str×Str)}{ht:gq}(hN:Names zs)(hP:gn zs ps)(hG:oM zs ps ht)(z a1 b1:Str)(n day:Int)(h s:Str):
  ∃o,yP [.im (iZ ht),.im (dm z a1 b1 n),.im (.str h),.im (.str s),.im (.int day)] C=some (xM o,C)∧(((h=a1∨h=b1)∨(s=a1∨s=b1))→o=none)∧(¬((h=a1∨h=b1)∨(s=a1∨s=b1))→Iz (rY ht (up ps z) n day a1 b1) h s o):=by
 have s1:=HF (C:=C) (z:=z) (a1:=a1) (b1:=b1) (n:=n) (p:=h);have s2:=HF (C:=C) (z:=z) (a1:=a1) (b1:=b1) (n:=n) (p:=s);have w:=ajX (C:=C) hN hP hG z a1 b1 n day
 obtain⟨o,e,ho⟩:=ahk (C:=C) (h:=h) (s:=s) (ahl hG (up ps z) n day a1 b1) (aeE hG (up ps z) n day a1 b1)
 have ok:CJ C.length (xM o)=true:=by cases o<;>rfl
 by_cases h1:h=a1∨h=b1
 ·refine⟨none,fX [some (.im (iZ ht)),some (.im (dm z a1 b1 n)),some (.im (.str h)),some (.im (.str s)),some (.im (.int day))] rfl rfl ?_ rfl rfl,fun _=>rfl,fun z=>absurd (.inl h1) z⟩
  rw[decide_eq_true h1] at s1;simp_arith[Bm,s1];rfl
 ·rw[decide_eq_false h1] at s1;by_cases h2:s=a1∨s=b1
  ·refine⟨none,fX [some (.im (iZ ht)),some (.im (dm z a1 b1 n)),some (.im (.str h)),some (.im (.str s)),some (.im (.int day))] rfl rfl ?_ rfl rfl,fun _=>rfl,fun z=>absurd (.inr h2) z⟩
   rw[decide_eq_true h2] at s2;simp_arith[Bm,s1,s2];rfl
  ·rw[decide_eq_false h2] at s2
   refine⟨o,fX [some (.im (iZ ht)),some (.im (dm z a1 b1 n)),some (.im (.str h)),some (.im (.str s)),some (.im (.int day))] rfl rfl ?_ ok rfl,fun z=>absurd z fun z=>z.elim h1 h2,fun _=>ho⟩
   simp_arith[Bm,s1,s2,w,e]
theorem Ig{α:Type}{f:α→ao}(h:∀a,jl (f a)=true):∀l:List α,fL (l.map f)=true
 |[]=>rfl
 |a::l=>by
  show(jl (f a)&&fL (l.map f))=true
  rw[h a,Ig h l];rfl
theorem aiC(h:gq)(e f:En):rst (.im (iZ h)) e f=e:=by
 refine if_pos ?_
 show(fL (h.ps.map rT)&&(fL (h.vh.map rR)&&(fL (h.leaves.map cu)&&(fL (h.rules.map CP)&&true))))=true
 rw[Ig (fun _=>rfl),Ig (fun _=>rfl),Ig (fun _=>rfl),W0];rfl
theorem W6(ps:List (Str×Str)):jQ [.dict (aR (bz ps))]=some (.im (.int ps.length)):=by
 have:Dg (.dict (aR (bz ps)))=some ps.length:=by
  show(if(cH cQ (aR (bz ps))).isSome then some (aR (bz ps)).length else none)=_
  rw[Bj];unfold aR bz;rw[aX,aX];rfl
 unfold jQ;simp only[this];rfl
theorem afe{zs:List Str}{m:Nat}{ps:List (Str×Str)}(h:gn (zs.take m) ps):gn zs ps:=fun i x e=>by
 have up:∀j z,(zs.take m)[j]?=some z→zs[j]?=some z:=fun j z e=>by
  rw[T4] at e;split at e
  ·exact e
  ·cases e
 obtain⟨h1,h2⟩:=h i x e
 exact⟨up i _ h1,h2.imp_right fun⟨j,a,b⟩=>⟨j,a,up j _ b⟩⟩
theorem ahm{f:Str→Option Str}{z:Str}{os:List Str}(h:Over f z os):∀y∈os,∃w,f y=some w:=by
 induction h with
 |stop _=>exact fun y hy=>absurd hy nj
 |step h _ ih=>
  intro y hy;rcases bN.mp hy with rfl|hy
  ·exact⟨_,h⟩
  ·exact ih y hy
theorem aab{zs:List Str}{ps:List (Str×Str)}(hN:Names zs)(hP:gn zs ps){z y:Str}(h:y∈up ps z):y∈ps.map (·.1):=by
 obtain⟨w,e⟩:=ahm (Pn hN hP z) y h
 exact dW.mpr ⟨(y,w),(tD (Ar hN hP)).mp e,rfl⟩
theorem ajY{zs:List Str}{ps ps':List (Str×Str)}{lv:List cO}(p1:ps'.Perm ps)(p8:ps.length≤8)(lQ:lv.length≤16)(hl:∀r∈lv,yX zs (ps.map (·.1)) r)(up:(lv.map (·.1)).Nodup):oM zs ps ⟨ps',[],lv,[]⟩ where
 parts:=p1
 p8:=p8
 r20:=lF _
 lQ:=lQ
 u10:=lF _
 vh:=fun r h=>absurd h nj
 rup:=yj
 leaves:=hl
 lnd:=up
 rules:=fun r h=>absurd h nj
 unlike:=oF
theorem ajZ{α:Type}{zs:List α}(h:zs.Nodup){i j:Nat}{x:α}(hi:zs[i]?=some x)(hj:zs[j]?=some x):i=j:=by
 obtain⟨x1,y1⟩:=jf.mp hi
 obtain⟨x2,y2⟩:=jf.mp hj
 have hp:=Ec.mp h;rcases ac5 i j with l|l|l
 ·exact absurd (y1.trans y2.symm) (hp i j x1 x2 l)
 ·exact l
 ·exact absurd (y2.trans y1.symm) (hp j i x2 x1 l)
theorem PX{α:Type}(D:α→ao){xs:List α}{a b:Nat}(h:a≤b)(hb:b≤xs.length):jG (xs.map D) (some (a:Int)) (some (b:Int))=((xs.drop a).take (b-a)).map D:=by
 unfold jG;rw[aX,HT.G9,HT.G9,UW (show a≤xs.length by omega),UW hb,Vv,adW]
theorem aiD{C:Ce}{zs:List Str}{ps:List (Str×Str)}(hN:Names zs)(hP:gn zs ps)(h8:ps.length≤8)(z a1 b1:Str)(n day:Int)(r:cO):
  HD [.im (.dict (aR (bz ps))),.im (dm z a1 b1 n),.im (.int day),.im (cu r)] C=some (.im (.bool (jZ (up ps z) n day a1 b1 r)),C):=by
 have p:=Yc (C:=C) hN hP h8 z;have ct:jG [cU z,.int n,.str a1,.str b1] (some 2) none=[.str a1,.str b1]:=rfl;have c:=aay nY nY (aj (aG bu (aD 3) (aj (fCst (.int 4))))) (aD 2) (aj (aG bu (aD 3) (aj (fCst (.int 5))))) (env:=[some (.im (.dict (aR (bz ps)))),some (.im (dm z a1 b1 n)),some (.im (.int day)),some (.im (cu r))]) (e1:=[some (.im (.dict (aR (bz ps)))),some (.im (dm z a1 b1 n)),some (.im (.int day)),some (.im (cu r))]) (e2:=[some (.im (.dict (aR (bz ps)))),some (.im (dm z a1 b1 n)),some (.im (.int day)),some (.im (cu r))]) (e3:=[some (.im (.dict (aR (bz ps)))),some (.im (dm z a1 b1 n)),some (.im (.int day)),some (.im (cu r))]) (C:=C) (C1:=C) (C2:=C) (x:=.int r.2.2.2.2.1) (y:=.int day) (z:=.int r.2.2.2.2.2.1) (a:=decide (r.2.2.2.2.1≤day)) (b:=decide (day≤r.2.2.2.2.2.1)) (by simp_arith[cu]) rfl rfl (by simp_arith[cu]) rfl;refine fX [some (.im (.dict (aR (bz ps)))),some (.im (dm z a1 b1 n)),some (.im (.int day)),some (.im (cu r))] rfl rfl ?_ rfl rfl;simp only[cu] at c⊢;unfold jZ;cases hA:decide (r.2.1=a1∨r.2.1=b1) with
 |true=>
  simp_arith[za,dO,cZ,fY,jK,ct,Cq,hA]
 |false=>
  cases hB:decide (r.2.2.1=a1∨r.2.2.1=b1) with
  |true=>
   simp_arith[za,dO,cZ,fY,jK,ct,Cq,hA,hB]
  |false=>
   cases hC:decide (r.2.2.2.1∈up ps z) with
   |false=>simp_arith[za,dO,cZ,fY,jK,ct,Cq,hA,hB,p,Ws,hC]
   |true=>
    simp_arith[za,dO,cZ,fY,jK,ct,Cq,hA,hB,p,Ws,hC,Ik,c];cases decide (r.2.2.2.2.1≤day)<;>cases decide (day≤r.2.2.2.2.2.1)<;>rfl
theorem W7{α:Type}(D:α→ao):∀(l:List α)(n:Nat),(l.map D).eraseIdx n=(l.eraseIdx n).map D
 |[],_=>rfl
 |_::_,0=>rfl
 |x::l,n+1=>congrArg (D x::·) (W7 D l n)
theorem Wu{α:Type}:∀{l:List α}{n:Nat}{x:α},l[n]?=some x→(x::l.eraseIdx n).Perm l
 |[],_,_,h=>by cases h
 |y::l,0,x,h=>by cases h;exact .refl _
 |y::l,n+1,x,h=>(Kf y x _).trans ((Wu (l:=l) (n:=n) h).cons y)
theorem W8{α:Type}{D:α→ao}(hne:∀l:List α,iQ (.list (l.map D)) (.list [])=some (.im (.bool (!l.isEmpty)))){b L j:Nat}{v1:Option Vl}:∀(n:Nat)(rest found:List α)(C:Ce),rest.length<n→found.length+rest.length≤100→Bl L C b (j+rest.length)→
  ∃(ys:List α)(C':Ce),iY Vg Vh n [some (.ce b),v1,some (.ow (.list (rest.map D))),some (.ow (.list (found.map D)))] C=some (.nx,[some (.ce b),v1,some (.ow (.list [])),some (.ow (.list ((found++ys).map D)))],C')∧ys.Perm rest∧Bl L C' b j
 |0,rest,found,C,h,_,_=>absurd h (vZ _)
 |n+1,rest,found,C,hn,hl,hB=>by
  have e0:=hne rest;by_cases hr:rest=[]
  ·subst hr
   refine⟨[],C,?_,.refl _,hB⟩
   unfold iY;rw[j6];simp only[jq,Uo] at e0;simp_arith[e0]
  ·have hp:0<rest.length:=JV.mpr hr;have e0:iQ (.list (rest.map D)) (.list [])=some (.im (.bool true)):=by
    rw[e0];cases rest with
    |nil=>exact absurd rfl hr
    |cons _ _=>rfl
   obtain⟨t,C1,e1,t0,t1,iR⟩:=dj (m:=(rest.length:Int)) (k:=j+(rest.length-1)) (by rw[show j+(rest.length-1)+1=j+rest.length by omega];exact hB) (by omega) (by omega)
   have hk:t.toNat<rest.length:=by omega
   have q1:(rest.map D)[t.toNat]?=some (D rest[t.toNat]):=by rw[gh,jg hk];rfl
   have q2:(rest.map D).eraseIdx t.toNat=(rest.eraseIdx t.toNat).map D:=W7 D _ _;have pm:(rest[t.toNat]::rest.eraseIdx t.toNat).Perm rest:=Wu (jg hk);have ll:(rest.eraseIdx t.toNat).length=rest.length-1:=List.length_eraseIdx_of_lt hk
   obtain⟨ys,C',e2,p2,hB2⟩:=W8 hne n (rest.eraseIdx t.toNat) (found++[rest[t.toNat]]) C1 (by omega) (by rw[fP];show found.length+1+_≤_;omega) (by rw[ll];exact iR)
   refine⟨rest[t.toNat]::ys,C',?_,(p2.cons _).trans pm,hB2⟩
   have g1:(0≤t∧t<((1000000:Nat):Int))=True:=eq_true ⟨t0,by omega⟩;have g2:(found.length<1000000)=True:=eq_true (by omega);rw[j4,gU (l₁:=found)] at e2;unfold iY;simp_arith[e0,Q3,xK,intD,e1,g1,q1,g2,q2,ne_eq,not_false_eq_true,Nat.reduceEqDiff];exact e2
theorem aiE{α:Type}{D:α→ao}(hne:∀l:List α,iQ (.list (l.map D)) (.list [])=some (.im (.bool (!l.isEmpty)))){C:Ce}{b L j:Nat}{xs:List α}(hl:xs.length≤100)(hB:Bl L C b (j+xs.length)):
  ∃(ys:List α)(C':Ce),Av [.ce b,.im (.list (xs.map D))] C=some (.ow (.list (ys.map D)),C')∧ys.Perm xs∧Bl L C' b j:=by
 obtain⟨ys,C',e,p,hB'⟩:=W8 hne (v1:=some (.im (.list (xs.map D)))) zF xs [] C (by show _<100000;omega) (by show 0+_≤_;omega) hB
 rw[jq,iC] at e
 refine⟨ys,C',fX [some (.ce b),some (.im (.list (xs.map D))),none,none] rfl rfl ?_ rfl (hB.eq hB'),p,hB'⟩
 simp_arith[Lq,Ht,qK,e]
theorem Jz(a b c:ao){k:Int}(h0:0≤k)(h1:k<3):∃x,dJ [a,b,c] k=some x∧(x=a∨x=b∨x=c):=by
 have:k=0∨k=1∨k=2:=by omega
 rcases this with rfl|rfl|rfl
 ·exact⟨a,a_t0 _ _,.inl rfl⟩
 ·exact⟨b,a_t1 _ _ _,.inr (.inl rfl)⟩
 ·exact⟨c,a_t2 _ _ _ _,.inr (.inr rfl)⟩
theorem P0(a b:Int):∃v,qe [.int a,.int b]=some (.im (.int v))∧v≤a∧v≤b∧(v=a∨v=b):=by
 by_cases h:b<a
 ·exact⟨b,by simp only[qe,if_pos h],by omega,by omega,.inr rfl⟩
 ·exact⟨a,by simp only[qe,if_neg h],by omega,by omega,.inl rfl⟩
theorem aiF(a b:Int):∃v,zu [.int a,.int b]=some (.im (.int v))∧a≤v∧b≤v∧(v=a∨v=b):=by
 by_cases h:b>a
 ·exact⟨b,by simp only[zu,if_pos h],by omega,by omega,.inr rfl⟩
 ·exact⟨a,by simp only[zu,if_neg h],by omega,by omega,.inl rfl⟩
theorem Zk{C:Ce}{b L j:Nat}(h:Bl L C b (j+6)):∃(f l:Int)(C':Ce),yJ [.ce b] C=some (.im (.tuple [.int f,.int l]),C')∧0≤f∧f≤l∧l≤99999∧Bl L C' b j:=by
 refine hide fun GG gg=>?_
 obtain⟨t1,C1,e1,a1,b1,iR⟩:=dj (m:=9) (k:=j+5) h (by decide) (by decide)
 obtain⟨t2,C2,e2,a2,b2,hB2⟩:=dj (m:=9) (k:=j+4) iR (by decide) (by decide)
 obtain⟨t3,C3,e3,a3,b3,hB3⟩:=dj (m:=9) (k:=j+3) hB2 (by decide) (by decide)
 obtain⟨t4,C4,e4,a4,b4,sG⟩:=dj (m:=3) (k:=j+2) hB3 (by decide) (by decide)
 obtain⟨t5,C5,e5,a5,b5,DY⟩:=dj (m:=12) (k:=j+1) sG (by decide) (by decide)
 obtain⟨t6,C6,e6,a6,b6,zZ⟩:=dj (m:=3) (k:=j) DY (by decide) (by decide)
 obtain⟨x,i1,hx⟩:=Jz (.int t1) (.int t2) (.int (99990-t3)) a4 b4
 obtain⟨y,i2,hy⟩:=Jz (.int 0) (.int t5) (.int 99999) a6 b6
 obtain⟨f,rfl,f0,f1⟩:∃f,x=.int f∧0≤f∧f≤99990:=by rcases hx with rfl|rfl|rfl<;>exact⟨_,rfl,by omega,by omega⟩
 obtain⟨g,rfl,g0⟩:∃g,y=.int g∧0≤g:=by rcases hy with rfl|rfl|rfl<;>exact⟨_,rfl,by omega⟩
 obtain⟨l,e7,l1,l2,l3⟩:=P0 99999 (f+g)
 refine gg ⟨f,l,C6,fX [some (.ce b),none] rfl rfl ?_ rfl (h.eq zZ),f0,by omega,l1,zZ⟩;simp_arith[Lr,e1,e2,e3,e4,i1,e5,e6,i2,e7]
theorem aac{C:Ce}{b L j:Nat}(h:Bl L C b (j+4)):∃(n:Int)(C':Ce),yK [.ce b] C=some (.im (.int n),C')∧0≤n∧n≤1000000000∧Bl L C' b j:=by
 refine hide fun GG gg=>?_
 obtain⟨t1,C1,e1,a1,b1,iR⟩:=dj (m:=4) (k:=j+3) h (by decide) (by decide)
 obtain⟨t2,C2,e2,a2,b2,hB2⟩:=dj (m:=4) (k:=j+2) iR (by decide) (by decide)
 obtain⟨t3,C3,e3,a3,b3,hB3⟩:=dj (m:=3) (k:=j+1) hB2 (by decide) (by decide)
 obtain⟨t4,C4,e4,a4,b4,sG⟩:=dj (m:=3) (k:=j) hB3 (by decide) (by decide)
 obtain⟨x,i1,hx⟩:=Jz (.int t1) (.int (100+t2)) (.int (1000000000-t3)) a4 b4
 obtain⟨f,rfl,f0,f1⟩:∃f,x=.int f∧0≤f∧f≤1000000000:=by rcases hx with rfl|rfl|rfl<;>exact⟨_,rfl,by omega,by omega⟩
 have pw:qj (.int 10) (.int 9)=some (.im (.int 1000000000)):=rfl;refine gg ⟨f,C4,fX [some (.ce b)] rfl rfl ?_ rfl (h.eq sG),f0,f1,sG⟩;simp_arith[Ls,e1,e2,pw,e3,e4,i1]
theorem VN(ps:List (Str×Str))(h:ps.length≤60):∃qs:List Str,qs.Perm (ps.map (·.1))∧Bw [.dict (aR (bz ps))]=some (.ow (.list (qs.map .str))):=by
 refine⟨mG strLt (ps.map (·.1)),wI _,?_⟩
 have e:(aR (bz ps)).map (·.1)=(ps.map (·.1)).map cU:=by
  unfold aR bz;rw[dU,dU,dU];rfl
 show((strsOf ((aR (bz ps)).map (·.1))).bind _)=_
 rw[e,Mg,gR,decide_eq_true (by rw[aX];omega)];rfl
theorem aiG{a d m:Int}(a0:0≤a)(a1:a<m)(d0:1≤d)(d1:d<m):0≤(a+d)%m∧(a+d)%m<m∧(a+d)%m≠a:=by
 refine⟨lV _ (by omega),qT _ (by omega),?_⟩
 by_cases h:a+d<m
 ·rw[J0 (by omega) h];omega
 ·have e:(a+d)%m=a+d-m:=by
   rw[show a+d=m+(a+d-m) by omega,Int.add_emod_left,J0 (by omega) (by omega)];omega
  omega
abbrev sH(b:Nat)(ps:List (Str×Str))(pe:List Str)(many:Int)(pap:ao)(day:Int)(lv:List cO)(os:List Str)(v8 v9 v10 v11 bV gO:Option Vl):En:=
 [some (.ce b),some (.im (.dict (aR (bz ps)))),some (.im (.list (pe.map .str))),some (.im (.int many)),some (.im pap),some (.im (.int day)),some (.ow (.list (lv.map cu))),some (.ow (.list (os.map .str))),v8,v9,v10,v11,bV,gO]
structure aa8(zs own pe:List Str)(num:Int)(r:cO):Prop where
 num:r.1=num
 ok:yX zs own r
 giver:r.2.1∈pe
 taker:r.2.2.1∈pe
theorem aeF{C:Ce}{b L j:Nat}{zs pe:List Str}{ps:List (Str×Str)}{z a1 b1:Str}{n day num many:Int}{lv:List cO}(hB:Bl L C b (j+19))(hN:Names zs)(hP:gn zs ps)(p0:0<ps.length)(p8:ps.length≤8)(pl:2≤pe.length)(pl2:pe.length≤20)(pn:pe.Nodup)(pz:∀x∈pe,x∈zs)(n0:0≤n)(n1:n≤1000000000)(d0:0≤day)(d1:day≤99999)(nb:0≤num∧num≤2000)(ll:lv.length≤16)(v9 v10 v11 bV gO:Option Vl):
  ∃(r:cO)(C':Ce)(w9 w10 w11 w12 w13:Option Vl),vX (sH b ps pe many (dm z a1 b1 n) day lv (up ps z) (some (.im (.int num))) v9 v10 v11 bV gO) C=some (.nx,sH b ps pe many (dm z a1 b1 n) day (lv++[r]) (up ps z) (some (.im (.int num))) w9 w10 w11 w12 w13,C')∧aa8 zs (ps.map (·.1)) pe num r∧Bl L C' b j:=by
 refine hide fun GG gg=>?_
 obtain⟨t1,C1,e1,a1',Dz,iR⟩:=dj (m:=(pe.length:Int)) (k:=j+18) hB (by omega) (by omega)
 obtain⟨t2,C2,e2,a2,b2,hB2⟩:=dj (m:=(pe.length:Int)-1) (k:=j+17) iR (by omega) (by omega)
 obtain⟨t3,C3,e3,a3,b3,hB3⟩:=dj (m:=2) (k:=j+16) hB2 (by decide) (by decide)
 have mu:jc (.int t2) (.int t3)=some (.im (.int (t2*t3))):=mul_eq (.inl (by omega));have md:=mod_eq (i:=t1+1+t2*t3) (j:=(pe.length:Int)) (by omega)
 obtain⟨d,hd,dl,dh⟩:∃d:Int,t1+1+t2*t3=t1+d∧1≤d∧d<pe.length:=by
  have:t3=0∨t3=1:=by omega
  rcases this with rfl|rfl
  ·exact⟨1,by rw[Int.mul_zero];omega,by omega,by omega⟩
  ·exact⟨1+t2,by rw[VR];omega,by omega,by omega⟩
 obtain⟨r0,r1,r2⟩:=aiG a1' Dz dl dh
 rw[←hd] at r0 r1 r2
 generalize(t1+1+t2*t3)%(pe.length:Int)=to at md r0 r1 r2
 obtain⟨g,mg,ig,xg⟩:=rC (zs:=pe) a1' Dz
 obtain⟨t,mt,it,xt⟩:=rC (zs:=pe) r0 r1
 have hne:g≠t:=fun z=>by
  subst z;have:=ajZ pn ig it;omega
 obtain⟨qs,qp,so⟩:=VN ps (by omega)
 have ln:=W6 ps
 obtain⟨t4,C4,e4,a4,b4,sG⟩:=dj (m:=(ps.length:Int)) (k:=j+15) hB3 (by omega) (by omega)
 obtain⟨y,my,_,xy⟩:=rC (zs:=qs) a4 (by rw[qp.length_eq,aX];exact b4)
 have oy:y∈ps.map (·.1):=qp.mem_iff.mp my
 obtain⟨f,l,C5,e5,f0,f1,f2,DY⟩:=Zk (j:=j+9) sG
 obtain⟨s,C6,e6,s0,s1,zZ⟩:=aac (j:=j+5) DY
 obtain⟨t7,C7,e7,a7,b7,Ea⟩:=dj (m:=3) (k:=j+4) zZ (by decide) (by decide)
 have q:(lv.length<1000000)=True:=eq_true (by omega);have Sy:∀a b c d e f:ao,bL (.tuple [a,b,c,d]) (.tuple [e,f])=some (.im (.tuple [a,b,c,d,e,f])):=fun _ _ _ _ _ _=>CQ (yf rfl)
 have SJ:∀a b c d e f g:ao,bL (.tuple [a,b,c,d,e,f]) (.tuple [g])=some (.im (.tuple [a,b,c,d,e,f,g])):=fun _ _ _ _ _ _ _=>CQ (yf rfl)
 have pw:qj (.int 10) (.int 9)=some (.im (.int 1000000000)):=rfl;have nn:=ne_nil (up ps z) fun x hx=>Wn hN hP (aab hN hP hx)
 have gr:∀(y:Str)(f l m:Int)(w9:Option Vl),y∈ps.map (·.1)→(0≤f∧f≤l∧l≤99999)→(0≤m∧m≤1000000000)→aa8 zs (ps.map (·.1)) pe num (num,g,t,y,f,l,m):=fun y f l m w9 hy hd hm=>⟨rfl,⟨nb,pz _ mg,pz _ mt,hne,hy,hd,hm⟩,mg,mt⟩
 have other:∀C8,Bl L C8 b j→(vX (sH b ps pe many (dm z a1 b1 n) day lv (up ps z) (some (.im (.int num))) v9 v10 v11 bV gO) C=some (.nx,sH b ps pe many (dm z a1 b1 n) day (lv++[(num,g,t,y,f,l,s)]) (up ps z) (some (.im (.int num))) (some (.im (.int t1))) (some (.im (.int to))) (some (.im (.str y))) (some (.im (.tuple [.int f,.int l]))) (some (.im (.int s))),C8))→GG:=fun C8 h8 run=>gg ⟨_,C8,_,_,_,_,_,run,gr y f l s none oy ⟨f0,f1,f2⟩ ⟨s0,s1⟩,h8⟩
 by_cases h7:0<t7
 ·have JB:=decide_eq_true h7;by_cases hu:up ps z=[]
  ·rw[hu] at nn;refine other C7 (Ea.mono (by omega)) ?_;simp only[sH,hu,jq,Uo] at nn⊢;simp_arith[vX,e1,e2,e3,mu,md,so,ln,e4,xy,e5,e6,e7,JB,nn,xg,xt,Sy,SJ,lq,nP,q];simp only[gU,bY,jq,cu]
  ·have u0:0<(up ps z).length:=JV.mpr hu;have ul:=Qp ps z;have nn:iQ (.list ((up ps z).map .str)) (.list [])=some (.im (.bool true)):=by
    rw[nn];cases hh:up ps z with
    |nil=>exact absurd hh hu
    |cons _ _=>rfl
   obtain⟨t8,C8,e8,a8,b8,hB8⟩:=dj (m:=((up ps z).length:Int)) (k:=j+3) Ea (by omega) (by omega)
   obtain⟨y2,my2,_,xy2⟩:=rC (zs:=up ps z) a8 b8
   obtain⟨t9,C9,e9,a9,b9,hB9⟩:=dj (m:=2) (k:=j+2) hB8 (by decide) (by decide)
   obtain⟨tA,CA,eA,aA,bA,SM⟩:=dj (m:=2) (k:=j+1) hB9 (by decide) (by decide)
   obtain⟨tB,CB,eB,aB,bB,SN⟩:=dj (m:=2) (k:=j) SM (by decide) (by decide)
   obtain⟨f',x1,x2,x3,x4⟩:=aiF 0 (day-t9)
   obtain⟨l',x5,x6,x7,x8⟩:=P0 99999 (day+tA)
   obtain⟨m',x9,xA,xB,xC⟩:=P0 1000000000 (n+tB)
   refine gg ⟨(num,g,t,y2,f',l',m'),CB,some (.im (.int t1)),some (.im (.int to)),some (.im (.str y2)),some (.im (.tuple [.int f',.int l'])),some (.im (.int m')),?_,gr y2 f' l' m' none (aab hN hP my2) ⟨x2,by omega,x6⟩ ⟨by omega,xA⟩,SN⟩;simp_arith[vX,e1,e2,e3,mu,md,so,ln,e4,xy,e5,e6,e7,JB,nn,e8,xy2,e9,x1,eA,x5,pw,eB,x9,xg,xt,Sy,SJ,lq,nP,q];simp only[sH,gU,bY,jq,cu]
 ·have JB:=decide_eq_false h7;refine other C7 (Ea.mono (by omega)) ?_;simp_arith[vX,e1,e2,e3,mu,md,so,ln,e4,xy,e5,e6,e7,JB,xg,xt,Sy,SJ,lq,nP,q];simp only[sH,gU,bY,jq,cu]
theorem agd{C:Ce}{b L j:Nat}{zs pe:List Str}{ps:List (Str×Str)}{z a1 b1:Str}{n day:Int}{many:Int}(hB:Bl L C b (j+405))(hN:Names zs)(hP:gn zs ps)(p0:0<ps.length)(p8:ps.length≤8)(pl:2≤pe.length)(pl2:pe.length≤20)(pn:pe.Nodup)(pz:∀x∈pe,x∈zs)(n0:0≤n)(n1:n≤1000000000)(d0:0≤day)(d1:day≤99999)(m0:0≤many)(m1:many≤16):
  ∃(lv:List cO)(C':Ce),Fe [.ce b,.im (.dict (aR (bz ps))),.im (.list (pe.map .str)),.im (.int many),.im (dm z a1 b1 n),.im (.int day)] C=some (.ow (.list (lv.map cu)),C')∧lv.length≤16∧(∀r∈lv,yX zs (ps.map (·.1)) r∧r.2.1∈pe∧r.2.2.1∈pe)∧(lv.map (·.1)).Pairwise (·<·)∧Bl L C' b j:=by
 refine hide fun GG gg=>?_
 have o1:=Yc (C:=C) hN hP p8 z;have ig:decide ((1:Int)<(pe.length:Int))=true:=decide_eq_true (by omega);have mu:jc (.int many) (.int 1)=some (.im (.int (many*1))):=mul_eq (.inl (by omega));rw[VR] at mu
 obtain⟨ns,C1,e1,nl,hn,rise,iR⟩:=aga (j:=j+304) (m:=many) hB m0 (by omega)
 obtain⟨env',C',e,lv,w8,w9,w10,w11,w12,w13,he,hm,hr,hB'⟩:=yN (g:=gNm 8) (body:=vX) (its:=ns.map .int) (env:=sH b ps pe many (dm z a1 b1 n) day [] (up ps z) none none none none none none) (C:=C1)
  (fun i env C2=>∃(lv:List cO)(w8 w9 w10 w11 w12 w13:Option Vl),env=sH b ps pe many (dm z a1 b1 n) day lv (up ps z) w8 w9 w10 w11 w12 w13∧lv.map (·.1)=ns.take i∧(∀r∈lv,yX zs (ps.map (·.1)) r∧r.2.1∈pe∧r.2.2.1∈pe)∧Bl L C2 b (j+19*(16-i)))
  ⟨[],none,none,none,none,none,none,rfl,rfl,(fun _ h=>nomatch h),iR⟩ (fun i d env C2 hd hI=>by
   obtain⟨lv,w8,w9,w10,w11,w12,w13,rfl,hm,hr,hB⟩:=hI
   obtain⟨x,rfl,hx,mx,hi⟩:=aik hd
   rw[QZ j 19 (by omega:i<16)] at hB;have ll:lv.length≤16:=by
    have:=congrArg oG hm;rw[aX,mV] at this;omega
   obtain⟨r,C3,w9,w10,w11,w12,w13,e,h1,hB3⟩:=aeF (z:=z) (a1:=a1) (b1:=b1) (many:=many) (lv:=lv) hB hN hP p0 p8 pl pl2 pn pz n0 n1 d0 d1 (hn x mx) ll w9 w10 w11 w12 w13
   refine⟨_,.nx,_,C3,rfl,e,.inl rfl,lv++[r],_,_,_,_,_,_,rfl,?_,fun q hq=>?_,hB3⟩
   ·rw[gU,hm,take_snoc hx,bY,h1.num];rfl
   ·rcases cL.mp hq with hq|hq
    ·exact hr q hq
    ·rw[jn.mp hq]
     exact⟨h1.ok,h1.giver,h1.taker⟩)
 rw[aX] at hm hB';rw[List.take_length] at hm;subst he;have ll:lv.length≤16:=by
  have:=congrArg oG hm;rw[aX] at this;omega
 have hB2:Bl L C' b j:=hB'.mono (J6 _ _);refine gg ⟨lv,C',fX [some (.ce b),some (.im (.dict (aR (bz ps)))),some (.im (.list (pe.map .str))),some (.im (.int many)),some (.im (dm z a1 b1 n)),some (.im (.int day)),none,none,none,none,none,none,none,none] rfl rfl ?_ rfl (hB.eq hB2),ll,hr,by rw[hm];exact rise,hB2⟩;simp only[sH,jq] at e;simp_arith[Km,o1,ig,nQ,mu,e1,fQ,e]
structure aj0(zs:List Str)(ps:List (Str×Str))(pe:List Str)(lv:List cO)(z a1 b1:Str)(n day:Int):Prop where
 names:Names zs
 len:zs.length=24
 parts:gn zs ps
 p0:0<ps.length
 p8:ps.length≤8
 two:2≤pe.length
 few:pe.length≤17
 am5:pe.Nodup
 akF:∀x∈pe,x∈zs
 am6:z∈zs
 am7:a1∈zs
 am8:b1∈zs
 n0:0≤n
 n1:n≤1000000000
 d0:0≤day
 d1:day≤99999
 lQ:lv.length≤16
 leaves:∀r∈lv,yX zs (ps.map (·.1)) r∧r.2.1∈pe∧r.2.2.1∈pe
 rise:(lv.map (·.1)).Pairwise (·<·)
abbrev akG(ps:List (Str×Str))(pe:List Str)(lv:List cO)(z a1 b1:Str)(n day:Int):ao:=.tuple [.dict (aR (bz ps)),.list (pe.map .str),.list (lv.map cu),dm z a1 b1 n,.int day]
theorem aiH{C:Ce}{b L j:Nat}{most:Int}(hB:Bl L C b (j+460))(m0:0≤most)(m1:most≤16):
  ∃(zs:List Str)(ps:List (Str×Str))(pe:List Str)(lv:List cO)(z a1 b1:Str)(n day:Int)(C':Ce),HB [.ce b,.im (.int most)] C=some (.im (akG ps pe lv z a1 b1 n day),C')∧aj0 zs ps pe lv z a1 b1 n day∧Bl L C' b j:=by
 refine hide fun GG gg=>?_
 obtain⟨zs,C1,e1,hN,SQ,iR⟩:=ahh (m:=24) (j:=j+448) hB (by decide) (by decide)
 have SQ:zs.length=24:=SQ
 obtain⟨t2,C2,e2,a2,b2,hB2⟩:=dj (m:=8) (k:=j+447) iR (by decide) (by decide)
 have ct:=Qz (zs:=zs) (m:=1+t2) (by omega) (by omega);have tl:(zs.take (1+t2).toNat).length=(1+t2).toNat:=by rw[mV];omega
 obtain⟨ps,C3,e3,hP,pl,hB3⟩:=af9 (j:=j+431) (zs:=zs.take (1+t2).toNat) hB2 (by omega) ⟨hN.1.sublist (Er _ _),fun z hz=>hN.2 z (uA hz)⟩
 have hP:=afe hP;have p0:0<ps.length:=by omega
 have p8:ps.length≤8:=by omega
 have ln:=W6 ps
 obtain⟨t4,C4,e4,a4,b4,sG⟩:=dj (m:=3) (k:=j+430) hB3 (by decide) (by decide)
 obtain⟨x4,i4,h4⟩:=Jz (.int 4) (.int 9) (.int 16) a4 b4
 obtain⟨w,rfl,w0,w1⟩:∃w,x4=.int w∧0<w∧w≤16:=by rcases h4 with rfl|rfl|rfl<;>exact⟨_,rfl,by omega,by omega⟩
 obtain⟨t5,C5,e5,a5,b5,DY⟩:=dj (m:=w) (k:=j+429) sG w0 (by omega)
 obtain⟨k5,hk5⟩:∃k5:Nat,2+2+t5=((2+(2+k5):Nat):Int):=⟨t5.toNat,by omega⟩
 have Eb:=PX cU (xs:=zs) (a:=2) (b:=2+(2+k5)) (by omega) (by omega);rw[←hk5,show 2+(2+k5)-2=2+k5 by omega] at Eb;have Eb:jG (zs.map cU) (some 2) (some (2+2+t5))=_:=Eb
 obtain⟨pe,hpe⟩:∃pe,pe=(zs.drop 2).take (2+k5):=⟨_,rfl⟩
 rw[←hpe] at Eb;have pl1:pe.length=2+k5:=by rw[hpe,mV,Ae];omega
 have pnd:pe.Nodup:=by rw[hpe];exact hN.1.sublist ((Er _ _).trans (List.drop_sublist _ _))
 have pin:∀x∈pe,x∈zs:=fun x hx=>by rw[hpe] at hx;exact Eh (uA hx)
 have JC:=PX cU (xs:=zs) (a:=18) (b:=20) (by decide) (by omega);have JC:jG (zs.map cU) (some 18) (some 20)=_:=JC
 obtain⟨ex,hex⟩:∃ex,ex=(zs.drop 18).take (20-18):=⟨_,rfl⟩
 rw[←hex] at JC;have exl:ex.length≤2:=by rw[hex,mV];omega
 have xin:∀x∈ex,x∈zs:=fun x hx=>by rw[hex] at hx;exact Eh (uA hx)
 have ad1:bL (.list (pe.map .str)) (.list (ex.map .str))=some (.ow (.list ((pe++ex).map .str))):=by
  rw[gU];exact add_l (by rw[aX,aX];omega)
 obtain⟨sm,hsm⟩:∃sm,sm=pe++ex:=⟨_,rfl⟩
 rw[←hsm] at ad1;have sl:0<sm.length∧sm.length≤100:=by rw[hsm,fP];omega
 have sin:∀x∈sm,x∈zs:=fun x hx=>by
  rw[hsm] at hx;rcases cL.mp hx with hx|hx
  ·exact pin x hx
  ·exact xin x hx
 obtain⟨t6,C6,e6,a6,b6,zZ⟩:=dj (m:=(sm.length:Int)) (k:=j+428) DY (by omega) (by omega)
 obtain⟨s1,m1',_,x1⟩:=rC (zs:=sm) a6 b6
 obtain⟨t7,C7,e7,a7,b7,Ea⟩:=dj (m:=(sm.length:Int)) (k:=j+427) zZ (by omega) (by omega)
 obtain⟨s2,m2',_,x2⟩:=rC (zs:=sm) a7 b7
 have fin:∀(C9:Ce)(a1 b1:Str),a1∈zs→b1∈zs→Bl L C9 b (j+425)→(jk (fTst (aG uf (aj (fCal bQ (aCons (fVar 0) (aCons (fCst (.int 3)) aNil)))) (aj (fCst (.int 0))))) (fSet 6 (fTup (aCons (aG bu (aD 2) (aj (fCst (.int 20)))) (aCons (aG bu (aD 2) (aj (aG bL (aj (fCst (.int 20))) (aj (fCal bQ (aCons (fVar 0) (aCons (fCst (.int 2)) aNil))))))) aNil)))) fNext [some (.ce b),some (.im (.int most)),some (.ow (.list (zs.map .str))),some (.ow (.dict (aR (bz ps)))),some (.ow (.list (pe.map .str))),some (.ow (.list (sm.map .str))),some (.im (.tuple [.str s1,.str s2])),none,none,none] C7=some (.nx,[some (.ce b),some (.im (.int most)),some (.ow (.list (zs.map .str))),some (.ow (.dict (aR (bz ps)))),some (.ow (.list (pe.map .str))),some (.ow (.list (sm.map .str))),some (.im (.tuple [.str a1,.str b1])),none,none,none],C9))→GG:=fun C9 a1 b1 ha hb hB9 e9=>by
  obtain⟨qs,qp,so⟩:=VN ps (by omega)
  have JD:=PX cU (xs:=zs) (a:=22) (b:=23) (by decide) (by omega);have JD:jG (zs.map cU) (some 22) (some 23)=_:=JD
  obtain⟨ey,SX⟩:∃ey,ey=(zs.drop 22).take (23-22):=⟨_,rfl⟩
  rw[←SX] at JD;have eyl:ey.length=1:=by rw[SX,mV,Ae];omega
  have yin:∀x∈ey,x∈zs:=fun x hx=>by rw[SX] at hx;exact Eh (uA hx)
  have ql:qs.length=ps.length:=by rw[qp.length_eq,aX]
  have ad2:bL (.list (qs.map .str)) (.list (ey.map .str))=some (.ow (.list ((qs++ey).map .str))):=by
   rw[gU];exact add_l (by rw[aX,aX];omega)
  obtain⟨qy,S7⟩:∃qy,qy=qs++ey:=⟨_,rfl⟩
  rw[←S7] at ad2;have qyl:qy.length=ps.length+1:=by rw[S7,fP];omega
  have qin:∀x∈qy,x∈zs:=fun x hx=>by
   rw[S7] at hx;rcases cL.mp hx with hx|hx
   ·have:=qp.mem_iff.mp hx;rw[Mf hP] at this;exact uA this
   ·exact yin x hx
  obtain⟨tA,CA,eA,aA,bA,SM⟩:=dj (m:=9) (k:=j+424) hB9 (by decide) (by decide)
  obtain⟨u,hu,u0,u1⟩:∃u:Int,(if(tA==0)=true then(1:Int) else 0)=u∧0≤u∧u≤1:=⟨_,rfl,by split<;>omega,by split<;>omega⟩
  obtain⟨tB,CB,eB,aB,bB,SN⟩:=dj (m:=(ps.length:Int)+u) (k:=j+423) SM (by omega) (by omega)
  obtain⟨z,mz,_,xz⟩:=rC (zs:=qy) aB (by omega)
  obtain⟨n,CC,eC,n0,n1,hBC⟩:=aac (j:=j+419) SN
  obtain⟨f,l,CD,eD,f0,f1,f2,hBD⟩:=Zk (j:=j+413) hBC
  obtain⟨tE,CE,eE,aE,bE,hBE⟩:=dj (m:=2) (k:=j+412) hBD (by decide) (by decide)
  obtain⟨day,iE,d0,d1⟩:∃day:Int,dJ [j8 f,.int l] tE=some (.int day)∧0≤day∧day≤99999:=by
   have:tE=0∨tE=1:=by omega
   rcases this with rfl|rfl
   ·exact⟨f,a_t0 _ _,f0,by omega⟩
   ·exact⟨l,a_t1 _ _ _,by omega,f2⟩
  obtain⟨tF,CF,eF,aF,bF,hBF⟩:=dj (m:=most+1) (k:=j+411) hBE (by omega) (by omega)
  obtain⟨lv,CG,eG,lQ,hr,rise,hBG⟩:=agd (many:=tF) (j:=j+6) (z:=z) (a1:=a1) (b1:=b1) (n:=n) (day:=day) hBF hN hP p0 p8 (by omega) (by omega) pnd pin n0 n1 d0 d1 aF (by omega)
  refine gg ⟨zs,ps,pe,lv,z,a1,b1,n,day,CG,fX [some (.ce b),some (.im (.int most)),none,none,none,none,none,none,none,none] rfl rfl ?_ rfl (hB.eq hBG),⟨hN,SQ,hP,p0,p8,by omega,by omega,pnd,pin,qin z mz,ha,hb,n0,n1,d0,d1,lQ,hr,rise⟩,hBG.mono (by omega)⟩;have xY:∀a b c d:ao,bL (.tuple [a,b]) (.tuple [c,d])=some (.im (.tuple [a,b,c,d])):=fun _ _ _ _=>CQ (yf rfl)
  simp_arith[PB,e1,e2,dO,cZ,fY,jK,ct,e3,e4,i4,e5,Eb,JC,ad1,e6,x1,e7,x2,↓e9,so,JD,ad2,ln,eA,nQ,hu,eB,xz,eC,xY,eD,eE,iE,eF,eG]
 obtain⟨t8,C8,e8,a8,b8,hB8⟩:=dj (m:=3) (k:=j+426) Ea (by decide) (by decide)
 by_cases h8:0<t8
 ·have S8:=decide_eq_true h8
  obtain⟨t9,C9,e9,a9,b9,hB9⟩:=dj (m:=2) (k:=j+425) hB8 (by decide) (by decide)
  obtain⟨y0,n0,_,z0⟩:=rC (zs:=zs) (k:=20) (by omega) (by omega)
  obtain⟨y1,n1,_,z1⟩:=rC (zs:=zs) (k:=20+t9) (by omega) (by omega)
  exact fin C9 y0 y1 n0 n1 hB9 (by simp_arith[e8,S8,z0,e9,z1])
 ·have S8:=decide_eq_false h8;exact fin C8 s1 s2 (sin _ m1') (sin _ m2') hB8.dec (by simp_arith[e8,S8])
def je(r q:List Int):Prop:=r.length<q.length∨(r.length=q.length∧lexLe r q)
theorem Yi:∀r:List Int,lexLe r r
 |[]=>trivial
 |a::r=>.inr ⟨rfl,Yi r⟩
theorem lex_trans:∀{r q s:List Int},lexLe r q→lexLe q s→lexLe r s
 |[],_,_,_,_=>trivial
 |a::r,b::q,c::s,h1,h2=>by
  rcases h1 with h1|⟨h1,k1⟩
  ·rcases h2 with h2|⟨h2,k2⟩<;>exact .inl (by omega)
  ·rcases h2 with h2|⟨h2,k2⟩
   ·exact .inl (by omega)
   ·exact .inr ⟨by omega,lex_trans k1 k2⟩
theorem Yj(n:Int):∀{r q:List Int},r.length=q.length→lexLe r q→lexLe (r++[n]) (q++[n])
 |[],[],_,_=>.inr ⟨rfl,trivial⟩
 |a::r,b::q,l,h=>h.imp id fun h=>⟨h.1,Yj n (K5 l) h.2⟩
theorem je.refl(r:List Int):je r r:=.inr ⟨rfl,Yi r⟩
theorem je.trans{r q s:List Int}(h1:je r q)(h2:je q s):je r s:=by
 rcases h1 with h1|⟨h1,k1⟩
 ·rcases h2 with h2|⟨h2,k2⟩<;>exact .inl (by omega)
 ·rcases h2 with h2|⟨h2,k2⟩
  ·exact .inl (by omega)
  ·exact .inr ⟨by omega,lex_trans k1 k2⟩
theorem je.snoc{r q:List Int}(n:Int)(h:je r q):je (r++[n]) (q++[n]):=by
 unfold je;rw[fP,fP];rcases h with h|⟨h,k⟩
 ·exact .inl (by omega)
 ·exact .inr ⟨by omega,Yj n h k⟩
def ltB(r q:List Int):Bool:=if(r.length:Int)=q.length then c7 (r.map .inl) (q.map .inl) else decide ((r.length:Int)<q.length)
theorem QB:∀{r q:List Int},r.length=q.length→(c7 (r.map .inl) (q.map .inl)=true→lexLe r q)∧(c7 (r.map .inl) (q.map .inl)=false→lexLe q r)
 |[],[],_=>⟨fun _=>trivial,fun _=>trivial⟩
 |a::r,b::q,l=>by
  rw[bY,bY,c7];have ih:=QB (K5 l);by_cases e:a=b
  ·rw[if_pos (congrArg jM e)]
   exact⟨fun h=>.inr ⟨e,ih.1 h⟩,fun h=>.inr ⟨e.symm,ih.2 h⟩⟩
  ·rw[if_neg fun h=>e (by injection h)]
   refine⟨fun h=>.inl (of_decide_eq_true h),fun h=>.inl ?_⟩
   have:=of_decide_eq_false h;omega
theorem aad(r q:List Int):(ltB r q=true→je r q)∧(ltB r q=false→je q r):=by
 unfold ltB;by_cases e:(r.length:Int)=q.length
 ·rw[if_pos e];have e:r.length=q.length:=by omega
  exact⟨fun h=>.inr ⟨e,(QB e).1 h⟩,fun h=>.inr ⟨e.symm,(QB e).2 h⟩⟩
 ·rw[if_neg e]
  refine⟨fun h=>.inl ?_,fun h=>.inl ?_⟩
  ·have:=of_decide_eq_true h;omega
  ·have:=of_decide_eq_false h;omega
theorem W9:∀r:List Int,keysOf (r.map .int)=some (r.map .inl)
 |[]=>rfl
 |a::r=>by
  rw[bY,keysOf,W9 r];rfl
theorem ahn(r q:List Int):CZ (.tuple [.int r.length,.list (r.map .int)]) (.tuple [.int q.length,.list (q.map .int)])=some (.im (.bool (ltB r q))):=by
 unfold CZ;simp only[W9,gR];refine if_pos fun h=>?_
 have:r.length=q.length:=by omega
 rw[dU,dU,show(bG ∘ jM:Int→Bool)=fun _=>true from rfl,adz,adz,this]
abbrev Tb:=List (Str×List Int)
def jU(f:Tb):List (Str×ao):=f.map fun x=>(x.1,.list (x.2.map .int))
def dg(f:Tb)(p:Str):Option (List Int):=(f.find? fun x=>decide (x.1=p)).map (·.2)
theorem uO(x:Str×List Int)(l:Tb)(p:Str):dg (x::l) p=if x.1=p then some x.2 else dg l p:=by
 unfold dg;rw[nq];by_cases h:x.1=p
 ·rw[decide_eq_true h,if_pos h];rfl
 ·rw[decide_eq_false h,if_neg h]
def vG(f:Tb)(z:Str)(v:List Int):Tb:=if(dg f z).isSome then f.map (fun x=>if x.1=z then(z,v) else x) else f++[(z,v)]
theorem HH(z p:Str)(v:List Int)(f:Tb):dg (vG f z v) p=if z=p then some v else dg f p:=by
 have set:∀f:Tb,dg (f.map fun x=>if x.1=z then(z,v) else x) p=if z=p then(dg f p).map fun _=>v else dg f p:=fun f=>by
  induction f with
  |nil=>split<;>rfl
  |cons x f ih=>
   rw[bY,uO,uO,ih];by_cases h2:z=p
   ·subst h2;by_cases h:x.1=z
    ·simp[h]
    ·simp[h]
   ·by_cases h:x.1=z
    ·simp[h,h2]
    ·simp[h,h2]
 have app:∀f:Tb,dg (f++[(z,v)]) p=(dg f p).or (if z=p then some v else none):=fun f=>by
  induction f with
  |nil=>exact uO _ _ _
  |cons x f ih=>
   rw[jo,uO,uO,ih];by_cases h:x.1=p
   ·rw[if_pos h,if_pos h];rfl
   ·rw[if_neg h,if_neg h]
 unfold vG;split
 ·rename_i h;rw[set];by_cases e:z=p
  ·subst e
   obtain⟨w,hw⟩:=sI.mp h
   rw[if_pos rfl,if_pos rfl,hw];rfl
  ·rw[if_neg e,if_neg e]
 ·rename_i h;rw[app];by_cases e:z=p
  ·subst e;rw[abV.mp h,if_pos rfl];rfl
  ·rw[if_neg e,if_neg e,Option.or_none]
theorem aho(f:Tb)(z:Str)(v:List Int):(vG f z v).length≤f.length+1:=by
 unfold vG;split
 ·rw[aX];exact wF _
 ·rw[fP];exact bK _
theorem Qa(f:Tb)(z:Str):mC (aR (jU f)) (.str z)=some ((dg f z).map fun v=>.list (v.map .int)):=by
 rw[MN];unfold jU dg;rw[U9,Ai,Ai];rfl
theorem aaC(f:Tb)(z:Str):jd (.str z) (.dict (aR (jU f)))=some (.im (.bool (dg f z).isSome)):=by
 show((mC (aR (jU f)) (.str z)).map (·.isSome)).map (fun b=>Vl.im (.bool b))=_
 rw[Qa,jW,Es];rfl
theorem akH{f:Tb}{z:Str}{v:List Int}(h:dg f z=some v):bu (.dict (aR (jU f))) (.str z)=some (.im (.list (v.map .int))):=by
 unfold bu sE;simp only[Qa,h,jW]
theorem aj1(f:Tb)(z:Str)(v:List Int):putD (aR (jU f)) (.str z) (.list (v.map .int))=some (aR (jU (vG f z v))):=by
 have ks:(dg f z).isSome=true↔z∈(jU f).map (·.1):=by
  unfold dg jU;rw[Es,dU,List.find?_isSome];simp only[dW,decide_eq_true_eq];rfl
 unfold vG;by_cases h:(dg f z).isSome=true
 ·rw[if_pos h]
  show(if(cH cQ (aR (jU f))).isSome then some (mK cQ (.inr z) (.str z) (.list (v.map .int)) (aR (jU f))) else none)=_
  rw[Bj];refine congrArg some ?_;unfold mK;rw[if_pos]
  ·unfold aR jU;rw[dU,dU,dU,dU];refine yg fun x _=>?_
   by_cases e:x.1=z
   ·simp[yZ,e]
   ·simp[yZ,e]
  ·obtain⟨x,hx,e⟩:=dW.mp (ks.mp h)
   exact adk.mpr ⟨(.str x.1,x.2),dW.mpr ⟨x,hx,rfl⟩,decide_eq_true ((yZ _ _).mpr e)⟩
 ·rw[if_neg h,Od fun m=>h (ks.mpr m)];unfold jU;rw[gU];rfl
def Dj(v:List Int):Option (List Int)→Bool
 |none=>true
 |some o=>ltB v o
def jT(f:Tb)(r:cO):Tb:=match dg f r.2.1 with
 |none=>f
 |some v=>if Dj (v++[r.1]) (dg f r.2.2.1) then vG f r.2.2.1 (v++[r.1]) else f
def qG(lv:List cO):Nat→Tb→Tb
 |0,f=>f
 |n+1,f=>qG lv n (lv.foldl jT f)
def oA(f g:Tb):Prop:=∀x v,dg f x=some v→∃w,dg g x=some w∧je w v
theorem oA.refl(f:Tb):oA f f:=fun x v h=>⟨v,h,je.refl _⟩
theorem oA.trans{f g h:Tb}(a:oA f g)(b:oA g h):oA f h:=fun x v e=>by
 obtain⟨w,e1,l1⟩:=a x v e
 obtain⟨u,e2,l2⟩:=b x w e1
 exact⟨u,e2,l2.trans l1⟩
theorem aae(f:Tb)(r:cO):oA f (jT f r):=by
 unfold jT;split
 ·exact oA.refl f
 ·rename_i v hv;split
  ·rename_i b;intro x w hx;rw[HH];by_cases e:r.2.2.1=x
   ·rw[if_pos e];rw[e,hx] at b
    exact⟨_,rfl,(aad _ _).1 b⟩
   ·rw[if_neg e]
    exact⟨w,hx,je.refl _⟩
  ·exact oA.refl f
theorem aiI{f:Tb}{r:cO}{v:List Int}(h:dg f r.2.1=some v):∃w,dg (jT f r) r.2.2.1=some w∧je w (v++[r.1]):=by
 unfold jT;rw[h];show ∃w,dg (if Dj (v++[r.1]) (dg f r.2.2.1) then vG f r.2.2.1 (v++[r.1]) else f) r.2.2.1=some w∧_;split
 ·rw[HH,if_pos rfl]
  exact⟨_,rfl,je.refl _⟩
 ·rename_i b;cases o:dg f r.2.2.1 with
  |none=>rw[o] at b;exact absurd rfl b
  |some w=>
   rw[o] at b
   exact⟨w,rfl,(aad _ _).2 (Uj _▸b)⟩
theorem QC:∀(lv:List cO)(f:Tb),oA f (lv.foldl jT f)
 |[],f=>oA.refl f
 |r::lv,f=>(aae f r).trans (QC lv (jT f r))
theorem aaf(lv:List cO):∀(n:Nat)(f:Tb),oA f (qG lv n f)
 |0,f=>oA.refl f
 |n+1,f=>(QC lv f).trans (aaf lv n _)
theorem Zm{r:cO}:∀{lv:List cO}{f:Tb}{v:List Int},r∈lv→dg f r.2.1=some v→∃w,dg (lv.foldl jT f) r.2.2.1=some w∧je w (v++[r.1])
 |q::lv,f,v,hm,hg=>by
  rw[Ex];rcases bN.mp hm with c|hm
  ·subst c
   obtain⟨w,e,l⟩:=aiI hg
   obtain⟨u,e2,l2⟩:=QC lv _ _ _ e
   exact⟨u,e2,l2.trans l⟩
  ·obtain⟨w,e,l⟩:=aae f q _ _ hg
   obtain⟨u,e2,l2⟩:=Zm hm e
   exact⟨u,e2,l2.trans (l.snoc _)⟩
theorem Zn{lv:List cO}{a x:Str}{p:List Int}(hp:gB (lv.map um) a p x):∀{k:Nat}{f:Tb}{v p0:List Int},dg f a=some v→je v p0→p.length≤k→∃w,dg (qG lv k f) x=some w∧je w (p0++p):=by
 induction hp with
 |nil _=>
  intro k f v p0 h l _
  obtain⟨w,e,l2⟩:=aaf lv k f _ _ h
  exact⟨w,e,by rw[j6];exact l2.trans l⟩
 |cons h1 _ ih=>
  intro k f v p0 h l hl;cases k with
  |zero=>exact absurd hl (acD _)
  |succ k=>
   obtain⟨c,hr,e⟩:=dW.mp h1
   injection e with e1 e2
   injection e2 with e2 e3
   obtain⟨w,e4,l4⟩:=Zm (f:=f) hr (by rw[e2];exact h)
   rw[e3] at e4;rw[e1] at l4
   obtain⟨u,e5,l5⟩:=ih (k:=k) e4 (l4.trans (l.snoc _)) (Nat.le_of_succ_le_succ hl)
   rw[j4] at l5
   exact⟨u,e5,l5⟩
def xZ(ws:List (Int×Str×Str))(h:Str)(f:Tb):Prop:=∀x v,dg f x=some v→gB ws h v x
theorem aj2{ws:List (Int×Str×Str)}{h:Str}{f:Tb}{r:cO}(hr:um r∈ws)(H:xZ ws h f):xZ ws h (jT f r):=by
 unfold jT;split
 ·exact H
 ·rename_i v hv;split
  ·intro x w hx;rw[HH] at hx;by_cases e:r.2.2.1=x
   ·rw[if_pos e] at hx;cases hx;rw[←e]
    exact(H _ _ hv).snoc hr
   ·rw[if_neg e] at hx;exact H x w hx
  ·exact H
theorem aag{ws:List (Int×Str×Str)}{h:Str}:∀{lv:List cO}{f:Tb},(∀r∈lv,um r∈ws)→xZ ws h f→xZ ws h (lv.foldl jT f)
 |[],_,_,H=>H
 |r::lv,f,hr,H=>aag (lv:=lv) (fun q hq=>hr q (eZ _ hq)) (aj2 (hr r dR) H)
theorem aah{ws:List (Int×Str×Str)}{h:Str}{lv:List cO}(hr:∀r∈lv,um r∈ws):∀{n:Nat}{f:Tb},xZ ws h f→xZ ws h (qG lv n f)
 |0,_,H=>H
 |n+1,_,H=>aah hr (n:=n) (aag hr H)
def ux(f:Tb)(M:Nat):Prop:=f.length≤M+1∧∀x v,dg f x=some v→v.length≤M
theorem aai{f:Tb}{M:Nat}(r:cO)(h:ux f M):ux (jT f r) (M+1):=by
 have h':ux f (M+1):=⟨Ue h.1,fun x v e=>Ue (h.2 x v e)⟩
 unfold jT;split
 ·exact h'
 ·rename_i v hv;split
  ·have:=aho f r.2.2.1 (v++[r.1]);have:=h.1
   refine⟨by omega,fun x w hx=>?_⟩
   rw[HH] at hx;by_cases e:r.2.2.1=x
   ·rw[if_pos e] at hx;cases hx;rw[fP];exact Ui (h.2 _ _ hv)
   ·rw[if_neg e] at hx;exact h'.2 x w hx
  ·exact h'
theorem aaj:∀{lv:List cO}{f:Tb}{M:Nat},ux f M→ux (lv.foldl jT f) (M+lv.length)
 |[],_,_,h=>h
 |r::lv,f,M,h=>by
  have:=aaj (lv:=lv) (aai r h);rw[Nat.add_right_comm] at this;exact this
theorem age{C:Ce}{lv:List cO}{h:Str}(lQ:lv.length≤16)(s:Str):Iz (lv.map um) h s (dg (qG lv lv.length [(h,[])]) s)∧∀v,dg (qG lv lv.length [(h,[])]) s=some v→v.length≤16:=by
 have T0:xZ (lv.map um) h [(h,[])]:=fun x v e=>by
  rw[uO] at e;split at e
  ·rename_i k;cases e;rw[←k];exact .nil _
  ·cases e
 have T:=aah (lv:=lv) (fun r hr=>dW.mpr ⟨r,hr,rfl⟩) (n:=lv.length) T0;have few:∀r,gB (lv.map um) h r s→∃w,dg (qG lv lv.length [(h,[])]) s=some w∧w.length≤lv.length∧(r.length≤lv.length→je w r):=fun r hr=>by
  obtain⟨st,_,B⟩:=Yg (C:=C) (ws:=(lv.map um).map CW) (s:=h) (by rw[aX,aX];omega)
  obtain⟨p,hp,pl⟩:=B.ag5 ⟨r,hr⟩
  rw[aX] at pl;have f0:dg [(h,[])] h=some []:=by rw[uO,if_pos rfl]
  obtain⟨w,e,l⟩:=Zn hp f0 (je.refl []) pl
  refine⟨w,e,?_,fun rl=>?_⟩
  ·rw[iC] at l;rcases l with l|l<;>omega
  ·obtain⟨w',e',l'⟩:=Zn hr f0 (je.refl []) rl
   rw[e] at e';cases e';exact l'
 cases e:dg (qG lv lv.length [(h,[])]) s with
 |none=>
  refine⟨fun r hr=>?_,fun v k=>nomatch k⟩
  obtain⟨w,e2,_⟩:=few r hr
  rw[e] at e2;cases e2
 |some v=>
  refine⟨⟨T s v e,fun r hr=>?_⟩,fun v' k=>by
   obtain⟨w,e2,l2,_⟩:=few v (T s v e)
   rw[e] at e2;cases e2;cases k;omega⟩
  obtain⟨w,e2,l2,k⟩:=few r hr
  rw[e] at e2;cases e2;by_cases c:r.length≤lv.length
  ·exact k c
  ·exact .inl (by omega)
theorem QD{f g:FS}{env e1:En}{C C1:Ce}(h:f env C=some (.nx,e1,C1)):fSeq f g env C=g e1 C1:=by
 unfold fSeq;rw[h]
theorem aj3{fi:FI}{g:FG}{b:FS}{env e1:En}{C C1:Ce}{its:List ao}(h:fi env C=some (its,e1,C1)):fQ fi g b env C=iK g b its e1 C1:=by
 unfold fQ;rw[h]
theorem aj4{C:Ce}{f:FB}{env:En}{k:Int}(h:f env C=some (.int k,env,C))(k1:0≤k)(k2:k≤1000):gM f env C=some (gK 0 k.toNat,env,C):=by
 unfold gM;rw[h];exact vD (by omega) (by omega) _ _
theorem ahp(r:cO)(l:List ao):fL (cu r::l)=fL l:=by
 unfold cu;simp only[fL,jl,Bool.true_and,Bool.and_true]
theorem Xa:∀l:List cO,fL (l.map cu)=true
 |[]=>rfl
 |r::l=>by rw[bY,ahp];exact Xa l
abbrev pJ(v0 v1 v2 v3 v4 v5:Option Vl)(f:Tb)(v7 v8 v9 v10:Option Vl):En:=[v0,v1,v2,v3,v4,v5,some (.ow (.dict (aR (jU f)))),v7,v8,v9,v10]
section
variable{C:Ce}{v0 v1 v2 v3 v4 v5 v7:Option Vl}
theorem ahq{f:Tb}{M:Nat}(r:cO)(hz:ux f M)(hM:M≤1000)(v9 v10:Option Vl):∃w9 w10,Ko (pJ v0 v1 v2 v3 v4 v5 f v7 (some (.im (cu r))) v9 v10) C=some (.nx,pJ v0 v1 v2 v3 v4 v5 (jT f r) v7 (some (.im (cu r))) w9 w10,C):=by
 have q:((aR (jU f)).length<1000000)=True:=eq_true (by have:=hz.1;unfold aR jU;rw[aX,aX];omega);have i1:=aaC f r.2.1;have g1:=Qa f r.2.2.1;unfold jT;simp only[pJ,cu];cases hv:dg f r.2.1 with
 |none=>
  rw[hv] at i1
  refine⟨v9,v10,?_⟩
  simp_arith[i1,T6]
 |some v=>
  rw[hv] at i1;have x1:=akH hv;have ad:bL (.list (v.map .int)) (.list [.int r.1])=some (.ow (.list ((v++[r.1]).map .int))):=by
   rw[gU];exact add_l (by have:=hz.2 _ _ hv;rw[aX];show _+1≤_;omega)
  have p1:=aj1 f r.2.2.1 (v++[r.1])
  obtain⟨row,hrow⟩:∃row,v++[r.1]=row:=⟨_,rfl⟩
  rw[hrow] at ad p1;cases ho:dg f r.2.2.1 with
  |none=>
   rw[ho] at g1
   refine⟨some (.im (.list (row.map .int))),some (.im .none),?_⟩
   simp_arith[i1,Aa,hrow,x1,ad,zR,g1,Option.map_none,o5,isNone,Dj,nZ,qt,p1,q]
  |some o=>
   rw[ho] at g1;have l1:=ahn row o;cases hb:ltB row o with
   |true=>
    rw[hb] at l1
    refine⟨some (.im (.list (row.map .int))),some (.im (.list (o.map .int))),?_⟩
    simp_arith[i1,Aa,hrow,x1,ad,zR,g1,jW,o5,isNone,Dj,hb,aX,l1,nZ,qt,p1,q]
   |false=>
    rw[hb] at l1
    refine⟨some (.ow (.list (row.map .int))),some (.im (.list (o.map .int))),?_⟩
    simp_arith[i1,Aa,hrow,x1,ad,zR,g1,jW,o5,isNone,Dj,hb,aX,l1,oE]
theorem aak:∀(lv:List cO)(f:Tb)(M:Nat)(v8 v9 v10:Option Vl),ux f M→M+lv.length≤1000→∃w8 w9 w10,iK (gNm 8) Ko (lv.map cu) (pJ v0 v1 v2 v3 v4 v5 f v7 v8 v9 v10) C=some (.nx,pJ v0 v1 v2 v3 v4 v5 (lv.foldl jT f) v7 w8 w9 w10,C)
 |[],f,M,v8,v9,v10,_,_=>⟨v8,v9,v10,rfl⟩
 |r::lv,f,M,v8,v9,v10,hz,hl=>by
  rw[cR] at hl
  obtain⟨x9,x10,e1⟩:=ahq (C:=C) (v0:=v0) (v1:=v1) (v2:=v2) (v3:=v3) (v4:=v4) (v5:=v5) (v7:=v7) r hz (by omega) v9 v10
  obtain⟨w8,w9,w10,e⟩:=aak lv (jT f r) (M+1) (some (.im (cu r))) x9 x10 (aai r hz) (by omega)
  refine⟨w8,w9,w10,?_⟩
  rw[Ex,←e,bY,iK];simp only[pJ,gNm,acR,acS] at e1⊢;simp only[e1]
end
theorem Wv{C:Ce}{v0 v1 v2 v3 v4:Option Vl}{lv:List cO}(lQ:lv.length≤16):∀(its:List ao)(f:Tb)(M:Nat)(sv:Vl)(v7 v8 v9 v10:Option Vl),sv=.ow (.list (lv.map cu))∨sv=.im (.list (lv.map cu))→ux f M→M+16*its.length≤900→∃w5 w7 w8 w9 w10,iK (gNm 7) Vi its (pJ v0 v1 v2 v3 v4 (some sv) f v7 v8 v9 v10) C=some (.nx,pJ v0 v1 v2 v3 v4 w5 (qG lv its.length f) w7 w8 w9 w10,C)
 |[],f,M,sv,v7,v8,v9,v10,_,_,_=>⟨some sv,v7,v8,v9,v10,rfl⟩
 |d::its,f,M,sv,v7,v8,v9,v10,hv,hz,hl=>by
  rw[cR] at hl
  obtain⟨x8,x9,x10,e1⟩:=aak (C:=C) (v0:=v0) (v1:=v1) (v2:=v2) (v3:=v3) (v4:=v4) (v5:=some (.im (.list (lv.map cu)))) (v7:=some (.im d)) lv f M v8 v9 v10 hz (by omega)
  obtain⟨w5,w7,w8,w9,w10,e2⟩:=Wv lQ its (lv.foldl jT f) (M+lv.length) (.im (.list (lv.map cu))) (some (.im d)) x8 x9 x10 (.inr rfl) (aaj hz) (by omega)
  refine⟨w5,w7,w8,w9,w10,?_⟩
  rw[cR,qG,←e2,iK];simp only[pJ] at e1⊢;rcases hv with rfl|rfl
  ·simp_arith[fQ,e1]
  ·simp_arith[fQ,e1]
theorem afg{C:Ce}{zs:List Str}{ps:List (Str×Str)}(hN:Names zs)(hP:gn zs ps)(p8:ps.length≤8)(z a1 b1:Str)(n day:Int)(lv:List cO):jP .one Kq Kr [some (.im (.dict (aR (bz ps)))),some (.im (dm z a1 b1 n)),some (.im (.int day))] (lv.map cu) C=some ((lv.filter (jZ (up ps z) n day a1 b1)).map cu,C):=by
 refine q9 (T:=.one) (ft:=Kq) (fe:=Kr) (fs:=[some (.im (.dict (aR (bz ps)))),some (.im (dm z a1 b1 n)),some (.im (.int day))]) (C:=C) cu (jZ (up ps z) n day a1 b1) cu (l:=lv) fun r _=>⟨[cu r],rfl,?_,fun _=>⟨.im (cu r),_,rfl,rfl⟩⟩
 have q:=aiD (C:=C) hN hP p8 z a1 b1 n day r;simp_arith[dw,jo,iC,q]
theorem agf{os:List Str}{n day:Int}{a1 b1:Str}{r:cO}(h:jZ os n day a1 b1 r=true):¬(r.2.2.1=a1∨r.2.2.1=b1):=by
 unfold jZ at h;simp only[gQ,Ub] at h;exact of_decide_eq_false h.2.2.2.2
theorem ahr{ht:gq}{os:List Str}{n day:Int}{a1 b1 h s:Str}{p:List Int}(hs:¬(h=a1∨h=b1))(hp:gB (rY ht os n day a1 b1) h p s):¬(s=a1∨s=b1):=by
 have:=hp.Z7;generalize p.reverse=p' at this;cases this with
 |nil=>exact hs
 |cons hw _=>
  obtain⟨r,hr,e⟩:=dW.mp (Oh.mp hw)
  injection e with e1 e2
  injection e2 with e2 e3
  rw[←e3];exact agf (pM.mp hr).2
def xN(ht:gq)(os:List Str)(n day:Int)(a1 b1 h s:Str)(o:Option (List Int)):Prop:=(((h=a1∨h=b1)∨(s=a1∨s=b1))→o=none)∧(¬((h=a1∨h=b1)∨(s=a1∨s=b1))→Iz (rY ht os n day a1 b1) h s o)
theorem afh{C:Ce}{zs:List Str}{ps ps':List (Str×Str)}{lv:List cO}(hN:Names zs)(hP:gn zs ps)(p8:ps.length≤8)(lQ:lv.length≤16)(z a1 b1:Str)(n day:Int)(h:Str):
  ∃f:Tb,Gk [.im (.dict (aR (bz ps))),.im (.list (lv.map cu)),.im (dm z a1 b1 n),.im (.str h),.im (.int day)] C=some (.ow (.dict (aR (jU f))),C)∧∀s,xN ⟨ps',[],lv,[]⟩ (up ps z) n day a1 b1 h s (dg f s)∧∀v,dg f s=some v→v.length≤16:=by
 refine hide fun GG gg=>?_
 have ct:jG [cU z,.int n,.str a1,.str b1] (some 2) none=[.str a1,.str b1]:=rfl;have ni:=Cq h a1 b1;by_cases h1:h=a1∨h=b1
 ·rw[decide_eq_true h1] at ni;refine gg ⟨[],fX [some (.im (.dict (aR (bz ps)))),some (.im (.list (lv.map cu))),some (.im (dm z a1 b1 n)),some (.im (.str h)),some (.im (.int day)),none,none,none,none,none,none] rfl rfl ?_ rfl rfl,fun s=>⟨⟨fun _=>rfl,fun k=>absurd (.inl h1) k⟩,fun v k=>nomatch k⟩⟩;simp_arith[Gj,dO,cZ,fY,jK,ct,ni,Cj];rfl
 rw[decide_eq_false h1] at ni
 obtain⟨l,lE⟩:∃l,l=lv.filter (jZ (up ps z) n day a1 b1):=⟨_,rfl⟩
 have ll:l.length≤16:=by rw[lE];exact jL (Eg _ _) lQ
 have c:=afg (C:=C) hN hP p8 z a1 b1 n day lv;rw[←lE] at c;have q:(l.length≤1000000)=True:=eq_true (by omega);have nl:=Xa l;have kd:cQ (.str h)=some (.inr h):=rfl;have fm:=fun s=>age (C:=C) (h:=h) ll s
 have rl:(gK 0 l.length).length=l.length:=by simp[gK]
 have z0:ux [(h,[])] 0:=⟨bK _,fun x v e=>by
  rw[uO] at e;split at e
  ·cases e;exact bK _
  ·cases e⟩
 obtain⟨w5,w7,w8,w9,w10,e1⟩:=Wv (C:=C) (v0:=some (.im (.dict (aR (bz ps))))) (v1:=some (.im (.list (lv.map cu)))) (v2:=some (.im (dm z a1 b1 n))) (v3:=some (.im (.str h))) (v4:=some (.im (.int day))) ll (gK 0 l.length) [(h,[])] 0 (.ow (.list (l.map cu))) none none none none (.inl rfl) z0 (by rw[rl];omega)
 rw[rl] at e1;generalize qG l l.length [(h,[])]=f at fm e1;refine gg ⟨f,fX [some (.im (.dict (aR (bz ps)))),some (.im (.list (lv.map cu))),some (.im (dm z a1 b1 n)),some (.im (.str h)),some (.im (.int day)),none,none,none,none,none,none] rfl rfl ?_ rfl rfl,fun s=>⟨⟨fun k=>?_,fun _=>by have:=(fm s).1;rw[lE] at this;exact this⟩,(fm s).2⟩⟩
 ·refine(congrArg (Wj fun p=>(p.1,p.2.2)) (?_:Gj _ C=some (.rt (.ow (.dict (aR (jU f)))),pJ (some (.im (.dict (aR (bz ps))))) (some (.im (.list (lv.map cu)))) (some (.im (dm z a1 b1 n))) (some (.im (.str h))) (some (.im (.int day))) w5 f w7 w8 w9 w10,C))).trans rfl
  refine(QD (e1:=[some (.im (.dict (aR (bz ps)))),some (.im (.list (lv.map cu))),some (.im (dm z a1 b1 n)),some (.im (.str h)),some (.im (.int day)),none,none,none,none,none,none]) (C1:=C) ?_).trans ?_
  ·simp_arith[dO,cZ,fY,jK,ct,ni]
  refine(QD (e1:=pJ (some (.im (.dict (aR (bz ps))))) (some (.im (.list (lv.map cu)))) (some (.im (dm z a1 b1 n))) (some (.im (.str h))) (some (.im (.int day))) (some (.ow (.list (l.map cu)))) [(h,[])] none none none none) (C1:=C) ?_).trans ?_
  ·have k0:aR (jU [(h,[])])=[(.str h,.list [])]:=rfl;simp only[pJ,k0];simp_arith[c,q,nl,zJ,kd]
  refine(QD ((aj3 (aj4 (k:=(l.length:Int)) ?_ (by omega) (by omega))).trans e1)).trans ?_
  ·show some (j8 ((l.map cu).length:Int),_,C)=_;rw[aX];rfl
  ·rfl
 ·cases e:dg f s with
  |none=>rfl
  |some v=>
   have:=(fm s).1;rw[e,lE] at this;exact absurd (k.resolve_left h1) (ahr (ht:=⟨ps',[],lv,[]⟩) h1 this.1)
theorem Zo{α:Type}{P:α→Prop}:∀{l:List α},(∀x∈l,P x)→∃xs:List {x:α // P x},xs.map (·.1)=l
 |[],_=>⟨[],rfl⟩
 |x::l,h=>by
  obtain⟨xs,e⟩:=Zo fun y hy=>h y (eZ _ hy)
  exact⟨⟨x,h x dR⟩::xs,congrArg (x::·) e⟩
theorem agg{C:Ce}{b L j:Nat}{pe:List Str}(hn:∀z∈pe,nameB z=true)(hl:pe.length≤100)(hB:Bl L C b (j+pe.length)):∃(ys:List Str)(C':Ce),Av [.ce b,.im (.list (pe.map .str))] C=some (.ow (.list (ys.map .str)),C')∧ys.Perm pe∧Bl L C' b j:=by
 obtain⟨xs,rfl⟩:=Zo hn
 rw[aX] at hl hB
 obtain⟨ys,C',e,pm,hB'⟩:=aiE (D:=fun x:{z:Str // nameB z=true}=>cU x.1) (fun l=>by
  have:=ne_nil (l.map (·.1)) (fun z hz=>by obtain⟨x,_,rfl⟩:=dW.mp hz;exact x.2);rw[dU,List.isEmpty_map] at this;exact this) hl hB
 refine⟨ys.map (·.1),C',?_,pm.map _,hB'⟩
 rw[dU,dU];exact e
theorem alg(ys:List Str):∃so:List Str,jG (ys.map cU) none (some 5)=so.map .str∧so.length≤5∧∀x∈so,x∈ys:=by
 refine⟨jG ys none (some 5),by unfold jG;rw[aX,Vv,adW],?_,fun x h=>Eh (uA h)⟩
 unfold jG;rw[mV];show min (HT.bR ys.length ys.length (some ((5:Nat):Int))-_) _≤5;rw[HT.G9];omega
def aal(R:Int→Prop):Option Int→Prop
 |none=>∀n,0≤n→n≤1000000000→¬R n
 |some m=>(0≤m∧m≤1000000000)∧R m∧∀n,m<n→n≤1000000000→¬R n
theorem ahs{ws ws':List (Int×Str×Str)}(h:∀w∈ws,w∈ws'){a b:Str}{r:List Int}(p:gB ws a r b):gB ws' a r b:=by
 induction p with
 |nil p=>exact .nil p
 |cons h1 _ ih=>exact .cons (h _ h1) ih
def Rn(ht:gq)(os:List Str)(day:Int)(a1 b1 h s:Str)(n:Int):Prop:=¬((h=a1∨h=b1)∨(s=a1∨s=b1))∧Rch (rY ht os n day a1 b1) h s
theorem aht{os:List Str}{n m day:Int}{a1 b1:Str}{r:cO}(h:jZ os n day a1 b1 r=true)(hm:m≤r.2.2.2.2.2.2):jZ os m day a1 b1 r=true:=by
 unfold jZ at h⊢;simp only[gQ] at h⊢
 exact⟨h.1,h.2.1,decide_eq_true hm,h.2.2.2⟩
theorem aj5{os:List Str}{n day:Int}{a1 b1:Str}{r:cO}(h:jZ os n day a1 b1 r=true):n≤r.2.2.2.2.2.2:=by
 unfold jZ at h;simp only[gQ] at h;exact of_decide_eq_true h.2.2.1
theorem Yk:∀(ns:List Int)(n:Int),(∃x∈ns,n≤x)→∃m∈ns,n≤m∧∀x∈ns,n≤x→m≤x
 |[],_,⟨_,h,_⟩=>absurd h nj
 |y::ns,n,⟨x,hx,l⟩=>by
  by_cases c:∃x∈ns,n≤x
  ·obtain⟨m,h1,h2,h3⟩:=Yk ns n c
   by_cases d:n≤y∧y≤m
   ·exact⟨y,dR,d.1,fun x hx l=>(bN.mp hx).elim (fun e=>by rw[e];exact sZ _) fun hx=>aen d.2 (h3 x hx l)⟩
   ·exact⟨m,eZ _ h1,h2,fun x hx l=>(bN.mp hx).elim (fun e=>by subst e;omega) fun hx=>h3 x hx l⟩
  ·rcases bN.mp hx with rfl|hx
   ·exact⟨x,dR,l,fun w hw k=>(bN.mp hw).elim (fun e=>by rw[e];exact sZ _) fun hw=>absurd ⟨w,hw,k⟩ c⟩
   ·exact absurd ⟨x,hx,l⟩ c
structure Dk(ht:gq)(ns:List Int):Prop where
 down:ns.Pairwise (·≥·)
 Dl:∀n∈ns,0≤n∧n≤1000000000
 top:1000000000∈ns
 each:∀r∈ht.leaves,r.2.2.2.2.2.2∈ns
 len:ns.length≤17
theorem Dk.up{ht:gq}{ns:List Int}(S:Dk ht ns){os:List Str}{day n:Int}{a1 b1 h s:Str}(hn:n≤1000000000)(R:Rn ht os day a1 b1 h s n):∃m∈ns,n≤m∧Rn ht os day a1 b1 h s m:=by
 obtain⟨m,h1,h2,h3⟩:=Yk ns n ⟨_,S.top,hn⟩
 obtain⟨k,r,p⟩:=R
 refine⟨m,h1,h2,k,r,ahs (fun w hw=>?_) p⟩
 obtain⟨l,hl,rfl⟩:=dW.mp hw
 obtain⟨q1,q2⟩:=pM.mp hl
 exact dW.mpr ⟨l,pM.mpr ⟨q1,aht q2 (h3 _ (S.each l q1) (aj5 q2))⟩,rfl⟩
theorem Dk.most{ht:gq}{ns:List Int}(S:Dk ht ns){os:List Str}{day:Int}{a1 b1 h s:Str}{o:Option Int}(ho:match o with|none=>∀n∈ns,¬Rn ht os day a1 b1 h s n|some m=>∃l r,ns=l++m::r∧Rn ht os day a1 b1 h s m∧∀n∈l,¬Rn ht os day a1 b1 h s n):aal (Rn ht os day a1 b1 h s) o:=by
 cases o with
 |none=>
  intro n _ h2 R
  obtain⟨m,h3,_,h4⟩:=S.up h2 R
  exact ho m h3 h4
 |some m=>
  obtain⟨l,r,e,h1,h2⟩:=ho
  refine⟨S.Dl m (by rw[e];exact dF _ dR),h1,fun n h3 h4 R=>?_⟩
  obtain⟨x,h5,h6,h7⟩:=S.up h4 R
  rw[e] at h5;rcases cL.mp h5 with h5|h5
  ·exact h2 x h5 h7
  ·rcases bN.mp h5 with rfl|h5
   ·omega
   ·have:=S.down;rw[e] at this;have:=(qR.mp (JT.mp this).2.1).1 x h5;omega
theorem aiJ{C:Ce}{zs:List Str}{ps:List (Str×Str)}{ht:gq}(hG:oM zs ps ht):∃ns,Fo [.im (iZ ht)] C=some (.ow (.list (ns.map .int)),C)∧Dk ht ns:=by
 have c:=q9 (T:=.one) (ft:=gw) (fe:=Uq) (fs:=[]) (C:=C) cu (fun _=>true) (fun r=>.int (if(1000000000:Int)<r.2.2.2.2.2.2 then 1000000000 else r.2.2.2.2.2.2)) (l:=ht.leaves) fun r _=>⟨_,rfl,rfl,fun _=>⟨_,_,by simp_arith[dw,jo,iC,cu];rfl,rfl⟩⟩
 rw[Ek.mpr fun _ _=>rfl] at c;have h16:=hG.lQ
 obtain⟨ms,me⟩:∃ms:List Int,ms=ht.leaves.map fun r=>if(1000000000:Int)<r.2.2.2.2.2.2 then 1000000000 else r.2.2.2.2.2.2:=⟨_,rfl⟩
 have ml:ms.length=ht.leaves.length:=by rw[me,aX]
 have q:(ms.length≤1000000)=True:=eq_true (by omega);have c2:ht.leaves.map (fun r=>j8 (if(1000000000:Int)<r.2.2.2.2.2.2 then 1000000000 else r.2.2.2.2.2.2))=ms.map .int:=by rw[me,dU];rfl
 rw[c2] at c;have io:intsOf (.int 1000000000::ms.map .int)=some (1000000000::ms):=Wq (1000000000::ms);have l64:decide (ms.length+1<64)=true:=decide_eq_true (by omega);have ad:bL (.list [.int 1000000000]) (.list (ms.map .int))=some (.ow (.list (.int 1000000000::ms.map .int))):=add_l (xs:=[.int 1000000000]) (by rw[aX];show 1+_≤_;omega);have pm:=wI (lt:=ltI) (1000000000::ms);have mem:∀n,n∈(mG ltI (1000000000::ms)).reverse↔n=1000000000∨n∈ms:=fun n=>by rw[List.mem_reverse,pm.mem_iff,bN]
 have mr:∀n∈ms,∃r∈ht.leaves,r.2.2.2.2.2.2=n:=fun n hn=>by
  rw[me] at hn
  obtain⟨r,hr,e⟩:=dW.mp hn
  refine⟨r,hr,?_⟩
  have:=(hG.leaves r hr).most;split at e<;>omega
 refine⟨(mG ltI (1000000000::ms)).reverse,fX [some (.im (iZ ht)),none] rfl rfl ?_ rfl rfl,⟨?_,fun n hn=>?_,(mem _).mpr (.inl rfl),fun r hr=>(mem _).mpr (.inr ?_),?_⟩⟩
 ·simp_arith[KJ,c,q,Qu,ad,io,l64]
 ·have:=N5 (lt:=ltI) aa4 (l:=1000000000::ms) fun _ _=>trivial
  exact acy.mpr (this.imp fun{a b} h=>by unfold ltI at h;exact Int.not_lt.mp (of_decide_eq_false h))
 ·rcases(mem n).mp hn with rfl|hn
  ·exact⟨by decide,by decide⟩
  ·obtain⟨r,hr,rfl⟩:=mr n hn
   exact(hG.leaves r hr).most
 ·rw[me];refine dW.mpr ⟨r,hr,?_⟩;have:=(hG.leaves r hr).most;split<;>omega
 ·rw[acI,pm.length_eq,cR];omega
def Ru:Option Int→ao
 |none=>.none
 |some m=>.int m
section
variable{C:Ce}{zs:List Str}{ps:List (Str×Str)}{ht:gq}(hN:Names zs)(hP:gn zs ps)(hG:oM zs ps ht){z a1 b1 h s:Str}{day:Int}
include hN hP hG
theorem Xb:∀(ns:List Int)(v8:Option Vl),∃(o:Option Int)(e':En),iK (gNm 8) VM (ns.map .int) [some (.im (iZ ht)),some (.im (.str z)),some (.im (.tuple [.str a1,.str b1])),some (.im (.str h)),some (.im (.str s)),some (.im (.int day)),some (.im (.str a1)),some (.im (.str b1)),v8] C=some ((match o with|none=>.nx|some m=>.rt (.im (.int m))),e',C)∧
  match o with|none=>∀n∈ns,¬Rn ht (up ps z) day a1 b1 h s n|some m=>∃l r,ns=l++m::r∧Rn ht (up ps z) day a1 b1 h s m∧∀n∈l,¬Rn ht (up ps z) day a1 b1 h s n
 |[],v8=>⟨none,_,rfl,fun n hn=>nomatch hn⟩
 |n::ns,v8=>by
  obtain⟨o,e1,h1,h2⟩:=Yh (C:=C) hN hP hG z a1 b1 n day h s
  have R:o.isSome=true↔Rn ht (up ps z) day a1 b1 h s n:=by
   by_cases c:(h=a1∨h=b1)∨(s=a1∨s=b1)
   ·rw[h1 c]
    exact⟨fun k=>(nomatch k),fun k=>absurd c k.1⟩
   ·have:=h2 c;cases o with
    |none=>exact⟨fun k=>(nomatch k),fun k=>absurd k.2 fun⟨r,p⟩=>this r p⟩
    |some r=>exact⟨fun _=>⟨c,r,this.1⟩,fun _=>rfl⟩
  rw[bY,iK];cases o with
  |some r=>
   refine⟨some n,[some (.im (iZ ht)),some (.im (.str z)),some (.im (.tuple [.str a1,.str b1])),some (.im (.str h)),some (.im (.str s)),some (.im (.int day)),some (.im (.str a1)),some (.im (.str b1)),some (.im (.int n))],?_,[],ns,rfl,R.mp rfl,fun n hn=>nomatch hn⟩
   simp_arith[e1,xM,rJ,isNone]
  |none=>
   obtain⟨o,e',e2,h3⟩:=Xb ns (some (.im (.int n)))
   refine⟨o,e',?_,?_⟩
   ·simp_arith[e1,xM,rJ,isNone];exact e2
   ·have nR:¬Rn ht (up ps z) day a1 b1 h s n:=fun k=>nomatch R.mpr k
    cases o with
    |none=>exact fun x hx=>(bN.mp hx).elim (fun e=>by rw[e];exact nR) (h3 x)
    |some m=>
     obtain⟨l,r,e,p1,p2⟩:=h3
     exact⟨n::l,r,by rw[e];rfl,p1,fun x hx=>(bN.mp hx).elim (fun e=>by rw[e];exact nR) (p2 x)⟩
theorem aiK:∃o,GD [.im (iZ ht),.im (.str z),.im (.tuple [.str a1,.str b1]),.im (.str h),.im (.str s),.im (.int day)] C=some (.im (Ru o),C)∧aal (Rn ht (up ps z) day a1 b1 h s) o:=by
 obtain⟨ns,e1,S⟩:=aiJ (C:=C) hG
 obtain⟨o,e',e2,ho⟩:=Xb (C:=C) hN hP hG (z:=z) (a1:=a1) (b1:=b1) (h:=h) (s:=s) (day:=day) ns none
 refine⟨o,fX [some (.im (iZ ht)),some (.im (.str z)),some (.im (.tuple [.str a1,.str b1])),some (.im (.str h)),some (.im (.str s)),some (.im (.int day)),none,none,none] rfl rfl ?_ rfl rfl,S.most ho⟩
 have q:(ns.length≤1000000)=True:=eq_true (by have:=S.len;omega);cases o with
 |none=>
  simp_arith[GC,e1,fQ,iV,itD,q,e2];rfl
 |some m=>
  simp_arith[GC,e1,fQ,iV,itD,q,e2];rfl
end
theorem xN.iff{ht:gq}{os:List Str}{n day:Int}{a1 b1 h s:Str}{o:Option (List Int)}(R:xN ht os n day a1 b1 h s o):o.isSome=true↔Rn ht os day a1 b1 h s n:=by
 by_cases c:(h=a1∨h=b1)∨(s=a1∨s=b1)
 ·rw[R.1 c]
  exact⟨fun k=>(nomatch k),fun k=>absurd c k.1⟩
 ·have r:=R.2 c;cases o with
  |none=>exact⟨fun k=>(nomatch k),fun k=>by obtain⟨_,p,hp⟩:=k;exact absurd hp (r p)⟩
  |some v=>exact⟨fun _=>⟨c,v,r.1⟩,fun _=>rfl⟩
open Classical in
noncomputable def z6 (ht:gq) (os:List Str) (day:Int) (a1 b1 h s:Str) (n:Int):Bool:=decide (Rn ht os day a1 b1 h s n)
theorem xN.b{ht:gq}{os:List Str}{n day:Int}{a1 b1 h s:Str}{o:Option (List Int)}(R:xN ht os n day a1 b1 h s o):o.isSome=z6 ht os day a1 b1 h s n:=by
 rw[pN,R.iff]
 exact(@decide_eq_true_iff _ (Tu _)).symm
theorem akI{ht:gq}{os:List Str}{n day:Int}{a1 b1 h s:Str}(R:Rn ht os day a1 b1 h s n):z6 ht os day a1 b1 h s n=true:=by
 exact @decide_eq_true _ (Tu _) R
theorem aaD{ht:gq}{os:List Str}{n day:Int}{a1 b1 h s:Str}(R:¬Rn ht os day a1 b1 h s n):z6 ht os day a1 b1 h s n=false:=by
 exact @decide_eq_false _ (Tu _) R
abbrev qO(ns:List Int)(v1:Option Vl)(b:Nat)(ps:List (Str×Str))(v4:Option Vl)(lv:List cO)(z a1 b1:Str)(n day:Int)(ht:gq)(v9 v10 v11 bV gO jz jA:Option Vl):En:=
 [some (.sc ns),v1,some (.ce b),some (.im (.dict (aR (bz ps)))),v4,some (.im (.list (lv.map cu))),some (.im (dm z a1 b1 n)),some (.im (.int day)),some (.im (iZ ht)),v9,v10,v11,bV,gO,jz,jA]
section
variable{C:Ce}{ns:List Int}{v1 v4 v9:Option Vl}{b:Nat}{zs:List Str}{ps ps':List (Str×Str)}{lv:List cO}(hN:Names zs)(hP:gn zs ps)(hG:oM zs ps ⟨ps',[],lv,[]⟩){z a1 b1:Str}{n day:Int}
include hN hP hG
theorem agh(h s:Str)(l:List Int):jP .one gw Ol [some (.im (.str s)),some (.im (.dict (aR (bz ps)))),some (.im (.list (lv.map cu))),some (.im (dm z a1 b1 n)),some (.im (.str h)),some (.im (.int day))] (l.map .int) C=some (l.map fun n=>.bool (z6 ⟨ps',[],lv,[]⟩ (up ps z) day a1 b1 h s n),C):=by
 have ct:jG [cU z,.int n,.str a1,.str b1] (some 2) none=[.str a1,.str b1]:=rfl;have xY:∀a b c d:ao,bL (.tuple [a,b]) (.tuple [c,d])=some (.im (.tuple [a,b,c,d])):=fun _ _ _ _=>CQ (yf rfl)
 have:=q9 (T:=.one) (ft:=gw) (fe:=Ol) (fs:=[some (.im (.str s)),some (.im (.dict (aR (bz ps)))),some (.im (.list (lv.map cu))),some (.im (dm z a1 b1 n)),some (.im (.str h)),some (.im (.int day))]) (C:=C) j8 (fun _=>true) (fun n=>.bool (z6 ⟨ps',[],lv,[]⟩ (up ps z) day a1 b1 h s n)) (l:=l) fun m _=>⟨[.int m],rfl,rfl,fun _=>by
  obtain⟨f,e1,M⟩:=afh (C:=C) (ps':=ps') hN hP hG.p8 (show lv.length≤16 from hG.lQ) z a1 b1 m day h
  have i1:=aaC f s;rw[(M s).1.b] at i1
  refine⟨.im (.bool (z6 ⟨ps',[],lv,[]⟩ (up ps z) day a1 b1 h s m)),dw [.int m]++[some (.im (.str s)),some (.im (.dict (aR (bz ps)))),some (.im (.list (lv.map cu))),some (.im (dm z a1 b1 n)),some (.im (.str h)),some (.im (.int day))],?_,rfl⟩
  simp_arith[dw,jo,iC,dO,cZ,fY,jK,ct,xY,e1,i1]⟩
 rw[Ek.mpr fun _ _=>rfl] at this;exact this
theorem aj6(h s:Str)(bV gO jz jA:Option Vl):∃w12 w13 w14 w15,Om (qO ns v1 b ps v4 lv z a1 b1 n day ⟨ps',[],lv,[]⟩ v9 (some (.im (.str h))) (some (.im (.str s))) bV gO jz jA) C=some (.nx,qO ns v1 b ps v4 lv z a1 b1 n day ⟨ps',[],lv,[]⟩ v9 (some (.im (.str h))) (some (.im (.str s))) w12 w13 w14 w15,C):=by
 obtain⟨o,e1,M⟩:=aiK (C:=C) hN hP hG (z:=z) (a1:=a1) (b1:=b1) (h:=h) (s:=s) (day:=day)
 have rc:=agh (C:=C) hN hP hG (z:=z) (a1:=a1) (b1:=b1) (n:=n) (day:=day) h s;have ct:jG [cU z,.int n,.str a1,.str b1] (some 2) none=[.str a1,.str b1]:=rfl;have xY:∀a b c d:ao,bL (.tuple [a,b]) (.tuple [c,d])=some (.im (.tuple [a,b,c,d])):=fun _ _ _ _=>CQ (yf rfl)
 have pw:qj (.int 10) (.int 9)=some (.im (.int 1000000000)):=rfl;have row:=fun m=>Yh (C:=C) hN hP hG z a1 b1 m day h s
 simp only[qO];cases o with
 |none=>
  have f0:=aaD (M 0 (sZ _) (by decide));have c0:=rc [0]
  obtain⟨o2,e2,R2⟩:=row 0
  have b2:=xN.b R2;rw[f0] at b2;have b2:=abV.mp (Bool.eq_false_iff.mp b2);subst b2;simp only[bY,jq,f0] at c0;simp only[Ru] at e1;simp only[xM] at e2;have nl:fL [.bool false]=true:=rfl;have ai:dJ [V5 [.bool false],.list [.bool true,.bool false],.list [.bool true]] (0+0)=some (.list [.bool false]):=rfl;have d1:iQ (.list [.bool false]) (.list [.bool false])=some (.im (.bool false)):=rfl;have d2:lK .none (.int 1000000000)=some (.im (.bool false)):=rfl;have d3:iQ (.bool true) (.bool true)=some (.im (.bool false)):=rfl
  refine⟨some (.im .none),some (.ow (.list [.int 0])),some (.ow (.list [.bool false])),some (.im (dm z a1 b1 0)),?_⟩
  simp_arith[e1,dO,cZ,fY,jK,ct,o5,rJ,isNone,c0,nl,ai,d1,d2,d3,pw,nQ,xY,e2,xH,zQ]
 |some m=>
  obtain⟨⟨m0,m1⟩,r1,r2⟩:=M
  have f1:=akI r1
  obtain⟨o2,e2,R2⟩:=row m
  have b2:=xN.b R2;rw[f1] at b2
  obtain⟨r,rfl⟩:=sI.mp b2
  simp only[Ru] at e1;simp only[xM] at e2;have d3:iQ (.bool false) (.bool false)=some (.im (.bool false)):=rfl;by_cases c:m=1000000000
  ·subst c;have c0:=rc [1000000000];simp only[bY,jq,f1] at c0;have nl:fL [.bool true]=true:=rfl;have ai:dJ [V5 [.bool false],.list [.bool true,.bool false],.list [.bool true]] (1+1)=some (.list [.bool true]):=rfl;have d1:iQ (.list [.bool true]) (.list [.bool true])=some (.im (.bool false)):=rfl;have d2:lK (.int 1000000000) (.int 1000000000)=some (.im (.bool true)):=rfl;have d4:iQ (.int 1000000000) (.int 1000000000)=some (.im (.bool false)):=rfl
   refine⟨some (.im (.int 1000000000)),some (.ow (.list [.int 1000000000])),some (.ow (.list [.bool true])),some (.im (dm z a1 b1 1000000000)),?_⟩
   simp_arith[e1,dO,cZ,fY,jK,ct,o5,rJ,isNone,c0,nl,ai,d1,d2,d3,d4,pw,nQ,xY,e2,xH,zQ]
  ·have f2:=aaD (r2 (m+1) (by omega) (by omega));have c0:=rc [m,m+1];simp only[bY,jq,f1,f2] at c0;have nl:fL [.bool true,.bool false]=true:=rfl;have ai:dJ [V5 [.bool false],.list [.bool true,.bool false],.list [.bool true]] (1+0)=some (.list [.bool true,.bool false]):=rfl;have d1:iQ (.list [.bool true,.bool false]) (.list [.bool true,.bool false])=some (.im (.bool false)):=rfl;have d2:lK (.int m) (.int 1000000000)=some (.im (.bool false)):=by
    show some (Vl.im (.bool (m==1000000000)))=_;rw[beq_eq_false_iff_ne.mpr c]
   have d4:iQ (.int m) (.int 1000000000)=some (.im (.bool true)):=by
    show some (Vl.im (.bool (!(m==1000000000))))=_;rw[beq_eq_false_iff_ne.mpr c];rfl
   refine⟨some (.im (.int m)),some (.ow (.list [.int m,.int (m+1)])),some (.ow (.list [.bool true,.bool false])),some (.im (dm z a1 b1 m)),?_⟩
   simp_arith[e1,dO,cZ,fY,jK,ct,o5,rJ,isNone,c0,nl,ai,d1,d2,d3,d4,pw,nQ,xY,e2,xH,zQ]
end
section
variable{C:Ce}{ns:List Int}{v1 v4 v9:Option Vl}{b:Nat}{zs:List Str}{ps ps':List (Str×Str)}{lv:List cO}(hN:Names zs)(hP:gn zs ps)(hG:oM zs ps ⟨ps',[],lv,[]⟩){z a1 b1:Str}{n day:Int}
include hN hP hG
theorem agi(h:Str)(ss:List Str)(v11 bV gO jz jA:Option Vl):∃w11 w12 w13 w14 w15,iK (gNm 11) Om (ss.map .str) (qO ns v1 b ps v4 lv z a1 b1 n day ⟨ps',[],lv,[]⟩ v9 (some (.im (.str h))) v11 bV gO jz jA) C=some (.nx,qO ns v1 b ps v4 lv z a1 b1 n day ⟨ps',[],lv,[]⟩ v9 (some (.im (.str h))) w11 w12 w13 w14 w15,C):=by
 induction ss generalizing v11 bV gO jz jA with
 |nil=>exact⟨v11,bV,gO,jz,jA,rfl⟩
 |cons s ss ih=>
  obtain⟨x12,S9,Tc,Td,e⟩:=aj6 (C:=C) (ns:=ns) (v1:=v1) (b:=b) (v4:=v4) (v9:=v9) hN hP hG (z:=z) (a1:=a1) (b1:=b1) (n:=n) (day:=day) h s bV gO jz jA
  obtain⟨w11,w12,w13,w14,w15,e2⟩:=ih (some (.im (.str s))) x12 S9 Tc Td
  refine⟨w11,w12,w13,w14,w15,?_⟩
  rw[bY,iK];simp only[qO,gNm,acR,acS] at e e2⊢;simp only[e,e2]
theorem afi(so hs:List Str)(v10 v11 bV gO jz jA:Option Vl):∃w10 w11 w12 w13 w14 w15,iK (gNm 10) Oo (hs.map .str) (qO ns v1 b ps v4 lv z a1 b1 n day ⟨ps',[],lv,[]⟩ (some (.im (.list (so.map .str)))) v10 v11 bV gO jz jA) C=some (.nx,qO ns v1 b ps v4 lv z a1 b1 n day ⟨ps',[],lv,[]⟩ (some (.im (.list (so.map .str)))) w10 w11 w12 w13 w14 w15,C):=by
 induction hs generalizing v10 v11 bV gO jz jA with
 |nil=>exact⟨v10,v11,bV,gO,jz,jA,rfl⟩
 |cons h hs ih=>
  obtain⟨x11,x12,S9,Tc,Td,e⟩:=agi (C:=C) (ns:=ns) (v1:=v1) (b:=b) (v4:=v4) (v9:=some (.im (.list (so.map .str)))) hN hP hG (z:=z) (a1:=a1) (b1:=b1) (n:=n) (day:=day) h so v11 bV gO jz jA
  obtain⟨w10,w11,w12,w13,w14,w15,e2⟩:=ih (some (.im (.str h))) x11 x12 S9 Tc Td
  refine⟨w10,w11,w12,w13,w14,w15,?_⟩
  rw[bY,iK];simp only[qO] at e e2⊢;simp_arith[Oo,fQ,e,e2]
end
theorem ahu(ns:List Int)(h:ns.length≤63):∃C',zL [.sc ns] []=some (.im (.bool true),C'):=by
 obtain⟨m,hm,m1,m2⟩:∃m:Int,(1+if(ns.length:Int)<4 then(ns.length:Int) else 4)=m∧0≤m∧m≤5:=⟨_,rfl,by split<;>omega,by split<;>omega⟩
 obtain⟨env',C',e,he⟩:=yN (g:=gNm 1) (body:=Oq) (its:=gK 0 m.toNat) (env:=[some (.sc ns),none,none,none,none,none,none,none,none,none,none,none,none,none,none,none]) (C:=[])
  (fun i env C1=>∃v1 v2 v3 v4 v5 v6 v7 v8 v9 v10 v11 bV gO jz jA,env=[some (.sc ns),v1,v2,v3,v4,v5,v6,v7,v8,v9,v10,v11,bV,gO,jz,jA]) ⟨_,_,_,_,_,_,_,_,_,_,_,_,_,_,_,rfl⟩ (fun i d env C1 hd hI=>by
   obtain⟨v1,v2,v3,v4,v5,v6,v7,v8,v9,v10,v11,bV,gO,jz,jA,rfl⟩:=hI
   obtain⟨rfl,hi⟩:=Bv hd
   refine hide fun GG gg=>?_
   obtain⟨x,y,hb,x0⟩:=ahe (C:=C1) (ns:=ns) (k:=0+(i:Int)) (by omega) (by omega)
   have hB:=ajM (y:=y) C1 x0
   obtain⟨zs,ps,pe,lv,z,a1,b1,n,day,C2,e2,K,hB2⟩:=aiH (most:=16) (j:=799540) hB (by decide) (by decide)
   obtain⟨ps',p1,e3⟩:=aeD (C:=C2) K.p0 K.p8 lv
   have hG:oM zs ps ⟨ps',[],lv,[]⟩:=ajY p1 K.p8 K.lQ (fun r h=>(K.leaves r h).1) (K.rise.imp fun h=>Int.ne_of_lt h);have kf:=K.few
   obtain⟨ys,C3,e4,_,hB3⟩:=agg (C:=C2) (b:=C1.length) (L:=C1.length+1) (j:=799500) (pe:=pe) (fun z hz=>K.names.2 z (K.akF z hz)) (by omega) (hB2.mono (by omega))
   obtain⟨so,c1,sl,_⟩:=alg ys
   obtain⟨w10,w11,w12,w13,w14,w15,e5⟩:=afi (C:=C3) (ns:=ns) (v1:=some (.im (.int (0+(i:Int))))) (b:=C1.length) (v4:=some (.im (.list (pe.map .str)))) K.names K.parts hG (z:=z) (a1:=a1) (b1:=b1) (n:=n) (day:=day) so so v10 v11 bV gO jz jA
   refine gg ⟨_,.nx,qO ns (some (.im (.int (0+(i:Int))))) C1.length ps (some (.im (.list (pe.map .str)))) lv z a1 b1 n day ⟨ps',[],lv,[]⟩ (some (.im (.list (so.map .str)))) w10 w11 w12 w13 w14 w15,C3,rfl,?_,.inl rfl,_,_,_,_,_,_,_,_,_,_,_,_,_,_,_,rfl⟩;simp only[qO] at e5⊢;simp_arith[Oq,De,hb,intsOf,e2,e3,aiC,e4,dO,cZ,fY,jK,c1,fQ,e5])
 refine⟨C'.take 0,?_⟩
 unfold zL fN;rw[if_pos (show[Vl.sc ns].length=1 from rfl),show([Vl.sc ns].map some++gH (16-[Vl.sc ns].length) none)=[some (.sc ns),none,none,none,none,none,none,none,none,none,none,none,none,none,none,none] from rfl];simp_arith[Q5,fQ,gM,vf,qe,hm,vD (m:=m) (by omega) (by omega),e,CJ]
theorem all_mk{l:Uv}{w:aY}{K:aH}{h:aV}{mg:Str→Option Value}{fa:aa}{cC:Tok}(X:K.In h)(G:h.Ns gC mg)(hfa:mg "law"=some (.ref fa))
  (d0:f9 K "parts_over" FW)
  (d1:f9 K "row_of" Oj)
  (d2:f9 K "is_side" MT)
  (d3:f9 K "ways_on" Gz)
  (d4:f9 K "first_row" Lh)
  (d5:f9 K "nearer_way" FZ)
  (d6:f9 K "steps_to" Gs)
  (d7:f9 K "most_of" M3)
  (d8:f9 K "sums_to_try" Fj)
  (d9:f9 K "_law_mix" Qv)
  (d10:f9 K "_law_drawn_from" KC)
  (d11:f9 K "_law_pick" Px)
  (d12:f9 K "_law_some_names" uF)
  (d13:f9 K "_law_shuffled" Li)
  (d14:f9 K "_law_two_days" Lj)
  (d15:f9 K "_law_some_sum" Lk)
  (d16:f9 K "_law_some_parts" KD)
  (d17:f9 K "_law_parts_over" KH)
  (d18:f9 K "_law_rising" M4)
  (d19:f9 K "_law_some_leaves" Kl)
  (d20:f9 K "_law_house_of" Ln)
  (d21:f9 K "_law_case" Py)
  (d22:f9 K "_law_lets" Pz)
  (d23:f9 K "_law_all_rows" Gf)
  (d24:f9 K "law" Iu)
  (Iv:nD K gC "abs"=some none)
  (Qw:nD K gC "bool"=some none)
  (Lp:nD K gC "enumerate"=some none)
  (vm:nD K gC "int"=some none)
  (Ga:nD K gC "isinstance"=some none)
  (kY:nD K gC "len"=some none)
  (Qx:nD K gC "list"=some none)
  (Q4:nD K gC "max"=some none)
  (vo:nD K gC "min"=some none)
  (oV:nD K gC "range"=some none)
  (wL:nD K gC "sorted"=some none)
  (Hw:nD K gC "tuple"=some none)
  (adJ:nD K gC "GREATEST_SUM"=some (some (.int 1000000000 cC)))
  :∃fd:di,(∀(s:au)(v:Value),wM s fd ⟨[v],[]⟩ [("_law_script",v)])∧∀base:aV,K.In base→base.Ns gC mg→cW l.prog w K mg base eV 6 fa fd ["_law_script"] (spT K zL):=by
 have T:Txt K mg cC:=⟨pK X G Iv,pK X G Qw,pK X G Lp,pK X G vm,pK X G Ga,pK X G kY,pK X G Qx,pK X G Q4,pK X G vo,pK X G oV,pK X G wL,pK X G Hw,Vp X G adJ⟩
 refine d24.law X G hfa (fun base f fd F=>?_) (fun _ _ _ _ _ _=>(bT fun _=>(iu rfl)));have Lb:=d0.has X G (fun f fd F=>adT (P:=l.prog) (w:=w) (base:=base) F T) (fun _ _ _ _ _ _=>(bT fun _=>(bT fun _=>(iu rfl))));have uK:=d2.has X G (fun f fd F=>afa (P:=l.prog) (w:=w) (base:=base) F T) (fun _ _ _ _ _ _=>(bT fun _=>(bT fun _=>(iu rfl))));have M8:=d3.has X G (fun f fd F=>afb (P:=l.prog) (w:=w) (base:=base) F T Lb uK) (fun _ _ _ _ _ _=>(bT fun _=>(bT fun _=>(bT fun _=>(iu rfl)))));have Mj:=d6.has X G (fun f fd F=>aeB (P:=l.prog) (w:=w) (base:=base) F T) (fun _ _ _ _ _ _=>(bT fun _=>(bT fun _=>(iu rfl))));have Ld:=d5.has X G (fun f fd F=>adU (P:=l.prog) (w:=w) (base:=base) F T) (fun _ _ _ _ _ _=>(bT fun _=>(bT fun _=>(bT fun _=>(iu rfl)))));have Lx:=d4.has X G (fun f fd F=>aeg (P:=l.prog) (w:=w) (base:=base) F T Mj Ld) (fun _ _ _ _ _ _=>(bT fun _=>(bT fun _=>(bT fun _=>(iu rfl)))));have yQ:=d1.has X G (fun f fd F=>af7 (P:=l.prog) (w:=w) (base:=base) F T uK M8 Lx) (fun _ _ _ _ _ _=>(bT fun _=>(bT fun _=>(bT fun _=>(bT fun _=>(bT fun _=>(iu rfl)))))));have KY:=d8.has X G (fun f fd F=>adE (P:=l.prog) (w:=w) (base:=base) F T) (fun _ _ _ _ _ _=>(bT fun _=>(iu rfl)));have Nb:=d7.has X G (fun f fd F=>afc (P:=l.prog) (w:=w) (base:=base) F T yQ KY) (fun _ _ _ _ _ _=>(bT fun _=>(bT fun _=>(bT fun _=>(bT fun _=>(bT fun _=>(bT fun _=>(iu rfl))))))));have Ie:=d9.has X G (fun f fd F=>aiy (P:=l.prog) (w:=w) (base:=base) F T) (fun _ _ _ _ _ _=>(bT fun _=>(bT fun _=>(iu rfl))));have K3:=d10.has X G (fun f fd F=>adF (P:=l.prog) (w:=w) (base:=base) F T) (fun _ _ _ _ _ _=>(bT fun _=>(bT fun _=>(iu rfl))));have bZ:=d11.has X G (fun f fd F=>ahb (P:=l.prog) (w:=w) (base:=base) F T Ie) (fun _ _ _ _ _ _=>(bT fun _=>(bT fun _=>(iu rfl))));have KZ:=d12.has X G (fun f fd F=>adG (P:=l.prog) (w:=w) (base:=base) F T bZ) (fun _ _ _ _ _ _=>(bT fun _=>(bT fun _=>(iu rfl))));have Ly:=d13.has X G (fun f fd F=>aeh (P:=l.prog) (w:=w) (base:=base) F T bZ) (fun _ _ _ _ _ _=>(bT fun _=>(bT fun _=>(iu rfl))));have yL:=d14.has X G (fun f fd F=>aei (P:=l.prog) (w:=w) (base:=base) F T bZ) (fun _ _ _ _ _ _=>(bT fun _=>(iu rfl)));have yM:=d15.has X G (fun f fd F=>aej (P:=l.prog) (w:=w) (base:=base) F T bZ) (fun _ _ _ _ _ _=>(bT fun _=>(iu rfl)));have K1:=d16.has X G (fun f fd F=>adH (P:=l.prog) (w:=w) (base:=base) F T bZ) (fun _ _ _ _ _ _=>(bT fun _=>(bT fun _=>(iu rfl))));have yF:=d17.has X G (fun f fd F=>adI (P:=l.prog) (w:=w) (base:=base) F T) (fun _ _ _ _ _ _=>(bT fun _=>(bT fun _=>(iu rfl))));have M9:=d18.has X G (fun f fd F=>afd (P:=l.prog) (w:=w) (base:=base) F T bZ) (fun _ _ _ _ _ _=>(bT fun _=>(bT fun _=>(iu rfl))));have Ks:=d19.has X G (fun f fd F=>adx (P:=l.prog) (w:=w) (base:=base) F T bZ yL yM yF M9) (fun _ _ _ _ _ _=>(bT fun _=>(bT fun _=>(bT fun _=>(bT fun _=>(bT fun _=>(bT fun _=>(iu rfl))))))));have Lz:=d20.has X G (fun f fd F=>aek (P:=l.prog) (w:=w) (base:=base) F T) (fun _ _ _ _ _ _=>(bT fun _=>(bT fun _=>(iu rfl))));have PK:=d21.has X G (fun f fd F=>ahc (P:=l.prog) (w:=w) (base:=base) F T bZ KZ yL yM K1 Ks) (fun _ _ _ _ _ _=>(bT fun _=>(bT fun _=>(iu rfl))));have PJ:=d22.has X G (fun f fd F=>ahd (P:=l.prog) (w:=w) (base:=base) F T yF) (fun _ _ _ _ _ _=>(bT fun _=>(bT fun _=>(bT fun _=>(bT fun _=>(iu rfl))))));have LC:=d23.has X G (fun f fd F=>ael (P:=l.prog) (w:=w) (base:=base) F T PJ) (fun _ _ _ _ _ _=>(bT fun _=>(bT fun _=>(bT fun _=>(bT fun _=>(bT fun _=>(iu rfl)))))));exact ajS F T yQ Nb K3 Ly Lz PK LC
theorem walk{l:Uv}{q:bf}{loose:List Str}{XP:(Str→Option Value)→aV→Prop}{YP:aY→aV→Prop}{d:DefRec}{K:Params→aH}(hn:l.most=some 63)(hdf:d.params.defaults=[])
  (hY:∀(w:aY)(h:aV),YP w h→(K w.params).In h)
  (F:∀(w:aY)(mg:Str→Option Value)(fa:aa)(h:aV),(K w.params).In h→h.Ns gC mg→mg d.name=some (.ref fa)→
   ∃fd:di,(∀(s:au)(u:Value),wM s fd ⟨[u],[]⟩ [("_law_script",u)])∧∀base:aV,(K w.params).In base→base.Ns gC mg→cW l.prog w (K w.params) mg base eV 6 fa fd ["_law_script"] (spT (K w.params) zL)):
  adL q loose XP YP l.row.toRowW d [] (fun f vs=>Wc f vs):=
 L2.ahN (n:=63) (k:=6) (x:="_law_script") (CX:=fun _=>eV) (sp:=fun w=>spT (K w.params) zL) hn (by decide) hdf ⟨rfl,by decide,by decide,rfl⟩ hY F (fun _ _ a ns hl _ hS=>let ⟨_,h⟩:=ahu ns hl;ajx hS h) fun _ _ _ _ _ z=>z
end Sv
namespace PySem.W.Fast
def tw10122701929379640400:=0
def tw10195389032949220456:=0
def tw10533677710611080876:=0
def tw1061836361000844244:=0
def tw10673677326619953401:=0
def tw10866022031328871885:=0
def tw11382454055232040896:=0
def tw11675006292697444835:=0
def tw11901751595072954019:=0
def tw1205169357918666487:=0
def tw12081729017256299257:=0
def tw12174396452200326437:=0
def tw12274600502796146392:=0
def tw13283126870572413986:=0
def tw1382062971966813898:=0
def tw13946751201671594105:=0
def tw1426055213090296369:=0
def tw1451200165825266778:=0
def tw14523680316808921071:=0
def tw14872320116059772417:=0
def tw15956637576317600466:=0
def tw16497551413600601149:=0
def tw16510824867139453870:=0
def tw16950074049005118726:=0
def tw16964106606764854574:=0
def tw17374523567927218641:=0
def tw2432430503788864540:=0
def tw2931524664112720119:=0
def tw2992315754094959603:=0
def tw3481867405758064537:=0
def tw4002564754137105066:=0
def tw4311730968924754996:=0
def tw4622606405236135544:=0
def tw4933827933071399082:=0
def tw5046349892308616493:=0
def tw5267522610540064179:=0
def tw5533645817886284545:=0
def tw5711404594575832879:=0
def tw5791383652769928685:=0
def tw5807422491373585872:=0
def tw5962438100358541135:=0
def tw6436167282549372067:=0
def tw6878116739809432609:=0
def tw7573975941479049935:=0
def tw7578098696338571105:=0
def tw780081930840930996:=0
def tw7813254408931327202:=0
def tw7939910498783386606:=0
def tw8504293975200484498:=0
def tw8845628942900657037:=0
def tw9232327506462203331:=0
def tw9927560626918457905:=0
end PySem.W.Fast
open PySem PySem.W PyProof.Rows
set_option maxRecDepth 100000 in
set_option maxHeartbeats 0 in
theorem PySem.Challenge.cw_rankseals_k21_sums_that_rows_let_holds : PySem.Challenge.rw_rankseals_k21_sums_that_rows_let.Holds := by
 w_on;o_law;k_head;(case hw=>w_witness2)
 k_fill
 refine Sv.walk (l:=PySem.Challenge.rw_rankseals_k21_sums_that_rows_let) rfl rfl (fun w h Y=>PySem.W.kIn_of Y) ?F
 case F=>
  intro w mg fa h KX G hmg
  refine' Sv.all_mk KX G hmg ?_ ?_ ?_ ?_ ?_ ?_ ?_ ?_ ?_ ?_ ?_ ?_ ?_ ?_ ?_ ?_ ?_ ?_ ?_ ?_ ?_ ?_ ?_ ?_ ?_ ?_ ?_ ?_ ?_ ?_ ?_ ?_ ?_ ?_ ?_ ?_ ?_ ?_
  all_goals try first|exact .mk (by k_is) (by k_is) (by k_is) (by k_is)|k_is
