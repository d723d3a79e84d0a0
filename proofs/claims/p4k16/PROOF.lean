import PyProof.Rows.All
import Wide.All
import OpenK.AllK
import Wide.FinOn
import Lean
import PyProof.EqAt
import PyProof.EqKinds
import PyProof.TupleCall
import PySem.Challenge.RW_rankseals_k16_sides_kept_out
set_option Elab.async false
set_option linter.all false
set_option maxRecDepth 100000
set_option maxHeartbeats 4000000
set_option autoImplicit true
open PySem.Value renaming isInt→aeU,isStrOf→VG,int→HH,str→HJ,isStrOf_shape→ac5,none→pJ,bool→pK,float→Wi,ref→dM,type→Ca,notImplemented→Uo
open PySem renaming World→aY,Program→bf,KeyKind→xm,Addr→aa,Heap→aV,sizeLine→bM,sysModules→rU,tupleKind→Cg,Within→aex,mainGlobals→gk,bootBuiltins→rR,Around→bY,Shared→au,Scope→iY,Drawn→xX,wpAny→aM,backTo→gm,starEach→aZ,Stmt→cU,wpAny_mono→nD,wpAny_Name→Ws,wpAny_loadName_local→acZ,wpAny_loadName_cell→ac6,wpAny_truthy_bool→vm,wpAny_execs_nil→Le,wpAny_execs_cons→adH,swapsWith→uf,assignInOrder→Bw,assignEach→rW,wpAny_assign_Name→Gm,holding→pQ,standAt→sE,wpAny_bind→aD,wpAny_holding→mQ,wpAny_standAt→uc,swapsWithSole→xq,swappedStores→xr,wpAny_pure→aX,wpAny_newObj_type→mK,bindName→uh,wpAny_rule→xG,wpAny_bindName→Gw,PassesOwn→Ny,wpAny_passesOwn→yX,pyNext→oJ,letOwnedTupleGo→w6,pyIter→Dd,wpAny_load→Hu,rawInt→jm,wpAny_pyIter_list→Uy,foldedSetIterable→tY,binaryOp→mV,compareOp→dZ,behindInMarks→By,lastMarks→Nz,sizeLine_eq→jg,cLine→eU,Result→qI,FuncData→dw,BindsTo→xN,codeAny→j8,codeAny_mono→GX,wpAny_Call_Name_kw→Gi,Keyword→pR,NameKind→zM,bindL→xZ,bindC→yc,mem_of_lookup→vf,concat_meets→V5,noFill_tuple_add→U6,seq_tuple_add→VH,IsPart→sI,wpAny_field→Wk,getItem→vI,wpAny_sequenceKey→adu,wpAny_callSpecial?_slot→Bd,wpAny_call_entry→qu,wpAny_typeOf→GZ,seqIndex_of→Wm,seqIndex_neg→V6,subscripted→Wn,typeIs_str→Wv,sliceBounds→zy,typeIs_int→Ww,attributeBase→xu,backToKw→Cp,keywordEach→BR,call_meets→Nf,valueAt→zO,atKey→vR,tupleKind_room_in1→Gj,callerA→zP,call→Wz,compEnvC→Oj,compTurn→Cq,newFunctionEnv→Vt,wpAny_newFunctionEnv→Ul,lookup_relabel_local→Um,wpAny_comprehension_free→Kz,compPost→Om,exec_Assign_Name_used→acT,comprehension→VM,PyData→aj,wpAny_pyIter_zip→adN,Builtin→kJ,wpAny_newList→Mf,codeAny_builtin→vp,plainId_quiet→ud,richCompare→BV,wpAny_loadPart'→oA,wpAny_forIn_list→adO,richCompare_meets_room→Ui,SetTable→um,relayAll→Gx,scanBound→pN,wpAny_setState_of→Bo,wpAny_storeSet_of→ady,fits_of_scanBound→UJ,builtinLookup_eq_fast→acV,isSubtype_type→Vw,entryFor→Ov,argsOk→Di,wpAny_pyIter_slot→adz,setNext→CK,wpAny_attempt→Mg,wpAny_fieldsOf→Ln,wpAny_setEntries_of→Ge,wpAny_setField→Bt,wpAny_isInstance→adP,setsByText→WN,wpAny_askSetting→K8,wpAny_ite_split→Lf,pickOrder→xH,wpAny_seqItems→Gy,wpAny_setEpoch_of→adA,updateSeq→NQ,wpAny_updateSeq→Gv,checkCount→WQ,strKind→GK,wpAny_Call_method→adC,argBest→lJ,wpAny_tryCatch→Lp,wpAny_letGo→MN,wpAny_pyIter_enum→adE
open Sum renaming inl→j7,inr→ji
open Sum.inl renaming inj→Wh
open Sum.inr renaming inj→aeV
open PySem.SeqAt.EqAt renaming int_str→ac9,str_int→ada,same→adY,int_int→adg
open Option.some renaming inj→fV,injEq→K3
open PySem.W renaming instObj→Vd,methodObj→Ux,Frag→aG,lookIn→Vs,plainGet→adI,findIn→za,takerIn→adX,specialIn→ado,isFn→aez,keepIn→vq,kitOne→zb,kia_one→rP,kitx_none→adp,kitx_bool→adq,kitx_int→adJ,kitx_str→adK,kitx_float→ade,kitx_list→KR,kitx_tuple→adf,kitx_dict→KY,kitx_own→adL,cellsFrom_some→acM,fnOf→xx,codeIn→Lj,OpenLaw→Vf,WalkO→aej,kitAny→Lk,kia_tup→rQ,nsIn→mR,mg_of→VN,mg_none_of→nA
open PySem.Heap renaming lt_size→bW,SameBut→zu,get?_push_of_some→cD,get?_push_size→ie,get?_update_self→yN,get?_update_other→rM,size_push→xj
open Nat renaming lt_of_lt_of_le→nu,lt_irrefl→vz,ne_of_lt→dO,le_trans→jP,le_of_lt→vB,ne_of_gt→zx,le_refl→bO,lt_trans→G3,zero_le→lF,sub_self→V9,lt_succ_of_lt→wX,not_lt→Nh,add_zero→Wa,lt_succ_self→Va,le_succ→BW,lt_trichotomy→adB,zero_add→G4,succ_le_succ→adT,not_lt_zero→yZ,le_of_ble_eq_true→wV,succ_pos→G5,not_succ_le_zero→ac3,le_add_right→Ld,min_eq_left→Vq,lt_or_eq_of_le→adm,le_of_lt_succ→adF,le_succ_of_le→U5
open Array renaming append_assoc→adb,length_toList→jM,toList→aey,getD→afo,getD_eq_getD_getElem?→rJ,getElem?_eq_getElem→mJ,toList_push→adx,getElem?_eq_none→acQ,getElem?_toList→acX,mem_of_getElem?→acY,size_append→UT
open List renaming range→dJ,mem_filter→pG,mem_range→pH,filterMap_cons→Ur,mem_cons_self→dG,mem_cons_of_mem→dN,mem_cons→bU,mem_append→cR,mem_append_left→gB,getElem?_eq_some_iff→je,getElem?_set_self→acL,getElem?_set_ne→yP,set_comm→LQ,mem_filterMap→KJ,mem_append_right→dY,size_toArray→fW,any_eq_false→adn,append_nil→ju,nodup_cons→iR,of_mem_zip→Ve,replicate→cP,length→pI,length_take→n6,getElem?_append_right→nW,getElem?_replicate→Ue,getElem?_append_left→nY,getElem?_map→gC,getElem?_take_of_lt→Ub,take_sublist→Gn,mem_of_getElem?→nZ,length_append→fU,length_map→aW,length_replicate→KH,length_drop→Bp,length_set→vo,all_cons→LR,any_cons→GJ,reverse_cons→K1,replicate_succ→rN,flatten_cons→Bh,foldl→Wx,append_assoc→kI,foldl_cons→Br,nil_append→iT,find?_cons→ou,length_cons→cO,length_nil→Bs,map_cons→cg,filter_cons→K7,map_nil→lD,lookup_cons→yS,map_map→dB,all_eq_true→oh,getElem_of_mem→vg,getElem?_eq_getElem→jt,getElem_mem→wZ,mem_singleton→jf,not_mem_nil→jN,getD→qC,ext_getElem→yU,length_range→lA,map_congr_left→wW,zip_cons_cons→Gk,getElem?_set→Bm,pairwise_iff_getElem→FZ,pairwise_lt_range→KD,pairwise_append→Uq,getElem_take→adw,pairwise_cons→tX,nodup_append→j5,length_eq_zero_iff→acH,length_eraseIdx→ac1,take_zero→aec,Sublist→Wc,nodup_nil→lC,any_map→aeG,length_zip→Vg,getElem?_range→Us,getElem?_eq_none→Gb,getElem?_eq_none_iff→Ua,drop_length→adQ,drop_eq_getElem_cons→acC,getElem?_mapIdx→ac2,sublist_nil→adR,getElem?_take→Uu,map_id→MK,sum_cons→aeo,any_eq_true→adS,mem_map→fK,ext_getElem?→adD,mem_of_mem_take→vd,map_append→gR,find?_map→Vy,isEmpty_nil→adU,getElem_map→adW,find?_eq_none→Uv,nodup_iff_pairwise_ne→T7,cons_append→jO,getElem?_drop→adl,mem_of_mem_drop→Gd,length_flatMap→ac8,length_pos_of_mem→acS,mem_erase_of_ne→ac4,filter_eq_self→Gg,range_succ→Vp,map_take→V4,length_filter_le→yO,length_pos_iff→Ut,getD_eq_getElem?_getD→Ku,map_drop→aev,map_const'→ad9,find?_isSome→adG,set_cons_succ→KN,set_cons_zero→KQ,countP_eq_length_filter→acr
open Ne renaming symm→jQ
open PySem.Calls renaming Name_function_global→acy,spliced_nil→KZ,spliced_cons→Gh,callWith_builtin→acN,evalArgs_plain→ac0,call_function_entry→T9
open False renaming elim→qx
open PySem.Flow renaming next→Nx
open Bool renaming false_ne_true→gP,false_and→Vr,eq_iff_iff→qw,and_eq_true→iQ,not_eq_true→U8,false_eq_true→pF,not_true→aen,not_false→aea,not_eq_true'→UL,true_and→aew
open Int renaming mul_one→Wj,toNat_natCast→Bg,le_refl→zA,emod_eq_emod_iff_emod_sub_eq_zero→acp,emod_eq_of_lt→K4,emod_nonneg→mL,emod_lt_of_pos→rO,ediv_nonneg→ad8,zero_add→aeS,ne_of_lt→aeT
open PySem.Builtin.Range renaming rangeSize→anl
open PyProof.Rows renaming callWith_type1→FW,callWith_builtin1→T6,slot_tuple_getitem→Kr,boot_zip→anp,boot_enumerate→amP,evalArgs_none→amS
open PySem.EqNone renaming eq_none_none→amT,eq_none_bool→amU,eq_none_int→am4,eq_none_str→am5,eq_bool_none→amV,eq_int_none→am6,eq_str_none→am8,ne_none_none→amY,ne_none_bool→amZ,ne_none_int→ana,ne_none_str→anb,ne_bool_none→am0,ne_int_none→anc,ne_str_none→anf
open PySem.EqMixed renaming eq_bool_str→amW,eq_int_str→am7,eq_str_bool→amX,eq_str_int→am9,ne_bool_str→am1,ne_int_str→ane,ne_str_bool→am2,ne_str_int→ang
open True renaming intro→lG
open Option renaming isSome_iff_exists→wU,getD_none→adM,isSome_some→Be,isSome_map→Bj,map_eq_some_iff→Ga,none→mU,map_some→j6,getD_some→Gr,bind_some→gQ,some_ne_none→vh,map→Nm,map_map→Bu,bind_eq_some_iff→rK,map_eq_none_iff→acR,isSome_none→Uw
open PySem.F renaming slot_tuple_add→Uh,entry_tuple_add→Ug,args_tuple_add_2→Uc,slot_list_append→adh,slot_list_extend→adi,slot_int_rmul→adZ,slot_dict_get→Uk,entry_dict_get→acO,args_dict_get_3→acF,plain_proto_collect→acs,plain_list_iadd→KC,slot_tuple_lt→acU,entry_tuple_lt→acP,args_tuple_lt_2→acG,slot_set_iter→ad5,plain_extend_loop→acB,plainAttrs_list→acI,plainAttrs_dict→acJ,entry_min_loop→Uj,plain_min_loop→yM,slot_dict_items→acK
open PySem.Builtin.Slice renaming sliceAdjust→T8,slicePlaces→Kv,slicePartIndex→amO,sliceApplied→acz,sliceFields→am3
open PySem.Str renaming ofString→fJ
open PySem.Builtin.Tuple renaming tupleItemsOf→acA,tupleExact→Kw,tupleCompareSizes→acq,tupleIsExact→amQ
open PySem.Heap.IsSliceOf renaming new→anq
open PySem.Obj renaming mapSeq→lH,putSet→Nj,data_mapFields→adk
open PySem.SeqAt renaming EqAt→Hw,shaped→lX
open PySem.Builtin.List renaming listTooLong→Ky,listExtendWith→Ks,listLengthHint→acu,listSameRef→Ud
open List.Pairwise renaming nil→yQ,filterMap→anm,imp_of_mem→ank,imp→anr
open Or renaming inl→cA,inr→pW
open PySem.NameKind renaming free→oF,cell→Ma
open ForInStep renaming yield→ad3
open PySem.Code renaming compLoop→BJ
open PySem.Walks renaming list→afm
open PySem.WalksT renaming zip2→ae1
open List.Perm renaming refl→zc,of_eq→ad4,swap→Vx,append_left→acW
open List.cons renaming inj→zg,injEq→Vi
open PySem.Heap.SameBut renaming update→tW,refl→UG
open PySem.Around renaming under_plainId→u9
open PySem.AutoSeq1 renaming sub_tuple_tuple→acE
open PySem.SetTable.below renaming go→Gp
open PySem.SetTable renaming below→iU,has→aeE,slot→ael,grown→zf
open PySem.SetTable.probe renaming go→Uz
open PySem.SetTable.Met.empty renaming injEq→anh
open Prod.mk renaming injEq→aem
open PySem.pickOrder renaming go→Wb
open PySem.Builtin.Frozenset renaming slot0→ano,sizeOf→ani,oneOther→amR,addrOf→anj
open PySem.Bind renaming checkArgs→aeb
open PySem.PyData renaming str→cF,eqv→HB,tuple→vC,strOk→Ms,canLayAll0→UW,depthAll→Vh,canLay0→aed,depth→aeH,int→pM
open List.Sublist renaming refl→yR,append→Gf
open PySem.Builtin.Str renaming strSliceIndices→acv
open PySem.Builtin.Builtins renaming bindParams→acw
open Classical renaming byContradiction→acD
open Nat.succ renaming inj→G6
open PySem.PassesOwn renaming never→mO
noncomputable section
namespace L2
open PySem PySem.Spec PyProof.Rows
abbrev Key:=Sum Int Str
def Ad:Key→Value→Bool
 |.inl k,v=>aeU k v
 |.inr x,v=>VG x v
def ak1(w:aY):Key→Int
 |.inl k=>hashInt k
 |.inr x=>hashStr w x
theorem rT:∀{k:Key}{v:Value},Ad k v=true→(∃i t,k=j7 i∧v=HH i t)∨(∃x t,k=ji x∧v=HJ x t)
 |.inl i,v,h=>by
  obtain⟨t,e⟩:=Value.isInt_shape (k:=i) (v:=v) h
  exact .inl ⟨i,t,rfl,e⟩
 |.inr x,v,h=>by
  obtain⟨t,e⟩:=ac5 (x:=x) (v:=v) h
  exact .inr ⟨x,t,rfl,e⟩
theorem afP(i:Int)(t:Tok):Ad (.inl i) (.int i t)=true:=by simp[Ad,aeU]
theorem afQ(x:Str)(t:Tok):Ad (.inr x) (.str x t)=true:=by simp[Ad,VG]
theorem ai8(a b:Int):decide ((j7 a:Key)=j7 b)=(a==b):=by
 by_cases e:a=b
 ·subst e;simp
 ·have h:¬(j7 a:Key)=j7 b:=fun q=>e (Wh q)
  rw[decide_eq_false h]
  exact(beq_eq_false_iff_ne.mpr e).symm
theorem ai9(a b:Str):decide ((ji a:Key)=ji b)=decide (a=b):=by
 by_cases e:a=b
 ·subst e;simp
 ·have h:¬(ji a:Key)=ji b:=fun q=>e (aeV q)
  rw[decide_eq_false h,decide_eq_false e]
theorem aja(a:Int)(b:Str):decide ((j7 a:Key)=ji b)=false:=decide_eq_false (fun q=>nomatch q)
theorem ajb(a:Str)(b:Int):decide ((ji a:Key)=j7 b)=false:=decide_eq_false (fun q=>nomatch q)
def jk(prog:bf)(w:aY):xm prog w Key where
 is:=Ad
 hash:=ak1 w
 inj:=fun v a b ha hb=>by
  rcases rT ha with⟨i,t,rfl,rfl⟩|⟨x,t,rfl,rfl⟩
  ·rcases rT hb with⟨j,u,rfl,e⟩|⟨y,u,rfl,e⟩
   ·injection e with e1 _;rw[e1]
   ·exact nomatch e
  ·rcases rT hb with⟨j,u,rfl,e⟩|⟨y,u,rfl,e⟩
   ·exact nomatch e
   ·injection e with e1 _;rw[e1]
 byValue:=fun k v h=>by
  rcases rT h with⟨i,t,rfl,rfl⟩|⟨x,t,rfl,rfl⟩<;>rfl
 pyHash:=fun hv h=>by
  rcases rT hv with⟨i,t,rfl,rfl⟩|⟨x,t,rfl,rfl⟩
  ·exact wpAny_pyHash_int h
  ·exact wpAny_pyHash_str h
 eqBool:=fun hu hv h=>by
  rcases rT hu with⟨i,t,rfl,rfl⟩|⟨x,t,rfl,rfl⟩
  ·rcases rT hv with⟨j,u,rfl,rfl⟩|⟨y,u,rfl,rfl⟩
   ·rw[ai8] at h;exact wpAny_eqBool_int h
   ·rw[aja] at h;exact ac9 i t y u _ _ _ _ h
  ·rcases rT hv with⟨j,u,rfl,rfl⟩|⟨y,u,rfl,rfl⟩
   ·rw[ajb] at h;exact ada x t j u _ _ _ _ h
   ·rw[ai9] at h;exact wpAny_eqBool_str h
 «strs»:=fun k x t v h=>by
  rcases rT h with⟨i,u,rfl,e⟩|⟨y,u,rfl,e⟩
  ·exact nomatch e
  ·injection e with e1 _
   subst e1;cases v<;>rfl
theorem aeW(prog:bf)(w:aY)(i:Int)(t:Tok):(jk prog w).is (.inl i) (.int i t)=true:=afP i t
theorem aeX(prog:bf)(w:aY)(x:Str)(t:Tok):(jk prog w).is (.inr x) (.str x t)=true:=afQ x t
inductive V where
 |non|bl (b:Bool)|int (i:Int)|str (x:Str)|o8 (b:Array UInt8)|flt (b:UInt64)|ref (a:aa)|ty (n:String)
 deriving DecidableEq
def RelV:V→Value→Prop
 |.non,u=>u=pJ
 |.bl b,u=>u=pK b
 |.int i,u=>∃t,u=HH i t
 |.str x,u=>∃t,u=HJ x t
 |.o8 b,u=>∃t,u=Value.bytes b t
 |.flt b,u=>∃t,u=Wi b t
 |.ref a,u=>u=dM a
 |.ty n,u=>u=Ca n
abbrev Vals:List V→List Value→Prop:=Paired RelV
theorem Vals.length{xs:List V}{us:List Value}(r:Vals xs us):xs.length=us.length:=Paired.length r
theorem Vals.get:∀{xs:List V}{us:List Value}{i:Nat}{x:V},Vals xs us→xs[i]?=some x→∃u,us[i]?=some u∧RelV x u
 |_,_,_,_,.nil,e=>by simp at e
 |_,_,0,_,.cons r _,e=>by simp at e;subst e;exact⟨_,rfl,r⟩
 |_,_,i+1,x,.cons _ t,e=>by
  obtain⟨u,h1,h2⟩:=Vals.get (i:=i) (x:=x) t (by simpa using e)
  exact⟨u,by simpa using h1,h2⟩
theorem Vals.set{x:V}{u:Value}(r:RelV x u):∀{xs:List V}{us:List Value}(i:Nat),Vals xs us→Vals (xs.set i x) (us.set i u)
 |_,_,_,.nil=>.nil
 |_,_,0,.cons _ t=>.cons r t
 |_,_,i+1,.cons q t=>.cons q (Vals.set r i t)
theorem Vals.append:∀{xs ys:List V}{us ws:List Value},Vals xs us→Vals ys ws→Vals (xs++ys) (us++ws)
 |_,_,_,_,.nil,s=>s
 |_,_,_,_,.cons r t,s=>.cons r (Vals.append t s)
theorem Vals.take:∀{xs:List V}{us:List Value}(n:Nat),Vals xs us→Vals (xs.take n) (us.take n)
 |_,_,0,_=>.nil
 |_,_,_+1,.nil=>.nil
 |_,_,n+1,.cons r t=>.cons r (Vals.take n t)
theorem Vals.drop:∀{xs:List V}{us:List Value}(n:Nat),Vals xs us→Vals (xs.drop n) (us.drop n)
 |_,_,0,r=>r
 |_,_,_+1,.nil=>.nil
 |_,_,n+1,.cons _ t=>Vals.drop n t
def oW:Option V→Option Value→Prop
 |some v,some u=>RelV v u
 |none,none=>True
 |_,_=>False
def KV{κ:Type}:List (κ×V)→List (κ×Value)→Prop:=Paired fun(p:κ×V)(q:κ×Value)=>p.1=q.1∧RelV p.2 q.2
def kV:Key→V
 |.inl i=>.int i
 |.inr x=>.str x
inductive HO where
 |lst (xs:List V)
 |tup (xs:List V)
 |dK (kvs:List (Key×V))|dT (kvs:List (List Key×V))
 |set (S:Int→Bool) (n:Nat)
 |ins (C dx:aa) (fs:List (Str×V))
 |own (x:aa)
 |xd (fs:List (Str×V))
 |met (f x:aa)
 |Ss (lo hi:Int)
 |lg (o:Obj) (u:HO)
 |yD (ps:Array Value)
 |ext (φ:aV→Prop)
abbrev Hp:=aa→Option HO
def upd(H:Hp)(a:aa)(o:HO):Hp:=fun b=>if b=a then some o else H b
theorem eN{H:Hp}{a:aa}{o:HO}:upd H a o a=some o:=by unfold upd;rw[if_pos rfl]
theorem cJ{H:Hp}{a b:aa}{o:HO}(h:b≠a):upd H a o b=H b:=by unfold upd;rw[if_neg h]
theorem YT{H:Hp}{a:aa}{o u:HO}:upd (upd H a o) a u=upd H a u:=by
 funext b;unfold upd;split<;>rfl
theorem Rh{H:Hp}{a b:aa}{o u:HO}(h:H a=some o)(h':H b=some u)(d:o≠u):a≠b:=by
 intro e;subst e;rw[h] at h';exact d (fV h')
theorem pL{H:Hp}{a b:aa}{o:HO}(h:H a=some o)(h':H b=none):a≠b:=by
 intro e;subst e;rw[h] at h';cases h'
section
variable(P:bf)(w:aY)
def eY(H:Hp)(h:aV)(a:aa):HO→Prop
 |.lst xs=>xs.length≤bM∧∃(its:List Value)(n:Nat),Vals xs its∧h.get? a=some {cls:=.type "list",data:=.seq its.toArray n}
 |.tup xs=>xs.length≤bM∧∃its:List Value,Vals xs its∧IsTup h a its.toArray
 |.dK kvs=>kvs.length≤bM∧(a==rU)=false∧∃vs,KV kvs vs∧h.DictOf (jk P w) a vs
 |.dT kvs=>kvs.length≤bM∧(a==rU)=false∧∃xs:List (List Key×aa×Value),
   Paired (fun(p:List Key×V)(q:List Key×aa×Value)=>p.1=q.1∧H q.2.1=some (.tup (p.1.map kV))∧RelV p.2 q.2.2) kvs xs∧
   ∃o es ep,h.get? a=some o∧o.ExactDict∧o.data=.dict es ep∧es.toList=xs.map (entryOfKey (Cg (jk P w)))∧(xs.map (·.1)).Nodup
 |.set S n=>h.SetOf (intKind P w) a S n
 |.ins C dx fs=>H dx=some (.own a)∧fs.length≤1000∧dx≠a∧h.get? a=some (Vd C dx)∧
   ∃mA,h.Ns1 dx mA∧(∀f,oW (fs.lookup f) (mA f))∧aex mA (fs.map (·.1))
 |.own _=>∃o,h.get? a=some o
 |.xd fs=>∃mA,h.Ns1 a mA∧∀f,oW (fs.lookup f) (mA f)
 |.Ss lo hi=>∃t u v,h.get? a=some {cls:=.type "range",data:=.fields #[.int lo t,.int hi u,.int 1 v]}
 |.lg o u=>h.get? a=some o∧eY H h a u
 |.yD ps=>h.get? a=some {cls:=.none,data:=.fields ps}
 |.met f x=>h.get? a=some (Ux (.ref f) (.ref x))
 |.ext φ=>φ h∧(∃o,h.get? a=some o)∧∀h1 h2:aV,φ h1→(∀o,h1.get? a=some o→h2.get? a=some o)→φ h2
def gA(H:Hp)(h:aV):Prop:=∀a o,H a=some o→eY P w H h a o
end
section
variable{P:bf}{w:aY}{H H':Hp}{h h':aV}{a:aa}{o:HO}
theorem eY.lt(x:eY P w H h a o):a<h.objs.size:=by
 cases o with
 |lst xs=>obtain⟨_,_,_,_,e⟩:=x;exact bW e
 |tup xs=>obtain⟨_,_,_,p⟩:=x;exact p.lt
 |dK kvs=>obtain⟨_,_,_,_,o,_,_,e,_⟩:=x;exact bW e
 |dT kvs=>obtain⟨_,_,_,_,o,_,_,e,_⟩:=x;exact bW e
 |set S n=>obtain⟨o,_,_,_,e,_⟩:=x;exact bW e
 |ins C dx fs=>obtain⟨_,_,_,e,_⟩:=x;exact bW e
 |own y=>obtain⟨_,e⟩:=x;exact bW e
 |xd fs=>obtain⟨_,⟨_,_,_,e,_⟩,_⟩:=x;exact bW e
 |Ss lo hi=>obtain⟨_,_,_,e⟩:=x;exact bW e
 |lg ob u=>obtain⟨e,_⟩:=x;exact bW e
 |yD ps=>exact bW (show h.get? a=some _ from x)
 |met f y=>exact bW (show h.get? a=some _ from x)
 |ext φ=>obtain⟨_,⟨_,e⟩,_⟩:=x;exact bW e
theorem Paired.RM{α β:Type}{F G:α→β→Prop}:∀{l₁:List α}{l₂:List β},Paired F l₁ l₂→(∀a b,F a b→G a b)→Paired G l₁ l₂
 |_,_,.nil,_=>.nil
 |_,_,.cons r t,f=>.cons (f _ _ r) (Paired.RM t f)
theorem eY.stay(x:eY P w H h a o)(k:∀b u,(b=a∨H b=some (.own a))→h.get? b=some u→h'.get? b=some u)
  (ho:∀b,H b=some (.own a)→H' b=some (.own a))(ht:∀b xs,H b=some (.tup xs)→H' b=some (.tup xs)):eY P w H' h' a o:=by
 induction o with
 |lst xs=>obtain⟨z,its,n,r,e⟩:=x;exact⟨z,its,n,r,k _ _ (.inl rfl) e⟩
 |tup xs=>obtain⟨z,its,r,ob,e,c⟩:=x;exact⟨z,its,r,ob,k _ _ (.inl rfl) e,c⟩
 |dK kvs=>obtain⟨z,y,vs,r,ob,es,ep,e,c⟩:=x;exact⟨z,y,vs,r,ob,es,ep,k _ _ (.inl rfl) e,c⟩
 |dT kvs=>
  obtain⟨z,y,xs,r,ob,es,ep,e,c⟩:=x
  exact⟨z,y,xs,Paired.RM r fun p q z=>⟨z.1,ht _ _ z.2.1,z.2.2⟩,ob,es,ep,k _ _ (.inl rfl) e,c⟩
 |set S n=>obtain⟨ob,es,ep,t,e,c⟩:=x;exact⟨ob,es,ep,t,k _ _ (.inl rfl) e,c⟩
 |ins C dx fs=>
  obtain⟨d,z,ne,e,mA,⟨od,es,ep,e2,c⟩,r⟩:=x
  exact⟨ho _ d,z,ne,k _ _ (.inl rfl) e,mA,⟨od,es,ep,k _ _ (.inr d) e2,c⟩,r⟩
 |own y=>obtain⟨ob,e⟩:=x;exact⟨ob,k _ _ (.inl rfl) e⟩
 |xd fs=>obtain⟨mA,⟨od,es,ep,e,c⟩,r⟩:=x;exact⟨mA,⟨od,es,ep,k _ _ (.inl rfl) e,c⟩,r⟩
 |Ss lo hi=>obtain⟨t,u,v,e⟩:=x;exact⟨t,u,v,k _ _ (.inl rfl) e⟩
 |lg ob u ih=>obtain⟨e,q⟩:=x;exact⟨k _ _ (.inl rfl) e,ih q⟩
 |yD ps=>
  have e:h.get? a=some {cls:=.none,data:=.fields ps}:=x;show h'.get? a=some {cls:=.none,data:=.fields ps};exact k a _ (.inl rfl) e
 |met f y=>
  have e:h.get? a=some (Ux (.ref f) (.ref y)):=x;show h'.get? a=some (Ux (.ref f) (.ref y));exact k a _ (.inl rfl) e
 |ext φ=>obtain⟨p,⟨o,e⟩,st⟩:=x;exact⟨st _ _ p fun o q=>k _ _ (.inl rfl) q,⟨o,k _ _ (.inl rfl) e⟩,st⟩
theorem gA.lt(x:gA P w H h)(e:H a=some o):a<h.objs.size:=(x a o e).lt
theorem gA.fresh(x:gA P w H h)(e:h.objs.size≤a):H a=none:=by
 cases q:H a with
 |none=>rfl
 |some u=>exact absurd (nu (x.lt q) e) (vz _)
theorem gA.kept(x:gA P w H h)(k:∀b u,h.get? b=some u→h'.get? b=some u):gA P w H h':=fun a o e=>
 (x a o e).stay (fun b u _ q=>k b u q) (fun _ q=>q) fun _ _ q=>q
theorem gA.laid(x:gA P w H h)(k:∀b u,h.get? b=some u→h'.get? b=some u)(hp:h.objs.size≤a)(new:eY P w (upd H a o) h' a o):gA P w (upd H a o) h':=fun b u e=>by
 have hn:=x.fresh hp;by_cases hb:b=a
 ·subst hb;rw[eN] at e;cases e;exact new
 ·rw[cJ hb] at e
  exact(x b u e).stay (fun c v _ q=>k c v q) (fun c q=>by rw[cJ (pL q hn)];exact q) fun c xs q=>by rw[cJ (pL q hn)];exact q
end
def Rd(H:Hp)(a:aa)(u:HO):Prop:=H a=some u∨∃o,H a=some (.lg o u)
theorem Rd.of{H:Hp}{a:aa}{u:HO}(h:H a=some u):Rd H a u:=.inl h
theorem Rd.ok{P:bf}{w:aY}{H:Hp}{h:aV}{a:aa}{u:HO}(r:Rd H a u)(x:gA P w H h):eY P w H h a u:=by
 rcases r with r|⟨o,r⟩
 ·exact x a u r
 ·obtain⟨_,q⟩:=x a _ r
  exact q
def Er:Option HO→Prop
 |some (.lst _)=>True
 |some (.dK _)=>True
 |some (.dT _)=>True
 |some (.set _ _)=>True
 |some (.ins _ _ _)=>True
 |some (.ext _)=>True
 |_=>False
section
variable{P:bf}{w:aY}{H:Hp}{h h':aV}{x e:aa}{o':HO}
theorem gA.write(ok:gA P w H h)(mu:Er (H x))(he:e=x∨H e=some (.own x))(k:∀b u,b≠e→h.get? b=some u→h'.get? b=some u)(heo:∃u,h'.get? e=some u)
  (new:eY P w (upd H x o') h' x o'):gA P w (upd H x o') h':=fun b u q=>by
 have aa9:∀c y,H c=some (.own y)→c≠x:=fun c y r z=>by subst z;rw[r] at mu;exact mu
 have ak2:∀c xs,H c=some (.tup xs)→c≠x:=fun c xs r z=>by subst z;rw[r] at mu;exact mu
 by_cases hb:b=x
 ·subst hb;rw[eN] at q;cases q;exact new
 ·rw[cJ hb] at q;by_cases hbe:b=e
  ·have q':H b=some (.own x):=by
    rcases he with z|z
    ·exact absurd (hbe.trans z) hb
    ·rw[hbe];exact z
   rw[q] at q';cases q'
   obtain⟨v,hv⟩:=heo
   exact⟨v,by rw[hbe];exact hv⟩
  ·refine(ok b u q).stay (fun c v hc r=>k c v ?_ r) (fun c r=>by rw[cJ (aa9 c b r)];exact r) fun c xs r=>by rw[cJ (ak2 c xs r)];exact r
   rcases hc with rfl|hc
   ·exact hbe
   ·rintro rfl;rcases he with z|z
    ·exact aa9 c b hc z
    ·rw[hc] at z;cases z;exact hb rfl
end
structure Un(fs ex:List aa)(H H':Hp)(h h':aV):Prop where
 keep:∀b o,h.get? b=some o→H b=none→b∉fs→b∉ex→h'.get? b=some o
 slot:∀b o,h.get? b=some o→H b=none→b∈fs→b∉ex→∃sl,h'.get? b=some {o with slots:=sl}
 free:∀b o,h.get? b=some o→H b=none→b∉ex→H' b=none
 there:∀b o,h.get? b=some o→b∉ex→∃o',h'.get? b=some o'
 tups:∀b xs,H b=some (.tup xs)→H' b=some (.tup xs)
 oX:∀b o u,H b=some (.lg o u)→H' b=some (.lg o u)
 p6:∀b ps,H b=some (.yD ps)→∃more,H' b=some (.yD (ps++more))
section
variable{fs fs' ex ex':List aa}{H H1 H2:Hp}{h h1 h2 h':aV}{a x e:aa}{o:HO}
theorem Un.any(u:Un fs ex H H1 h h1){b:aa}{ob:Obj}(q:h.get? b=some ob)(n:H b=none)(hx:b∉ex):∃sl,h1.get? b=some {ob with slots:=sl}:=by
 by_cases hb:b∈fs
 ·exact u.slot b ob q n hb hx
 ·exact⟨ob.slots,u.keep b ob q n hb hx⟩
theorem Un.trans(a:Un fs ex H H1 h h1)(b:Un fs ex H1 H2 h1 h2):Un fs ex H H2 h h2 where
 keep:=fun c ob q n hc hx=>b.keep c ob (a.keep c ob q n hc hx) (a.free c ob q n hx) hc hx
 slot:=fun c ob q n hc hx=>by
  obtain⟨sl,e1⟩:=a.slot c ob q n hc hx
  obtain⟨sl',e2⟩:=b.slot c _ e1 (a.free c ob q n hx) hc hx
  exact⟨sl',e2⟩
 free:=fun c ob q n hx=>by
  obtain⟨o',e1⟩:=a.there c ob q hx
  exact b.free c o' e1 (a.free c ob q n hx) hx
 there:=fun c ob q hx=>by
  obtain⟨o',e1⟩:=a.there c ob q hx
  exact b.there c o' e1 hx
 tups:=fun c xs q=>b.tups c xs (a.tups c xs q)
 oX:=fun c ob xs q=>b.oX c ob xs (a.oX c ob xs q)
 p6:=fun c ps q=>by
  obtain⟨m1,e1⟩:=a.p6 c ps q
  obtain⟨m2,e2⟩:=b.p6 c _ e1
  exact⟨m1++m2,by rw[e2,adb]⟩
theorem Un.kept(k:∀b u,h.get? b=some u→h'.get? b=some u):Un fs ex H H h h':=
 ⟨fun b ob q _ _ _=>k b ob q,fun b ob q _ _ _=>⟨ob.slots,k b ob q⟩,fun _ _ _ n _=>n,fun b ob q _=>⟨ob,k b ob q⟩,fun _ _ q=>q,fun _ _ _ q=>q,fun _ ps q=>⟨#[],by rw[q];simp⟩⟩
theorem Un.refl:Un fs ex H H h h:=Un.kept fun _ _ q=>q
theorem Un.laid(k:∀b u,h.get? b=some u→h'.get? b=some u)(hp:h.objs.size≤a)(hn:H a=none):Un fs ex H (upd H a o) h h' where
 keep:=fun b u q _ _ _=>k b u q
 slot:=fun b u q _ _ _=>⟨u.slots,k b u q⟩
 free:=fun b u q n _=>by rw[cJ (dO (nu (bW q) hp))];exact n
 there:=fun b u q _=>⟨u,k b u q⟩
 tups:=fun b xs q=>by rw[cJ (pL q hn)];exact q
 oX:=fun b u xs q=>by rw[cJ (pL q hn)];exact q
 p6:=fun b ps q=>⟨#[],by rw[cJ (pL q hn),q];simp⟩
theorem Un.write(mu:Er (H x))(he:e=x∨H e=some (.own x))(k:∀b u,b≠e→h.get? b=some u→h'.get? b=some u)(heo:∃u,h'.get? e=some u):Un fs ex H (upd H x o) h h':=by
 have hx:∀b,H b=none→b≠x:=fun b n z=>by subst z;rw[n] at mu;exact mu
 have hb:∀b,H b=none→b≠e:=fun b n z=>by
  subst z;rcases he with r|r
  ·exact hx b n r
  ·rw[n] at r;cases r
 have hm:∀b u,H b=some u→¬Er (some u)→b≠x:=fun b u q nm z=>by subst z;rw[q] at mu;exact nm mu
 refine⟨fun b u q n _ _=>k b u (hb b n) q,fun b u q n _ _=>⟨u.slots,k b u (hb b n) q⟩,fun b u q n _=>by rw[cJ (hx b n)];exact n,fun b u q _=>?_,
  fun b xs q=>by rw[cJ (hm b _ q fun z=>z)];exact q,fun b u xs q=>by rw[cJ (hm b _ q fun z=>z)];exact q,fun b ps q=>⟨#[],by rw[cJ (hm b _ q fun z=>z),q];simp⟩⟩
 by_cases hbe:b=e
 ·subst hbe;exact heo
 ·exact⟨u,k b u hbe q⟩
theorem Un.mono(u:Un fs ex H H1 h h1)(hs:∀b∈fs,b∈fs')(hx:∀b∈ex,b∈ex'):Un fs' ex' H H1 h h1:=
 ⟨fun b ob q n hb he=>u.keep b ob q n (fun z=>hb (hs b z)) fun z=>he (hx b z),fun _ _ q n _ he=>u.any q n fun z=>he (hx _ z),fun b ob q n he=>u.free b ob q n fun z=>he (hx b z),fun b ob q he=>u.there b ob q fun z=>he (hx b z),u.tups,u.oX,u.p6⟩
end
def JZ(h:aV)(H:Hp):List aa:=(dJ h.objs.size).filter fun a=>(H a).isSome
def uJ(h:aV)(H:Hp):aV:=PySem.W.hideAll h (JZ h H)
theorem afR(h:aV)(H:Hp):(uJ h H).objs.size=h.objs.size:=PySem.W.hideAll_size _ _
theorem agN{h:aV}{H:Hp}{b:aa}{o:Obj}(e:h.get? b=some o)(n:H b=none):(uJ h H).get? b=some o:=
 PySem.W.hideAll_get _ e fun hm=>by
  have q:(H b).isSome=true:=(pG.mp hm).2;rw[n] at q;simp at q
theorem ahS{h:aV}{H:Hp}{b:aa}{o:Obj}(e:(uJ h H).get? b=some o):h.get? b=some o∧H b=none:=by
 have e':h.get? b=some o:=PySem.W.of_hideAll (JZ h H) e
 refine⟨e',?_⟩
 cases q:H b with
 |none=>rfl
 |some x=>
  have hm:b∈JZ h H:=pG.mpr ⟨pH.mpr (bW e'),by simp[q]⟩;have z:(uJ h H).get? b=none:=PySem.W.hideAll_none (JZ h H) hm;rw[z] at e;cases e
def ahT(g h:aV)(L:aa):List (aa×Obj):=(dJ h.objs.size).filterMap fun a=>if a=L∨(g.get? a).isSome=true then none else(h.get? a).map fun o=>(a,o)
def rest(g h:aV)(L d:aa):List (aa×Obj):=(ahT g h L).filter fun p=>decide (p.1≠d)
structure Mod(K:aG)(mg:Str→Option Value)(base:aV):Prop where
 Su:K.In base
 glob:base.Ns gk mg
 blt:∃mb,base.Ns builtinsNs mb∧∀x:Str,x≠"__name__"→mb x=rR x
 nolimit:base.NoLimit
structure Cx where
 prog:bf
 w:aY
 K:aG
 mg:Str→Option Value
 base:aV
 A:bY
 N:List Str
 s₀:au
 H₀:Hp
 env:Env
 outer:List Env
 stack:List Env
 ex:List aa
 fn:Str→Bool
 calm:Bool
 pn:List (aa×Obj)
 xe:Value→au→Prop
def frs(l:List Env):List aa:=l.filterMap (·.frame)
abbrev Cx.fs(X:Cx):List aa:=frs X.outer
def J0(sc:iY)(x:Str):Prop:=sc.names.lookup x=some .local∨sc.names.lookup x=some .cell∨sc.names.lookup x=some .free
def Loc(sc:iY)(x:Str):Prop:=sc.names.lookup x=some .local∨sc.names.lookup x=some .cell
def Look(env:Env)(h:aV)(m:Str→Option Value)(x:Str)(u:Value):Prop:=
 (env.kindOf x=some .local∧m x=some u)∨((env.kindOf x=some .cell∨env.kindOf x=some .free)∧∃c,env.cells.lookup x=some c∧h.IsCell c (some u))
structure Cx.Ok(X:Cx):Prop where
 mod:Mod X.K X.mg X.base
 kind:X.env.scope.kind=.function
 glob:X.env.globals=gk
 blt:X.env.builtins=builtinsNs
 above:X.s₀.heap.objs.size≤X.env.locals
 inj:∀x y c,X.env.cells.lookup x=some c→X.env.cells.lookup y=some c→x=y
 has:∀x,(X.env.kindOf x=some .cell∨X.env.kindOf x=some .free)→∃c,X.env.cells.lookup x=some c
 cab:∀x c,X.fn x=true→X.env.cells.lookup x=some c→X.s₀.heap.objs.size≤c
 hd:X.calm=true→X.A.handled=none
 frames:X.A.frames=some X.stack
 stk:X.stack=X.outer∨(X.stack=X.env::X.outer∧X.env.frame=some X.env.locals)
 exf:∀b∈X.ex,b≠X.env.locals∧∀x c,X.env.cells.lookup x=some c→c≠b
 bs:∀b o,X.base.get? b=some o→X.s₀.heap.get? b=some o∧X.H₀ b=none
 tM:X.base.objs.size≤X.s₀.heap.objs.size
 Ef:∀b o,X.base.get? b=some o→b∉X.ex
 JM:∀b∈X.ex,b∉X.fs
 p7:X.s₀.heap.FunFrames X.base X.outer
 yE:∀b∈X.fs,X.H₀ b=none
structure Inv(X:Cx)(pins:List (aa×Obj))(σ:List (Option V))(H:Hp)(s:au):Prop where
 ok:X.Ok
 os:s.os=X.s₀.os
 bare:AllBare s.gens
 base:Un X.fs X.ex X.H₀ H X.s₀.heap s.heap
 loc:∃m,s.heap.Ns X.env.locals m∧∀(i:Nat)(x:Str)(v:V),X.N[i]?=some x→σ[i]?=some (some v)→J0 X.env.scope x→∃u,RelV v u∧Look X.env s.heap m x u
 cell:∀x c,X.env.cells.lookup x=some c→∃v,s.heap.IsCell c v
 free:H X.env.locals=none
 qQ:∀x c,X.env.cells.lookup x=some c→H c=none
 pin:∀p∈X.pn++pins,s.heap.get? p.1=some p.2∧H p.1=none∧p.1≠X.env.locals∧p.1∉X.fs∧∀v,p.2.data≠.cell v
 hok:gA X.prog X.w H s.heap
 len:σ.length=X.N.length
section
variable{X:Cx}{pins:List (aa×Obj)}{σ:List (Option V)}{H H':Hp}{s:au}{h':aV}
theorem Cx.Ok.ak3(ok:X.Ok){b:aa}{o:Obj}(e:X.base.get? b=some o):b∉X.fs:=fun hb=>by
 have:=(ok.p7.mem hb).1;rw[e] at this;cases this
theorem Inv.bs(I:Inv X pins σ H s):∀b o,X.base.get? b=some o→s.heap.get? b=some o∧H b=none:=fun b o e=>
 ⟨I.base.keep b o (I.ok.bs b o e).1 (I.ok.bs b o e).2 (I.ok.ak3 e) (I.ok.Ef b o e),I.base.free b o (I.ok.bs b o e).1 (I.ok.bs b o e).2 (I.ok.Ef b o e)⟩
theorem Inv.bk(I:Inv X pins σ H s):∀b o,X.base.get? b=some o→s.heap.get? b=some o:=fun b o e=>(I.bs b o e).1
theorem Inv.mod(I:Inv X pins σ H s):Mod X.K X.mg X.base:=I.ok.mod
theorem Inv.gM(I:Inv X pins σ H s):X.K.In s.heap:=I.ok.mod.Su.keeps I.bk
theorem Inv.nolimit(I:Inv X pins σ H s):s.heap.NoLimit:=I.ok.mod.nolimit.keeps I.bk
theorem Inv.fr(I:Inv X pins σ H s):∃m,Fr X.base X.env.locals s.heap m:=
 let ⟨m,hn,_⟩:=I.loc
 ⟨m,hn,I.bk,jP I.ok.tM I.ok.above⟩
theorem Inv.lt(I:Inv X pins σ H s):X.env.locals<s.heap.objs.size:=let ⟨_,hn,_⟩:=I.loc;hn.lt
theorem Inv.sz(I:Inv X pins σ H s):X.s₀.heap.objs.size≤s.heap.objs.size:=jP I.ok.above (vB I.lt)
theorem Inv.ak4(I:Inv X pins σ H s){a:aa}(h:s.heap.objs.size≤a):a∉X.fs:=fun hb=>by
 obtain⟨_,o,ho,_⟩:=I.ok.p7.mem hb
 exact absurd (nu (bW ho) (jP I.sz h)) (vz _)
theorem Inv.yF(I:Inv X pins σ H s):∀x c,X.env.cells.lookup x=some c→c≠X.env.locals:=fun x c e z=>by
 obtain⟨v,o,ho,hd⟩:=I.cell x c e
 obtain⟨m,⟨o',es,ep,ho',hd',_⟩,_⟩:=I.loc
 rw[z,ho'] at ho;cases ho;rw[hd'] at hd;cases hd
theorem Inv.p7(I:Inv X pins σ H s):s.heap.FunFrames X.base X.outer:=by
 have all:∀(l:List Env),(∀b∈frs l,b∈X.fs)→X.s₀.heap.FunFrames X.base l→s.heap.FunFrames X.base l:=by
  intro l;induction l with
  |nil=>intro _ _;trivial
  |cons env r ih=>
   intro hs hl
   obtain⟨hk,⟨L,o,hf,hn,ho,hd⟩,hr⟩:=hl
   have hL:L∈X.fs:=hs L (by unfold frs;rw[Ur,hf];exact dG)
   obtain⟨sl,e⟩:=I.base.slot L o ho (I.ok.yE L hL) hL fun z=>I.ok.JM L z hL
   exact⟨hk,⟨L,_,hf,hn,e,hd⟩,ih (fun b hb=>hs b (by unfold frs;rw[Ur,hf];exact dN _ hb)) hr⟩
 exact all X.outer (fun _ hb=>hb) I.ok.p7
theorem Inv.stack(I:Inv X pins σ H s):s.heap.FunFrames X.base X.stack:=by
 rcases I.ok.stk with e|⟨e,hf⟩
 ·rw[e];exact I.p7
 ·rw[e]
  obtain⟨m,hn,_⟩:=I.loc
  refine .cons (by rw[I.ok.kind];decide) hf hn ?_ I.p7;exact Heap.get?_none_of_le (jP I.ok.tM I.ok.above)
theorem Inv.zY(I:Inv X pins σ H s):∀b∈frs X.stack,b∈X.env.locals::X.fs:=fun b hb=>by
 rcases I.ok.stk with e|⟨e,hf⟩
 ·rw[e] at hb;exact dN _ hb
 ·rw[e] at hb;unfold frs at hb;rw[Ur,hf] at hb;exact hb
theorem Inv.YW(I:Inv X pins σ H s):∀b∈frs X.stack,H b=none:=fun b hb=>by
 rcases bU.mp (I.zY b hb) with e|hb
 ·rw[e];exact I.free
 ·obtain⟨_,o,ho,_⟩:=I.ok.p7.mem hb
  exact I.base.free b o ho (I.ok.yE b hb) fun z=>I.ok.JM b z hb
theorem Inv.step{g':Array GenState}{t':Nat}{d':xX}{ch:List aa}(I:Inv X pins σ H s)
  (hch:∀b∈ch,(b∈X.ex∨X.s₀.heap.objs.size≤b)∧b≠X.env.locals∧(∀x c,X.env.cells.lookup x=some c→c≠b)∧∀p∈X.pn++pins,p.1≠b)
  (keep:∀b o,b≠X.env.locals→b∉X.fs→b∉ch→s.heap.get? b=some o→H b=none→h'.get? b=some o)
  (slot:∀b o,b≠X.env.locals→b∈X.fs→b∉ch→s.heap.get? b=some o→H b=none→∃sl,h'.get? b=some {o with slots:=sl})(free:∀b o,b∉ch→s.heap.get? b=some o→H b=none→H' b=none)
  (there:∀b o,b∉ch→s.heap.get? b=some o→∃o',h'.get? b=some o')
  (tups:∀b xs,H b=some (.tup xs)→H' b=some (.tup xs))(oX:∀b o u,H b=some (.lg o u)→H' b=some (.lg o u))(p6:∀b ps,H b=some (.yD ps)→∃more,H' b=some (.yD (ps++more)))
  (ns:∀m,s.heap.Ns X.env.locals m→h'.Ns X.env.locals m)(hok:gA X.prog X.w H' h')(hg:AllBare g'):
  Inv X pins σ H' {s with heap:=h',gens:=g',drawn:=d',toks:=t'}:=by
 have neL:∀b o,X.s₀.heap.get? b=some o→b≠X.env.locals:=fun b o e=>dO (nu (bW e) I.ok.above)
 have J1:∀b o,X.s₀.heap.get? b=some o→b∉X.ex→b∉ch:=fun b o e hx hb=>by
  rcases(hch b hb).1 with z|z
  ·exact hx z
  ·exact absurd (nu (bW e) z) (vz _)
 have cellK:∀x c,X.env.cells.lookup x=some c→∀v,s.heap.IsCell c v→h'.IsCell c v:=fun x c e v aK=>by
  obtain⟨o,ho,hd⟩:=aK
  have Es:c∉ch:=fun z=>(hch c z).2.2.1 x c e rfl
  by_cases hc:c∈X.fs
  ·obtain⟨sl,q⟩:=slot c o (I.yF x c e) hc Es ho (I.qQ x c e)
   exact⟨_,q,hd⟩
  ·exact⟨o,keep c o (I.yF x c e) hc Es ho (I.qQ x c e),hd⟩
 refine⟨I.ok,I.os,hg,⟨fun b o e n hb hx=>?_,fun b o e n hb hx=>?_,fun b o e n hx=>?_,fun b o e hx=>?_,fun b xs e=>tups b xs (I.base.tups b xs e),fun b o xs e=>oX b o xs (I.base.oX b o xs e),fun b ps e=>?_⟩,?_,fun x c e=>?_,?_,fun x c e=>?_,fun p hp=>?_,hok,I.len⟩
 ·exact keep b o (neL b o e) hb (J1 b o e hx) (I.base.keep b o e n hb hx) (I.base.free b o e n hx)
 ·obtain⟨sl,e1⟩:=I.base.slot b o e n hb hx
  obtain⟨sl',e2⟩:=slot b _ (neL b o e) hb (J1 b o e hx) e1 (I.base.free b o e n hx)
  exact⟨sl',e2⟩
 ·obtain⟨o',e1⟩:=I.base.there b o e hx
  exact free b o' (J1 b o e hx) e1 (I.base.free b o e n hx)
 ·obtain⟨o',e1⟩:=I.base.there b o e hx
  exact there b o' (J1 b o e hx) e1
 ·obtain⟨m1,e1⟩:=I.base.p6 b ps e
  obtain⟨m2,e2⟩:=p6 b _ e1
  exact⟨m1++m2,by rw[e2,adb]⟩
 ·obtain⟨m,hn,hl⟩:=I.loc
  refine⟨m,ns m hn,fun i x v e1 e2 e3=>?_⟩
  obtain⟨u,r,l⟩:=hl i x v e1 e2 e3
  refine⟨u,r,?_⟩
  rcases l with l|⟨k,c,e,z⟩
  ·exact .inl l
  ·exact .inr ⟨k,c,e,cellK x c e _ z⟩
 ·obtain⟨v,z⟩:=I.cell x c e
  exact⟨v,cellK x c e v z⟩
 ·obtain⟨m,⟨o,_,_,ho,_⟩,_⟩:=I.loc
  exact free _ o (fun z=>(hch _ z).2.1 rfl) ho I.free
 ·obtain⟨v,o,ho,hd⟩:=I.cell x c e
  exact free c o (fun z=>(hch c z).2.2.1 x c e rfl) ho (I.qQ x c e)
 ·obtain⟨e,n,ne,nf,d⟩:=I.pin p hp
  have Es:p.1∉ch:=fun z=>(hch p.1 z).2.2.2 p hp rfl
  exact⟨keep p.1 p.2 ne nf Es e n,free p.1 p.2 Es e n,ne,nf,d⟩
theorem Inv.un{t':Nat}(I:Inv X pins σ H s)(u:Un X.fs [] H H' s.heap h')(hok:gA X.prog X.w H' h'):Inv X pins σ H' {s with heap:=h',toks:=t'}:=by
 obtain⟨m,⟨o,es,ep,ho,r⟩,_⟩:=id I.loc
 obtain⟨sl,hL⟩:=u.any ho I.free (by simp)
 exact I.step (g':=s.gens) (d':=s.drawn) (ch:=[]) (fun _ z=>nomatch z) (fun b o _ hb _ e n=>u.keep b o e n hb (by simp)) (fun b o _ hb _ e n=>u.slot b o e n hb (by simp)) (fun b o _ e n=>u.free b o e n (by simp)) (fun b o _ e=>u.there b o e (by simp)) u.tups u.oX u.p6 (fun m' hm=>by
  obtain⟨o',es',ep',ho',r'⟩:=hm
  rw[ho] at ho';cases ho'
  exact⟨_,es',ep',hL,r'⟩) hok I.bare
theorem Inv.call{g':Array GenState}{t':Nat}{d':xX}{ch:List aa}(I:Inv X pins σ H s)(u:Un (frs X.stack) ch H H' s.heap h')(hok:gA X.prog X.w H' h')(hg:AllBare g')
  (hch:∀b∈ch,(b∈X.ex∨X.s₀.heap.objs.size≤b)∧b≠X.env.locals∧(∀x c,X.env.cells.lookup x=some c→c≠b)∧∀p∈X.pn++pins,p.1≠b):
  Inv X pins σ H' {s with heap:=h',gens:=g',drawn:=d',toks:=t'}:=by
 obtain⟨m,⟨o,es,ep,ho,r⟩,_⟩:=id I.loc
 obtain⟨sl,hL⟩:=u.any ho I.free fun z=>(hch _ z).2.1 rfl
 exact I.step (ch:=ch) hch (fun b o hL hb hc e n=>u.keep b o e n (fun z=>(bU.mp (I.zY b z)).elim hL hb) hc) (fun b o _ _ hc e n=>u.any e n hc) (fun b o hc e n=>u.free b o e n hc) (fun b o hc e=>u.there b o e hc) u.tups u.oX u.p6 (fun m' hm=>by
  obtain⟨o',es',ep',ho',r'⟩:=hm
  rw[ho] at ho';cases ho'
  exact⟨_,es',ep',hL,r'⟩) hok hg
theorem Inv.turned{t':Nat}{it:aa}(I:Inv X pins σ H s)(k:∀b o,b≠it→s.heap.get? b=some o→h'.get? b=some o)(hn:H it=none)(hL:it≠X.env.locals)
  (h1:it∈X.ex∨X.s₀.heap.objs.size≤it)(h2:∀x c,X.env.cells.lookup x=some c→c≠it)(h3:∀p∈X.pn++pins,p.1≠it):Inv X pins σ H {s with heap:=h',toks:=t'}:=by
 have Et:∀b u,H b=some u→b≠it:=fun b u e z=>by rw[z,hn] at e;cases e
 refine I.step (g':=s.gens) (d':=s.drawn) (ch:=[it]) (fun b hb=>?_) (fun b o _ _ hc e _=>k b o (fun z=>hc (by simp[z])) e) (fun b o _ _ hc e _=>⟨o.slots,k b o (fun z=>hc (by simp[z])) e⟩) (fun _ _ _ _ n=>n)
  (fun b o hc e=>⟨o,k b o (fun z=>hc (by simp[z])) e⟩) (fun _ _ e=>e) (fun _ _ _ e=>e) (fun b ps e=>⟨#[],by rw[e];simp⟩) (fun m hm=>?_) (fun b u e=>?_) I.bare
 ·have e:b=it:=by simpa using hb
  subst e
  exact⟨h1,hL,h2,h3⟩
 ·obtain⟨o,es,ep,ho,r⟩:=hm
  exact⟨o,es,ep,k _ o (jQ hL) ho,r⟩
 ·refine(I.hok b u e).stay (fun c v hc q=>k c v ?_ q) (fun _ q=>q) fun _ _ q=>q
  rcases hc with z|z
  ·rw[z];exact Et b u e
  ·exact Et c _ z
theorem Inv.tok(I:Inv X pins σ H s)(t:Nat):Inv X pins σ H {s with toks:=t}:=I.un (h':=s.heap) (t':=t) Un.refl I.hok
theorem Inv.kept{t':Nat}(I:Inv X pins σ H s)(k:∀b u,s.heap.get? b=some u→h'.get? b=some u):Inv X pins σ H {s with heap:=h',toks:=t'}:=I.un (Un.kept k) (I.hok.kept k)
theorem Inv.laid{a:aa}{o:HO}{t':Nat}(I:Inv X pins σ H s)(k:∀b u,s.heap.get? b=some u→h'.get? b=some u)(hp:s.heap.objs.size≤a)(new:eY X.prog X.w (upd H a o) h' a o):
  Inv X pins σ (upd H a o) {s with heap:=h',toks:=t'}:=I.un (Un.laid k hp (I.hok.fresh hp)) (I.hok.laid k hp new)
theorem Inv.write{x e:aa}{o:HO}{t':Nat}(I:Inv X pins σ H s)(mu:Er (H x))(he:e=x∨H e=some (.own x))(k:∀b u,b≠e→s.heap.get? b=some u→h'.get? b=some u)(heo:∃u,h'.get? e=some u)
  (new:eY X.prog X.w (upd H x o) h' x o):Inv X pins σ (upd H x o) {s with heap:=h',toks:=t'}:=I.un (Un.write mu he k heo) (I.hok.write mu he k heo new)
theorem Inv.weak{σ':List (Option V)}(I:Inv X pins σ H s)(hl:σ'.length=σ.length)(w:∀(i:Nat) v,σ'[i]?=some (some v)→σ[i]?=some (some v)):Inv X pins σ' H s:=
 ⟨I.ok,I.os,I.bare,I.base,let ⟨m,hn,hl'⟩:=I.loc;⟨m,hn,fun i x v e1 e2 e3=>hl' i x v e1 (w i v e2) e3⟩,I.cell,I.free,I.qQ,I.pin,I.hok,hl.trans I.len⟩
theorem Inv.YX{Ri:List (aa×Obj)}(I:Inv X pins σ H s)(h:∀p∈Ri,s.heap.get? p.1=some p.2∧H p.1=none∧p.1≠X.env.locals∧p.1∉X.fs∧∀v,p.2.data≠.cell v):Inv X Ri σ H s:=
 ⟨I.ok,I.os,I.bare,I.base,I.loc,I.cell,I.free,I.qQ,fun p hp=>(cR.mp hp).elim (fun z=>I.pin p (gB _ z)) (h p),I.hok,I.len⟩
theorem Xz{N:List Str}(hN:N.Nodup){i j:Nat}{x:Str}(a:N[i]?=some x)(b:N[j]?=some x):i=j:=by
 obtain⟨h1,e1⟩:=je.mp a
 obtain⟨h2,e2⟩:=je.mp b
 exact(List.getElem_inj hN).mp (e1.trans e2.symm)
theorem Nv{M:Model}{A:bY}{E:Value→au→Prop}{i:Nat}{x:Str}{v:V}{u:Value}{Q:Unit→au→Prop}(I:Inv X pins σ H s)(hN:X.N.Nodup)(hi:X.N[i]?=some x)(hx:Loc X.env.scope x)(r:RelV v u)
  (h:∀s',Inv X pins (σ.set i (some v)) H s'→(∃a,zu a s.heap s'.heap∧(a=X.env.locals∨X.env.cells.lookup x=some a))→Q () s')(hf:X.fn x=true∨X.env.scope.names.lookup x=some .local:=by first|exact .inl rfl|exact .inr rfl|assumption):aM M A (storeName X.env x u) Q E s:=by
 obtain⟨m,hn,hl⟩:=id I.loc
 have hcls:(X.env.scope.kind==.class||(X.env.scope.kind==.module&&X.env.locals != X.env.globals))=false:=by rw[I.ok.kind];rfl
 have hiσ:i<σ.length:=by rw[I.len];exact(je.mp hi).1
 have yF:=I.yF;have tracked:∀{a:aa}{h':aV},(∃o,s.heap.get? a=some o∧H a=none)→zu a s.heap h'→gA X.prog X.w H h':=fun{a h'} ha hs b ob e=>by
  obtain⟨_,_,hfree⟩:=ha
  refine(I.hok b ob e).stay (fun c w' hc q=>(hs.2 c ?_).trans q) (fun _ q=>q) fun _ _ q=>q
  rintro rfl;rcases hc with rfl|hc
  ·rw[hfree] at e;cases e
  ·rw[hfree] at hc;cases hc
 rcases hx with hk|hk
 ·refine wpAny_storeName_local hk hn (fun h' hn' hs=>?_) hcls
  obtain⟨oL,_,_,hoL,_⟩:=id hn
  refine h _ ⟨I.ok,I.os,I.bare,⟨fun b o e n hb hx=>?_,fun b o e n hb hx=>?_,I.base.free,fun b o e hx=>?_,I.base.tups,I.base.oX,I.base.p6⟩,⟨_,hn',fun j y v' e1 e2 e3=>?_⟩,fun y c e=>?_,I.free,I.qQ,fun p hp=>?_,tracked ⟨oL,hoL,I.free⟩ hs,by simpa using I.len⟩ ⟨_,hs,.inl rfl⟩
  ·exact(hs.2 b (dO (nu (bW e) I.ok.above))).trans (I.base.keep b o e n hb hx)
  ·obtain⟨sl,e1⟩:=I.base.slot b o e n hb hx
   exact⟨sl,(hs.2 b (dO (nu (bW e) I.ok.above))).trans e1⟩
  ·obtain⟨o',e1⟩:=I.base.there b o e hx
   exact⟨o',(hs.2 b (dO (nu (bW e) I.ok.above))).trans e1⟩
  ·by_cases hj:j=i
   ·subst hj;rw[hi] at e1;cases e1;rw[acL hiσ] at e2;cases e2
    exact⟨u,r,.inl ⟨hk,by simp⟩⟩
   ·rw[yP (jQ hj)] at e2
    obtain⟨u',r',q⟩:=hl j y v' e1 e2 e3
    refine⟨u',r',?_⟩
    rcases q with⟨k,e⟩|⟨k,c,e,z⟩
    ·refine .inl ⟨k,?_⟩;have:y≠x:=fun e=>hj (Xz hN e1 (e▸hi))
     simp[this,e]
    ·exact .inr ⟨k,c,e,z.sameBut hs (yF y c e)⟩
  ·obtain⟨w',z⟩:=I.cell y c e
   exact⟨w',z.sameBut hs (yF y c e)⟩
  ·obtain⟨e,n,ne,nf,d⟩:=I.pin p hp
   exact⟨(hs.2 p.1 ne).trans e,n,ne,nf,d⟩
 ·have hfn:X.fn x=true:=by
   rcases hf with z|z
   ·exact z
   ·rw[z] at hk;cases hk
  obtain⟨c,hc⟩:=I.ok.has x (.inl hk)
  obtain⟨w',z⟩:=I.cell x c hc
  refine wpAny_storeName_cell I.ok.kind hk hc z (fun h' hc' hs=>?_)
  obtain⟨oc,hoc,ak5⟩:=id z
  refine h {s with heap:=h'} ⟨I.ok,I.os,I.bare,⟨fun b o e n hb hx=>?_,fun b o e n hb hx=>?_,I.base.free,fun b o e hx=>?_,I.base.tups,I.base.oX,I.base.p6⟩,⟨m,hn.sameBut hs (jQ (yF x c hc)),fun j y v' e1 e2 e3=>?_⟩,fun y c' e=>?_,I.free,I.qQ,fun p hp=>?_,tracked ⟨oc,hoc,I.qQ x c hc⟩ hs,by simpa using I.len⟩ ⟨c,hs,.inr hc⟩
  ·exact(hs.2 b (dO (nu (bW e) (I.ok.cab x c hfn hc)))).trans (I.base.keep b o e n hb hx)
  ·obtain⟨sl,e1⟩:=I.base.slot b o e n hb hx
   exact⟨sl,(hs.2 b (dO (nu (bW e) (I.ok.cab x c hfn hc)))).trans e1⟩
  ·obtain⟨o',e1⟩:=I.base.there b o e hx
   exact⟨o',(hs.2 b (dO (nu (bW e) (I.ok.cab x c hfn hc)))).trans e1⟩
  ·by_cases hj:j=i
   ·subst hj;rw[hi] at e1;cases e1;rw[acL hiσ] at e2;cases e2
    exact⟨u,r,.inr ⟨.inl hk,c,hc,hc'⟩⟩
   ·rw[yP (jQ hj)] at e2
    obtain⟨u',r',q⟩:=hl j y v' e1 e2 e3
    refine⟨u',r',?_⟩
    rcases q with q|⟨k,c',e,z'⟩
    ·exact .inl q
    ·refine .inr ⟨k,c',e,z'.sameBut hs ?_⟩;rintro rfl;exact hj (Xz hN e1 (I.ok.inj _ _ _ e hc▸hi))
  ·by_cases hcc:c'=c
   ·subst hcc;exact⟨_,hc'⟩
   ·obtain⟨w2,z2⟩:=I.cell y c' e
    exact⟨w2,z2.sameBut hs hcc⟩
  ·obtain⟨e,n,ne,nf,d⟩:=I.pin p hp
   refine⟨(hs.2 p.1 ?_).trans e,n,ne,nf,d⟩
   intro q;rw[q,hoc] at e;have q':oc=p.2:=fV e;exact d w' (by rw[←q'];exact ak5)
theorem sr{M:Model}{A:bY}{E:Value→au→Prop}{i:Nat}{x:Str}{v:V}{u:Value}{Q:Unit→au→Prop}(I:Inv X pins σ H s)(hN:X.N.Nodup)(hi:X.N[i]?=some x)(hx:Loc X.env.scope x)(r:RelV v u)
  (h:∀s',Inv X pins (σ.set i (some v)) H s'→Q () s')(hf:X.fn x=true∨X.env.scope.names.lookup x=some .local:=by first|exact .inl rfl|exact .inr rfl|assumption):aM M A (storeName X.env x u) Q E s:=
 Nv I hN hi hx r (fun s' I' _=>h s' I') hf
theorem Inv.call'{s':au}{ch:List aa}(I:Inv X pins σ H s)(ho:s'.os=s.os)(u:Un (frs X.stack) ch H H' s.heap s'.heap)(hok:gA X.prog X.w H' s'.heap)(hg:AllBare s'.gens)
  (hch:∀b∈ch,(b∈X.ex∨X.s₀.heap.objs.size≤b)∧b≠X.env.locals∧(∀x c,X.env.cells.lookup x=some c→c≠b)∧∀p∈X.pn++pins,p.1≠b):Inv X pins σ H' s':=by
 obtain⟨h',g',d',t',o'⟩:=s'
 have e:o'=s.os:=ho;subst e;exact I.call (g':=g') (t':=t') (d':=d') u hok hg hch
end
abbrev XK:=Value→Option aa→Hp→Prop
abbrev St:=List (Option V)
abbrev VK:=V→Hp→Prop
abbrev TE:=St→Hp→VK→Prop
abbrev TT:=St→Hp→(Bool→Hp→Prop)→Prop
abbrev TA:=St→Hp→(List V→Hp→Prop)→Prop
structure Ends where
 nx:St→Hp→Prop
 rt:VK
 bk:St→Hp→Prop:=fun _ _=>False
 ct:St→Hp→Prop:=fun _ _=>False
abbrev TS:=Ends→St→Hp→Prop
def EP(X:Cx)(pins:List (aa×Obj))(σ:St)(Q:VK)(u:Value)(s':au):Prop:=∃v H',Inv X pins σ H' s'∧RelV v u∧Q v H'
def TP(X:Cx)(pins:List (aa×Obj))(σ:St)(Q:Bool→Hp→Prop)(b:Bool)(s':au):Prop:=∃H',Inv X pins σ H' s'∧Q b H'
def AP(X:Cx)(pins:List (aa×Obj))(σ:St)(Q:List V→Hp→Prop)(us:List Value)(s':au):Prop:=∃vs H',Inv X pins σ H' s'∧Vals vs us∧Q vs H'
def SP(X:Cx)(pins:List (aa×Obj))(D:Ends)(f:Flow)(s':au):Prop:=
 match f with
 |.next=>∃σ' H',Inv X pins σ' H' s'∧D.nx σ' H'
 |.brk=>∃σ' H',Inv X pins σ' H' s'∧D.bk σ' H'
 |.cont=>∃σ' H',Inv X pins σ' H' s'∧D.ct σ' H'
 |.ret u=>∃v σ' H',Inv X pins σ' H' s'∧RelV v u∧D.rt v H'
def PE(X:Cx)(e:Expr)(t:TE):Prop:=
 ∀(pins:List (aa×Obj))(s:au)(σ:St)(H:Hp)(Q:VK),Inv X pins σ H s→t σ H Q→aM (model X.prog X.w) X.A (eval e X.env) (EP X pins σ Q) X.xe s
def PT(X:Cx)(e:Expr)(t:TT):Prop:=
 ∀(pins:List (aa×Obj))(s:au)(σ:St)(H:Hp)(Q:Bool→Hp→Prop),Inv X pins σ H s→t σ H Q→aM (model X.prog X.w) X.A (isTrue e X.env (eval e X.env)) (TP X pins σ Q) X.xe s
def PW(X:Cx)(e:Expr)(t:TT):Prop:=
 ∀(whole:Sem Value)(pins:List (aa×Obj))(s:au)(σ:St)(H:Hp)(Q:Bool→Hp→Prop),Inv X pins σ H s→t σ H Q→aM (model X.prog X.w) X.A (isTrue e X.env whole) (TP X pins σ Q) X.xe s
theorem PW.pt{X:Cx}{e:Expr}{t:TT}(h:PW X e t):PT X e t:=h _
def PA(X:Cx)(es:List Expr)(t:TA):Prop:=
 ∀(pos:Pos)(pins:List (aa×Obj))(s:au)(σ:St)(H:Hp)(Q:List V→Hp→Prop),Inv X pins σ H s→t σ H Q→aM (model X.prog X.w) X.A (spliced (gm pos (aZ es X.env))) (AP X pins σ Q) X.xe s
def PS(X:Cx)(st:cU)(t:TS):Prop:=
 ∀(pins:List (aa×Obj))(s:au)(σ:St)(H:Hp)(D:Ends),Inv X pins σ H s→t D σ H→aM (model X.prog X.w) X.A (exec st X.env) (SP X pins D) X.xe s
def iK(X:Cx)(st:List cU)(t:TS):Prop:=
 ∀(pins:List (aa×Obj))(s:au)(σ:St)(H:Hp)(D:Ends),Inv X pins σ H s→t D σ H→aM (model X.prog X.w) X.A (execs st X.env) (SP X pins D) X.xe s
theorem bu{α:Type}{t:Sem α}{Q Q':α→au→Prop}{M:Model}{A:bY}{E:Value→au→Prop}{s:au}(h:aM M A t Q E s)(hQ:∀a s,Q a s→Q' a s):aM M A t Q' E s:=nD h hQ fun _ _ x=>x
section
variable{X:Cx}
def qY(i:Nat):TE:=fun σ H Q=>∃v,σ[i]?=some (some v)∧Q v H
def tC(v:V):TE:=fun _ H Q=>Q v H
theorem ajc{i:Nat}{x:Str}{pos:Pos}(hN:X.N[i]?=some x)(hv:J0 X.env.scope x)(hd:(x==("__debug__":Str))=false:=by decide)(hcd:(x==("__classdict__":Str))=false:=by decide):PE X (.Name x pos) (qY i):=by
 intro pins s σ H Q I h
 obtain⟨v,e,h⟩:=h
 obtain⟨m,hn,hl⟩:=I.loc
 obtain⟨u,r,l⟩:=hl i x v hN e hv
 have fin:EP X pins σ Q u s:=⟨v,H,I,r,h⟩
 rcases l with⟨hk,hm⟩|⟨hk,c,hc,hcell⟩
 ·exact Ws (acZ I.ok.kind hk hn hm fin) hd
 ·rcases hk with hk|hk
  ·exact Ws (ac6 I.ok.kind hk hc hcell fin) hd
  ·exact Ws (wpAny_loadName_free I.ok.kind hk hc hcell fin hcd) hd
theorem aN{i j pos}:PE X (.Constant (.int i) j pos) (tC (.int i)):=fun _ _ _ H _ I h=>wpAny_Constant_int ⟨.int i,H,I.tok _,⟨_,rfl⟩,h⟩
theorem xY{b j pos}:PE X (.Constant (.bool b) j pos) (tC (.bl b)):=fun _ _ _ H _ I h=>Constant_bool ⟨.bl b,H,I,rfl,h⟩
theorem zZ{j pos}:PE X (.Constant .none j pos) (tC .non):=fun _ _ _ H _ I h=>Constant_none ⟨.non,H,I,rfl,h⟩
theorem CZ{x j pos}:PE X (.Constant (.str x) j pos) (tC (.str x)):=fun _ _ _ H _ I h=>Calls.Constant_str ⟨.str x,H,I.tok _,⟨_,rfl⟩,h⟩
def Gl(X:Cx)(x:Str):Prop:=X.env.kindOf x=some .globalImplicit
theorem ahU{E:Value→au→Prop}{pins:List (aa×Obj)}{s:au}{σ:St}{H:Hp}{x:Str}{u:Value}{pos:Pos}{Q:Value→au→Prop}(I:Inv X pins σ H s)(hg:Gl X x)(hm:X.mg x=some u)(h:Q u s)
  (hd:(x==("__debug__":Str))=false:=by decide):aM (model X.prog X.w) X.A (eval (.Name x pos) X.env) Q E s:=
 acy I.ok.kind hg (Calls.loadGlobal_global (by rw[I.ok.glob];exact I.mod.glob.keeps I.bk) hm h) hd
theorem uz{E:Value→au→Prop}{pins:List (aa×Obj)}{s:au}{σ:St}{H:Hp}{x:Str}{u:Value}{pos:Pos}{Q:Value→au→Prop}(I:Inv X pins σ H s)(hg:Gl X x)(hm:X.mg x=none)(hv:rR x=some u)(h:Q u s)
  (hn:x≠"__name__":=by decide)(hd:(x==("__debug__":Str))=false:=by decide):aM (model X.prog X.w) X.A (eval (.Name x pos) X.env) Q E s:=by
 obtain⟨mb,h1,h2⟩:=I.mod.blt
 exact acy I.ok.kind hg (Calls.loadGlobal_builtin (by rw[I.ok.glob];exact I.mod.glob.keeps I.bk) hm (by rw[I.ok.blt];exact h1.keeps I.bk) ((h2 x hn).trans hv) h) hd
theorem oH{x:Str}{v:V}{u:Value}{pos:Pos}(hg:Gl X x)(hm:X.mg x=none)(hv:rR x=some u)(r:RelV v u)(hn:x≠"__name__":=by decide)(hd:(x==("__debug__":Str))=false:=by decide):PE X (.Name x pos) (tC v):=
 fun _ _ _ H _ I h=>uz I hg hm hv ⟨v,H,I,r,h⟩ hn hd
variable{a b:Expr}{ta tb:TE}{pos:Pos}
def tB(t:TE):TT:=fun σ H Q=>t σ H fun x H1=>∃c,x=.bl c∧Q c H1
variable{tA J2:TT}{rest:List Expr}
def aba(t u:TT):TT:=fun σ H Q=>t σ H fun c H1=>if c=true then u σ H1 Q else Q false H1
def tOr(t u:TT):TT:=fun σ H Q=>t σ H fun c H1=>if c=true then Q true H1 else u σ H1 Q
def ak6(t:TT):TT:=fun σ H Q=>t σ H fun c H1=>Q (!c) H1
theorem pw_and1(ha:PT X a tA):PW X (.BoolOp .And [a] pos) tA:=by
 intro wh pins s σ H Q I h;refine isTrue_and (bu (ha pins s σ H Q I h) fun c s1 e=>?_);cases c with
 |true=>exact isTrue_and_nil e
 |false=>exact e
theorem pw_or1(ha:PT X a tA):PW X (.BoolOp .Or [a] pos) tA:=by
 intro wh pins s σ H Q I h;refine isTrue_or (bu (ha pins s σ H Q I h) fun c s1 e=>?_);cases c with
 |false=>exact isTrue_or_nil e
 |true=>exact e
theorem pw_and(ha:PT X a tA)(hb:PW X (.BoolOp .And (b::rest) pos) J2):PW X (.BoolOp .And (a::b::rest) pos) (aba tA J2):=by
 intro wh pins s σ H Q I h;refine isTrue_and (bu (ha pins s σ H _ I h) fun c s1 aK=>?_)
 obtain⟨H1,I1,q1⟩:=aK
 cases c with
 |true=>exact hb wh pins s1 σ H1 Q I1 q1
 |false=>exact⟨H1,I1,q1⟩
theorem pw_or(ha:PT X a tA)(hb:PW X (.BoolOp .Or (b::rest) pos) J2):PW X (.BoolOp .Or (a::b::rest) pos) (tOr tA J2):=by
 intro wh pins s σ H Q I h;refine isTrue_or (bu (ha pins s σ H _ I h) fun c s1 aK=>?_)
 obtain⟨H1,I1,q1⟩:=aK
 cases c with
 |true=>exact⟨H1,I1,q1⟩
 |false=>exact hb wh pins s1 σ H1 Q I1 q1
theorem ajd(ha:PT X a tA):PT X (.UnaryOp .Not a pos) (ak6 tA):=by
 intro pins s σ H Q I h;exact isTrue_not (ha pins s σ H (fun c H1=>Q (!c) H1) I h)
def akr(ta tb:TE):TE:=fun σ H Q=>ta σ H fun x H1=>∃c,x=.bl c∧if c=true then tb σ H1 Q else Q (.bl false) H1
def aks(ta:TE):TE:=fun σ H Q=>ta σ H fun x H1=>∃c,x=.bl c∧Q (.bl (!c)) H1
theorem aje{op}{t:TE}(h:PE X a t):PE X (.BoolOp op [a] pos) t:=fun pins s σ H Q I hw=>BoolOp_one (h pins s σ H Q I hw)
theorem ajf(ha:PE X a ta)(hb:PE X (.BoolOp .And (b::rest) pos) tb):PE X (.BoolOp .And (a::b::rest) pos) (akr ta tb):=by
 intro pins s σ H Q I h;refine BoolOp_and (bu (ha pins s σ H _ I h) fun v s1 aK=>?_)
 obtain⟨x,H1,I1,r1,q1⟩:=aK
 obtain⟨c,rfl,q1⟩:=q1
 cases r1;refine vm ?_;cases c with
 |true=>exact hb pins s1 σ H1 Q I1 q1
 |false=>exact⟨.bl false,H1,I1,rfl,q1⟩
theorem ajg(ha:PE X a ta):PE X (.UnaryOp .Not a pos) (aks ta):=by
 intro pins s σ H Q I h;refine UnaryOp_ (bu (ha pins s σ H _ I h) fun v s1 aK=>?_)
 obtain⟨x,H1,I1,r1,q1⟩:=aK
 obtain⟨c,rfl,q1⟩:=q1
 cases r1;exact not_of (vm ⟨.bl (!c),H1,I1,rfl,q1⟩)
def tIf(t:TT)(ta tb:TE):TE:=fun σ H Q=>t σ H fun c H1=>if c=true then ta σ H1 Q else tb σ H1 Q
theorem agO{c:Expr}(hc:PT X c tA)(ha:PE X a ta)(hb:PE X b tb):PE X (.IfExp c a b pos) (tIf tA ta tb):=by
 intro pins s σ H Q I h;refine wpAny_IfExp (bu (hc pins s σ H _ I h) fun d s1 aK=>?_)
 obtain⟨H1,I1,q1⟩:=aK
 cases d with
 |true=>exact ha pins s1 σ H1 Q I1 q1
 |false=>exact hb pins s1 σ H1 Q I1 q1
end
def bK(K:aG)(H:Hp)(a:aa)(xs:List V):Prop:=
 Rd H a (.lst xs)∨
  ∃(o:Obj)(its:Array Value)(n:Nat),K.lookup a=some o∧o.cls=.type "list"∧o.dict=none∧o.data=.seq its n∧its.size≤bM∧Vals xs its.toList
def cN(K:aG)(H:Hp)(a:aa)(xs:List V):Prop:=
 Rd H a (.tup xs)∨
  ∃(o:Obj)(its:Array Value)(n:Nat),K.lookup a=some o∧o.cls=.type "tuple"∧o.data=.seq its n∧its.size≤bM∧Vals xs its.toList
def ak7:Value→Option V
 |.none=>some .non
 |.bool b=>some (.bl b)
 |.int i _=>some (.int i)
 |.str x _=>some (.str x)
 |.bytes b _=>some (.o8 b)
 |.float b _=>some (.flt b)
 |.ref a=>some (.ref a)
 |.type n=>some (.ty n)
 |_=>none
theorem RelV.abs{x:V}{u:Value}(r:RelV x u):ak7 u=some x:=by
 cases x with
 |non=>cases r;rfl
 |bl _=>cases r;rfl
 |int _=>obtain⟨t,rfl⟩:=r;rfl
 |str _=>obtain⟨t,rfl⟩:=r;rfl
 |o8 _=>obtain⟨t,rfl⟩:=r;rfl
 |flt _=>obtain⟨t,rfl⟩:=r;rfl
 |ref _=>cases r;rfl
 |ty _=>cases r;rfl
theorem RelV.inj{x y:V}{u:Value}(r:RelV x u)(q:RelV y u):x=y:=fV (r.abs.symm.trans q.abs)
theorem Vals.inj:∀{xs ys:List V}{us:List Value},Vals xs us→Vals ys us→xs=ys
 |_,_,_,.nil,.nil=>rfl
 |_,_,_,.cons r t,.cons r' t'=>by rw[r.inj r',Vals.inj t t']
section
variable{X:Cx}{pins:List (aa×Obj)}{σ:St}{H:Hp}{s:au}{a:aa}{xs ys:List V}
theorem bK.of{K:aG}(h:H a=some (.lst xs)):bK K H a xs:=.inl (.inl h)
theorem cN.of{K:aG}(h:H a=some (.tup xs)):cN K H a xs:=.inl (.inl h)
theorem Inv.list(I:Inv X pins σ H s)(h:bK X.K H a xs):∃its:List Value,Vals xs its∧PlainL s.heap a its.toArray∧xs.length≤bM:=by
 rcases h with h|⟨o,its,n,hk,hc,hd,hs,hz,r⟩
 ·obtain⟨z,its,n,r,e⟩:=h.ok I.hok
  exact⟨its,r,⟨_,n,e,rfl,rfl,rfl⟩,z⟩
 ·refine⟨its.toList,r,⟨o,n,I.gM a o hk,hc,hd,by simpa using hs⟩,?_⟩
  have e:=r.length;simp only[jM] at e;omega
theorem Inv.tuple(I:Inv X pins σ H s)(h:cN X.K H a xs):∃its:List Value,Vals xs its∧IsTup s.heap a its.toArray∧xs.length≤bM:=by
 rcases h with h|⟨o,its,n,hk,hc,hs,hz,r⟩
 ·obtain⟨z,its,r,p⟩:=h.ok I.hok
  exact⟨its,r,p,z⟩
 ·refine⟨its.toList,r,⟨o,I.gM a o hk,hc,n,by simpa using hs⟩,?_⟩
  have e:=r.length;simp only[jM] at e;omega
theorem Inv.HY(I:Inv X pins σ H s)(h:bK X.K H a xs)(h':bK X.K H a ys):xs=ys:=by
 obtain⟨its,r,⟨o,n,e,_,_,d⟩,_⟩:=I.list h
 obtain⟨its',r',⟨o',n',e',_,_,d'⟩,_⟩:=I.list h'
 rw[e] at e';cases e';rw[d] at d';injection d' with d1 _
 have:its=its':=by simpa using congrArg aey d1
 subst this;exact r.inj r'
theorem Inv.afS(I:Inv X pins σ H s)(h:cN X.K H a xs)(h':cN X.K H a ys):xs=ys:=by
 obtain⟨its,r,⟨o,e,_,n,d⟩,_⟩:=I.tuple h
 obtain⟨its',r',⟨o',e',_,n',d'⟩,_⟩:=I.tuple h'
 rw[e] at e';cases e';rw[d] at d';injection d' with d1 _
 have:its=its':=by simpa using congrArg aey d1
 subst this;exact r.inj r'
end
abbrev Cx.wish(X:Cx)(E:Value→au→Prop):Cx:={X with xe:=E}
abbrev Cx.uT(X:Cx):Cx:=X.wish fun _ _=>False
theorem Cx.Ok.wish{X:Cx}(ok:X.Ok)(E:Value→au→Prop):(X.wish E).Ok:=
 ⟨ok.mod,ok.kind,ok.glob,ok.blt,ok.above,ok.inj,ok.has,ok.cab,ok.hd,ok.frames,ok.stk,ok.exf,ok.bs,ok.tM,ok.Ef,ok.JM,ok.p7,ok.yE⟩
theorem Cx.Ok.sH{X:Cx}{E:Value→au→Prop}(ok:(X.wish E).Ok):X.Ok:=
 ⟨ok.mod,ok.kind,ok.glob,ok.blt,ok.above,ok.inj,ok.has,ok.cab,ok.hd,ok.frames,ok.stk,ok.exf,ok.bs,ok.tM,ok.Ef,ok.JM,ok.p7,ok.yE⟩
section
variable{X:Cx}{pins:List (aa×Obj)}{σ:St}{H:Hp}{s:au}{E:Value→au→Prop}
theorem Inv.wish(I:Inv X pins σ H s)(E:Value→au→Prop):Inv (X.wish E) pins σ H s:=⟨I.ok.wish E,I.os,I.bare,I.base,I.loc,I.cell,I.free,I.qQ,I.pin,I.hok,I.len⟩
theorem Inv.sH(I:Inv (X.wish E) pins σ H s):Inv X pins σ H s:=⟨I.ok.sH,I.os,I.bare,I.base,I.loc,I.cell,I.free,I.qQ,I.pin,I.hok,I.len⟩
theorem SP.sH{D:Ends}{f:Flow}{s':au}(h:SP (X.wish E) pins D f s'):SP X pins D f s':=by
 cases f with
 |next=>obtain⟨σ',H',I,q⟩:=h;exact⟨σ',H',I.sH,q⟩
 |brk=>obtain⟨σ',H',I,q⟩:=h;exact⟨σ',H',I.sH,q⟩
 |cont=>obtain⟨σ',H',I,q⟩:=h;exact⟨σ',H',I.sH,q⟩
 |ret u=>obtain⟨v,σ',H',I,r,q⟩:=h;exact⟨v,σ',H',I.sH,r,q⟩
theorem PE.uT{e:Expr}{t:TE}(h:PE X.uT e t):PE X e t:=fun pins s σ H Q I hw=>
 nD (h pins s σ H Q (I.wish _) hw) (fun _ _ ⟨v,H',I',r,q⟩=>⟨v,H',I'.sH,r,q⟩) fun _ _ z=>qx z
theorem PT.uT{e:Expr}{t:TT}(h:PT X.uT e t):PT X e t:=fun pins s σ H Q I hw=>
 nD (h pins s σ H Q (I.wish _) hw) (fun _ _ ⟨H',I',q⟩=>⟨H',I'.sH,q⟩) fun _ _ z=>qx z
theorem iK.uT{st:List cU}{t:TS}(h:iK X.uT st t):iK X st t:=fun pins s σ H D I hw=>
 nD (h pins s σ H D (I.wish _) hw) (fun _ _ q=>q.sH) fun _ _ z=>qx z
end
section
variable{X:Cx}{st:cU}{rest:List cU}{t u:TS}{e:Expr}{te:TE}{pos:Pos}
def akt:TS:=fun D σ H=>D.nx σ H
def abb(t u:TS):TS:=fun D σ H=>t {D with nx:=u D} σ H
theorem ahV:iK X [] akt:=fun _ _ σ H _ I h=>Le ⟨σ,H,I,h⟩
theorem agP(h1:PS X st t)(h2:iK X rest u):iK X (st::rest) (abb t u):=by
 intro pins s σ H D I h;refine adH (bu (h1 pins s σ H {D with nx:=u D} I h) fun f s1 q=>?_);cases f with
 |next=>
  obtain⟨σ',H',I',q⟩:=q
  exact h2 pins s1 σ' H' D I' q
 |ret v=>exact q
 |brk=>exact q
 |cont=>exact q
theorem ahW(h1:PS X st t):iK X [st] t:=by
 intro pins s σ H D I h;refine adH (bu (h1 pins s σ H D I h) fun f s1 q=>?_);cases f with
 |next=>exact Le q
 |ret v=>exact q
 |brk=>exact q
 |cont=>exact q
theorem Inv.quiet{pins:List (aa×Obj)}{σ:St}{H:Hp}{s:au}(I:Inv X pins σ H s):interactive X.env=false:=by simp[interactive,I.ok.kind]
def aku(te:TE):TS:=fun D σ H=>te σ H fun _ H1=>D.nx σ H1
theorem YZ(he:PE X e te)(hs:uf e none pos.line X.env=pure false:=by rfl):PS X (.Expr e pos) (aku te):=by
 intro pins s σ H D I h;exact wpAny_Expr_any (bu (he pins s σ H _ I h) fun v s1 ⟨x,H1,I1,r1,q1⟩=>⟨σ,H1,I1,q1⟩) I.quiet hs
def ak8(te:TE):TS:=fun D σ H=>te σ H D.rt
theorem Z6(he:PE X e te):PS X (.Return (some e) pos) (ak8 te):=by
 intro pins s σ H D I h;exact wpAny_Return_some (bu (he pins s σ H _ I h) fun v s1 ⟨x,H1,I1,r1,q1⟩=>⟨x,σ,H1,I1,r1,q1⟩)
def ak9(c:TT)(t u:TS):TS:=fun D σ H=>c σ H fun b H1=>if b=true then t D σ H1 else u D σ H1
theorem akv{c:Expr}{a b:List cU}{tc:TT}(hc:PT X c tc)(ha:iK X a t)(hb:iK X b u):PS X (.If c a b pos) (ak9 tc t u):=by
 intro pins s σ H D I h;refine wpAny_If (bu (hc pins s σ H _ I h) fun d s1 aK=>?_)
 obtain⟨H1,I1,q1⟩:=aK
 cases d with
 |true=>exact ha pins s1 σ H1 D I1 q1
 |false=>exact hb pins s1 σ H1 D I1 q1
end
abbrev TG:=V→St→Hp→(St→Hp→Prop)→Prop
abbrev uU:=List V→St→Hp→(St→Hp→Prop)→Prop
def PG(X:Cx)(target:Expr)(t:TG):Prop:=
 ∀(pins:List (aa×Obj))(s:au)(σ:St)(H:Hp)(v:V)(u:Value)(Q:St→Hp→Prop),Inv X pins σ H s→RelV v u→t v σ H Q→
  aM (model X.prog X.w) X.A (assign target X.env u) (fun _ s'=>∃σ' H',Inv X pins σ' H' s'∧Q σ' H') X.xe s
def J3(X:Cx)(ts:List Expr)(t:uU):Prop:=
 ∀(pins:List (aa×Obj))(s:au)(σ:St)(H:Hp)(vs:List V)(us:List Value)(Q:St→Hp→Prop),Inv X pins σ H s→Vals vs us→t vs σ H Q→
  aM (model X.prog X.w) X.A (Bw ((rW ts X.env).map (·.2)) us) (fun _ s'=>∃σ' H',Inv X pins σ' H' s'∧Q σ' H') X.xe s
abbrev RN:=V→V→V→Hp→(Hp→Prop)→Prop
def uK(X:Cx)(t:RN):Prop:=
 ∀(pins:List (aa×Obj))(s:au)(σ:St)(H:Hp)(o i v:V)(ov iv u:Value)(Q:Hp→Prop),Inv X pins σ H s→RelV o ov→RelV i iv→RelV v u→t o i v H Q→
  aM (model X.prog X.w) X.A (setItem ov iv u) (fun _ s'=>∃H',Inv X pins σ H' s'∧Q H') X.xe s
abbrev J4:=V→V→Hp→VK→Prop
def PIp(X:Cx)(op:Operator)(t:J4):Prop:=
 ∀(pins:List (aa×Obj))(s:au)(σ:St)(H:Hp)(x y:V)(v u:Value)(Q:VK),Inv X pins σ H s→RelV x v→RelV y u→t x y H Q→
  aM (model X.prog X.w) X.A (inplaceOp op v u) (EP X pins σ Q) X.xe s
section
variable{X:Cx}{pos:Pos}
def vP(i:Nat):TG:=fun v σ H Q=>Q (σ.set i (some v)) H
theorem iW{i:Nat}{x:Str}(hN:X.N.Nodup)(hi:X.N[i]?=some x)(hx:Loc X.env.scope x)(hf:X.fn x=true∨X.env.scope.names.lookup x=some .local:=by first|exact .inl rfl|exact .inr rfl|assumption):PG X (.Name x pos) (vP i):=by
 intro pins s σ H v u Q I r h;exact Gm (sr I hN hi hx r (fun s' I'=>⟨_,H,I',h⟩) hf)
def RP:uU:=fun vs σ H Q=>vs=[]∧Q σ H
def Rj(t:TG)(u:uU):uU:=fun vs σ H Q=>∃v r,vs=v::r∧t v σ H fun σ' H'=>u r σ' H' Q
theorem Cy:J3 X [] RP:=by
 intro pins s σ H vs us Q I r h
 obtain⟨e,h⟩:=h
 subst e;cases r;exact assignInOrder_nil ⟨σ,H,I,h⟩
theorem oG{e:Expr}{es:List Expr}{t:TG}{u:uU}(h1:PG X e t)(h2:J3 X es u)
  (hs:(rW (e::es) X.env).map (·.2)=assign e X.env::(rW es X.env).map (·.2):=by rfl):J3 X (e::es) (Rj t u):=by
 intro pins s σ H vs us Q I r h
 obtain⟨v,vr,e1,h⟩:=h
 subst e1;cases r with
 |cons r rr=>
  rw[hs];refine assignInOrder_cons (bu (h1 pins s σ H _ _ _ I r h) fun _ s1 aK=>?_)
  obtain⟨σ1,H1,I1,q1⟩:=aK
  exact h2 pins s1 σ1 H1 _ _ Q I1 rr q1
def RQ(K:aG)(n:Nat)(t:uU):TG:=fun v σ H Q=>∃a xs,v=.ref a∧cN K H a xs∧xs.length=n∧t xs σ H Q
theorem Dc{es:List Expr}{k:Nat}{t:uU}{n:Nat}(hc:X.calm=true)(h:J3 X es t)
  (hn:(rW es X.env).length=n:=by rfl)(hst:(rW es X.env).findIdx? (·.1)=none:=by rfl):PG X (.Tuple es k pos) (RQ X.K n t):=by
 intro pins s σ H v u Q I r hw
 obtain⟨a,xs,e1,hq,hl,hw⟩:=hw
 subst e1;cases r
 obtain⟨its,rv,ht,hz⟩:=I.tuple hq
 refine assign_Tuple_tuple (I.ok.hd hc) ht (by simp[hn,←hl,rv.length]) hst fun h' hx=>?_
 have I1:Inv X pins σ H {s with heap:=h'}:=I.kept (t':=s.toks) fun b o e=>hx b o (dO (bW e)) e
 exact h pins _ σ H xs _ Q I1 (by simpa using rv) hw
def ala(to ti:TE)(t:RN):TG:=fun v σ H Q=>to σ H fun o H1=>ti σ H1 fun i H2=>t o i v H2 fun H3=>Q σ H3
theorem ajh{o i:Expr}{to ti:TE}{t:RN}(ho:PE X o to)(hi:PE X i ti)(hs:uK X t)
  (ha:∀v,assign (.Subscript o i pos) X.env v=(do
   let ov ←pQ [v] (eval o X.env)
   let iv ←pQ [v,ov] (eval i X.env)
   sE pos
   pQ [v,ov,iv] (setItem ov iv v)
   release [v,ov,iv] []):=by intro _;rfl):PG X (.Subscript o i pos) (ala to ti t):=by
 intro pins s σ H v u Q I r h;rw[ha];refine aD (mQ (bu (ho pins s σ H _ I h) fun ov s1 aK=>?_))
 obtain⟨x,H1,I1,r1,q1⟩:=aK
 refine aD (mQ (bu (hi pins s1 σ H1 _ I1 q1) fun iv s2 aK=>?_))
 obtain⟨y,H2,I2,r2,q2⟩:=aK
 refine aD (uc (aD (mQ (bu (hs pins s2 σ H2 x y v ov iv u _ I2 r1 r2 r q2) fun _ s3 aK=>?_))))
 obtain⟨H3,I3,q3⟩:=aK
 exact wpAny_release ⟨σ,H3,I3,q3⟩
def Am(te:TE)(g:TG):TS:=fun D σ H=>te σ H fun x H1=>g x σ H1 D.nx
theorem QB{tg e:Expr}{te:TE}{g:TG}(he:PE X e te)(hg:PG X tg g)(hs:xq [tg] e pos.line X.env=pure false:=by rfl)(hw:xr [tg] e X.env=pure none:=by rfl)
  (h1:(rW [tg] X.env).map (·.2)=[assign tg X.env]:=by rfl):PS X (.Assign [tg] e pos) (Am te g):=by
 intro pins s σ H D I h;refine wpAny_Assign_stores (bu (he pins s σ H _ I h) fun v s1 aK=>?_) hs hw
 obtain⟨x,H1,I1,r1,q1⟩:=aK
 rw[h1];exact bu (hg pins s1 σ H1 x v _ I1 r1 q1) fun _ s2 q=>q
theorem Z7{i:Nat}{x:Str}{e:Expr}{te:TE}{pos':Pos}(hN:X.N.Nodup)(hi:X.N[i]?=some x)(hx:Loc X.env.scope x)(he:PE X e te)(hs:uf e (some (.Name x pos')) pos.line X.env=pure false:=by rfl)(hf:X.fn x=true∨X.env.scope.names.lookup x=some .local:=by first|exact .inl rfl|exact .inr rfl|assumption):
  PS X (.Assign [.Name x pos'] e pos) (Am te (vP i)):=by
 intro pins s σ H D I h;refine wpAny_Assign_Name (bu (he pins s σ H _ I h) fun v s1 aK=>?_) hs
 obtain⟨y,H1,I1,r1,q1⟩:=aK
 exact sr I1 hN hi hx r1 (fun s2 I2=>⟨_,H1,I2,q1⟩) hf
def alb(i j:Nat)(ta:TA):TS:=fun D σ H=>ta σ H fun vs H1=>∃v w,vs=[v,w]∧D.nx ((σ.set i (some v)).set j (some w)) H1
theorem aji{i j:Nat}{x y:Str}{a b:Expr}{ta:TA}{px py pt:Pos}{kt k2 m8}(hc:X.calm=true)(hN:X.N.Nodup)(hi:X.N[i]?=some x)(hj:X.N[j]?=some y)(hij:i≠j)
  (hx:X.env.scope.names.lookup x=some .local)(hy:X.env.scope.names.lookup y=some .local)(ha:PA X [a,b] ta)
  (hw:xr [.Tuple [.Name x px,.Name y py] kt pt] (.Tuple [a,b] k2 m8) X.env=pure (some [x,y]))
  (hs:xq [.Tuple [.Name x px,.Name y py] kt pt] (.Tuple [a,b] k2 m8) pos.line X.env=pure false:=by rfl):
  PS X (.Assign [.Tuple [.Name x px,.Name y py] kt pt] (.Tuple [a,b] k2 m8) pos) (alb i j ta):=by
 intro pins s σ H D I h;rw[exec_Assign_arm];refine aD (uc ?_);rw[hs];refine aD (aX ?_);rw[if_neg (by decide)];refine aD (Tuple_ (bu (ha _ pins s σ H _ I h) fun us s1 aK=>?_))
 obtain⟨vs,H1,I1,r1,q1⟩:=aK
 obtain⟨v,w,e1,q1⟩:=q1
 subst e1
 obtain⟨u1,u2,rfl,rv,rw'⟩:∃u1 u2,us=[u1,u2]∧RelV v u1∧RelV w u2:=by
  cases r1 with
  |cons p q=>
   cases q with
   |cons p' q'=>
    cases q'
    exact⟨_,_,rfl,p,p'⟩
 refine mK ?_ (by show 2≤bM;decide);have I2:Inv X pins σ H1 {s1 with heap:=s1.heap.push {cls:=.type "tuple",data:=.seq [u1,u2].toArray}}:=I1.kept (t':=s1.toks) fun b o e=>cD _ e
 rw[hw];refine aD (aX ?_);show aM (model X.prog X.w) X.A (do rule "assign.swapped-stores";let items ←unpackItems (.ref s1.heap.objs.size) 2 none;Bw [fun v=>uh X.env y v,fun v=>uh X.env x v] items.reverse;pure Nx) _ _ _;refine aD (xG (aD (unpackItems_tuple (items:=#[u1,u2]) (I.ok.hd hc) (IsTup.new s1.heap _) fun h' hx'=>?_)));have I3:=I2.kept (h':=h') (t':=s1.toks) fun b o e=>hx' b o (dO (bW e)) e
 show aM _ _ (Bw [fun v=>uh X.env y v,fun v=>uh X.env x v] [u2,u1] >>= fun _=>pure Nx) _ _ _;refine aD (assignInOrder_cons (Gw (sr I3 hN hj (.inl hy) rw' (fun s2 I4=>?_) (.inr hy))));refine assignInOrder_cons (Gw (sr I4 hN hi (.inl hx) rv (fun s3 I5=>assignInOrder_nil (aX ?_)) (.inr hx)));rw[LQ _ _ (jQ hij)] at I5
 exact⟨_,H1,I5,q1⟩
def alc(i:Nat)(te:TE)(ti:J4):TS:=fun D σ H=>∃x,σ[i]?=some (some x)∧te σ H fun y H1=>ti x y H1 fun z H2=>D.nx (σ.set i (some z)) H2
theorem ajj{i:Nat}{x:Str}{e:Expr}{te:TE}{op:Operator}{ti:J4}{pos':Pos}(hN:X.N.Nodup)(hi:X.N[i]?=some x)(hx:Loc X.env.scope x)(he:PE X e te)(ho:PIp X op ti)(hf:X.fn x=true∨X.env.scope.names.lookup x=some .local:=by first|exact .inl rfl|exact .inr rfl|assumption):
  PS X (.AugAssign (.Name x pos') op e pos) (alc i te ti):=by
 intro pins s σ H D I h
 obtain⟨v,e1,h⟩:=h
 obtain⟨m,hn,hl⟩:=I.loc
 have vis:J0 X.env.scope x:=by rcases hx with k|k;exact .inl k;exact .inr (.inl k)
 obtain⟨u,r,l⟩:=hl i x v hi e1 vis
 refine wpAny_AugAssign_Name ?_;have go:aM (model X.prog X.w) X.A (eval e X.env) (fun w s₂=>aM (model X.prog X.w) X.A (inplaceOp op u w) (fun r s₃=>aM (model X.prog X.w) X.A (storeName X.env x r) (fun _=>SP X pins D .next) X.xe s₃) X.xe s₂) X.xe s:=by
  refine bu (he pins s σ H _ I h) fun w s1 aK=>?_
  obtain⟨y,H1,I1,r1,q1⟩:=aK
  refine bu (ho pins s1 σ H1 v y u w _ I1 r r1 q1) fun z s2 aK=>?_
  obtain⟨zv,H2,I2,r2,q2⟩:=aK
  exact sr I2 hN hi hx r2 (fun s3 I3=>⟨_,H2,I3,q2⟩) hf
 rcases l with⟨hk,hm⟩|⟨hk,c,hc,hcell⟩
 ·exact acZ I.ok.kind hk hn hm go
 ·rcases hk with hk|hk
  ·exact ac6 I.ok.kind hk hc hcell go
  ·rcases hx with k|k
   ·have:X.env.scope.names.lookup x=some .free:=hk;rw[k] at this;cases this
   ·have:X.env.scope.names.lookup x=some .free:=hk;rw[k] at this;cases this
def ipI(f:Int→Int→Int):J4:=fun x y H Q=>∃i j,x=.int i∧y=.int j∧Q (.int (f i j)) H
theorem ajk:PIp X .Add (ipI fun i j=>i+j):=by
 intro pins s σ H x y v u Q I r1 r2 h
 obtain⟨i,j,e1,e2,q⟩:=h
 subst e1;subst e2
 obtain⟨t,rfl⟩:=r1
 obtain⟨t',rfl⟩:=r2
 exact iadd_int ⟨.int _,H,I.tok _,⟨_,rfl⟩,q⟩
end
section
variable{X:Cx}{pos:Pos}
def Z8(c:TT)(tb:TS):TS:=fun D σ H=>∃W:Nat→St→Hp→Prop,(∃m,W m σ H)∧∀m σ H,W m σ H→
 c σ H fun b H1=>if b=true then ∃N:St→Hp→Prop,(∀σ' H',N σ' H'→∃m',m'<m∧W m' σ' H')∧tb {D with nx:=N,ct:=N,bk:=D.nx} σ H1 else D.nx σ H1
theorem agQ{c:Expr}{body:List cU}{tc:TT}{tb:TS}(hp:Ny (model X.prog X.w) X.A X.env X.xe)(hc:PT X c tc)(hb:iK X body tb):PS X (.While c body [] pos) (Z8 tc tb):=by
 intro pins s σ H D I h
 obtain⟨W,⟨m0,w0⟩,turn⟩:=h
 refine wpAny_While (codeAny_whileLoop (fun n s'=>∃σ' H',Inv X pins σ' H' s'∧W n σ' H') ?_ m0 ⟨σ,H,I,w0⟩);rintro n s1 ⟨σ1,H1,I1,w1⟩;refine yX hp (bu (hc pins s1 σ1 H1 _ I1 (turn n σ1 H1 w1)) fun b s2 aK=>?_)
 obtain⟨H2,I2,q2⟩:=aK
 cases b with
 |true=>
  obtain⟨N,hN,q2⟩:=q2
  rw[if_pos rfl];refine yX hp (bu (hb pins s2 σ1 H2 _ I2 q2) fun f s3 q3=>?_);cases f with
  |next=>
   obtain⟨σ3,H3,I3,n3⟩:=q3
   obtain⟨m',hm,w3⟩:=hN σ3 H3 n3
   exact⟨m',hm,σ3,H3,I3,w3⟩
  |cont=>
   obtain⟨σ3,H3,I3,n3⟩:=q3
   obtain⟨m',hm,w3⟩:=hN σ3 H3 n3
   exact⟨m',hm,σ3,H3,I3,w3⟩
  |brk=>exact q3
  |ret v=>exact q3
 |false=>
  rw[if_neg gP];exact Le ⟨σ1,H2,I2,q2⟩
end
structure It where
 go:Nat→Hp→Prop
 wG:Nat→Hp→V→Hp→Prop
 stop:Nat→Hp→Prop
def jz(X:Cx)(pins:List (aa×Obj))(H:Hp)(b:aa):Prop:=
 H b=none∧b≠X.env.locals∧b∉X.fs∧(b∈X.ex∨X.s₀.heap.objs.size≤b)∧(∀x c,X.env.cells.lookup x=some c→c≠b)∧∀p∈X.pn++pins,p.1≠b
theorem Inv.uL{X:Cx}{pins:List (aa×Obj)}{σ:St}{H H':Hp}{s:au}{b:aa}(I:Inv X pins σ H s)(hb:s.heap.objs.size≤b)(hn:H' b=none):jz X pins H' b:=by
 refine⟨hn,zx (nu I.lt hb),I.ak4 hb,.inr (jP I.sz hb),fun x c e z=>?_,fun p hp z=>?_⟩
 ·obtain⟨v,q⟩:=I.cell x c e
  exact absurd (nu q.lt (by rw[z];exact hb)) (vz _)
 ·exact absurd (nu (bW (I.pin p hp).1) (by rw[z];exact hb)) (vz _)
structure Turn(P:bf)(w:aY)(K:aG)(tg:Expr)(J:It)(fp:List aa)(it:aa)(tn:Nat→aV→Prop):Prop where
 mem:it∈fp
 obj:∀i h,tn i h→∀b∈fp,∃o,h.get? b=some o∧∀v,o.data≠.cell v
 keep:∀i h h',tn i h→(∀b∈fp,∀o,h.get? b=some o→h'.get? b=some o)→tn i h'
 item:∀(X:Cx),X.prog=P→X.w=w→X.K=K→X.calm=true→∀(i:Nat)(pins:List (aa×Obj))(s:au)(σ:St)(H:Hp)(E:Value→au→Prop),Inv X pins σ H s→(∀b∈fp,jz X pins H b)→tn i s.heap→J.go i H→
  aM (model P w) X.A (oJ (.ref it)) (fun r s1=>∃u,r=some u∧
   aM (model P w) X.A (w6 tg (.ref it) u) (fun _ s2=>∃x H',Inv X pins σ H' s2∧RelV x u∧J.wG i H x H'∧tn (i+1) s2.heap∧∀b∈fp,H' b=none) E s1) E s
 done:∀(X:Cx),X.prog=P→X.w=w→X.K=K→X.calm=true→∀(i:Nat)(pins:List (aa×Obj))(s:au)(σ:St)(H:Hp)(E:Value→au→Prop),Inv X pins σ H s→(∀b∈fp,jz X pins H b)→tn i s.heap→J.stop i H→
  aM (model P w) X.A (oJ (.ref it)) (fun r s1=>r=none∧Inv X pins σ H s1) E s
 self:∀(A:bY)(i:Nat)(s:au)(Q:Value→au→Prop)(E:Value→au→Prop),tn i s.heap→Q (.ref it) s→aM (model P w) A (Dd (.ref it)) Q E s
abbrev TI:=St→Hp→(It→Hp→Prop)→Prop
def PIE(X:Cx)(pins:List (aa×Obj))(σ:St)(tg:Expr)(R:It→Hp→Prop)(itv:Value)(s2:au):Prop:=
 ∃(it:aa)(fp:List aa)(tn:Nat→aV→Prop)(J:It)(H':Hp),itv=.ref it∧Inv X pins σ H' s2∧Turn X.prog X.w X.K tg J fp it tn∧tn 0 s2.heap∧(∀b∈fp,jz X pins H' b)∧R J H'
def PI(X:Cx)(tg iter:Expr)(wi:TI):Prop:=
 ∀(pins:List (aa×Obj))(s:au)(σ:St)(H:Hp)(R:It→Hp→Prop),Inv X pins σ H s→wi σ H R→
  aM (model X.prog X.w) X.A (eval iter X.env) (fun v s1=>aM (model X.prog X.w) X.A (Dd v) (PIE X pins σ tg R) X.xe s1) X.xe s
theorem Rk{M:Model}{A:bY}{E:Value→au→Prop}{s:au}{tg:Expr}{it:aa}{u:Value}{o:Obj}{n:String}{vs:Array Value}{Q:Unit→au→Prop}(ho:s.heap.get? it=some o)(hc:o.cls=.type n)(hd:o.data=.fields vs)
  (hn:["enumerate","zip","dict_itemiterator","dict_reverseitemiterator","odict_iterator","itertools.zip_longest","itertools.pairwise"].contains n=false)(hQ:Q () s):aM M A (w6 tg (.ref it) u) Q E s:=by
 unfold w6;cases tg<;>first
  |exact aX hQ
  |(cases u<;>first
    |exact aX hQ
    |(refine aD (Hu ho ?_)
      rw[hc,hd];show aM M A (if(["enumerate","zip","dict_itemiterator","dict_reverseitemiterator","odict_iterator","itertools.zip_longest","itertools.pairwise"].contains n&&vs[0]?==some (jm _))=true then _ else _) Q E s;rw[if_neg (by intro h;rw[hn,Vr] at h;cases h)];exact aX hQ))
def Sv(K:aG)(a:aa):It:=
 ⟨fun i H=>∃xs x,bK K H a xs∧xs[i]?=some x,fun i H x H'=>H'=H∧∀xs,bK K H a xs→xs[i]?=some x,fun i H=>∃xs,bK K H a xs∧xs.length≤i⟩
def Sw(K:aG)(a:aa):It:=
 ⟨fun i H=>∃xs x,cN K H a xs∧xs[i]?=some x,fun i H x H'=>H'=H∧∀xs,cN K H a xs→xs[i]?=some x,fun i H=>∃xs,cN K H a xs∧xs.length≤i⟩
def Eu(lo:Int)(n:Nat):It:=⟨fun i _=>i<n,fun i H x H'=>H'=H∧x=.int (lo+i),fun i _=>n≤i⟩
theorem afT{P:bf}{w:aY}{K:aG}{tg:Expr}(a it:aa):Turn P w K tg (Sv K a) [it] it (fun i h=>h.IsListIter it a i) where
 mem:=by simp
 obj:=fun i h st b hb=>by
  have e:b=it:=by simpa using hb
  subst e
  obtain⟨o,e,c,d⟩:=st
  exact⟨o,e,fun v z=>by rw[d] at z;cases z⟩
 keep:=fun i h h' st k=>st.at fun o e=>k it (by simp) o e
 item:=by
  intro X hP hw hK hc i pins s σ H E I hf st hg;subst hP hw hK
  obtain⟨xs,x,hq,hx⟩:=hg
  obtain⟨its,rv,p,hz⟩:=I.list hq
  obtain⟨u,hu,ru⟩:=rv.get hx
  obtain⟨f0,f1,f2,f3,f4,f5⟩:=hf it (by simp)
  refine wpAny_pyNext_list_item st p.isList (x:=u) (by simpa using hu) fun h' st' sb=>?_
  have I1:Inv X pins σ H {s with heap:=h'}:=I.turned (t':=s.toks) (fun b o hb e=>(sb.2 b hb).trans e) f0 f1 f3 f4 f5
  obtain⟨o,e,c,d⟩:=id st'
  exact⟨u,rfl,Rk (s:={s with heap:=h'}) e c d (by decide) ⟨x,H,I1,ru,⟨rfl,fun ys hy=>by rw[I.HY hy hq];exact hx⟩,st',fun b hb=>(hf b hb).1⟩⟩
 done:=by
  intro X hP hw hK hc i pins s σ H E I hf st hg;subst hP hw hK
  obtain⟨xs,hq,hx⟩:=hg
  obtain⟨its,rv,p,hz⟩:=I.list hq
  obtain⟨f0,f1,f2,f3,f4,f5⟩:=hf it (by simp)
  have hl:=rv.length;exact wpAny_pyNext_list_end (I.ok.hd hc) st p.isList (by simp;omega) fun h' eb=>⟨rfl,I.turned (t':=s.toks) (fun b o hb e=>eb b o hb e) f0 f1 f3 f4 f5⟩
 self:=fun _ _ _ _ _ st h=>wpAny_pyIter_listiter st h
theorem afc{P:bf}{w:aY}{K:aG}{tg:Expr}(a it:aa):Turn P w K tg (Sw K a) [it] it (fun i h=>h.IsTupleIter it a i) where
 mem:=by simp
 obj:=fun i h st b hb=>by
  have e:b=it:=by simpa using hb
  subst e
  obtain⟨o,e,c,d⟩:=st
  exact⟨o,e,fun v z=>by rw[d] at z;cases z⟩
 keep:=fun i h h' st k=>st.at fun o e=>k it (by simp) o e
 item:=by
  intro X hP hw hK hc i pins s σ H E I hf st hg;subst hP hw hK
  obtain⟨xs,x,hq,hx⟩:=hg
  obtain⟨its,rv,p,hz⟩:=I.tuple hq
  obtain⟨u,hu,ru⟩:=rv.get hx
  obtain⟨f0,f1,f2,f3,f4,f5⟩:=hf it (by simp)
  refine wpAny_pyNext_tuple_item st (show s.heap.IsTuple a its.toArray from p) (x:=u) (by simpa using hu) fun h' st' sb=>?_
  have I1:Inv X pins σ H {s with heap:=h'}:=I.turned (t':=s.toks) (fun b o hb e=>(sb.2 b hb).trans e) f0 f1 f3 f4 f5
  obtain⟨o,e,c,d⟩:=id st'
  exact⟨u,rfl,Rk (s:={s with heap:=h'}) e c d (by decide) ⟨x,H,I1,ru,⟨rfl,fun ys hy=>by rw[I.afS hy hq];exact hx⟩,st',fun b hb=>(hf b hb).1⟩⟩
 done:=by
  intro X hP hw hK hc i pins s σ H E I hf st hg;subst hP hw hK
  obtain⟨xs,hq,hx⟩:=hg
  obtain⟨its,rv,p,hz⟩:=I.tuple hq
  obtain⟨f0,f1,f2,f3,f4,f5⟩:=hf it (by simp)
  have hl:=rv.length;exact wpAny_pyNext_tuple_end (I.ok.hd hc) st (show s.heap.IsTuple a its.toArray from p) (by simp;omega) fun h' eb=>⟨rfl,I.turned (t':=s.toks) (fun b o hb e=>eb b o hb e) f0 f1 f3 f4 f5⟩
 self:=fun _ _ _ _ _ st h=>wpAny_pyIter_tupleiter st h
theorem afd{P:bf}{w:aY}{K:aG}{tg:Expr}(it:aa)(lo:Int)(n:Nat):Turn P w K tg (Eu lo n) [it] it (fun i h=>IsRangeIter h it (lo+(i:Nat)*1) ((n:Int)-(i:Nat)) 1) where
 mem:=by simp
 obj:=fun i h st b hb=>by
  have e:b=it:=by simpa using hb
  subst e
  exact⟨_,st,fun v z=>by
   have z':Data.fields _=Data.cell v:=z;cases z'⟩
 keep:=fun i h h' st k=>k it (by simp) _ st
 item:=by
  intro X hP hw hK hc i pins s σ H E I hf st hg;subst hP hw hK
  obtain⟨f0,f1,f2,f3,f4,f5⟩:=hf it (by simp)
  have W:=Walks.range (prog:=X.prog) (w:=X.w) (I.ok.hd hc) it lo 1 n;refine W.item i s _ _ hg st fun v h' tk hv st' kk=>?_
  obtain⟨t,rfl⟩:=hv
  have I1:Inv X pins σ H {s with heap:=h',toks:=tk}:=I.turned (fun b o hb e=>kk b o (by simpa using hb) e) f0 f1 f3 f4 f5
  refine⟨_,rfl,Rk (s:={s with heap:=h',toks:=tk}) (n:="range_iterator") st' rfl rfl (by decide) ⟨.int (lo+i),H,I1,⟨t,?_⟩,⟨rfl,rfl⟩,st',fun b hb=>(hf b hb).1⟩⟩
  rw[Wj]
 done:=by
  intro X hP hw hK hc i pins s σ H E I hf st hg;subst hP hw hK
  obtain⟨f0,f1,f2,f3,f4,f5⟩:=hf it (by simp)
  exact wpAny_pyNext_range_end (I.ok.hd hc) st (by have:n≤i:=hg;omega) fun h' eb=>⟨rfl,I.turned (t':=s.toks) (fun b o hb e=>eb b o hb e) f0 f1 f3 f4 f5⟩
 self:=fun _ _ _ _ _ st h=>wpAny_pyIter_rangeiter st h
section
variable{X:Cx}{tg:Expr}
def akx(K:aG)(tl:TE):TI:=fun σ H R=>tl σ H fun x H1=>∃a,x=.ref a∧(∃xs,bK K H1 a xs)∧R (Sv K a) H1
def ald(K:aG)(tl:TE):TI:=fun σ H R=>tl σ H fun x H1=>∃a,x=.ref a∧(∃xs,cN K H1 a xs)∧R (Sw K a) H1
theorem Pn{l:Expr}{tl:TE}(hl:PE X l tl):PI X tg l (akx X.K tl):=by
 intro pins s σ H R I h;refine bu (hl pins s σ H _ I h) fun v s1 aK=>?_
 obtain⟨x,H1,I1,r1,q1⟩:=aK
 obtain⟨a,e,⟨xs,hq⟩,q⟩:=q1
 subst e;cases r1
 obtain⟨its,rv,p,hz⟩:=I1.list hq
 refine Uy p.isList ?_
 refine⟨s1.heap.objs.size,[s1.heap.objs.size],_,_,H1,rfl,I1.kept (t':=s1.toks) fun b o e=>cD _ e,afT a _,⟨_,ie _ rfl,rfl,rfl⟩,fun b hb=>?_,q⟩
 have e:b=s1.heap.objs.size:=by simpa using hb
 subst e;exact I1.uL (bO _) (I1.hok.fresh (bO _))
theorem QC{l:Expr}{tl:TE}(hl:PE X l tl):PI X tg l (ald X.K tl):=by
 intro pins s σ H R I h;refine bu (hl pins s σ H _ I h) fun v s1 aK=>?_
 obtain⟨x,H1,I1,r1,q1⟩:=aK
 obtain⟨a,e,⟨xs,hq⟩,q⟩:=q1
 subst e;cases r1
 obtain⟨its,rv,p,hz⟩:=I1.tuple hq
 refine wpAny_pyIter_tuple (show s1.heap.IsTuple a its.toArray from p) ?_
 refine⟨s1.heap.objs.size,[s1.heap.objs.size],_,_,H1,rfl,I1.kept (t':=s1.toks) fun b o e=>cD _ e,afc a _,⟨_,ie _ rfl,rfl,rfl⟩,fun b hb=>?_,q⟩
 have e:b=s1.heap.objs.size:=by simpa using hb
 subst e;exact I1.uL (bO _) (I1.hok.fresh (bO _))
theorem XC{pins:List (aa×Obj)}{σ:St}{H:Hp}{s:au}{R:It→Hp→Prop}{E:Value→au→Prop}{lo hi:Int}{t u v:Tok}{tk:Nat}(I:Inv X pins σ H s)(h1:-(2^62)≤lo)(h2:lo<2^62)(h3:-(2^62)≤hi)(h4:hi<2^62)
  (q:R (Eu lo (hi-lo).toNat) H):aM (model X.prog X.w) X.A (Dd (.ref s.heap.objs.size)) (PIE X pins σ tg R) E {s with heap:=s.heap.push {cls:=.type "range",data:=.fields #[.int lo t,.int hi u,.int 1 v]},toks:=tk}:=by
 refine wpAny_pyIter_range (IsRange.new ..) (small_one h1 h2 h3 h4) ?_;have I1:Inv X pins σ H {s with heap:=s.heap.push {cls:=.type "range",data:=.fields #[.int lo t,.int hi u,.int 1 v]},toks:=tk}:=I.kept fun b o e=>cD _ e
 refine⟨(s.heap.push {cls:=.type "range",data:=.fields #[.int lo t,.int hi u,.int 1 v]}).objs.size,[(s.heap.push {cls:=.type "range",data:=.fields #[.int lo t,.int hi u,.int 1 v]}).objs.size],_,_,H,rfl,
  I1.kept (t':=tk) fun b o e=>cD _ e,afd _ lo (hi-lo).toNat,?_,fun b hb=>?_,q⟩
 ·have e1:lo+((0:Nat):Int)*1=lo:=by simp
  have e2:(((hi-lo).toNat:Nat):Int)-((0:Nat):Int)=anl lo hi 1:=by rw[rangeSize_one];split<;>omega
  show IsRangeIter _ _ (lo+((0:Nat):Int)*1) ((((hi-lo).toNat:Nat):Int)-((0:Nat):Int)) 1;rw[e1,e2];exact ie _ rfl
 ·have e:b=(s.heap.push {cls:=.type "range",data:=.fields #[.int lo t,.int hi u,.int 1 v]}).objs.size:=by simpa using hb
  subst e;exact I1.uL (bO _) (I1.hok.fresh (bO _))
def aky(ta:TA):TI:=fun σ H R=>ta σ H fun vs H1=>∃j:Int,vs=[.int j]∧-(2^62)≤j∧j<2^62∧R (Eu 0 j.toNat) H1
def akz(ta:TA):TI:=fun σ H R=>ta σ H fun vs H1=>∃i j:Int,vs=[.int i,.int j]∧(-(2^62)≤i∧i<2^62∧-(2^62)≤j∧j<2^62)∧R (Eu i (j-i).toNat) H1
theorem afU{a:Expr}{ta:TA}{p pos:Pos}(hg:Gl X "range")(hm:X.mg "range"=none)(ha:PA X [a] ta)(hs:aZ [a] X.env=[(false,eval a X.env)]:=by rfl):PI X tg (.Call (.Name "range" p) [a] [] pos) (aky ta):=by
 intro pins s σ H R I h;refine Call_ (uz I hg hm boot_range (FW (bu (ha pos pins s σ H _ I h) fun us s1 aK=>?_) hs rfl))
 obtain⟨vs,H1,I1,r1,q1⟩:=aK
 obtain⟨j,e,q1,q2,q⟩:=q1
 subst e;cases r1 with
 |cons r rr=>
  cases rr
  obtain⟨t,rfl⟩:=r
  exact call_range_1 (XC I1 (by omega) (by omega) q1 q2 (by simpa using q))
theorem afV{a b:Expr}{ta:TA}{p pos:Pos}(hg:Gl X "range")(hm:X.mg "range"=none)(ha:PA X [a,b] ta)(hs:aZ [a,b] X.env=[(false,eval a X.env),(false,eval b X.env)]:=by rfl)(hs2:aZ [b] X.env=[(false,eval b X.env)]:=by rfl):
  PI X tg (.Call (.Name "range" p) [a,b] [] pos) (akz ta):=by
 intro pins s σ H R I h;refine Call_ (uz I hg hm boot_range (FW (bu (ha pos pins s σ H _ I h) fun us s1 aK=>?_) (by rw[hs,hs2]) (by rw[hs2];rfl)))
 obtain⟨vs,H1,I1,r1,q1⟩:=aK
 obtain⟨i,j,e,⟨q1,q2,q3,q4⟩,q⟩:=q1
 subst e;cases r1 with
 |cons r rr=>
  cases rr with
  |cons r' rr=>
   cases rr
   obtain⟨t,rfl⟩:=r
   obtain⟨t',rfl⟩:=r'
   exact call_range_2 (XC I1 q1 q2 q3 q4 q)
def abd(wi:TI)(g:TG)(tb:TS):TS:=fun D σ H=>wi σ H fun J H1=>∃W:Nat→Nat→St→Hp→Prop,(∃m,W 0 m σ H1)∧∀i m σ H,W i m σ H→
 (J.stop i H∧D.nx σ H)∨(J.go i H∧∃N:St→Hp→Prop,(∀σ' H',N σ' H'→∃m',m'<m∧W (i+1) m' σ' H')∧∀x H',J.wG i H x H'→g x σ H' fun σ2 H2=>tb {D with nx:=N,ct:=N,bk:=D.nx} σ2 H2)
def De(fp:List aa)(h:aV):List (aa×Obj):=fp.filterMap fun b=>(h.get? b).map fun o=>(b,o)
theorem Hv{fp:List aa}{h:aV}{b:aa}{o:Obj}(hb:b∈fp)(e:h.get? b=some o):(b,o)∈De fp h:=KJ.mpr ⟨b,hb,by rw[e];rfl⟩
theorem afW{fp:List aa}{h:aV}{p:aa×Obj}(hp:p∈De fp h):p.1∈fp∧h.get? p.1=some p.2:=by
 obtain⟨b,hb,e⟩:=KJ.mp hp
 cases q:h.get? b with
 |none=>rw[q] at e;cases e
 |some o=>
  rw[q] at e;have e':(b,o)=p:=fV e;subst e'
  exact⟨hb,q⟩
theorem Inv.pinned{pins:List (aa×Obj)}{σ:St}{H:Hp}{s:au}{fp:List aa}(I:Inv X pins σ H s)(hf:∀b∈fp,jz X pins H b)(ho:∀b∈fp,∃o,s.heap.get? b=some o∧∀v,o.data≠.cell v):Inv X (pins++De fp s.heap) σ H s:=
 I.YX fun p hp=>(cR.mp hp).elim (fun z=>I.pin p (dY _ z)) fun z=>by
  obtain⟨hb,e⟩:=afW z
  obtain⟨f0,f1,f2,_⟩:=hf p.1 hb
  obtain⟨o,e',d⟩:=ho p.1 hb
  rw[e] at e';cases e'
  exact⟨e,f0,f1,f2,d⟩
theorem Inv.H9{pins pl:List (aa×Obj)}{σ:St}{H:Hp}{s:au}(I:Inv X (pins++pl) σ H s):Inv X pins σ H s:=I.YX fun p hp=>I.pin p (dY _ (gB _ hp))
theorem ajl{iter:Expr}{body:List cU}{wi:TI}{g:TG}{tb:TS}{pos:Pos}(hp:Ny (model X.prog X.w) X.A X.env X.xe)(hc:X.calm=true)(hi:PI X tg iter wi)(hg:PG X tg g)(hb:iK X body tb)
  (hs:∀x,tY iter X.env x=pure x:=by intro _;rfl):PS X (.For tg iter body [] pos) (abd wi g tb):=by
 intro pins s σ H D I h;refine wpAny_For (bu (hi pins s σ H _ I h) fun v s1 h1=>bu h1 fun itv s2 h2=>?_) hs
 obtain⟨it,fp,tn,J,H2,e,I2,T,st2,f2,W,⟨m0,w0⟩,turn⟩:=h2
 subst e;have stat:∀{H':Hp},(∀b∈fp,H' b=none)→∀b∈fp,jz X pins H' b:=fun hn b hb=>⟨hn b hb,(f2 b hb).2⟩
 refine codeAny_forLoop_any (fun n s'=>∃i σ' H',Inv X pins σ' H' s'∧tn i s'.heap∧(∀b∈fp,H' b=none)∧W i n σ' H') ?_ m0 ⟨0,σ,H2,I2,st2,fun b hb=>(f2 b hb).1,w0⟩;rintro n s3 ⟨i,σ3,H3,I3,st3,Ew,w3⟩;rcases turn i n σ3 H3 w3 with⟨stop,qn⟩|⟨go,N,hN,step⟩
 ·refine yX hp (bu (T.done X rfl rfl rfl hc i pins s3 σ3 H3 X.xe I3 (stat Ew) st3 stop) fun r s4 aK=>?_)
  obtain⟨hr,I4⟩:=aK
  subst hr;exact Le ⟨σ3,H3,I4,qn⟩
 ·refine yX hp (bu (T.item X rfl rfl rfl hc i pins s3 σ3 H3 X.xe I3 (stat Ew) st3 go) fun r s4 aK=>?_)
  obtain⟨u,hr,h4⟩:=aK
  subst hr;refine yX hp (bu h4 fun _ s5 aK=>?_)
  obtain⟨x,H5,I5,r5,y5,yG,Sx⟩:=aK
  have Sy:=I5.pinned (stat Sx) (T.obj _ _ yG);refine yX hp (bu (hg _ s5 σ3 H5 x u _ Sy r5 (step x H5 y5)) fun _ s6 aK=>?_)
  obtain⟨σ6,H6,I6,q6⟩:=aK
  refine yX hp (bu (hb _ s6 σ6 H6 _ I6 q6) fun f s7 q7=>?_);have again:∀{σ7:St}{H7:Hp},Inv X (pins++De fp s5.heap) σ7 H7 s7→N σ7 H7→∃m,m<n∧∃i σ' H',Inv X pins σ' H' s7∧tn i s7.heap∧(∀b∈fp,H' b=none)∧W i m σ' H':=fun{σ7 H7} I7 n7=>by
   obtain⟨m',hm,w7⟩:=hN σ7 H7 n7
   refine⟨m',hm,i+1,σ7,H7,I7.H9,T.keep _ _ _ yG fun b hb o e=>(I7.pin (b,o) (dY _ (dY _ (Hv hb e)))).1,fun b hb=>?_,w7⟩
   obtain⟨o,e,d⟩:=T.obj _ _ yG b hb
   exact(I7.pin (b,o) (dY _ (dY _ (Hv hb e)))).2.1
  cases f with
  |next=>obtain⟨σ7,H7,I7,n7⟩:=q7;exact again I7 n7
  |cont=>obtain⟨σ7,H7,I7,n7⟩:=q7;exact again I7 n7
  |brk=>obtain⟨σ7,H7,I7,q7⟩:=q7;exact⟨σ7,H7,I7.H9,q7⟩
  |ret v=>obtain⟨x7,σ7,H7,I7,r7,q7⟩:=q7;exact⟨x7,σ7,H7,I7.H9,r7,q7⟩
end
abbrev R2:=V→V→Hp→VK→Prop
def cC(X:Cx)(f:Value→Value→Sem Value)(r:R2):Prop:=
 ∀(pins:List (aa×Obj))(s:au)(σ:St)(H:Hp)(x y:V)(v u:Value)(Q:VK),Inv X pins σ H s→RelV x v→RelV y u→r x y H Q→
  aM (model X.prog X.w) X.A (f v u) (EP X pins σ Q) X.xe s
def jw(X:Cx)(f:Value)(r:List V→Hp→VK→Prop):Prop:=
 ∀(pins:List (aa×Obj))(s:au)(σ:St)(H:Hp)(xs:List V)(us:List Value)(Q:VK),Inv X pins σ H s→Vals xs us→r xs H Q→
  aM (model X.prog X.w) X.A (call f us) (EP X pins σ Q) X.xe s
def ale(X:Cx)(r:V→Hp→(Bool→Hp→Prop)→Prop):Prop:=
 ∀(pins:List (aa×Obj))(s:au)(σ:St)(H:Hp)(x:V)(v:Value)(Q:Bool→Hp→Prop),Inv X pins σ H s→RelV x v→r x H Q→
  aM (model X.prog X.w) X.A (truthy v) (TP X pins σ Q) X.xe s
def Ex(r:R2)(ta tb:TE):TE:=fun σ H Q=>ta σ H fun x H1=>tb σ H1 fun y H2=>r x y H2 Q
def rI(C:Int→Int→Prop)(g:Int→Int→V):R2:=fun x y H Q=>∃i j,x=.int i∧y=.int j∧C i j∧Q (g i j) H
def o9(g:Int→Int→V):R2:=fun x y H Q=>∃i j,x=.int i∧y=.int j∧Q (g i j) H
section
variable{X:Cx}{a b c:Expr}{ta tb tc:TE}{pos:Pos}
theorem RT(ha:PE X a ta)(hb:PE X b tb){pins:List (aa×Obj)}{s:au}{σ:St}{H:Hp}{R:V→V→Hp→Prop}(I:Inv X pins σ H s)
  (h:ta σ H fun x H1=>tb σ H1 fun y H2=>R x y H2){Q:Value→au→Prop}{f:Value→Value→Sem Value}
  (hf:∀v u s2 x y H2,Inv X pins σ H2 s2→RelV x v→RelV y u→R x y H2→aM (model X.prog X.w) X.A (f v u) Q X.xe s2):
  aM (model X.prog X.w) X.A (eval a X.env) (fun v s₁=>aM (model X.prog X.w) X.A (eval b X.env) (fun u s₂=>aM (model X.prog X.w) X.A (f v u) Q X.xe s₂) X.xe s₁) X.xe s:=by
 refine bu (ha pins s σ H _ I h) fun v s1 aK=>?_
 obtain⟨x,H1,I1,r1,q1⟩:=aK
 refine bu (hb pins s1 σ H1 _ I1 q1) fun u s2 aK=>?_
 obtain⟨y,H2,I2,r2,q2⟩:=aK
 exact hf v u s2 x y H2 I2 r1 r2 q2
theorem akA{op:Operator}{r:R2}(ho:cC X (mV op) r)(ha:PE X a ta)(hb:PE X b tb):PE X (.BinOp a op b pos) (Ex r ta tb):=by
 intro pins s σ H Q I h;exact wpAny_BinOp (RT ha hb I h fun v u s2 x y H2 I2 rx ry q=>ho pins s2 σ H2 x y v u Q I2 rx ry q)
theorem J5{f:Value→Value→Sem Value}{C:Int→Int→Prop}{g:Int→Int→Int}
  (rule:∀(i j:Int)(t u:Tok)(s:au)(Q:Value→au→Prop)(E:Value→au→Prop),C i j→Q (.int (g i j) s.toks) {s with toks:=s.toks+1}→aM (model X.prog X.w) X.A (f (.int i t) (.int j u)) Q E s):
  cC X f (rI C fun i j=>.int (g i j)):=by
 intro pins s σ H x y v u Q I rx ry h
 obtain⟨i,j,rfl,rfl,hc,q⟩:=h
 obtain⟨t,rfl⟩:=rx
 obtain⟨t',rfl⟩:=ry
 exact rule i j t t' s _ _ hc ⟨.int (g i j),H,I.tok _,⟨_,rfl⟩,q⟩
theorem abe{f:Value→Value→Sem Value}{g:Int→Int→Int}
  (rule:∀(i j:Int)(t u:Tok)(s:au)(Q:Value→au→Prop)(E:Value→au→Prop),Q (.int (g i j) s.toks) {s with toks:=s.toks+1}→aM (model X.prog X.w) X.A (f (.int i t) (.int j u)) Q E s):
  cC X f (o9 fun i j=>.int (g i j)):=by
 intro pins s σ H x y v u Q I rx ry h
 obtain⟨i,j,rfl,rfl,q⟩:=h
 obtain⟨t,rfl⟩:=rx
 obtain⟨t',rfl⟩:=ry
 exact rule i j t t' s _ _ ⟨.int (g i j),H,I.tok _,⟨_,rfl⟩,q⟩
theorem RV{f:Value→Value→Sem Value}{g:Int→Int→Bool}
  (rule:∀(i j:Int)(t u:Tok)(s:au)(Q:Value→au→Prop)(E:Value→au→Prop),Q (.bool (g i j)) s→aM (model X.prog X.w) X.A (f (.int i t) (.int j u)) Q E s):
  cC X f (o9 fun i j=>.bl (g i j)):=by
 intro pins s σ H x y v u Q I rx ry h
 obtain⟨i,j,rfl,rfl,q⟩:=h
 obtain⟨t,rfl⟩:=rx
 obtain⟨t',rfl⟩:=ry
 exact rule i j t t' s _ _ ⟨.bl (g i j),H,I,rfl,q⟩
def abf(i j:Int):Prop:=0<j∧j<1073741824
def abg(i j:Int):Prop:=0≤j∧j≤1000000∧i.natAbs<2^64
def Eg(i j:Int):Prop:=(-(2^64)<i∧i<2^64)∨(-(2^64)<j∧j<2^64)
theorem Eg.ok{i j:Int}(h:Eg i j):IntMulOk i j:=by
 rcases h with⟨h1,h2⟩|⟨h1,h2⟩
 ·exact .of_left (intBits_le_64 h1 h2)
 ·exact .of_right (intBits_le_64 h1 h2)
theorem ajm:cC X (mV .Add) (o9 fun i j=>.int (i+j)):=abe fun _ _ _ _ _ _ _ q=>add_int q
theorem Df:cC X (mV .Sub) (o9 fun i j=>.int (i-j)):=abe fun _ _ _ _ _ _ _ q=>sub_int q
theorem oK:cC X (mV .Mult) (rI Eg fun i j=>.int (i*j)):=J5 fun _ _ _ _ _ _ _ hc q=>mul_int q hc.ok
theorem Pq:cC X (mV .FloorDiv) (rI abf fun i j=>.int (i / j)):=J5 fun i j _ _ _ _ _ hc q=>by
 have h1:(0:Int)<j:=hc.1;have h2:j<1073741824:=hc.2;exact floordiv_int (by omega) (by rw[Int.fdiv_eq_ediv_of_nonneg i (by omega)];exact q) (.inl (PyProof.noPylong_small (by omega)))
theorem qG:cC X (mV .Mod) (rI (fun _ j=>0<j) fun i j=>.int (i%j)):=J5 fun i j _ _ _ _ _ hc q=>by
 have h1:(0:Int)<j:=hc;exact mod_int' (by omega) (by rw[Int.fmod_eq_emod_of_nonneg i (by omega)];exact q)
theorem QD:cC X (mV .Pow) (rI abg fun i j=>.int (i^j.toNat)):=J5 fun _ _ _ _ _ _ _ hc q=>pow_int_small hc.1 hc.2.1 hc.2.2 q
end
def RW:V→V→Bool
 |.non,.non=>true|.non,.int _=>true|.int _,.non=>true|.non,.bl _=>true|.bl _,.non=>true|.non,.str _=>true|.str _,.non=>true
 |.int _,.int _=>true|.bl _,.bl _=>true|.str _,.str _=>true|.o8 _,.o8 _=>true
 |.int _,.str _=>true|.str _,.int _=>true|.bl _,.str _=>true|.str _,.bl _=>true
 |_,_=>false
def rEq:R2:=fun x y H Q=>RW x y=true∧Q (.bl (decide (x=y))) H
def rNe:R2:=fun x y H Q=>RW x y=true∧Q (.bl (!decide (x=y))) H
theorem Pr{i j:Int}:decide (V.int i=V.int j)=(i==j):=by
 rw[qw];simp
theorem QF{i j:Bool}:decide (V.bl i=V.bl j)=(i==j):=by
 rw[qw];simp
theorem Pu{i j:Str}:decide (V.str i=V.str j)=(i==j):=by
 rw[qw];simp
theorem Y0{i j:Array UInt8}:decide (V.o8 i=V.o8 j)=(i.toList==j.toList):=by
 rw[qw];cases i;cases j;simp
section
variable{X:Cx}{a b c:Expr}{ta tb tc:TE}{pos:Pos}
theorem fL{pins:List (aa×Obj)}{σ:St}{H:Hp}{s:au}{Q:VK}{k k':Bool}(I:Inv X pins σ H s)(q:Q (.bl k) H)(e:k=k'):EP X pins σ Q (.bool k') s:=by
 subst e
 exact⟨.bl k,H,I,rfl,q⟩
theorem akB:cC X (dZ .Eq) rEq:=by
 intro pins s σ H x y v u Q I rx ry h
 obtain⟨hs,q⟩:=h
 cases x with
 |non=>
  cases rx;cases y with
  |non=>cases ry;exact amT (fL I q (by simp))
  |bl j=>cases ry;exact amU (fL I q (by simp))
  |int j=>obtain⟨t',rfl⟩:=ry;exact am4 (fL I q (by simp))
  |str j=>obtain⟨t',rfl⟩:=ry;exact am5 (fL I q (by simp))
  |_=>exact absurd (show false=true from hs) gP
 |bl i=>
  cases rx;cases y with
  |non=>cases ry;exact amV (fL I q (by simp))
  |bl j=>cases ry;exact eq_bool (fL I q QF)
  |str j=>obtain⟨t',rfl⟩:=ry;exact amW (fL I q (by simp))
  |_=>exact absurd (show false=true from hs) gP
 |int i=>
  obtain⟨t,rfl⟩:=rx
  cases y with
  |non=>cases ry;exact am6 (fL I q (by simp))
  |int j=>obtain⟨t',rfl⟩:=ry;exact eq_int (fL I q Pr)
  |str j=>obtain⟨t',rfl⟩:=ry;exact am7 (fL I q (by simp))
  |_=>exact absurd (show false=true from hs) gP
 |str i=>
  obtain⟨t,rfl⟩:=rx
  cases y with
  |non=>cases ry;exact am8 (fL I q (by simp))
  |bl j=>cases ry;exact amX (fL I q (by simp))
  |int j=>obtain⟨t',rfl⟩:=ry;exact am9 (fL I q (by simp))
  |str j=>obtain⟨t',rfl⟩:=ry;exact eq_str (fL I q Pu)
  |_=>exact absurd (show false=true from hs) gP
 |o8 i=>
  obtain⟨t,rfl⟩:=rx
  cases y with
  |o8 j=>obtain⟨t',rfl⟩:=ry;exact PySem.W.eq_bytes (fL I q Y0)
  |_=>exact absurd (show false=true from hs) gP
 |_=>cases y<;>exact absurd (show false=true from hs) gP
theorem akC:cC X (dZ .NotEq) rNe:=by
 intro pins s σ H x y v u Q I rx ry h
 obtain⟨hs,q⟩:=h
 cases x with
 |non=>
  cases rx;cases y with
  |non=>cases ry;exact amY (fL I q (by simp))
  |bl j=>cases ry;exact amZ (fL I q (by simp))
  |int j=>obtain⟨t',rfl⟩:=ry;exact ana (fL I q (by simp))
  |str j=>obtain⟨t',rfl⟩:=ry;exact anb (fL I q (by simp))
  |_=>exact absurd (show false=true from hs) gP
 |bl i=>
  cases rx;cases y with
  |non=>cases ry;exact am0 (fL I q (by simp))
  |bl j=>cases ry;exact ne_bool (fL I q (congrArg not QF))
  |str j=>obtain⟨t',rfl⟩:=ry;exact am1 (fL I q (by simp))
  |_=>exact absurd (show false=true from hs) gP
 |int i=>
  obtain⟨t,rfl⟩:=rx
  cases y with
  |non=>cases ry;exact anc (fL I q (by simp))
  |int j=>obtain⟨t',rfl⟩:=ry;exact ne_int (fL I q (congrArg not Pr))
  |str j=>obtain⟨t',rfl⟩:=ry;exact ane (fL I q (by simp))
  |_=>exact absurd (show false=true from hs) gP
 |str i=>
  obtain⟨t,rfl⟩:=rx
  cases y with
  |non=>cases ry;exact anf (fL I q (by simp))
  |bl j=>cases ry;exact am2 (fL I q (by simp))
  |int j=>obtain⟨t',rfl⟩:=ry;exact ang (fL I q (by simp))
  |str j=>obtain⟨t',rfl⟩:=ry;exact ne_str (fL I q (congrArg not Pu))
  |_=>exact absurd (show false=true from hs) gP
 |o8 i=>
  obtain⟨t,rfl⟩:=rx
  cases y with
  |o8 j=>obtain⟨t',rfl⟩:=ry;exact PySem.W.ne_bytes (fL I q (congrArg not Y0))
  |_=>exact absurd (show false=true from hs) gP
 |_=>cases y<;>exact absurd (show false=true from hs) gP
theorem akD:cC X (dZ .LtE) (o9 fun i j=>.bl (decide (i≤j))):=RV fun _ _ _ _ _ _ _ q=>le_int q
theorem Dw:cC X (dZ .Gt) (o9 fun i j=>.bl (decide (j<i))):=RV fun _ _ _ _ _ _ _ q=>gt_int q
theorem akE:cC X (dZ .GtE) (o9 fun i j=>.bl (decide (j≤i))):=RV fun _ _ _ _ _ _ _ q=>ge_int q
theorem Z9:cC X (dZ .Is) (fun x y H Q=>y=.non∧Q (.bl (decide (x=.non))) H):=by
 intro pins s σ H x y v u Q I rx ry h
 obtain⟨rfl,q⟩:=h
 cases ry;refine is_none_gen (fL I q ?_);cases x<;>first
  |(cases rx;rfl)
  |(obtain⟨t,rfl⟩:=rx;rfl)
theorem cC.or{f:Value→Value→Sem Value}{r r':R2}(h:cC X f r)(h':cC X f r'):cC X f (fun x y H Q=>r x y H Q∨r' x y H Q):=by
 intro pins s σ H x y v u Q I rx ry q;rcases q with q|q
 ·exact h pins s σ H x y v u Q I rx ry q
 ·exact h' pins s σ H x y v u Q I rx ry q
theorem gW(b:Expr){op:CmpOp}(h:op≠.In:=by decide)(h2:op≠.NotIn:=by decide):By op b=false:=by
 have e1:(op==CmpOp.In)=false:=by cases op<;>first|rfl|exact absurd rfl h
 have e2:(op==CmpOp.NotIn)=false:=by cases op<;>first|rfl|exact absurd rfl h2
 cases b<;>simp[By,e1,e2]
theorem ahX{op:CmpOp}{r:R2}(ho:cC X (dZ op) r)(ha:PE X a ta)(hb:PE X b tb)(hm:By op b=false):PE X (.Compare a [op] [b] pos) (Ex r ta tb):=by
 intro pins s σ H Q I h;exact wpAny_Compare1 (RT ha hb I h fun v u s2 x y H2 I2 rx ry q=>ho pins s2 σ H2 x y v u Q I2 rx ry q) hm
def Rm(t:TE):TT:=fun σ H Q=>t σ H fun x H'=>∃k,x=.bl k∧Q k H'
theorem ahY{op:CmpOp}{r:R2}(ho:cC X (dZ op) r)(ha:PE X a ta)(hb:PE X b tb)(hm:By op b=false):PT X (.Compare a [op] [b] pos) (Rm (Ex r ta tb)):=by
 intro pins s σ H Q I h;refine wpAny_isTrue_Compare1 (bu (ha pins s σ H _ I h) fun v s1 ⟨x,H1,I1,r1,q1⟩=>bu (hb pins s1 σ H1 _ I1 q1) fun u s2 ⟨y,H2,I2,r2,q2⟩=>
  bu (ho pins s2 σ H2 x y v u _ I2 r1 r2 q2) fun c s3 ⟨z,H3,I3,r3,k,e,q3⟩=>?_) hm
 subst e;cases r3;exact vm ⟨H3,I3,q3⟩
def QG(r r':R2)(ta tb tc:TE):TE:=fun σ H Q=>ta σ H fun x H1=>tb σ H1 fun y H2=>r x y H2 fun z H3=>∃k,z=.bl k∧
 (if k=true then tc σ H3 fun w' H4=>r' y w' H4 Q else Q (.bl false) H3)
theorem agR{op op':CmpOp}{r r':R2}(ho:cC X (dZ op) r)(ho':cC X (dZ op') r')(ha:PE X a ta)(hb:PE X b tb)(hc:PE X c tc)
  (hm:Nz [op,op'] [b,c]=false:=by with_unfolding_all rfl):PE X (.Compare a [op,op'] [b,c] pos) (QG r r' ta tb tc):=by
 intro pins s σ H Q I h;refine Compare_chain (bu (ha pins s σ H _ I h) fun v s1 ⟨x,H1,I1,r1,q1⟩=>chain_link (bu (hb pins s1 σ H1 _ I1 q1) fun u s2 ⟨y,H2,I2,r2,q2⟩=>
  bu (ho pins s2 σ H2 x y v u _ I2 r1 r2 q2) fun d s3 ⟨z,H3,I3,r3,k,e,q3⟩=>?_)) hm
 subst e;cases r3;refine vm ?_;cases k with
 |false=>exact ite_ff ⟨.bl false,H3,I3,rfl,q3⟩
 |true=>exact ite_tt (chain_last (bu (hc pins s3 σ H3 _ I3 q3) fun w' s4 ⟨z',H4,I4,r4,q4⟩=>ho' pins s4 σ H4 y z' u w' Q I4 r2 r4 q4))
theorem agS{op op':CmpOp}{r r':R2}(ho:cC X (dZ op) r)(ho':cC X (dZ op') r')(ha:PE X a ta)(hb:PE X b tb)(hc:PE X c tc)
  (hm:Nz [op,op'] [b,c]=false:=by with_unfolding_all rfl):PT X (.Compare a [op,op'] [b,c] pos) (Rm (QG r r' ta tb tc)):=by
 intro pins s σ H Q I h;refine isTrue_chain (bu (ha pins s σ H _ I h) fun v s1 ⟨x,H1,I1,r1,q1⟩=>test_link (bu (hb pins s1 σ H1 _ I1 q1) fun u s2 ⟨y,H2,I2,r2,q2⟩=>
  bu (ho pins s2 σ H2 x y v u _ I2 r1 r2 q2) fun d s3 ⟨z,H3,I3,r3,k,e,q3⟩=>?_)) hm
 subst e;cases r3;refine vm ?_;cases k with
 |false=>
  obtain⟨k',e',q'⟩:=q3
  cases e';exact ite_ff ⟨H3,I3,q'⟩
 |true=>
  refine ite_tt (test_last (bu (hc pins s3 σ H3 _ I3 q3) fun w' s4 ⟨z',H4,I4,r4,q4⟩=>bu (ho' pins s4 σ H4 y z' u w' _ I4 r2 r4 q4) fun d' s5 aK=>?_))
  obtain⟨z2,H5,I5,r5,k2,e2,q5⟩:=aK
  subst e2;cases r5;exact vm ⟨H5,I5,q5⟩
def R0(K:aG)(x:V)(H:Hp)(k:Bool):Prop:=
 match x with
 |.non=>k=false
 |.bl b=>k=b
 |.int i=>k=(i != 0)
 |.str y=>y.length≤bM∧k=((y.length:Int) != 0)
 |.o8 y=>y.size≤bM∧k=((y.size:Int) != 0)
 |.ref p=>(∃xs,bK K H p xs∧k=!xs.isEmpty)∨(∃xs,cN K H p xs∧k=!xs.isEmpty)∨∃kvs,H p=some (.dK kvs)∧k=!kvs.isEmpty
 |_=>False
theorem afe{κ:Type}{kvs:List (κ×V)}{vs:List (κ×Value)}(r:KV kvs vs):(!vs.isEmpty)=!kvs.isEmpty:=by
 cases r<;>rfl
theorem Wt{xs:List V}{its:List Value}(r:Vals xs its):(!its.toArray.isEmpty)=!xs.isEmpty:=by
 cases r<;>simp
theorem xT:(bM:Nat)<2^63:=by rw[jg];decide
theorem ajn:ale X (fun x H Q=>∃k,R0 X.K x H k∧Q k H):=by
 intro pins s σ H x v Q I rx h
 obtain⟨k,e,q⟩:=h
 have hl:=xT;have hs:bM=16777216:=jg;cases x with
 |non=>
  cases rx;have e':k=false:=e;subst e';exact truthy_none ⟨H,I,q⟩
 |bl b=>
  cases rx;have e':k=b:=e;subst e';exact vm ⟨H,I,q⟩
 |int i=>
  obtain⟨t,rfl⟩:=rx
  have e':k=(i != 0):=e;subst e';exact PySem.P.truthy_int ⟨H,I,q⟩
 |str y=>
  obtain⟨t,rfl⟩:=rx
  obtain⟨hy,e'⟩:y.length≤bM∧k=((y.length:Int) != 0):=e
  subst e';exact PySem.P.truthy_str (by omega) ⟨H,I.tok _,q⟩
 |o8 y=>
  obtain⟨t,rfl⟩:=rx
  obtain⟨hy,e'⟩:y.size≤bM∧k=((y.size:Int) != 0):=e
  subst e';exact PySem.W.truthy_bytes (by omega) ⟨H,I.tok _,q⟩
 |ref p=>
  cases rx;have e':(∃xs,bK X.K H p xs∧k=!xs.isEmpty)∨(∃xs,cN X.K H p xs∧k=!xs.isEmpty)∨∃kvs,H p=some (.dK kvs)∧k=!kvs.isEmpty:=e;rcases e' with⟨xs,hx,e'⟩|⟨xs,hx,e'⟩|⟨kvs,hx,e'⟩
  ·subst e'
   obtain⟨its,r,pl,hz⟩:=I.list hx
   have hlen:=r.length;exact wpAny_truthy_list pl.isList (by simp only[fW];omega) ⟨H,I.tok _,by rw[Wt r];exact q⟩
  ·subst e'
   obtain⟨its,r,pl,hz⟩:=I.tuple hx
   have hlen:=r.length;exact truthy_tuple pl (by simp only[fW];omega) ⟨H,I.tok _,by rw[Wt r];exact q⟩
  ·subst e'
   obtain⟨hz,hS,vs,r,m⟩:kvs.length≤bM∧(p==rU)=false∧∃vs,KV kvs vs∧s.heap.DictOf (jk X.prog X.w) p vs:=I.hok p _ hx
   have hlen:kvs.length=vs.length:=Paired.length r;exact wpAny_truthy_dict hS m (by omega) ⟨H,I.tok _,by rw[afe r];exact q⟩
 |_=>exact(show False from e).elim
theorem agT(ha:PE X a ta)(he:∀whole,isTrue a X.env whole=(do let v ←whole;sE a.pos;pQ [v] (truthy v))):
  PT X a (fun σ H Q=>ta σ H fun x H'=>∃k,R0 X.K x H' k∧Q k H'):=by
 intro pins s σ H Q I h;exact isTrue_plain (bu (ha pins s σ H _ I h) fun v s1 ⟨x,H1,I1,r1,q1⟩=>ajn pins s1 σ H1 x v Q I1 r1 q1) (he _)
theorem afg:cC X (mV .Add) (fun x y H Q=>∃i j,x=.str i∧y=.str j∧i.length+j.length≤bM∧Q (.str (i++j)) H):=by
 intro pins s σ H x y v u Q I rx ry h
 obtain⟨i,j,rfl,rfl,hz,q⟩:=h
 obtain⟨t,rfl⟩:=rx
 obtain⟨t',rfl⟩:=ry
 exact add_str (fun t' tk=>⟨.str (i++j),H,I.tok _,⟨_,rfl⟩,q⟩) hz
theorem vals1{x:V}{us:List Value}(r:Vals [x] us):∃u,us=[u]∧RelV x u:=by
 cases r with
 |cons r1 r2=>cases r2;exact⟨_,rfl,r1⟩
theorem vals2{x y:V}{us:List Value}(r:Vals [x,y] us):∃u w',us=[u,w']∧RelV x u∧RelV y w':=by
 cases r with
 |cons r1 r2=>
  cases r2 with
  |cons r3 r4=>cases r4;exact⟨_,_,rfl,r1,r3⟩
theorem XD:jw X (.builtin "abs") (fun xs H Q=>∃i,xs=[.int i]∧Q (.int (if i<0 then -i else i)) H):=by
 intro pins s σ H xs us Q I r h
 obtain⟨i,rfl,q⟩:=h
 obtain⟨u,rfl,t,rfl⟩:=vals1 r
 exact call_abs_int fun u tk=>⟨.int (if i<0 then -i else i),H,I.tok _,⟨_,rfl⟩,q⟩
theorem afX(hc:X.calm=true):jw X (.builtin "max") (fun xs H Q=>∃i j,xs=[.int i,.int j]∧Q (.int (if j>i then j else i)) H):=by
 intro pins s σ H xs us Q I r h
 obtain⟨i,j,rfl,q⟩:=h
 obtain⟨u,w',rfl,⟨t,rfl⟩,⟨t',rfl⟩⟩:=vals2 r
 refine max_two_ints (I.ok.hd hc) fun h' tk k=>⟨_,H,I.kept k,?_,q⟩
 by_cases hj:j>i
 ·rw[if_pos hj,if_pos hj];exact⟨_,rfl⟩
 ·rw[if_neg hj,if_neg hj];exact⟨_,rfl⟩
theorem HN(hc:X.calm=true):jw X (.builtin "min") (fun xs H Q=>∃i j,xs=[.int i,.int j]∧Q (.int (if j<i then j else i)) H):=by
 intro pins s σ H xs us Q I r h
 obtain⟨i,j,rfl,q⟩:=h
 obtain⟨u,w',rfl,⟨t,rfl⟩,⟨t',rfl⟩⟩:=vals2 r
 refine min_two_ints (I.ok.hd hc) fun h' tk k=>⟨_,H,I.kept k,?_,q⟩
 by_cases hj:j<i
 ·rw[if_pos hj,if_pos hj];exact⟨_,rfl⟩
 ·rw[if_neg hj,if_neg hj];exact⟨_,rfl⟩
theorem HQ:jw X (.type "int") (fun xs H Q=>(∃i,xs=[.int i]∧Q (.int i) H)∨∃k,xs=[.bl k]∧Q (.int (if k then 1 else 0)) H):=by
 intro pins s σ H xs us Q I r h;rcases h with⟨i,rfl,q⟩|⟨k,rfl,q⟩
 ·obtain⟨u,rfl,t,rfl⟩:=vals1 r
  exact call_int_int ⟨.int i,H,I,⟨_,rfl⟩,q⟩
 ·obtain⟨u,rfl,r1⟩:=vals1 r
  cases r1;exact call_int_bool ⟨.int (if k then 1 else 0),H,I.tok _,⟨_,rfl⟩,q⟩
end
structure R4(h:aV)(x dx C:aa)(mA:Str→Option Value):Prop where
 obj:h.get? x=some (Vd C dx)
 ns:h.Ns1 dx mA
 ne:dx≠x
theorem afY{h:aV}{dx:aa}{mA:Str→Option Value}(n:h.Ns1 dx mA):∃od,h.get? dx=some od∧∀name,Vs name od=some (mA name):=by
 obtain⟨o,es,ep,ho,hd,hk,_,hm⟩:=n
 refine⟨o,ho,fun name=>?_⟩
 have e:=hm name;unfold nsFind findBy at e;rw[←Array.find?_toList] at e;unfold Vs;rw[hd];dsimp only;split
 ·rename_i y q;rw[q] at e;exact congrArg some e
 ·rename_i q;rw[q] at e;have a:es.toList.any (·.refKey)=false:=by
   rw[adn];intro y hy
   obtain⟨z,t,hkey⟩:=hk y (Array.mem_toList_iff.mp hy)
   simp[DictEntry.refKey,hkey]
  have a':¬es.toList.any (·.refKey)=true:=by rw[a];exact gP
  rw[if_neg a'];exact congrArg some e
theorem R4.look{h:aV}{x dx C:aa}{mA:Str→Option Value}(I:R4 h x dx C mA):∃od,PySem.W.InstAt h x (Vd C dx) C (some od)∧∀name,Vs name od=some (mA name):=
 let ⟨od,ho,hl⟩:=afY I.ns
 ⟨od,⟨I.obj,rfl,rfl,ho⟩,hl⟩
section
variable{prog:bf}{w:aY}{A:bY}{E:Value→au→Prop}{s:au}{K:aG}{x dx C f:aa}{mA:Str→Option Value}{name:Str}{v:Value}
end
theorem oW.some_of{v:V}{o:Option Value}(r:oW (some v) o):∃u,o=some u∧RelV v u:=by
 cases o with
 |none=>exact(show False from r).elim
 |some u=>exact⟨u,rfl,r⟩
section
variable{P:bf}{w:aY}{H H':Hp}{h h':aV}{a C dx:aa}{fs fs':List (Str×V)}
theorem Y4(hok:gA P w H h)(e:H a=some (.ins C dx fs)):∃mA,R4 h a dx C mA∧(∀f,oW (fs.lookup f) (mA f))∧aex mA (fs.map (·.1))∧fs.length≤1000∧H dx=some (.own a):=by
 obtain⟨d,z,ne,ob,mA,n,r,q⟩:=(show eY P w H h a (.ins C dx fs) from hok a _ e)
 exact⟨mA,⟨ob,n,ne⟩,r,q,z,d⟩
end
structure SJ(K:aG)(C:aa):Prop where
 pg:adI K C Str.empty=true
 hd:PySem.W.hasDictIn K C=true
 po:PySem.W.plainOver K C=true
 sa:za K (.ref C) "__setattr__"=some (some (.builtin "object.__setattr__"))
theorem SJ.get{K:aG}{C:aa}(c:SJ K C)(f:Str):adI K C f=true:=c.pg
def aaa(K:aG)(C:aa)(f:Str):Prop:=za K (.ref C) f=some none
theorem aaa.taker{K:aG}{C:aa}{f:Str}(n:aaa K C f):adX K C f=some none:=by
 unfold adX;rw[show za K (.ref C) f=some none from n];rfl
structure Con(K:aG)(C:aa)(f:Str)(v:V)(u:Value):Prop where
 at_:za K (.ref C) f=some (some u)
 rel:RelV v u
 get:ado K u "__get__"=some none
 cp:PySem.W.copiedNames.contains f=false
structure Meth(K:aG)(C:aa)(m:Str)(f:aa):Prop where
 at_:za K (.ref C) m=some (some (.ref f))
 fn:aez K (.ref f)=true
 kp:vq K (.ref f)=true
section
variable{X:Cx}{pins:List (aa×Obj)}{σ:St}{H:Hp}{s:au}{a C dx:aa}{fs:List (Str×V)}{f:Str}{v:V}{A:bY}{E:Value→au→Prop}
end
section
variable{X:Cx}{o e value:Expr}{f:Str}{pos pos' tpos:Pos}{ta tv:TE}
end
section
variable{X:Cx}{pins:List (aa×Obj)}{σ:St}{H:Hp}{s:au}{A:bY}{E:Value→au→Prop}{Q:Value→au→Prop}{c:Value}{b:Bool}
inductive lO(K:aG)(H:Hp):V→Value→Prop where
 |non:lO K H .non (.type "NoneType")
 |bl (x:Bool):lO K H (.bl x) (.type "bool")
 |int (i:Int):lO K H (.int i) (.type "int")
 |str (x:Str):lO K H (.str x) (.type "str")
 |flt (x:UInt64):lO K H (.flt x) (.type "float")
 |lst {a:aa} {xs:List V} (e:H a=some (.lst xs)):lO K H (.ref a) (.type "list")
 |lg {a:aa} {o:Obj} {xs:List V} (e:H a=some (.lg o (.lst xs))):lO K H (.ref a) (.type "list")
 |tup {a:aa} {xs:List V} (e:H a=some (.tup xs)):lO K H (.ref a) (.type "tuple")
 |dK {a:aa} {kvs:List (Key×V)} (e:H a=some (.dK kvs)):lO K H (.ref a) (.type "dict")
 |dT {a:aa} {kvs:List (List Key×V)} (e:H a=some (.dT kvs)):lO K H (.ref a) (.type "dict")
 |ins {a C dx:aa} {fs:List (Str×V)} (e:H a=some (.ins C dx fs)) (cl:SJ K C) (ha:za K (.ref C) "__class__"=some (some (.builtin "object.__class__")))
   (hn:ado K (.builtin "object.__class__") "__get__"=some (some (.builtin "getset_descriptor.__get__"))) (htk:PySem.W.takesIn K (.builtin "object.__class__")=some true)
   (hm:PySem.W.mroIn K C (.type "object")=some true):lO K H (.ref a) (.ref C)
theorem afZ{x:V}{u t:Value}(I:Inv X pins σ H s)(rx:RelV x u)(ty:lO X.K H x t)(e:zb X.K t c=some b)(h:∀tk,Q (.bool b) {s with toks:=tk}):
  aM (model X.prog X.w) A (call (.builtin "isinstance") [u,c]) Q E s:=by
 cases ty with
 |non=>cases(show u=pJ from rx);exact rP adp I.gM lG e (fun z=>nomatch z) h
 |bl y=>cases(show u=pK y from rx);exact rP adq I.gM lG e (fun z=>nomatch z) h
 |int i=>obtain⟨t,q⟩:=(show ∃t,u=HH i t from rx);cases q;exact rP adJ I.gM lG e (fun z=>nomatch z) h
 |str y=>obtain⟨t,q⟩:=(show ∃t,u=HJ y t from rx);cases q;exact rP adK I.gM lG e (fun z=>nomatch z) h
 |flt y=>obtain⟨t,q⟩:=(show ∃t,u=Wi y t from rx);cases q;exact rP ade I.gM lG e (fun z=>nomatch z) h
 |@lst a xs ea=>
  cases(show u=dM a from rx)
  obtain⟨_,_,n,_,h1⟩:=(show eY X.prog X.w H s.heap a (.lst xs) from I.hok a _ ea)
  exact rP KR I.gM ⟨_,h1,rfl⟩ e (fun z=>nomatch z) h
 |@lg a ob xs ea=>
  cases(show u=dM a from rx)
  obtain⟨_,_,_,n,_,h1⟩:=(show eY X.prog X.w H s.heap a (.lg ob (.lst xs)) from I.hok a _ ea)
  exact rP KR I.gM ⟨_,h1,rfl⟩ e (fun z=>nomatch z) h
 |@tup a xs ea=>
  cases(show u=dM a from rx)
  obtain⟨_,_,_,p⟩:=(show eY X.prog X.w H s.heap a (.tup xs) from I.hok a _ ea)
  obtain⟨o,h1,h2,_⟩:=p
  exact rP adf I.gM ⟨o,h1,h2⟩ e (fun z=>nomatch z) h
 |@dK a kvs ea=>
  cases(show u=dM a from rx)
  obtain⟨_,_,vs,_,p⟩:=(show eY X.prog X.w H s.heap a (.dK kvs) from I.hok a _ ea)
  obtain⟨o,es,ep,h1,h2,_⟩:=p
  exact rP KY I.gM ⟨o,h1,h2.1⟩ e (fun z=>nomatch z) h
 |@dT a kvs ea=>
  cases(show u=dM a from rx)
  obtain⟨_,_,xs,_,o,es,ep,h1,h2,_⟩:=(show eY X.prog X.w H s.heap a (.dT kvs) from I.hok a _ ea)
  exact rP KY I.gM ⟨o,h1,h2.1⟩ e (fun z=>nomatch z) h
 |@ins a C dx fs ea cl ha hn htk hm=>
  cases(show u=dM a from rx)
  obtain⟨mA,O,_⟩:=Y4 I.hok ea
  obtain⟨od,J,_⟩:=O.look
  exact rP (adL (cl.get _) cl.hd ha hn htk hm) I.gM J e (fun z=>nomatch z) h
end
structure gZ(k:Nat)(A:bY):Prop where
 hd:A.handled=none
 dp:A.depth+3*k+5<recursionLimit
 un:A.units+16*k+200<eU
 gd:A.guards=some []
theorem gZ.mono{j k:Nat}{A:bY}(r:gZ k A)(h:j≤k):gZ j A:=⟨r.hd,by have:=r.dp;omega,by have:=r.un;omega,r.gd⟩
theorem gZ.deeper{k:Nat}{A:bY}(r:gZ (k+1) A)(env:Env):gZ k (A.deeper env):=
 ⟨r.hd,by have:=r.dp;show A.depth+1+3*k+5<_;omega,by have:=r.un;show A.units+3+16*k+200<_;omega,r.gd⟩
theorem gZ.in1{k:Nat}{A:bY}(r:gZ (k+1) A):gZ k A.in1:=
 ⟨r.hd,by have:=r.dp;show A.depth+3*k+5<_;omega,by have:=r.un;show A.units+1+16*k+200<_;omega,r.gd⟩
theorem gZ.depth{k:Nat}{A:bY}(r:gZ k A):A.depth<recursionLimit:=by have:=r.dp;omega
theorem gZ.units{k:Nat}{A:bY}(r:gZ k A):A.units+64<eU:=by have:=r.un;omega
theorem gZ.QH{k:Nat}{A:bY}(r:gZ k A):A.units<eU:=by have:=r.un;omega
def alf:TA:=fun _ H Q=>Q [] H
def akF(ta:TE)(tr:TA):TA:=fun σ H Q=>ta σ H fun x H1=>tr σ H1 fun xs H2=>Q (x::xs) H2
section
variable{X:Cx}{e:Expr}{es:List Expr}{te:TE}{t:TA}{pos:Pos}
theorem qH:PA X [] alf:=fun _ _ _ _ H Q I h=>KZ ⟨[],H,I,.nil,h⟩
theorem nG(ha:PE X e te)(hr:PA X es t)(hs:aZ (e::es) X.env=(false,eval e X.env)::aZ es X.env:=by rfl):PA X (e::es) (akF te t):=by
 intro pos pins s σ H Q I h;rw[hs];show aM _ _ (spliced ((false,eval e X.env)::gm pos (aZ es X.env))) _ _ s;refine Gh (bu (ha pins s σ H _ I h) fun u s1 aK=>?_)
 obtain⟨x,H1,I1,r1,q1⟩:=aK
 exact bu (hr pos pins s1 σ H1 _ I1 q1) fun us s2 ⟨xs,H2,I2,r2,q2⟩=>⟨x::xs,H2,I2,.cons r1 r2,q2⟩
def alg(t:TA):TE:=fun σ H Q=>t σ H fun xs H1=>xs.length≤bM∧∀p,H1 p=none→Q (.ref p) (upd H1 p (.tup xs))
def alh(t:TA):TE:=fun σ H Q=>t σ H fun xs H1=>xs.length≤bM∧∀p,H1 p=none→Q (.ref p) (upd H1 p (.lst xs))
theorem QJ{x1}(h:PA X es t):PE X (.Tuple es x1 pos) (alg t):=by
 intro pins s σ H Q I hq;refine wpAny_Tuple_spliced (bu (h pos pins s σ H _ I hq) fun us s1 ⟨xs,H1,I1,r,z,q⟩=>⟨by rw[←r.length];exact z,?_⟩);have hf:H1 s1.heap.objs.size=none:=I1.hok.fresh (bO _)
 refine⟨.ref s1.heap.objs.size,upd H1 s1.heap.objs.size (.tup xs),I1.laid (t':=s1.toks) (fun b u e=>cD _ e) (bO _) ?_,rfl,q _ hf⟩
 exact⟨z,us,r,⟨_,ie _ rfl,rfl,_,rfl⟩⟩
theorem ajo(h:PA X es t):PE X (.List es pos) (alh t):=by
 intro pins s σ H Q I hq;refine wpAny_List_spliced (bu (h pos pins s σ H _ I hq) fun us s1 ⟨xs,H1,I1,r,z,q⟩=>⟨by rw[←r.length];exact z,?_⟩);have hf:H1 s1.heap.objs.size=none:=I1.hok.fresh (bO _)
 refine⟨.ref s1.heap.objs.size,upd H1 s1.heap.objs.size (.lst xs),I1.laid (t':=s1.toks) (fun b u e=>cD _ e) (bO _) ?_,rfl,q _ hf⟩
 exact⟨z,us,0,r,ie _ rfl⟩
end
abbrev Sp:=List V→Hp→VK→XK→Prop
abbrev pA:=List Env→Hp→au→XK→Value→au→Prop
structure yq(P:bf)(w:aY)(K:aG)(mg:Str→Option Value)(base:aV)(A:bY)(outer:List Env)(s:au)(H:Hp):Prop where
 frames:A.frames=some outer
 mod:Mod K mg base
 bs:∀b o,base.get? b=some o→s.heap.get? b=some o∧H b=none
 tM:base.objs.size≤s.heap.objs.size
 p7:s.heap.FunFrames base outer
 yE:∀b∈frs outer,H b=none
 hok:gA P w H s.heap
 bare:AllBare s.gens
def CE(outer:List Env)(P:bf)(w:aY)(H:Hp)(s:au)(Q:VK)(u:Value)(s':au):Prop:=
 ∃v H',s'.os=s.os∧AllBare s'.gens∧Un (frs outer) [] H H' s.heap s'.heap∧gA P w H' s'.heap∧RelV v u∧Q v H'
def CR(CX:pA)(outer:List Env)(P:bf)(w:aY)(H:Hp)(s:au)(Q:VK)(E:XK)(r:qI)(s':au):Prop:=
 match r with
 |.ok (.ret u)=>CE outer P w H s Q u s'
 |.ok _=>False
 |.error e=>CX outer H s E e s'
structure di(P:bf)(w:aY)(K:aG)(mg:Str→Option Value)(base:aV)(CX:pA)(k:Nat)(f:aa)(fd:dw)(ps:List Str)(sp:Sp):Prop where
 len:∀vs H Q E,sp vs H Q E→vs.length=ps.length
 run:∀(A:bY)(outer:List Env)(s:au)(H:Hp)(args:Args)(us:List Value)(vs:List V)(Q:VK)(E:XK),gZ k A→yq P w K mg base A outer s H→xN s fd args (ps.zip us)→Vals vs us→sp vs H Q E→
  j8 (model P w) A (.call (.ref f) args) (CR CX outer P w H s Q E) s
theorem di.mono{P:bf}{w:aY}{K:aG}{mg:Str→Option Value}{base:aV}{CX:pA}{j k:Nat}{f:aa}{fd:dw}{ps:List Str}{sp:Sp}(F:di P w K mg base CX j f fd ps sp)(h:j≤k):
  di P w K mg base CX k f fd ps sp:=⟨F.len,fun A outer s H args us vs Q E hr=>F.run A outer s H args us vs Q E (hr.mono h)⟩
theorem di.imp{P:bf}{w:aY}{K:aG}{mg:Str→Option Value}{base:aV}{CX:pA}{k:Nat}{f:aa}{fd:dw}{ps:List Str}{sp sp':Sp}(F:di P w K mg base CX k f fd ps sp)
  (h:∀vs H Q E,sp' vs H Q E→sp vs H Q E):di P w K mg base CX k f fd ps sp':=
 ⟨fun vs H Q E q=>F.len vs H Q E (h _ _ _ _ q),fun A outer s H args us vs Q E hr he hb hv hs=>F.run A outer s H args us vs Q E hr he hb hv (h _ _ _ _ hs)⟩
theorem yq.in1{P:bf}{w:aY}{K:aG}{mg:Str→Option Value}{base:aV}{A:bY}{outer:List Env}{s:au}{H:Hp}(e:yq P w K mg base A outer s H):
  yq P w K mg base A.in1 outer s H:=⟨e.frames,e.mod,e.bs,e.tM,e.p7,e.yE,e.hok,e.bare⟩
section
variable{X:Cx}{pins:List (aa×Obj)}{σ:St}{H:Hp}{s s':au}
theorem Inv.env0(I:Inv X pins σ H s):yq X.prog X.w X.K X.mg X.base X.A X.stack s H:=
 ⟨I.ok.frames,I.ok.mod,I.bs,jP I.ok.tM I.sz,I.stack,I.YW,I.hok,I.bare⟩
theorem Inv.after{Q:VK}{u:Value}(I:Inv X pins σ H s)(h:CE X.stack X.prog X.w H s Q u s'):EP X pins σ Q u s':=by
 obtain⟨v,H',os,bare,un,hok,r,q⟩:=h
 obtain⟨hh,g,d,t,os'⟩:=s'
 obtain rfl:os'=s.os:=os
 exact⟨v,H',I.call (h':=hh) (g':=g) (d':=d) (t':=t) (ch:=[]) un hok bare (fun b z=>absurd z (by simp)),r,q⟩
end
def Rn(sp:Sp)(wH:List V)(E:XK)(t:TA):TE:=fun σ H Q=>t σ H fun vs H1=>sp (vs++wH) H1 Q E
def Binds(K:aG)(fd:dw)(ps:List Str)(ds:List Value):Prop:=
 ∀(s:au)(us:List Value),K.In s.heap→(us++ds).length=ps.length→xN s fd ⟨us,[]⟩ (ps.zip (us++ds))
theorem Binds.all{K:aG}{fd:dw}{ps:List Str}(h:∀us:List Value,us.length=ps.length→bindArgs fd ⟨us,[]⟩=pure (ps.zip us)):Binds K fd ps []:=fun s us _ hl=>by
 rw[ju] at hl⊢;exact .of_eq (h us hl)
def Passes(CX:pA)(X:Cx)(E:XK):Prop:=∀(pins:List (aa×Obj))(σ:St)(H:Hp)(s:au)(e:Value)(s':au),Inv X pins σ H s→CX X.stack H s E e s'→X.xe e s'
section
variable{X:Cx}{CX:pA}{k:Nat}{f C:aa}{fd:dw}{ps:List Str}{sp:Sp}{wH:List V}{ds:List Value}{E:XK}{x m:Str}{p pos apos:Pos}{e o:Expr}{es:List Expr}{ta:TE}{t:TA}
theorem ajp{pins:List (aa×Obj)}{σ:St}{H:Hp}{s:au}{Q:VK}{us:List Value}{vs:List V}(F:di X.prog X.w X.K X.mg X.base CX k f fd ps sp)(hr:gZ k X.A)(hb:Binds X.K fd ps ds)(hd:Vals wH ds)(hx:Passes CX X E)
  (I:Inv X pins σ H s)(r:Vals vs us)(h:sp (vs++wH) H Q E):aM (model X.prog X.w) X.A (call (.ref f) us) (EP X pins σ Q) X.xe s:=by
 have r2:Vals (vs++wH) (us++ds):=r.append hd;have hl:(us++ds).length=ps.length:=by rw[←r2.length];exact F.len _ _ _ _ h
 refine wpAny_call (GX (F.run X.A X.stack s H ⟨us,[]⟩ (us++ds) (vs++wH) Q E hr I.env0 (hb s us I.gM hl) r2 h) fun r s' hq=>?_);cases r with
 |error e=>exact hx pins σ H s e s' I hq
 |ok fl=>
  cases fl with
  |ret u=>exact I.after hq
  |next=>exact qx hq
  |brk=>exact qx hq
  |cont=>exact qx hq
theorem ahZ(F:di X.prog X.w X.K X.mg X.base CX k f fd ps sp)(hr:gZ k X.A)(hg:Gl X x)(hm:X.mg x=some (.ref f))(hk:vq X.K (.ref f)=true)(hb:Binds X.K fd ps ds)(hd:Vals wH ds)(hx:Passes CX X E)
  (ha:PA X (e::es) t)(hdb:(x==("__debug__":Str))=false:=by decide)(he:aZ (e::es) X.env=(false,eval e X.env)::aZ es X.env:=by rfl)(hpl:(gm pos (aZ es X.env)).any (·.1)=false:=by rfl):
  PE X (.Call (.Name x p) (e::es) [] pos) (Rn sp wH E t):=by
 intro pins s σ H Q I h;refine Gi (ahU I hg hm ?_ hdb);refine PySem.W.callWith_K (h₀:=X.base) I.ok.mod.Su hk (bu (ha pos pins s σ H _ I h) fun us s1 ⟨vs,H1,I1,r,q⟩=>⟨I1.gM,?_⟩) he hpl;exact ajp F hr hb hd hx I1 r q
structure Mk(K:aG)(C f:aa):Prop where
 makes:PySem.W.makesIn K C=true
 init:za K (.ref C) "__init__"=some (some (.ref f))
 fn:aez K (.ref f)=true
 kp:vq K (.ref C)=true
end
section
variable{X:Cx}{CX:pA}{k:Nat}{f C:aa}{fd:dw}{ps ks:List Str}{sp:Sp}{E:XK}{x m:Str}{p pos apos kpos:Pos}{e o:Expr}{es:List Expr}{kws:List pR}{te ta:TE}{t tk:TA}{nm:Option Str}
structure ant(K:aG)(fd:dw)(ps ks:List Str)(g:List Value→List Value→List Value)(gV:List V→List V→List V):Prop where
 to:∀(s:au)(us ws:List Value),K.In s.heap→(g us ws).length=ps.length→xN s fd ⟨us,ks.zip ws⟩ (ps.zip (g us ws))
 rel:∀{vs:List V}{us:List Value}{zs:List V}{ws:List Value},Vals vs us→Vals zs ws→Vals (gV vs zs) (g us ws)
variable{g:List Value→List Value→List Value}{gV:List V→List V→List V}
end
structure gG(N P:List Str)(sc:iY):Prop where
 kind:sc.kind=.function
 co:sc.isCoroutine=false
 gen:sc.isGenerator=false
 nd:N.Nodup
 pre:N.take P.length=P
 par:∀x∈P,sc.names.lookup x=some .local∨sc.names.lookup x=some .cell
 ajq:∀y∈sc.names,y.2≠.free
theorem W7{kindOf:Str→Option zM}{x:Str}:∀{binds:List (Str×Value)}{m:Str→Option Value},(∀v,(x,v)∉binds)→xZ kindOf binds m x=m x
 |[],_,_=>rfl
 |(n,v)::r,m,h=>by
  unfold xZ;rw[W7 fun w hw=>h w (dN _ hw)];split
  ·have:x≠n:=by rintro rfl;exact h v dG
   simp[this]
  ·rfl
theorem W8{kindOf:Str→Option zM}{x:Str}:∀{binds:List (Str×Value)}{m:Str→Option Value},(∀v,(x,v)∉binds)→yc kindOf binds m x=m x
 |[],_,_=>rfl
 |(n,v)::r,m,h=>by
  unfold yc;rw[W8 fun w hw=>h w (dN _ hw)];split
  ·rfl
  ·have:x≠n:=by rintro rfl;exact h v dG
   simp[this]
theorem W9{kindOf:Str→Option zM}{x:Str}{v:Value}:∀{P:List Str}{vs:List Value}{i:Nat}{m:Str→Option Value},P.Nodup→P[i]?=some x→vs[i]?=some v→kindOf x=some .local→
  xZ kindOf (P.zip vs) m x=some v
 |[],_,_,_,_,h,_,_=>by simp at h
 |_::_,[],_,_,_,_,h,_=>by simp at h
 |p::P,w::vs,0,m,nd,h1,h2,hk=>by
  simp at h1 h2;subst h1;subst h2;show xZ kindOf ((p,w)::P.zip vs) m p=_;unfold xZ;rw[W7 fun v hv=>(iR.mp nd).1 (Ve hv).1,if_pos hk];simp
 |p::P,w::vs,i+1,m,nd,h1,h2,hk=>by
  show xZ kindOf ((p,w)::P.zip vs) m x=_;unfold xZ;exact W9 (i:=i) (iR.mp nd).2 (by simpa using h1) (by simpa using h2) hk
theorem Xa{kindOf:Str→Option zM}{x:Str}{v:Value}:∀{P:List Str}{vs:List Value}{i:Nat}{m:Str→Option Value},P.Nodup→P[i]?=some x→vs[i]?=some v→kindOf x≠some .local→
  yc kindOf (P.zip vs) m x=some v
 |[],_,_,_,_,h,_,_=>by simp at h
 |_::_,[],_,_,_,_,h,_=>by simp at h
 |p::P,w::vs,0,m,nd,h1,h2,hk=>by
  simp at h1 h2;subst h1;subst h2;show yc kindOf ((p,w)::P.zip vs) m p=_;unfold yc;rw[W8 fun v hv=>(iR.mp nd).1 (Ve hv).1,if_neg hk];simp
 |p::P,w::vs,i+1,m,nd,h1,h2,hk=>by
  show yc kindOf ((p,w)::P.zip vs) m x=_;unfold yc;exact Xa (i:=i) (iR.mp nd).2 (by simpa using h1) (by simpa using h2) hk
def start(N:List Str)(vs:List V):St:=vs.map some++cP (N.length-vs.length) none
def yr(CX:pA)(P:bf)(w:aY)(K:aG)(mg:Str→Option Value)(base:aV)(N:List Str)(qual:Str)(scope:iY)(f:aa)(cd:Value)(A:bY)(outer:List Env)(s:au)(H:Hp)(E:XK):Cx where
 prog:=P
 w:=w
 K:=K
 mg:=mg
 base:=base
 A:=A.deeper (envOfC qual scope s.heap.objs.size f cd)
 N:=N
 s₀:=s
 H₀:=H
 env:=envOfC qual scope s.heap.objs.size f cd
 outer:=outer
 stack:=envOfC qual scope s.heap.objs.size f cd::outer
 ex:=[]
 calm:=true
 fn:=fun _=>true
 pn:=[]
 xe:=fun e s'=>aM (model P w) (A.deeper (envOfC qual scope s.heap.objs.size f cd)) (leaving (envOfC qual scope s.heap.objs.size f cd) e) (fun _ s''=>CX outer H s E e s'') (fun e' s''=>CX outer H s E e' s'') s'
theorem XF{sc:iY}{n:Nat}{x:Str}(h:sc.names.lookup x=some .cell):∃c,(cellsFrom n sc.names []).lookup x=some c:=by
 have q:=acM sc.names n [] (.inl h);exact wU.mp q
theorem af0{CX:pA}{P:bf}{w:aY}{K:aG}{mg:Str→Option Value}{base:aV}{N ps:List Str}{qual:Str}{scope:iY}{f:aa}{cd:Value}{A:bY}{outer:List Env}{s s1:au}{H:Hp}{E:XK}{us:List Value}{vs:List V}
  (S:gG N ps scope)(hd:A.handled=none)(e0:yq P w K mg base A outer s H)(hl:vs.length=ps.length)(r:Vals vs us)
  (x:InCallC s s.heap.objs.size (xZ (envOfC qual scope s.heap.objs.size f cd).kindOf (ps.zip us) fun _=>none) (cellsFrom (s.heap.objs.size+1) scope.names []) (yc (envOfC qual scope s.heap.objs.size f cd).kindOf (ps.zip us) fun _=>none) s1):
  Inv (yr CX P w K mg base N qual scope f cd A outer s H E) [] (start N vs) H s1:=by
 have hpl:ps.length≤N.length:=by have:=congrArg pI S.pre;rw[n6] at this;omega
 obtain⟨h1,tk,rfl,hk⟩:=x.done
 have Ey:∀b:aa,b∉(yr CX P w K mg base N qual scope f cd A outer s H E).ex:=fun b z=>absurd (show b∈([]:List aa) from z) (by simp)
 refine⟨⟨e0.mod,S.kind,rfl,rfl,bO _,fun y z c h1 h2=>?_,fun y hy=>?_,fun y c _ h=>?_,fun _=>hd,Around.frames_deeper e0.frames,.inr ⟨rfl,rfl⟩,fun b z=>absurd z (Ey b),e0.bs,e0.tM,fun b _ _=>Ey b,fun b z=>absurd z (Ey b),e0.p7,e0.yE⟩,
  rfl,e0.bare,Un.kept hk,⟨_,x.toInCall.ns,fun i y v h1 h2 h3=>?_⟩,fun y c h=>⟨_,x.cell y c h⟩,e0.hok.fresh (bO _),fun y c h=>?_,fun p hp=>absurd (show p∈([]:List (aa×Obj)) from hp) (by simp),e0.hok.kept hk,?_⟩
 ·exact name_of_addr x.apart (vf h1) (vf h2)
 ·have hy:scope.names.lookup y=some .cell∨scope.names.lookup y=some .free:=hy;rcases hy with hy|hy
  ·exact XF hy
  ·exact absurd rfl (S.ajq _ (vf hy))
 ·exact vB (x.above y c (vf h))
 ·have hi:i<vs.length:=by
   unfold start at h2;by_cases hi:i<vs.length
   ·exact hi
   ·rw[nW (by simpa using hi)] at h2;rw[Ue] at h2;split at h2<;>cases h2
  have ha:vs[i]?=some v:=by
   unfold start at h2;rw[nY (by simpa using hi),gC] at h2;cases e:vs[i]? with
   |none=>rw[e] at h2;cases h2
   |some a=>rw[e] at h2;cases h2;rfl
  obtain⟨u,hu,rv⟩:=r.get ha
  have hp:ps[i]?=some y:=by
   rw[←S.pre,Ub (by omega)];exact h1
  have ndP:ps.Nodup:=by rw[←S.pre];exact S.nd.sublist (Gn _ _)
  refine⟨u,rv,?_⟩
  rcases S.par y (nZ hp) with k|k
  ·exact .inl ⟨k,W9 ndP hp hu k⟩
  ·obtain⟨c,e⟩:=XF (n:=s.heap.objs.size+1) k
   refine .inr ⟨.inl k,c,e,?_⟩;have q:=x.cell y c e;rw[Xa ndP hp hu (by show scope.names.lookup y≠_;rw[k];decide)] at q;exact q
 ·exact e0.hok.fresh (vB (x.above y c (vf h)))
 ·unfold start;show _=N.length;rw[fU,aW,KH];omega
theorem akG{CX:pA}{P:bf}{w:aY}{K:aG}{mg:Str→Option Value}{base:aV}{k:Nat}{f:aa}{name qual:Str}{params:Arguments}{body:List cU}{scope:iY}{dV kV doc pm cdv ct oc:Value}{an od:Option aa}
  {osl:Array (Option Value)}{N ps:List Str}{sp:Sp}(lk:K.lookup f=some ⟨oc,od,.func (xx name qual params body scope dV kV doc pm an cdv ct),osl⟩)(hcd:Lj K cdv qual=true)(S:gG N ps scope)
  (len:∀vs H Q E,sp vs H Q E→vs.length=ps.length)
  (hbody:∀(A:bY)(outer:List Env)(s:au)(H:Hp)(vs:List V)(Q:VK)(E:XK),gZ k (A.deeper (envOfC qual scope s.heap.objs.size f cdv))→sp vs H Q E→
   ∃t,iK (yr CX P w K mg base N qual scope f cdv A outer s H E) body t∧t {nx:=fun _ H'=>Q .non H',rt:=Q} (start N vs) H):
  di P w K mg base CX (k+1) f (xx name qual params body scope dV kV doc pm an cdv ct) ps sp:=by
 refine⟨len,fun A outer s H args us vs Q E hr e0 hb r hsp=>?_⟩
 have hl:=len _ _ _ _ hsp;have KX:K.In s.heap:=e0.mod.Su.keeps fun b o e=>(e0.bs b o e).1
 have lim:s.heap.NoLimit:=e0.mod.nolimit.keeps fun b o e=>(e0.bs b o e).1
 have hkind:∀y∈ps.zip us,scope.names.lookup y.1=some .local∨(scope.names.lookup y.1=some .cell∧((cellsFrom (s.heap.objs.size+1) scope.names []).lookup y.1).isSome=true):=fun⟨n,v⟩ hy=>by
  rcases S.par n (Ve hy).1 with q|q
  ·exact .inl q
  ·exact .inr ⟨q,acM _ _ _ (.inl q)⟩
 refine codeAny_call_function hr.depth (KX _ _ lk) rfl S.co S.gen rfl (PySem.W.codeRec_of KX hcd) (hb _ _ _ _ ?_);refine wpAny_newFunctionEnv_cells S.kind hkind fun env he s1 x=>?_
 subst he
 refine⟨lim.keeps x.toInCall.keep,codeAny_func ?_⟩
 obtain⟨t,ht,hq⟩:=hbody A outer s H vs Q E (hr.deeper _) hsp
 have I:Inv (yr CX P w K mg base N qual scope f cdv A outer s H E) [] (start N vs) H s1:=af0 S hr.hd e0 hl r x;refine nD (ht [] s1 (start N vs) H _ I hq) (fun fl s' hs=>?_) fun e s' hs=>hs
 have fin:∀{σ':St}{H':Hp}{v:V}{u:Value},Inv (yr CX P w K mg base N qual scope f cdv A outer s H E) [] σ' H' s'→RelV v u→Q v H'→CE outer P w H s Q u s':=
  fun{σ' H' v u} J rv q=>⟨v,H',J.os,J.bare,J.base,J.hok,rv,q⟩
 cases fl with
 |ret u=>
  obtain⟨v,σ',H',J,rv,q⟩:=hs
  exact fin J rv q
 |next=>
  obtain⟨σ',H',J,q⟩:=hs
  exact fin (v:=V.non) (u:=pJ) J rfl q
 |brk=>
  obtain⟨_,_,_,q⟩:=hs
  exact qx q
 |cont=>
  obtain⟨_,_,_,q⟩:=hs
  exact qx q
section
variable{X:Cx}{x:Str}{p pos:Pos}{e:Expr}{es:List Expr}{t:TA}{id T:String}{r:List V→Hp→VK→Prop}
def SM(r:List V→Hp→VK→Prop)(t:TA):TE:=fun σ H Q=>t σ H fun vs H1=>r vs H1 Q
theorem Ia(hc:jw X (.builtin id) r)(hg:Gl X x)(hm:X.mg x=none)(hv:rR x=some (.builtin id))(ha:PA X (e::es) t)(hn:x≠"__name__":=by decide)(hdb:(x==("__debug__":Str))=false:=by decide)
  (he:aZ (e::es) X.env=(false,eval e X.env)::aZ es X.env:=by rfl)(hpl:(gm pos (aZ es X.env)).any (·.1)=false:=by rfl):PE X (.Call (.Name x p) (e::es) [] pos) (SM r t):=by
 intro pins s σ H Q I h;refine Gi (uz I hg hm hv ?_ hn hdb);exact T6 (bu (ha pos pins s σ H _ I h) fun us s1 ⟨vs,H1,I1,r1,q1⟩=>hc pins s1 σ H1 vs us Q I1 r1 q1) he hpl
theorem af1(hc:jw X (.type T) r)(hg:Gl X x)(hm:X.mg x=none)(hv:rR x=some (.type T))(ha:PA X (e::es) t)(hn:x≠"__name__":=by decide)(hdb:(x==("__debug__":Str))=false:=by decide)
  (he:aZ (e::es) X.env=(false,eval e X.env)::aZ es X.env:=by rfl)(hpl:(gm pos (aZ es X.env)).any (·.1)=false:=by rfl):PE X (.Call (.Name x p) (e::es) [] pos) (SM r t):=by
 intro pins s σ H Q I h;refine Gi (uz I hg hm hv ?_ hn hdb);exact FW (bu (ha pos pins s σ H _ I h) fun us s1 ⟨vs,H1,I1,r1,q1⟩=>hc pins s1 σ H1 vs us Q I1 r1 q1) he hpl
end
end L2
namespace HT
open PySem PyProof.Rows
section
open PySem.SeqAt
open PySem.AutoSeq1 (wpAny_loadPart')
open PySem.MeetsSeq PySem.MeetsSeq2 PySem.MeetsSeq3
end
section
variable{prog:bf}{w:aY}{A:bY}{E:Value→au→Prop}{s:au}
theorem ah0{t b:aa}{vs ws:List Value}{Q:Value→au→Prop}(ht:IsTup s.heap t vs.toArray)(hb:IsTup s.heap b ws.toArray)(hv:vs≠[])
  (h1:ws=[]→Q (.ref t) s)(h2:ws≠[]→Q (.ref s.heap.objs.size) {s with heap:=s.heap.push {cls:=.type "tuple",data:=.seq (vs++ws).toArray}})
  (hsz:vs.length+ws.length≤bM):aM (model prog w) A (mV .Add (.ref t) (.ref b)) Q E s:=by
 obtain⟨⟨cls,dd,data,sl⟩,ho,hc,n,hd⟩:=id ht
 obtain⟨⟨cls2,dd2,data2,sl2⟩,ho2,hc2,n2,hd2⟩:=id hb
 simp only at hc hd hc2 hd2;subst hc hd hc2 hd2;have e:vs.toArray++ws.toArray=(vs++ws).toArray:=by simp
 by_cases hw:ws=[]
 ·exact V5 ⟨_,ho,rfl⟩ ⟨_,ho2,rfl⟩ U6 VH Uh Ug (Uc _ _)
   (tuple_addW1 t b vs.toArray ws.toArray n n2 dd dd2 sl sl2 (by simpa using hv) (by simp[hw])) ⟨ho,ho2,h1 hw⟩
 ·refine V5 ⟨_,ho,rfl⟩ ⟨_,ho2,rfl⟩ U6 VH Uh Ug (Uc _ _)
   (tuple_addW2 t b vs.toArray ws.toArray n n2 dd dd2 sl sl2 (by simpa using hv) (by simpa using hw) (by rw[fW,fW];exact hsz)) ⟨ho,ho2,?_⟩
  rw[e];exact h2 hw
def bT(n d:Nat):Option Int→Nat
 |none=>d
 |some v=>if v<0 then(v+(n:Int)).toNat else min v.toNat n
theorem Px(n d k:Nat):bT n d (some (k:Int))=min k n:=by
 show(if(k:Int)<0 then((k:Int)+(n:Int)).toNat else min (k:Int).toNat n)=min k n
 rw[if_neg (by omega),Bg]
theorem ajr(n d:Nat)(hd:d≤n)(o:Option Int):bT n d o≤n:=by
 cases o with
 |none=>exact hd
 |some v=>
  show(if v<0 then(v+(n:Int)).toNat else min v.toNat n)≤n
  by_cases hv:v<0
  ·rw[if_pos hv];omega
  ·rw[if_neg hv];exact Nat.min_le_right _ _
theorem Y5(v:Int)(n d:Nat):(if v<0 then max (v+(n:Int)) 0 else min v (n:Int))=((bT n d (some v):Nat):Int):=by
 show(if v<0 then max (v+(n:Int)) 0 else min v (n:Int))=(((if v<0 then(v+(n:Int)).toNat else min v.toNat n):Nat):Int)
 by_cases hv:v<0
 ·simp only[if_pos hv];omega
 ·simp only[if_neg hv];omega
theorem afh(lo hi:Option Int)(n:Nat):T8 lo hi 1 (n:Int)=(((bT n 0 lo:Nat):Int),((bT n n hi:Nat):Int)):=by
 have h1:¬((1:Int)<0):=by omega
 unfold T8;simp only[h1,if_false];refine Prod.ext ?_ ?_
 ·cases lo with
  |none=>rfl
  |some v=>exact Y5 v n 0
 ·cases hi with
  |none=>rfl
  |some v=>exact Y5 v n n
theorem afi(i j:Nat):Kv (i:Int) (j:Int) 1=j-i:=by
 unfold Kv;have h1:(1:Int)>0:=by omega
 simp only[h1,if_true,Int.ediv_one];split<;>omega
theorem Wu{v:Value}{o:Option Int}{Q:Option Int→au→Prop}(p:sI v o)(h:Q o s):aM (model prog w) A (amO v) Q E s:=by
 cases p with
 |none=>exact slicePart_none h
 |int i t=>exact slicePart_int h
theorem U7{sl:aa}{vl vu:Value}{lo hi:Option Int}{n:Nat}{Q:Int×Int×Nat→au→Prop}(hs:s.heap.IsSliceOf sl vl vu .none)(pl:sI vl lo)(pu:sI vu hi)
  (h:Q (((bT n 0 lo:Nat):Int),1,bT n n hi-bT n 0 lo) s):aM (model prog w) A (acz (.ref sl) (pure (n:Int))) Q E s:=by
 obtain⟨os,hos,hcs,hds⟩:=id hs
 unfold acz am3;refine aD (aD (Wk hos hds (x:=vl) rfl (aD (Wk hos hds (x:=vu) rfl (aD (Wk hos hds (x:=.none) rfl (aX ?_)))))));refine aD (slicePart_none ?_);show aM _ _ (if((1:Int)==0)=true then _ else _) _ _ s;rw[if_neg (by decide)];refine aD (Wu pl (aD (Wu pu (aD (aX ?_)))));show aM _ _ (match T8 lo hi 1 (n:Int) with|(lo,hi)=>pure (lo,(1:Int),Kv lo hi 1)) _ _ s;rw[afh lo hi n];show aM _ _ (pure (((bT n 0 lo:Nat):Int),(1:Int),Kv ((bT n 0 lo:Nat):Int) ((bT n n hi:Nat):Int) 1)) _ _ s;rw[afi];exact aX h
theorem agU(xs:Array Value)(i k:Nat):((dJ k).filterMap fun(m:Nat)=>xs[((i:Int)+(m:Int)*1).toNat]?).toArray=((xs.toList.drop i).take k).toArray:=by
 have e:(fun(m:Nat)=>xs[((i:Int)+(m:Int)*1).toNat]?)=fun m=>xs[i+m]?:=by
  funext m;have:((i:Int)+(m:Int)*1).toNat=i+m:=by omega
  rw[this]
 rw[e];have:=pick_run xs i k;rw[List.filterMap_map] at this;have e2:((fun x=>xs[x]?) ∘ fun x=>i+x)=fun m=>xs[i+m]?:=rfl
 rw[e2] at this;rw[this]
theorem adt{t sl:aa}{items:Array Value}{vl vu:Value}{lo hi:Option Int}{Q:Value→au→Prop}(ht:IsTup s.heap t items)(hs:s.heap.IsSliceOf sl vl vu .none)(pl:sI vl lo)(pu:sI vu hi)
  (hw:¬(bT items.size 0 lo=0∧bT items.size items.size hi=items.size))
  (h:Q (.ref s.heap.objs.size) {s with heap:=s.heap.push {cls:=.type "tuple",data:=.seq ((items.toList.drop (bT items.size 0 lo)).take (bT items.size items.size hi-bT items.size 0 lo)).toArray}})
  (hsz:items.size≤bM):aM (model prog w) A (vI (.ref t) (.ref sl)) Q E s:=by
 have Jz:sizeOk (.seq ((items.toList.drop (bT items.size 0 lo)).take (bT items.size items.size hi-bT items.size 0 lo)).toArray):=by
  show((items.toList.drop (bT items.size 0 lo)).take (bT items.size items.size hi-bT items.size 0 lo)).toArray.size≤bM
  rw[fW,n6,Bp,jM];omega
 have hj:bT items.size items.size hi≤items.size:=ajr _ _ (bO _) hi
 obtain⟨os,hos,hcs,hds⟩:=id hs
 have hTs:s.TypeIs (.ref sl) "slice":=⟨os,hos,hcs⟩
 unfold vI
 try with_reducible refine mQ ?_
 first|refine aD (aX ?_)|skip
 refine aD (adu ht.typeIs (by decide) ?_);refine aD (Bd (name:=fJ "__getitem__") ht.typeIs Kr
  (qu Kr ht.typeIs entry_tuple_getitem ?_ (args_tuple_getitem _ _)))
 show aM _ _ (acA (.ref t) >>= _) _ _ s;refine aD (tupleItemsOf_ ht ?_);refine aD (GZ hTs ?_);rw[if_pos (by decide)];refine aD (U7 hs pl pu ?_);have hno:¬((((bT items.size 0 lo:Nat):Int)==0&&(1:Int)==1&&(bT items.size items.size hi-bT items.size 0 lo)==items.size)=true):=by
  intro q;rw[iQ,iQ] at q;have q1:((bT items.size 0 lo:Nat):Int)=0:=eq_of_beq q.1.1;have q2:bT items.size items.size hi-bT items.size 0 lo=items.size:=eq_of_beq q.2;exact hw ⟨by omega,by omega⟩
 show aM _ _ (if(((bT items.size 0 lo:Nat):Int)==0&&(1:Int)==1&&(bT items.size items.size hi-bT items.size 0 lo)==items.size)=true then _ else _) _ _ s;rw[if_neg hno,agU]
 first
  |exact aD (m:=Kw _) (mK (aX ⟨_,rfl,aX h⟩) Jz)
  |exact aD (m:=Kw _) (mK (aD (aX (aX ⟨_,rfl,aX h⟩))) Jz)
  |exact aD (aD (m:=Kw _) (mK (aX (aX ⟨_,rfl,aX h⟩)) Jz))
  |exact aD (aD (m:=Kw _) (mK (aX ⟨_,rfl,aX h⟩) Jz))
end
end HT
namespace L2
open PySem PySem.Spec PyProof.Rows
abbrev TO:=St→Hp→(Option Int→Hp→Prop)→Prop
def PO(X:Cx)(e:Option Expr)(t:TO):Prop:=
 ∀(pins:List (aa×Obj))(s:au)(σ:St)(H:Hp)(Q:Option Int→Hp→Prop),Inv X pins σ H s→t σ H Q→
  aM (model X.prog X.w) X.A (evalPart e X.env) (fun u s'=>∃o H',Inv X pins σ H' s'∧sI u o∧Q o H') X.xe s
def ah1:TO:=fun _ H Q=>Q none H
def akH(t:TE):TO:=fun σ H Q=>t σ H fun x H1=>∃i,x=.int i∧Q (some i) H1
section
variable{X:Cx}{e:Expr}{te:TE}{lo hi:Option Expr}{tl th:TO}{pos p2:Pos}
theorem ah2:PO X none ah1:=by
 intro pins s σ H Q I h;rw[evalPart_none];exact aX ⟨none,H,I,.none,h⟩
theorem ah3(h:PE X e te):PO X (some e) (akH te):=by
 intro pins s σ H Q I hw;rw[evalPart_some];refine bu (h pins s σ H _ I hw) fun u s1 aK=>?_
 obtain⟨x,H1,I1,r1,q1⟩:=aK
 obtain⟨i,rfl,q⟩:=q1
 obtain⟨t,rfl⟩:=r1
 exact⟨some i,H1,I1,.int i t,q⟩
def uV(X:Cx)(r:V→Option Int→Option Int→Hp→VK→Prop):Prop:=
 ∀(pins:List (aa×Obj))(s:au)(σ:St)(H:Hp)(x:V)(v vl vu:Value)(lo hi:Option Int)(sl:aa)(Q:VK),Inv X pins σ H s→RelV x v→s.heap.IsSliceOf sl vl vu .none→sI vl lo→sI vu hi→r x lo hi H Q→
  ∃T id,typeLookup (.type T) "__getitem__"=pure (some (.builtin id))∧s.TypeIs v T∧aM (model X.prog X.w) X.A (vI v (.ref sl)) (EP X pins σ Q) X.xe s
theorem uV.or{r r':V→Option Int→Option Int→Hp→VK→Prop}(h:uV X r)(h':uV X r'):uV X (fun x lo hi H Q=>r x lo hi H Q∨r' x lo hi H Q):=by
 intro pins s σ H x v vl vu lo hi sl Q I rx hs pl pu q;rcases q with q|q
 ·exact h pins s σ H x v vl vu lo hi sl Q I rx hs pl pu q
 ·exact h' pins s σ H x v vl vu lo hi sl Q I rx hs pl pu q
def tSl(r:V→Option Int→Option Int→Hp→VK→Prop)(te:TE)(tl th:TO):TE:=fun σ H Q=>te σ H fun x H1=>tl σ H1 fun l H2=>th σ H2 fun u H3=>r x l u H3 Q
theorem agV{r:V→Option Int→Option Int→Hp→VK→Prop}(hr:uV X r)(he:PE X e te)(hl:PO X lo tl)(hu:PO X hi th):PE X (.Subscript e (.Slice lo hi none p2) pos) (tSl r te tl th):=by
 intro pins s σ H Q I h;refine Subscript_ (bu (he pins s σ H _ I h) fun v s1 aK=>?_)
 obtain⟨x,H1,I1,r1,q1⟩:=aK
 refine wpAny_Slice (bu (hl pins s1 σ H1 _ I1 q1) fun vl s2 ⟨l,H2,I2,pl,q2⟩=>bu (hu pins s2 σ H2 _ I2 q2) fun vu s3 aK=>?_)
 obtain⟨u,H3,I3,pu,q3⟩:=aK
 rw[evalPart_none];refine aX ?_;have I4:Inv X pins σ H3 {s3 with heap:=s3.heap.push {cls:=.type "slice",data:=.fields #[vl,vu,.none]}}:=I3.kept (t':=s3.toks) fun b ob q=>cD _ q
 obtain⟨T,id,hT,ht,hg⟩:=hr pins {s3 with heap:=s3.heap.push {cls:=.type "slice",data:=.fields #[vl,vu,.none]}} σ H3 x v vl vu l u s3.heap.objs.size Q I4 r1 (anq ..) pl pu q3
 show aM (model X.prog X.w) X.A (subscriptTail e (.Slice lo hi none p2) v (.ref s3.heap.objs.size)) (EP X pins σ Q) X.xe {s3 with heap:=s3.heap.push {cls:=.type "slice",data:=.fields #[vl,vu,.none]}};exact tail_any (ops:=[.ref s3.heap.objs.size,v]) ht hT hg (by with_unfolding_all rfl)
def qZ(xs:List V)(lo hi:Option Int):List V:=(xs.drop (HT.bT xs.length 0 lo)).take (HT.bT xs.length xs.length hi-HT.bT xs.length 0 lo)
theorem Wl(xs:List V)(lo hi:Option Int):(qZ xs lo hi).length≤xs.length:=by
 unfold qZ;rw[n6,Bp];omega
def ali(K:aG):V→Option Int→Option Int→Hp→VK→Prop:=fun x lo hi H Q=>∃a xs,x=.ref a∧cN K H a xs∧
 ¬(HT.bT xs.length 0 lo=0∧HT.bT xs.length xs.length hi=xs.length)∧∀p,H p=none→Q (.ref p) (upd H p (.tup (qZ xs lo hi)))
theorem ajs:uV X (ali X.K):=by
 intro pins s σ H x v vl vu lo hi sl Q I rx hs pl pu h
 obtain⟨a,xs,rfl,hx,hw,q⟩:=h
 cases rx
 obtain⟨its,r,ht,hz⟩:=I.tuple hx
 have hlen:its.toArray.size=xs.length:=by rw[fW];exact r.length.symm
 refine⟨"tuple",_,PyProof.Rows.slot_tuple_getitem.lookup,ht.typeIs,?_⟩
 refine HT.adt ht hs pl pu (by rw[hlen];exact hw) ?_ (by rw[hlen];exact hz);rw[hlen]
 refine⟨.ref s.heap.objs.size,_,I.laid (t':=s.toks) (o:=.tup (qZ xs lo hi)) (fun b ob q=>cD _ q) (bO _) ?_,rfl,q _ (I.hok.fresh (bO _))⟩
 exact⟨jP (Wl xs lo hi) hz,_,(r.drop (HT.bT xs.length 0 lo)).take (HT.bT xs.length xs.length hi-HT.bT xs.length 0 lo),IsTup.new _ _⟩
def aaR(K:aG):R2:=fun x y H Q=>∃a b xs ys,x=.ref a∧y=.ref b∧cN K H a xs∧cN K H b ys∧xs≠[]∧xs.length+ys.length≤bM∧
 (ys=[]→Q (.ref a) H)∧(ys≠[]→∀p,H p=none→Q (.ref p) (upd H p (.tup (xs++ys))))
theorem Vals.Py{xs:List V}{us:List Value}(r:Vals xs us):us=[]↔xs=[]:=by
 cases r with
 |nil=>simp
 |cons _ _=>simp
theorem ah4:cC X (mV .Add) (aaR X.K):=by
 intro pins s σ H x y v u Q I rx ry h
 obtain⟨a,b,xs,ys,rfl,rfl,ha,hb,hx,hz,q1,q2⟩:=h
 cases rx;cases ry
 obtain⟨its,r1,p1,_⟩:=I.tuple ha
 obtain⟨its2,r2,p2,_⟩:=I.tuple hb
 refine HT.ah0 p1 p2 (fun z=>hx (r1.Py.mp z)) (fun z=>⟨.ref a,H,I,rfl,q1 (r2.Py.mp z)⟩) (fun z=>?_) (by rw[←r1.length,←r2.length];exact hz)
 refine⟨.ref s.heap.objs.size,_,I.laid (t':=s.toks) (o:=.tup (xs++ys)) (fun b ob q=>cD _ q) (bO _) ?_,rfl,q2 (fun w=>z (r2.Py.mpr w)) _ (I.hok.fresh (bO _))⟩
 exact⟨by rw[fU];exact hz,_,r1.append r2,IsTup.new _ _⟩
end
def m9(n:Nat)(i:Int):Option Nat:=if 0≤i then(if i<n then some i.toNat else none) else if -(n:Int)≤i then some (i+n).toNat else none
def fB{α:Type}(xs:List α)(i:Int):Option α:=(m9 xs.length i).bind fun j=>xs[j]?
theorem Y6{n:Nat}{i:Int}{j:Nat}(h:m9 n i=some j):seqIndex? i n=some j∧j<n∧-(n:Int)≤i∧i<n:=by
 unfold m9 at h;by_cases h0:0≤i
 ·rw[if_pos h0] at h;by_cases h1:i<n
  ·rw[if_pos h1] at h;have e:i.toNat=j:=fV h
   exact⟨by rw[Wm h0 h1,e],by omega,by omega,h1⟩
  ·rw[if_neg h1] at h;cases h
 ·rw[if_neg h0] at h;by_cases h1:-(n:Int)≤i
  ·rw[if_pos h1] at h;have e:(i+n).toNat=j:=fV h
   exact⟨by rw[V6 (by omega) h1,e],by omega,h1,by omega⟩
  ·rw[if_neg h1] at h;cases h
theorem Pz{α:Type}{xs:List α}{i:Int}{v:α}(h:fB xs i=some v):∃j,seqIndex? i xs.length=some j∧xs[j]?=some v∧j<xs.length∧-(xs.length:Int)≤i∧i<xs.length:=by
 unfold fB at h;cases e:m9 xs.length i with
 |none=>rw[e] at h;cases h
 |some j=>
  rw[e] at h
  obtain⟨h1,h2,h3,h4⟩:=Y6 e
  exact⟨j,h1,h,h2,h3,h4⟩
theorem vJ{α:Type}{xs:List α}{j:Nat}{v:α}(h:xs[j]?=some v):fB xs (j:Int)=some v:=by
 have hj:j<xs.length:=(je.mp h).1;have e:m9 xs.length (j:Int)=some j:=by
  unfold m9;rw[if_pos (by omega),if_pos (by omega)];simp
 unfold fB;rw[e];exact h
def IV(b:Expr):Prop:=∀o i,Wn b false o i=operate [o,i] (vI o i)
def qi(X:Cx)(r:R2):Prop:=
 ∀(value slice:Expr)(pins:List (aa×Obj))(s:au)(σ:St)(H:Hp)(x y:V)(v u:Value)(Q:VK),Inv X pins σ H s→RelV x v→RelV y u→r x y H Q→
  Wn slice false v u=operate [v,u] (vI v u)→aM (model X.prog X.w) X.A (subscriptTail value slice v u) (EP X pins σ Q) X.xe s
def Ax(X:Cx)(id:String)(r:V→List V→Hp→VK→Prop):Prop:=
 ∀(pins:List (aa×Obj))(s:au)(σ:St)(H:Hp)(x:V)(xs:List V)(v:Value)(us:List Value)(Q:VK),Inv X pins σ H s→RelV x v→Vals xs us→r x xs H Q→
  aM (model X.prog X.w) X.A (call (.builtin id) (v::us)) (EP X pins σ Q) X.xe s
section
variable{X:Cx}{a b:Expr}{ta tb:TE}{pos:Pos}
theorem qi.or{r r':R2}(h:qi X r)(h':qi X r'):qi X (fun x y H Q=>r x y H Q∨r' x y H Q):=by
 intro value slice pins s σ H x y v u Q I rx ry q hs;rcases q with q|q
 ·exact h value slice pins s σ H x y v u Q I rx ry q hs
 ·exact h' value slice pins s σ H x y v u Q I rx ry q hs
theorem Ax.or{id:String}{r r':V→List V→Hp→VK→Prop}(h:Ax X id r)(h':Ax X id r'):Ax X id (fun x xs H Q=>r x xs H Q∨r' x xs H Q):=by
 intro pins s σ H x xs v us Q I rx rs q;rcases q with q|q
 ·exact h pins s σ H x xs v us Q I rx rs q
 ·exact h' pins s σ H x xs v us Q I rx rs q
theorem Ro{r:R2}(hr:qi X r)(ha:PE X a ta)(hb:PE X b tb)(hs:IV b):PE X (.Subscript a b pos) (Ex r ta tb):=by
 intro pins s σ H Q I h;exact Subscript_ (RT ha hb I h fun v u s2 x y H2 I2 rx ry q=>hr a b pins s2 σ H2 x y v u Q I2 rx ry q (hs _ _))
def abh(K:aG):R2:=fun x y H Q=>∃p xs i v,x=.ref p∧y=.int i∧bK K H p xs∧fB xs i=some v∧Q v H
def abi(K:aG):R2:=fun x y H Q=>∃p xs i v,x=.ref p∧y=.int i∧cN K H p xs∧fB xs i=some v∧Q v H
def abj:R2:=fun x y H Q=>∃z i c,x=.str z∧y=.int i∧z.length≤bM∧fB z.cps.toList i=some c∧Q (.str ⟨#[c]⟩) H
theorem PB:qi X (abh X.K):=by
 intro value slice pins s σ H x y v u Q I rx ry h hs
 obtain⟨p,xs,i,z,rfl,rfl,hq,he,q⟩:=h
 cases rx
 obtain⟨t,rfl⟩:=ry
 obtain⟨its,r,pl,hz⟩:=I.list hq
 obtain⟨j,h1,h2,h3,h4,h5⟩:=Pz he
 obtain⟨w,ew,rw'⟩:=r.get h2
 have hl:=r.length;have hn:=xT;have fin:EP X pins σ Q w s:=⟨z,H,I,rw',q⟩
 by_cases h0:0≤i
 ·have hj:i.toNat=j:=by
   rw[Wm h0 h5] at h1;exact fV h1
  exact item_listR pl.isList h0 (by omega) (by rw[hj];simpa using ew) fin hs
 ·have hj:(i+(its.toArray.size:Int)).toNat=j:=by
   rw[V6 (by omega) h4] at h1;rw[fW,←hl];exact fV h1
  exact subscriptTail_builtinR (x:=w) pl.isList.typeIs slot_list_getitem.lookup
   (wpAny_getItem_list_neg (Q:=fun r s'=>r=w∧EP X pins σ Q r s') pl.isList (by omega) (by rw[fW]<;>omega) (by omega) (by rw[hj];simpa using ew) ⟨rfl,fin⟩) hs
theorem ajt:qi X (abi X.K):=by
 intro value slice pins s σ H x y v u Q I rx ry h hs
 obtain⟨p,xs,i,z,rfl,rfl,hq,he,q⟩:=h
 cases rx
 obtain⟨t,rfl⟩:=ry
 obtain⟨its,r,pl,hz⟩:=I.tuple hq
 obtain⟨j,h1,h2,h3,h4,h5⟩:=Pz he
 obtain⟨w,ew,rw'⟩:=r.get h2
 have hl:=r.length;have hn:=xT;have fin:EP X pins σ Q w s:=⟨z,H,I,rw',q⟩
 exact subscriptTail_builtinR (x:=w) pl.typeIs slot_tuple_getitem.lookup
  (getItem_tuple (j:=j) (Q:=fun r s'=>r=w∧EP X pins σ Q r s') pl (by omega) (by omega) (by rw[fW,←hl];exact h1) (by simpa using ew) ⟨rfl,fin⟩) hs
theorem aju:qi X abj:=by
 intro value slice pins s σ H x y v u Q I rx ry h hs
 obtain⟨z,i,c,rfl,rfl,hz,he,q⟩:=h
 obtain⟨t,rfl⟩:=rx
 obtain⟨t',rfl⟩:=ry
 obtain⟨j,h1,h2,h3,h4,h5⟩:=Pz he
 have hl:z.cps.toList.length=z.length:=by simp[Str.length]
 rw[hl] at h1 h4 h5;have hn:=xT;exact tail_any (Wv s z t) slot_str_getitem.lookup (getItem_str (c:=c) (by
  have e1:decide (i< -(2^63:Int))=false:=decide_eq_false (by omega);have e2:decide (i≥2^63)=false:=decide_eq_false (by omega);rw[e1,e2,Bool.or_false]) (by rw[h1];simpa using h2) ⟨.str ⟨#[c]⟩,H,I.tok _,⟨_,rfl⟩,q⟩) hs
def rIx(K:aG):R2:=fun x y H Q=>abh K x y H Q∨abi K x y H Q∨abj x y H Q
theorem ajv:qi X (rIx X.K):=PB.or (ajt.or aju)
theorem afj(its:List Value)(n j:Nat)(u:Value):lH (·.setIfInBounds j u) {cls:=.type "list",data:=.seq its.toArray n}={cls:=.type "list",data:=.seq (its.set j u).toArray n}:=by
 simp[lH]
theorem Inv.lst{pins:List (aa×Obj)}{σ:St}{H:Hp}{s:au}{p:aa}{xs:List V}(I:Inv X pins σ H s)(h:H p=some (.lst xs)):
  ∃(its:List Value)(n:Nat),Vals xs its∧s.heap.get? p=some {cls:=.type "list",data:=.seq its.toArray n}∧xs.length≤bM:=by
 obtain⟨z,its,n,r,e⟩:=I.hok p _ h
 exact⟨its,n,r,e,z⟩
theorem Inv.ajw{pins:List (aa×Obj)}{σ:St}{H:Hp}{s:au}{p:aa}{xs ys:List V}{its its':List Value}{n n':Nat}{f:Obj→Obj}(I:Inv X pins σ H s)(h:H p=some (.lst xs))
  (ho:s.heap.get? p=some {cls:=.type "list",data:=.seq its.toArray n})(hf:f {cls:=.type "list",data:=.seq its.toArray n}={cls:=.type "list",data:=.seq its'.toArray n'})(r:Vals ys its')(hz:ys.length≤bM)(t:Nat):
  Inv X pins σ (upd H p (.lst ys)) {s with heap:=s.heap.update p f,toks:=t}:=by
 have e:(s.heap.update p f).get? p=some {cls:=.type "list",data:=.seq its'.toArray n'}:=by
  rw[yN f ho (by rw[hf]<;>rfl),hf]
 refine I.write (x:=p) (e:=p) (by rw[h];trivial) (.inl rfl) (fun b u hb q=>(rM _ _ (jQ hb)).trans q) ⟨_,e⟩ ?_
 exact⟨hz,its',n',r,e⟩
def Rp:V→V→V→Hp→(Hp→Prop)→Prop:=fun o i v H Q=>∃p xs k j,o=.ref p∧i=.int k∧H p=some (.lst xs)∧m9 xs.length k=some j∧Q (upd H p (.lst (xs.set j v)))
theorem set_list:uK X Rp:=by
 intro pins s σ H o i v ov iv u Q I ro ri rv h
 obtain⟨p,xs,k,j,rfl,rfl,hp,hj,q⟩:=h
 cases ro
 obtain⟨t,rfl⟩:=ri
 obtain⟨its,n,r,ho,hz⟩:=I.lst hp
 obtain⟨h1,h2,h3,h4⟩:=Y6 hj
 have hl:=r.length;have hn:=xT;have I':Inv X pins σ (upd H p (.lst (xs.set j v))) {s with heap:=s.heap.update p (lH (·.setIfInBounds j u))}:=
  I.ajw hp ho (afj its n j u) (r.set rv j) (by rw[vo];exact hz) s.toks
 by_cases h0:0≤k
 ·have hk:k.toNat=j:=by
   rw[Wm h0 h4] at h1;exact fV h1
  exact PySem.W.ki_setAt ho h0 (by omega) (by rw[fW,←hl];exact h4) (by rw[hk];exact⟨_,I',q⟩)
 ·have hk:(k+(its.toArray.size:Int)).toNat=j:=by
   rw[V6 (by omega) h3] at h1;rw[fW,←hl];exact fV h1
  exact PySem.W.ki_setBack ho (by omega) (by rw[fW,←hl];exact h3) (by omega) (by rw[hk];exact⟨_,I',q⟩)
theorem aeA(lo hi:Option Int)(n:Nat):(zy lo hi none n).1=((HT.bT n 0 lo:Nat):Int)∧(zy lo hi none n).2.1=((HT.bT n n hi:Nat):Int)∧(zy lo hi none n).2.2=1:=by
 refine⟨?_,?_,rfl⟩
 ·cases lo with
  |none=>simp[zy,HT.bT]
  |some i=>
   simp only[zy,HT.bT,adM,show(1:Int)>0 by decide,if_true];by_cases h:i<0
   ·simp only[h,if_true]<;>omega
   ·simp only[h,if_false]<;>omega
 ·cases hi with
  |none=>simp[zy,HT.bT]
  |some i=>
   simp only[zy,HT.bT,adM,show(1:Int)>0 by decide,if_true];by_cases h:i<0
   ·simp only[h,if_true]<;>omega
   ·simp only[h,if_false]<;>omega
theorem aei(its:List Value)(lo hi:Option Int):slicePick its.toArray lo hi none=((its.drop (HT.bT its.length 0 lo)).take (HT.bT its.length its.length hi-HT.bT its.length 0 lo)).toArray:=by
 obtain⟨h1,h2,h3⟩:=aeA lo hi its.toArray.size
 unfold slicePick;rw[h1,h2,h3];simp only[sliceRange_one,pick_run,fW]<;>rfl
def alj(K:aG):V→Option Int→Option Int→Hp→VK→Prop:=fun x lo hi H Q=>∃a xs,x=.ref a∧bK K H a xs∧∀p,H p=none→Q (.ref p) (upd H p (.lst (qZ xs lo hi)))
theorem ah5:uV X (alj X.K):=by
 intro pins s σ H x v vl vu lo hi sl Q I rx hs pl pu h
 obtain⟨a,xs,rfl,hx,q⟩:=h
 cases rx
 obtain⟨its,r,ht,hz⟩:=I.list hx
 have hlen:=r.length
 refine⟨"list",_,slot_list_getitem.lookup,ht.isList.typeIs,?_⟩
 refine wpAny_getItem_list_slice ht.isList hs pl pu .none (by simp) ?_ (by rw[fW]<;>omega);rw[aei,←hlen]
 refine⟨.ref s.heap.objs.size,_,I.laid (t':=s.toks) (o:=.lst (qZ xs lo hi)) (fun b ob q=>cD _ q) (bO _) ?_,rfl,q _ (I.hok.fresh (bO _))⟩
 exact⟨jP (Wl xs lo hi) hz,_,0,(r.drop (HT.bT xs.length 0 lo)).take (HT.bT xs.length xs.length hi-HT.bT xs.length 0 lo),ie _ rfl⟩
def oO:V→Bool
 |.non=>true
 |.bl _=>true
 |.int _=>true
 |.str _=>true
 |_=>false
def rB:V→V→Bool
 |.non,.non=>true
 |.bl a,.bl b=>a==b
 |.bl a,.int b=>(if a then 1 else 0)==b
 |.int a,.bl b=>a==(if b then 1 else 0)
 |.int a,.int b=>a==b
 |.str a,.str b=>a==b
 |_,_=>false
theorem QK{A:bY}{s:au}{y x:V}{u v:Value}(ry:RelV y u)(rx:RelV x v)(fy:oO y=true)(fx:oO x=true):Hw A s u v (rB y x):=by
 cases y with
 |non=>
  cases ry;cases x with
  |non=>cases rx;exact adY _
  |bl b=>cases rx;exact SeqAt.EqAt.none_bool b
  |int b=>obtain⟨t,rfl⟩:=rx;exact SeqAt.EqAt.none_int b t
  |str b=>obtain⟨t,rfl⟩:=rx;exact SeqAt.EqAt.none_str b t
  |_=>exact absurd (show false=true from fx) gP
 |bl a=>
  cases ry;cases x with
  |non=>cases rx;exact SeqAt.EqAt.bool_none a
  |bl b=>cases rx;exact SeqAt.EqAt.bool_bool a b
  |int b=>obtain⟨t,rfl⟩:=rx;exact SeqAt.EqAt.bool_int a b t
  |str b=>obtain⟨t,rfl⟩:=rx;exact SeqAt.EqAt.bool_str a b t
  |_=>exact absurd (show false=true from fx) gP
 |int a=>
  obtain⟨t',rfl⟩:=ry
  cases x with
  |non=>cases rx;exact SeqAt.EqAt.int_none a t'
  |bl b=>cases rx;exact SeqAt.EqAt.int_bool a t' b
  |int b=>obtain⟨t,rfl⟩:=rx;exact adg a t' b t
  |str b=>obtain⟨t,rfl⟩:=rx;exact ac9 a t' b t
  |_=>exact absurd (show false=true from fx) gP
 |str a=>
  obtain⟨t',rfl⟩:=ry
  cases x with
  |non=>cases rx;exact SeqAt.EqAt.str_none a t'
  |bl b=>cases rx;exact SeqAt.EqAt.str_bool a t' b
  |int b=>obtain⟨t,rfl⟩:=rx;exact ada a t' b t
  |str b=>obtain⟨t,rfl⟩:=rx;exact SeqAt.EqAt.str_str a t' b t
  |_=>exact absurd (show false=true from fx) gP
 |_=>exact absurd (show false=true from fy) gP
def nj(x:V)(u:Value):Bool:=match u with
 |.none=>rB .non x
 |.bool b=>rB (.bl b) x
 |.int i _=>rB (.int i) x
 |.str z _=>rB (.str z) x
 |_=>false
theorem aab{x y:V}{u:Value}(r:RelV y u)(f:oO y=true):nj x u=rB y x:=by
 cases y with
 |non=>cases r;rfl
 |bl b=>cases r;rfl
 |int i=>obtain⟨t,rfl⟩:=r;rfl
 |str z=>obtain⟨t,rfl⟩:=r;rfl
 |_=>exact absurd (show false=true from f) gP
theorem Cz{x:V}:∀{xs:List V}{us:List Value},Vals xs us→xs.all oO=true→us.any (nj x)=xs.any fun y=>rB y x
 |_,_,.nil,_=>rfl
 |y::xs,u::us,.cons r t,f=>by
  rw[LR,iQ] at f;rw[GJ,GJ,aab r f.1,Cz t f.2]
theorem Cm{A:bY}{s:au}{x:V}{v:Value}(rx:RelV x v)(fx:oO x=true):∀{xs:List V}{us:List Value},Vals xs us→xs.all oO=true→∀u∈us,Hw A s u v (nj x u)
 |_,_,.nil,_=>fun u hu=>by cases hu
 |y::xs,u::us,.cons r t,f=>fun u' hu=>by
  rw[LR,iQ] at f;rcases bU.mp hu with rfl|hu
  ·rw[aab r f.1];exact QK r rx f.1 fx
  ·exact Cm rx fx t f.2 u' hu
def inV(x:V)(xs:List V):Bool:=xs.any fun y=>rB y x
def J6(K:aG)(neg:Bool):R2:=fun x y H Q=>∃p xs,y=.ref p∧(bK K H p xs∨cN K H p xs)∧oO x=true∧xs.all oO=true∧Q (.bl (if neg then !inV x xs else inV x xs)) H
theorem af2:cC X (dZ .In) (J6 X.K false):=by
 intro pins s σ H x y v u Q I rx ry h
 obtain⟨p,xs,rfl,hq,fx,fs,q⟩:=h
 cases ry;rcases hq with hq|hq
 ·obtain⟨its,r,pl,hz⟩:=I.list hq
  refine SeqAt.in_listAt (nj x) pl.isList (fun w hw=>Cm rx fx r fs w (by simpa using hw)) ⟨.bl _,H,I,rfl,?_⟩;rw[show its.toArray.any (nj x)=its.any (nj x) by simp,Cz r fs];exact q
 ·obtain⟨its,r,pl,hz⟩:=I.tuple hq
  refine SeqAt.in_tupleAt (nj x) pl (fun w hw=>Cm rx fx r fs w (by simpa using hw)) ⟨.bl _,H,I,rfl,?_⟩;rw[show its.toArray.any (nj x)=its.any (nj x) by simp,Cz r fs];exact q
theorem aeB:cC X (dZ .NotIn) (J6 X.K true):=by
 intro pins s σ H x y v u Q I rx ry h
 obtain⟨p,xs,rfl,hq,fx,fs,q⟩:=h
 cases ry;rcases hq with hq|hq
 ·obtain⟨its,r,pl,hz⟩:=I.list hq
  refine SeqAt.notIn_listAt (nj x) pl.isList (fun w hw=>Cm rx fx r fs w (by simpa using hw)) ⟨.bl _,H,I,rfl,?_⟩;rw[show its.toArray.any (nj x)=its.any (nj x) by simp,Cz r fs];exact q
 ·obtain⟨its,r,pl,hz⟩:=I.tuple hq
  refine SeqAt.notIn_tupleAt (nj x) pl (fun w hw=>Cm rx fx r fs w (by simpa using hw)) ⟨.bl _,H,I,rfl,?_⟩;rw[show its.toArray.any (nj x)=its.any (nj x) by simp,Cz r fs];exact q
theorem V7:jw X (.builtin "len") (fun xs H Q=>∃p ys,xs=[.ref p]∧(bK X.K H p ys∨cN X.K H p ys)∧Q (.int ys.length) H):=by
 intro pins s σ H xs us Q I r h
 obtain⟨p,ys,rfl,hq,q⟩:=h
 obtain⟨u,rfl,rx⟩:=vals1 r
 cases rx;have hn:=xT;rcases hq with hq|hq
 ·obtain⟨its,r',pl,hz⟩:=I.list hq
  have hlen:=r'.length;exact Calls.call_len_list pl.isList (by simp only[fW]<;>omega) ⟨.int ys.length,H,I.tok _,⟨s.toks+1,by rw[fW,hlen]⟩,q⟩
 ·obtain⟨its,r',pl,hz⟩:=I.tuple hq
  have hlen:=r'.length;exact len_tuple pl (by simp only[fW]<;>omega) ⟨.int ys.length,H,I.tok _,⟨s.toks+1,by rw[fW,hlen]⟩,q⟩
theorem aeC:jw X (.builtin "len") (fun xs H Q=>∃z,xs=[.str z]∧z.length≤bM∧Q (.int z.length) H):=by
 intro pins s σ H xs us Q I r h
 obtain⟨z,rfl,hz,q⟩:=h
 obtain⟨u,rfl,t,rfl⟩:=vals1 r
 have hn:=xT;exact len_str (by omega) ⟨.int z.length,H,I.tok _,⟨_,rfl⟩,q⟩
theorem jw.or{f:Value}{r r':List V→Hp→VK→Prop}(h:jw X f r)(h':jw X f r'):jw X f (fun xs H Q=>r xs H Q∨r' xs H Q):=by
 intro pins s σ H xs us Q I rs q;rcases q with q|q
 ·exact h pins s σ H xs us Q I rs q
 ·exact h' pins s σ H xs us Q I rs q
theorem VJ:jw X (.type "tuple") (fun xs H Q=>∃p ys,xs=[.ref p]∧((bK X.K H p ys∧∀l,H l=none→Q (.ref l) (upd H l (.tup ys)))∨(cN X.K H p ys∧Q (.ref p) H))):=by
 intro pins s σ H xs us Q I r h
 obtain⟨p,ys,rfl,h⟩:=h
 obtain⟨u,rfl,rx⟩:=vals1 r
 cases rx;rcases h with⟨hq,q⟩|⟨hq,q⟩
 ·obtain⟨its,r',pl,hz⟩:=I.list hq
  have hlen:=r'.length;refine call_tuple_list pl.isList (fun h' kp=>?_) (by simp only[fW]<;>omega);have I1:Inv X pins σ H {s with heap:=h'}:=I.kept (t':=s.toks) kp;have I2:Inv X pins σ (upd H h'.objs.size (.tup ys)) {s with heap:=h'.push {cls:=.type "tuple",data:=.seq its.toArray}}:=
   I1.laid (t':=s.toks) (fun b o e=>cD _ e) (bO _) (show eY X.prog X.w _ _ _ (.tup ys) from⟨hz,its,r',IsTup.new _ _⟩)
  exact⟨.ref h'.objs.size,_,I2,rfl,q _ (I1.hok.fresh (bO _))⟩
 ·obtain⟨its,r',pl,hz⟩:=I.tuple hq
  exact call_tuple_same pl ⟨.ref p,H,I,rfl,q⟩
def tyV(K:aG)(T:String)(x:V)(H:Hp):Prop:=match x with
 |.str _=>T="str"
 |.int _=>T="int"
 |.ref p=>(T="list"∧∃xs,bK K H p xs)∨(T="tuple"∧∃o,K.lookup p=some o∧o.cls=.type "tuple"∧o.dict=none)∨
   (T="dict"∧((∃kvs,H p=some (.dK kvs))∨∃kvs,H p=some (.dT kvs)))∨(T="set"∧∃S n,H p=some (.set S n))
 |_=>False
theorem ajx{pins:List (aa×Obj)}{σ:St}{H:Hp}{s:au}{T:String}{x:V}{v:Value}(I:Inv X pins σ H s)(r:RelV x v)(ty:tyV X.K T x H):
  s.TypeIs v T∧∀a,v=.ref a→∃ob,s.heap.get? a=some ob∧ob.dict=none:=by
 cases x with
 |str z=>
  obtain⟨t,rfl⟩:=r
  cases(show T="str" from ty)
  exact⟨Wv s z t,fun _ e=>nomatch e⟩
 |int i=>
  obtain⟨t,rfl⟩:=r
  cases(show T="int" from ty)
  exact⟨Ww s i t,fun _ e=>nomatch e⟩
 |ref p=>
  cases r;rcases ty with⟨rfl,xs,hq⟩|⟨rfl,o,hk,hc,hd⟩|⟨rfl,hk⟩|⟨rfl,S,n,hk⟩
  ·obtain⟨its,_,pl,_⟩:=I.list hq
   refine⟨pl.isList.typeIs,fun a e=>?_⟩
   cases e
   obtain⟨o,n,e,c,hd,_⟩:=pl
   exact⟨o,e,hd⟩
  ·refine⟨⟨o,I.gM p o hk,hc⟩,fun a e=>?_⟩
   cases e
   exact⟨o,I.gM _ o hk,hd⟩
  ·have z:∃o,s.heap.get? p=some o∧o.ExactDict:=by
    rcases hk with⟨kvs,hk⟩|⟨kvs,hk⟩
    ·obtain⟨_,_,_,_,o,_,_,e,ex,_⟩:=I.hok p _ hk
     exact⟨o,e,ex⟩
    ·obtain⟨_,_,_,_,o,_,_,e,ex,_⟩:=I.hok p _ hk
     exact⟨o,e,ex⟩
   obtain⟨o,e,ex⟩:=z
   refine⟨⟨o,e,ex.1⟩,fun a e2=>?_⟩
   cases e2
   exact⟨o,e,ex.2.1⟩
  ·obtain⟨o,_,_,_,e,ex,_⟩:=I.hok p _ hk
   refine⟨⟨o,e,ex.1⟩,fun a e2=>?_⟩
   cases e2
   exact⟨o,e,ex.2.1⟩
 |_=>exact qx ty
def tBM(K:aG)(T:String)(r:V→List V→Hp→VK→Prop)(to:TE)(t:TA):TE:=fun σ H Q=>to σ H fun x H1=>tyV K T x H1∧t σ H1 fun xs H2=>r x xs H2 Q
variable{o e:Expr}{es:List Expr}{to:TE}{t:TA}{name:Str}{apos cpos:Pos}{T id:String}{r:V→List V→Hp→VK→Prop}
theorem Rq(pa:PlainAttrs T)(slot:Slot T name id)(hty:typeOf (.builtin id)=pure (.type "method_descriptor"))(hm:Ax X id r)(ho:PE X o to)(ha:PA X (e::es) t)
  (hbase:xu o name X.env (eval o X.env)=eval o X.env:=by rfl)
  (hfew:((gm cpos (aZ (e::es) X.env)).all (fun x=>!x.1)&&(Cp cpos (BR [] X.env)).all (fun x=>x.1.isSome)
   &&decide ((e::es).length+([]:List pR).length+(if([]:List pR).isEmpty then 0 else 1)<30))=true:=by rfl)
  (hline:(apos.endLine==cpos.line)=true:=by rfl)(hs:aZ (e::es) X.env=(false,eval e X.env)::aZ es X.env:=by rfl)(hplain:(gm cpos (aZ es X.env)).any (·.1)=false:=by rfl):
  PE X (.Call (.Attribute o name apos) (e::es) [] cpos) (tBM X.K T r to t):=by
 intro pins s σ H Q I h;refine wpAny_Call_method_late hbase hfew hline rfl (bu (ho pins s σ H _ I h) fun v s1 aK=>?_)
 obtain⟨x,H1,I1,r1,ty,q1⟩:=aK
 obtain⟨h1,h2⟩:=ajx I1 r1 ty
 refine⟨T,id,pa,slot,hty,h1,h2,?_⟩
 have hA:=ha cpos pins s1 σ H1 _ I1 q1;rw[hs] at hA⊢;refine acN (by show(false||(gm cpos (aZ es X.env)).any (·.1))=false;rw[hplain]<;>rfl) (ac0 ?_);exact bu hA fun us s2 ⟨vs,H2,I2,r2,q2⟩=>hm pins s2 σ H2 x vs v us Q I2 r1 r2 q2
end
def wI(X:Cx)(id:String)(r:V→List V→Hp→VK→Prop):Prop:=
 ∀(pins:List (aa×Obj))(s:au)(σ:St)(H:Hp)(x:V)(xs:List V)(v:Value)(us:List Value)(Q:VK),Inv X pins σ H s→RelV x v→Vals xs us→r x xs H Q→
  aM (model X.prog X.w) X.A (call (.builtin id) (v::us)) (EP X pins σ Q) X.xe s
theorem Vals.one:∀{x:V}{us:List Value},Vals [x] us→∃u,us=[u]∧RelV x u
 |_,_,.cons r .nil=>⟨_,rfl,r⟩
theorem Vals.two:∀{x y:V}{us:List Value},Vals [x,y] us→∃u v,us=[u,v]∧RelV x u∧RelV y v
 |_,_,_,.cons r (.cons q .nil)=>⟨_,_,rfl,r,q⟩
theorem Vals.eraseIdx:∀{xs:List V}{us:List Value}(i:Nat),Vals xs us→Vals (xs.eraseIdx i) (us.eraseIdx i)
 |_,_,_,.nil=>.nil
 |_,_,0,.cons _ t=>t
 |_,_,i+1,.cons r t=>.cons r (Vals.eraseIdx i t)
theorem Vals.reverse{xs:List V}{us:List Value}(h:Vals xs us):Vals xs.reverse us.reverse:=by
 induction h with
 |nil=>exact .nil
 |cons r t ih=>rw[K1,K1];exact Vals.append ih (.cons r .nil)
theorem Vals.rep{xs:List V}{us:List Value}(h:Vals xs us):∀k:Nat,Vals (cP k xs).flatten (cP k us).flatten
 |0=>.nil
 |k+1=>by
  rw[rN,rN,Bh,Bh];exact Vals.append h (Vals.rep h k)
theorem foldl_rep(its:List Value):∀(k:Nat)(acc:List Value),
  Wx (fun x1 x2=>x1++x2) acc.toArray (cP k its.toArray)=(acc++(cP k its).flatten).toArray
 |0,acc=>by simp
 |k+1,acc=>by
  have e:acc.toArray++its.toArray=(acc++its).toArray:=by simp
  have e2:(acc++its)++(cP k its).flatten=acc++(cP (k+1) its).flatten:=by
   rw[rN,Bh,kI]
  rw[←e2,←foldl_rep its k (acc++its),←e,rN,Br]
section
variable{X:Cx}{pins:List (aa×Obj)}{σ:St}{H:Hp}{s:au}{l b:aa}{xs ys zs:List V}
theorem Inv.abk{its its':List Value}{n:Nat}{f:Array Value→Array Value}{t':Nat}(I:Inv X pins σ H s)(hH:H l=some (.lst xs))
  (e:s.heap.get? l=some {cls:=.type "list",data:=.seq its.toArray n})(hf:f its.toArray=its'.toArray)(hv:Vals ys its')(hz:ys.length≤bM):
  Inv X pins σ (upd H l (.lst ys)) {s with heap:=s.heap.update l (lH f),toks:=t'}:=by
 have q:=PySem.IsL.update e f;rw[hf] at q;refine I.write (x:=l) (e:=l) (by rw[hH];exact trivial) (.inl rfl) (fun b' u hb hu=>(rM s.heap (lH f) (jQ hb)).trans hu) ⟨_,q⟩ ?_
 exact⟨hz,its',_,hv,q⟩
theorem Inv.abl{its:List Value}{t':Nat}(I:Inv X pins σ H s)(hv:Vals ys its)(hz:ys.length≤bM):
  Inv X pins σ (upd H s.heap.objs.size (.lst ys)) {s with heap:=s.heap.push {cls:=.type "list",data:=.seq its.toArray},toks:=t'}:=
 I.laid (fun _ _ q=>cD _ q) (bO _) ⟨hz,its,0,hv,ie _ rfl⟩
theorem Inv.fresh(I:Inv X pins σ H s):H s.heap.objs.size=none:=I.hok.fresh (bO _)
theorem Inv.An(I:Inv X pins σ H s)(hH:H l=some (.lst xs)):xs.length≤bM∧∃(its:List Value)(n:Nat),Vals xs its∧xs.length=its.length∧s.heap.get? l=some {cls:=.type "list",data:=.seq its.toArray n}:=by
 obtain⟨z,its,n,r,e⟩:=I.hok l _ hH
 exact⟨z,its,n,r,r.length,e⟩
theorem XH{n:Nat}(h:n≤bM):Ky n=false:=by
 unfold Ky;exact decide_eq_false (by omega)
end
section
variable{X:Cx}
def ah6:V→List V→Hp→VK→Prop:=fun x vs H Q=>∃l xs y,x=.ref l∧vs=[y]∧H l=some (.lst xs)∧xs.length<bM∧Q .non (upd H l (.lst (xs++[y])))
theorem Xb:wI X "list.append" ah6:=by
 intro pins s σ H x vs v us Q I rx rv h
 obtain⟨l,xs,y,rfl,rfl,hH,hz,q⟩:=h
 cases rx
 obtain⟨u,rfl,ru⟩:=rv.one
 obtain⟨z,its,n,r,hl,e⟩:=I.An hH
 refine Nf adh ⟨_,e,rfl⟩ F.entry_list_append (F.args_list_append_2 _ _) (PySem.list_append l its.toArray n u (by rw[fW];omega)) ⟨e,?_⟩
 refine⟨.non,_,I.abk (its':=its++[u]) hH e (by simp) (r.append (.cons ru .nil)) ?_,rfl,q⟩
 rw[fU,List.length_singleton];omega
def ah7:V→List V→Hp→VK→Prop:=fun x vs H Q=>∃l b xs zs,x=.ref l∧vs=[.ref b]∧H l=some (.lst xs)∧H b=some (.lst zs)∧xs.length+zs.length≤bM∧Q .non (upd H l (.lst (xs++zs)))
theorem af3:wI X "list.extend" ah7:=by
 intro pins s σ H x vs v us Q I rx rv h
 obtain⟨l,b,xs,zs,rfl,rfl,hH,hB,hz,q⟩:=h
 cases rx
 obtain⟨u,rfl,ru⟩:=rv.one
 cases ru
 obtain⟨z,its,n,r,hl,e⟩:=I.An hH
 obtain⟨z2,its2,n2,r2,hl2,e2⟩:=I.An hB
 have hsz:its.toArray.size+its2.toArray.size≤bM:=by rw[fW,fW];omega
 have Rr:¬(!its.toArray.isEmpty&&Ky (its.toArray.size+its2.toArray.size))=true:=by
  rw[XH hsz,Bool.and_false];exact gP
 refine Nf adi ⟨_,e,rfl⟩ F.entry_list_extend (F.args_list_extend_2 _ _)
  (AutoSeq1.list_extend_list_list_0 l its.toArray n b its2.toArray n2 Rr (by rw[fW];omega) (by omega)) ⟨e,e2,?_⟩
 refine⟨.non,_,I.abk (its':=its++its2) hH e (by simp) (r.append r2) ?_,rfl,q⟩
 rw[fU];omega
def abm:R2:=fun x y H Q=>∃l b xs zs,x=.ref l∧y=.ref b∧H l=some (.lst xs)∧H b=some (.lst zs)∧xs.length+zs.length≤bM∧∀p,H p=none→Q (.ref p) (upd H p (.lst (xs++zs)))
theorem ajy:cC X (mV .Add) abm:=by
 intro pins s σ H x y v u Q I rx ry h
 obtain⟨l,b,xs,zs,rfl,rfl,hH,hB,hz,q⟩:=h
 cases rx;cases ry
 obtain⟨z,its,n,r,hl,e⟩:=I.An hH
 obtain⟨z2,its2,n2,r2,hl2,e2⟩:=I.An hB
 refine PySem.P.add_list e e2 ?_ (by rw[fW,fW];omega);have ea:its.toArray++its2.toArray=(its++its2).toArray:=by simp
 rw[ea]
 exact⟨.ref _,_,I.abl (t':=s.toks) (r.append r2) (by rw[fU];omega),rfl,q _ I.fresh⟩
def abn:R2:=fun x y H Q=>∃l k xs,x=.ref l∧y=.int k∧H l=some (.lst xs)∧-(2^63)≤k∧k<2^63∧xs.length*k.toNat≤bM∧
 ∀p,H p=none→Q (.ref p) (upd H p (.lst (cP k.toNat xs).flatten))
theorem len_rep{α:Type}(xs:List α)(k:Nat):(cP k xs).flatten.length=k*xs.length:=by
 induction k with
 |zero=>simp
 |succ k ih=>rw[rN,Bh,fU,ih,Nat.succ_mul,Nat.add_comm]
theorem ajz:cC X (mV .Mult) abn:=by
 intro pins s σ H x y v u Q I rx ry h
 obtain⟨l,k,xs,rfl,rfl,hH,h1,h2,hz,q⟩:=h
 cases rx
 obtain⟨t,rfl⟩:=ry
 obtain⟨z,its,n,r,hl,e⟩:=I.An hH
 have hlen:its.toArray.size*k.toNat≤bM:=by rw[fW,←hl];exact hz
 have hcap:¬its.toArray.size*k.toNat>(2^63-1) / 8:=by
  have:(bM:Nat)≤(2^63-1) / 8:=by decide
  omega
 have hfit:¬(!Builtin.List.listFitsIndex k)=true:=by
  rw[fitsIndex_both h1 h2];exact gP
 have Rr:¬Ky (its.toArray.size*k.toNat)=true:=by
  rw[XH hlen];exact gP
 have hnew:Wx (fun x1 x2=>x1++x2) #[] (cP (if its.toArray.isEmpty=true then 0 else k.toNat) its.toArray)=(cP k.toNat its).flatten.toArray:=by
  have f0:∀m:Nat,Wx (fun x1 x2=>x1++x2) #[] (cP m its.toArray)=(cP m its).flatten.toArray:=fun m=>by
   have:=foldl_rep its m [];rw[iT] at this;exact this
  rw[f0];cases its with
  |nil=>simp
  |cons a r'=>rw[if_neg (by simp)]
 refine wpAny_binaryOp_repeat_ref (T:="list") (U:="int") (by decide) ⟨_,e,rfl⟩ (fun s'=>Ww s' k t) noFill_list_mul F.fills_int_mul adZ repeat_list F.slot_int_index.lookup
  (Nf adZ (Ww s k t) F.entry_int_rmul (F.args_int_rmul_2 _ _) (int___rmul___int_list k t l its.toArray n)
   ⟨e,rfl,⟨_,e,rfl⟩,Nf F.slot_list_mul ⟨_,e,rfl⟩ F.entry_list_mul (F.args_list_mul_2 _ _) (AutoListH.list___mul___list_int_3 l its.toArray n k t hfit hcap Rr) ⟨e,?_⟩⟩)
 rw[hnew]
 exact⟨.ref _,_,I.abl (t':=s.toks) (r.rep k.toNat) (by rw[len_rep,Nat.mul_comm];exact hz),rfl,q _ I.fresh⟩
end
section
variable{prog:bf}{w:aY}{A:bY}{E:Value→au→Prop}{s:au}
set_option maxRecDepth 100000 in
end
section
variable{X:Cx}
end
section
variable{κ:Type}[DecidableEq κ]
def mD(kvs:List (κ×V))(k:κ):Option V:=(kvs.find? fun kv=>decide (kv.1=k)).map (·.2)
def putK(kvs:List (κ×V))(k:κ)(v:V):List (κ×V):=
 if(kvs.any fun kv=>decide (kv.1=k))=true then kvs.map (fun kv=>if kv.1=k then(kv.1,v) else kv) else kvs++[(k,v)]
def aaS(kvs:List (κ×V))(k:κ):List (κ×V):=kvs.filter fun kv=>decide (kv.1≠k)
theorem Ib{p:κ×V}{r:List (κ×V)}{k:κ}(e:p.1=k):mD (p::r) k=some p.2:=by simp[mD,ou,e]
theorem Ie{p:κ×V}{r:List (κ×V)}{k:κ}(e:¬p.1=k):mD (p::r) k=mD r k:=by simp[mD,ou,e]
theorem XJ(k:κ):∀kvs:List (κ×V),(kvs.any fun kv=>decide (kv.1=k))=(mD kvs k).isSome
 |[]=>rfl
 |p::r=>by
  rw[GJ];by_cases e:p.1=k
  ·simp only[Ib e,decide_eq_true e,Bool.true_or,Be]
  ·rw[Ie e,decide_eq_false e,Bool.false_or];exact XJ k r
theorem Hj(kvs:List (κ×V))(k:κ)(v:V):(putK kvs k v).length≤kvs.length+1:=by
 unfold putK;split
 ·rw[aW];omega
 ·rw[fU,cO,Bs];omega
theorem oW.Cj{o:Option V}{u:Option Value}(r:oW o u):o.isSome=u.isSome:=by
 cases o with
 |none=>cases u with
  |none=>rfl
  |some _=>exact(show False from r).elim
 |some _=>cases u with
  |none=>exact(show False from r).elim
  |some _=>rfl
theorem oW.getD{o:Option V}{u:Option Value}{d:V}{d':Value}(r:oW o u)(rd:RelV d d'):RelV (o.getD d) (u.getD d'):=by
 cases o with
 |none=>cases u with
  |none=>exact rd
  |some _=>exact(show False from r).elim
 |some _=>cases u with
  |none=>exact(show False from r).elim
  |some _=>exact r
theorem KV.val{kvs:List (κ×V)}{vs:List (κ×Value)}(r:KV kvs vs)(k:κ):oW (mD kvs k) (zO vs k):=by
 unfold KV at r;induction r with
 |nil=>exact lG
 |@cons p q ps qs h t ih=>
  obtain⟨h1,h2⟩:=h
  by_cases e:p.1=k
  ·have e':q.1=k:=h1.symm.trans e;have b:zO (q::qs) k=some q.2:=by simp[zO,ou,e']
   rw[Ib e,b];exact h2
  ·have e':¬q.1=k:=fun z=>e (h1.trans z)
   have b:zO (q::qs) k=zO qs k:=by simp[zO,ou,e']
   rw[Ie e,b];exact ih
theorem KV.any{kvs:List (κ×V)}{vs:List (κ×Value)}(r:KV kvs vs)(k:κ):(kvs.any fun kv=>decide (kv.1=k))=vs.any fun kv=>decide (kv.1=k):=by
 unfold KV at r;induction r with
 |nil=>rfl
 |cons h t ih=>rw[GJ,GJ,ih,h.1]
theorem KV.repl{kvs:List (κ×V)}{vs:List (κ×Value)}(r:KV kvs vs)(k:κ){y:V}{u:Value}(ry:RelV y u):
  KV (kvs.map fun kv=>if kv.1=k then(kv.1,y) else kv) (vs.map fun kv=>if kv.1=k then(kv.1,u) else kv):=by
 unfold KV at r⊢;induction r with
 |nil=>exact .nil
 |@cons p q ps qs h t ih=>
  rw[cg,cg];refine .cons ?_ ih
  obtain⟨h1,h2⟩:=h
  by_cases e:p.1=k
  ·rw[if_pos e,if_pos (h1.symm.trans e)];exact⟨h1,ry⟩
  ·rw[if_neg e,if_neg (fun z=>e (h1.trans z))];exact⟨h1,h2⟩
theorem KV.put{kvs:List (κ×V)}{vs:List (κ×Value)}(r:KV kvs vs)(k:κ){y:V}{u:Value}(ry:RelV y u):KV (putK kvs k y) (stored vs k u):=by
 unfold putK stored;rw[r.any k];by_cases e:(vs.any fun kv=>decide (kv.1=k))=true
 ·rw[if_pos e,if_pos e];exact r.repl k ry
 ·rw[if_neg e,if_neg e];exact Paired.snoc r ⟨rfl,ry⟩
theorem KV.drop{kvs:List (κ×V)}{vs:List (κ×Value)}(r:KV kvs vs)(k:κ):KV (aaS kvs k) (without vs k):=by
 unfold KV at r⊢;unfold aaS without;induction r with
 |nil=>exact .nil
 |@cons p q ps qs h t ih=>
  obtain⟨h1,h2⟩:=h
  rw[K7,K7];by_cases e:p.1=k
  ·have a:¬decide (p.1≠k)=true:=by simp[e]
   have b:¬decide (q.1≠k)=true:=by simp[h1.symm.trans e]
   rw[if_neg a,if_neg b];exact ih
  ·have e':¬q.1=k:=fun z=>e (h1.trans z)
   have a:decide (p.1≠k)=true:=by simp[e]
   have b:decide (q.1≠k)=true:=by simp[e']
   rw[if_pos a,if_pos b];exact .cons ⟨h1,h2⟩ ih
theorem KV.keys{kvs:List (κ×V)}{vs:List (κ×Value)}(r:KV kvs vs):kvs.map (·.1)=vs.map (·.1):=by
 unfold KV at r;induction r with
 |nil=>rfl
 |cons h t ih=>rw[cg,cg,ih,h.1]
theorem KV.length{kvs:List (κ×V)}{vs:List (κ×Value)}(r:KV kvs vs):kvs.length=vs.length:=Paired.length r
end
theorem vQ{P:bf}{w:aY}{k:Key}{u:Value}(r:RelV (kV k) u):(jk P w).is k u=true:=by
 cases k with
 |inl i=>obtain⟨t,e⟩:=(show ∃t,u=HH i t from r);subst e;exact aeW P w i t
 |inr x=>obtain⟨t,e⟩:=(show ∃t,u=HJ x t from r);subst e;exact aeX P w x t
theorem ajA{a b:Key}(e:kV a=kV b):a=b:=by
 cases a with
 |inl i=>cases b with
  |inl j=>have e':V.int i=V.int j:=e;injection e' with e';rw[e']
  |inr y=>exact nomatch(show V.int i=V.str y from e)
 |inr x=>cases b with
  |inl j=>exact nomatch(show V.str x=V.int j from e)
  |inr y=>have e':V.str x=V.str y:=e;injection e' with e';rw[e']
theorem Y7:∀{a b:List Key},a.map kV=b.map kV→a=b
 |[],[],_=>rfl
 |[],_::_,e=>by simp at e
 |_::_,[],e=>by simp at e
 |x::xs,y::ys,e=>by
  rw[cg,cg] at e;injection e with e1 e2
  rw[ajA e1,Y7 e2]
theorem Xc{P:bf}{w:aY}:∀{ks:List Key}{us:List Value},Vals (ks.map kV) us→ItemsAre (jk P w) ks us
 |[],_,r=>by rw[lD] at r;cases r;exact .nil
 |k::ks,_,r=>by
  rw[cg] at r;cases r with
  |cons h t=>exact .cons (vQ h) (Xc t)
abbrev KT(H:Hp):List (List Key×V)→List (List Key×aa×Value)→Prop:=Paired fun p q=>p.1=q.1∧H q.2.1=some (.tup (p.1.map kV))∧RelV p.2 q.2.2
theorem KT.val{H:Hp}{kvs:List (List Key×V)}{xs:List (List Key×aa×Value)}(r:KT H kvs xs)(k:List Key):oW (mD kvs k) ((vR xs k).map (·.2)):=by
 induction r with
 |nil=>exact lG
 |@cons p q ps qs h t ih=>
  obtain⟨h1,_,h2⟩:=h
  by_cases e:p.1=k
  ·have e':q.1=k:=h1.symm.trans e;have b:vR (q::qs) k=some q.2:=by simp[vR,ou,e']
   rw[Ib e,b];exact h2
  ·have e':¬q.1=k:=fun z=>e (h1.trans z)
   have b:vR (q::qs) k=vR qs k:=by simp[vR,ou,e']
   rw[Ie e,b];exact ih
theorem KT.repl{H:Hp}{kvs:List (List Key×V)}{xs:List (List Key×aa×Value)}(r:KT H kvs xs)(k:List Key){y:V}{u:Value}(ry:RelV y u):
  KT H (kvs.map fun kv=>if kv.1=k then(kv.1,y) else kv) (xs.map (putAt k u)):=by
 induction r with
 |nil=>exact .nil
 |@cons p q ps qs h t ih=>
  rw[cg,cg];refine .cons ?_ ih
  obtain⟨h1,h2,h3⟩:=h
  unfold putAt;by_cases e:p.1=k
  ·rw[if_pos e,if_pos (h1.symm.trans e)];exact⟨h1,h2,ry⟩
  ·rw[if_neg e,if_neg (fun z=>e (h1.trans z))];exact⟨h1,h2,h3⟩
theorem KT.put{H:Hp}{kvs:List (List Key×V)}{xs:List (List Key×aa×Value)}(r:KT H kvs xs)(k:List Key){b:aa}{y:V}{u:Value}(hb:H b=some (.tup (k.map kV)))(ry:RelV y u):
  KT H (putK kvs k y) (storedH xs k b u):=by
 have e:(kvs.any fun kv=>decide (kv.1=k))=(vR xs k).isSome:=by
  rw[XJ,(r.val k).Cj,Bj]
 unfold putK storedH;rw[e];by_cases q:(vR xs k).isSome=true
 ·rw[if_pos q,if_pos q];exact r.repl k ry
 ·rw[if_neg q,if_neg q];exact Paired.snoc r ⟨rfl,hb,ry⟩
theorem KT.keeps{H H':Hp}{kvs:List (List Key×V)}{xs:List (List Key×aa×Value)}(r:KT H kvs xs)(ht:∀b ys,H b=some (.tup ys)→H' b=some (.tup ys)):KT H' kvs xs:=
 Paired.RM r fun _ _ z=>⟨z.1,ht _ _ z.2.1,z.2.2⟩
section
variable{P:bf}{w:aY}{H:Hp}{h:aV}{a:aa}
theorem aaT{u:HO}(ok:gA P w H h)(e:Rd H a u):eY P w H h a u:=e.ok ok
theorem vU{kvs:List (Key×V)}(ok:gA P w H h)(e:Rd H a (.dK kvs)):kvs.length≤bM∧(a==rU)=false∧∃vs,KV kvs vs∧h.DictOf (jk P w) a vs:=
 show eY P w H h a (.dK kvs) from aaT ok e
theorem JB{kvs:List (Key×V)}(ok:gA P w H h)(e:H a=some (.dK kvs)):kvs.length≤bM∧(a==rU)=false∧∃vs,KV kvs vs∧h.DictOf (jk P w) a vs:=vU ok (.inl e)
theorem z6{ks:List Key}(ok:gA P w H h)(e:H a=some (.tup (ks.map kV))):(Cg (jk P w)).is h ks a:=by
 obtain⟨_,its,r,o,h1,h2,n,h3⟩:=(show eY P w H h a (.tup (ks.map kV)) from ok a _ e)
 exact⟨o,its.toArray,n,h1,h2,h3,by simpa using Xc r⟩
theorem ye{kvs:List (List Key×V)}(ok:gA P w H h)(e:Rd H a (.dT kvs)):kvs.length≤bM∧(a==rU)=false∧
  ∃xs,KT H kvs xs∧h.DictOfH (Cg (jk P w)) a xs:=by
 obtain⟨z,y,xs,r,o,es,ep,h1,h2,h3,h4,h5⟩:=(show eY P w H h a (.dT kvs) from aaT ok e)
 refine⟨z,y,xs,r,o,es,ep,h1,h2,h3,h4,fun x hx=>?_,h5⟩
 have all:∀{l:List (List Key×V)}{m:List (List Key×aa×Value)},KT H l m→∀x∈m,(Cg (jk P w)).is h x.1 x.2.1:=by
  intro l m q;induction q with
  |nil=>intro x hx;exact nomatch hx
  |@cons p q ps qs hq t ih=>
   intro x hx;rcases bU.mp hx with e|hx
   ·subst e;exact z6 ok (by rw[←hq.1];exact hq.2.1)
   ·exact ih x hx
 exact all r x hx
theorem akI{kvs:List (List Key×V)}(ok:gA P w H h)(e:H a=some (.dT kvs)):kvs.length≤bM∧(a==rU)=false∧
  ∃xs,KT H kvs xs∧h.DictOfH (Cg (jk P w)) a xs:=ye ok (.inl e)
end
def lQ(H:Hp)(a:aa)(y:V)(r:Option V):Prop:=
 (∃kvs k,Rd H a (.dK kvs)∧y=kV k∧r=mD kvs k)∨∃kvs k b,Rd H a (.dT kvs)∧y=.ref b∧H b=some (.tup (k.map kV))∧r=mD kvs k
def q9(H:Hp)(a:aa)(y v:V)(H':Hp):Prop:=
 (∃kvs k,H a=some (.dK kvs)∧y=kV k∧kvs.length<bM∧H'=upd H a (.dK (putK kvs k v)))∨
 ∃kvs k b,H a=some (.dT kvs)∧y=.ref b∧H b=some (.tup (k.map kV))∧kvs.length<bM∧H'=upd H a (.dT (putK kvs k v))
theorem lQ.k{H:Hp}{a:aa}{kvs:List (Key×V)}{k:Key}(e:H a=some (.dK kvs)):lQ H a (kV k) (mD kvs k):=.inl ⟨kvs,k,.inl e,rfl,rfl⟩
theorem lQ.t{H:Hp}{a b:aa}{kvs:List (List Key×V)}{k:List Key}(e:H a=some (.dT kvs))(eb:H b=some (.tup (k.map kV))):lQ H a (.ref b) (mD kvs k):=.inr ⟨kvs,k,b,.inl e,rfl,eb,rfl⟩
theorem q9.k{H:Hp}{a:aa}{kvs:List (Key×V)}{k:Key}{v:V}(e:H a=some (.dK kvs))(hl:kvs.length<bM):q9 H a (kV k) v (upd H a (.dK (putK kvs k v))):=.inl ⟨kvs,k,e,rfl,hl,rfl⟩
theorem q9.t{H:Hp}{a b:aa}{kvs:List (List Key×V)}{k:List Key}{v:V}(e:H a=some (.dT kvs))(eb:H b=some (.tup (k.map kV)))(hl:kvs.length<bM):
  q9 H a (.ref b) v (upd H a (.dT (putK kvs k v))):=.inr ⟨kvs,k,b,e,rfl,eb,hl,rfl⟩
section
variable{X:Cx}{pins:List (aa×Obj)}{σ:St}{H:Hp}{s:au}{a:aa}{y v:V}{u r:Value}{o:Option V}{A:bY}{E:Value→au→Prop}
theorem Inv.big(I:Inv X pins σ H s):rU<s.heap.objs.size:=by
 have h:gk<s.heap.objs.size:=(I.mod.glob.keeps I.bk).lt;exact G3 (by decide) h
theorem af4{Q:Value→au→Prop}(hu:A.units+1<eU)(I:Inv X pins σ H s)(g:lQ H a y (some v))(ry:RelV y u)(h:∀w' s',Inv X pins σ H s'→RelV v w'→Q w' s'):
  aM (model X.prog X.w) A (vI (.ref a) u) Q E s:=by
 rcases g with⟨kvs,k,e,ey,l⟩|⟨kvs,k,b,e,ey,eb,l⟩
 ·subst ey
  obtain⟨z,hd,vs,rel,dd⟩:=vU I.hok e
  obtain⟨w',hw,rw'⟩:=oW.some_of (v:=v) (o:=zO vs k) (by rw[l];exact rel.val k)
  exact wpAny_getItem_of (vQ ry) dd.mapOf hw (h w' _ (I.tok _) rw')
 ·subst ey
  cases(show u=dM b from ry)
  obtain⟨z,hd,xs,rel,dd⟩:=ye I.hok e
  obtain⟨w',hw,rw'⟩:=oW.some_of (v:=v) (o:=(vR xs k).map (·.2)) (by rw[l];exact rel.val k)
  obtain⟨p,hp,hp2⟩:=Ga.mp hw
  refine wpAny_getItem_heap (Gj hu) (z6 I.hok eb) dd hp ?_;rw[hp2];exact h w' _ (I.tok _) rw'
theorem abo{Q:Value→au→Prop}(hu:A.units+1<eU)(I:Inv X pins σ H s)(g:lQ H a y o)(ry:RelV y u)(h:∀s',Inv X pins σ H s'→Q (.bool o.isSome) s'):
  aM (model X.prog X.w) A (dZ .In u (.ref a)) Q E s:=by
 rcases g with⟨kvs,k,e,ey,l⟩|⟨kvs,k,b,e,ey,eb,l⟩
 ·subst ey
  obtain⟨z,hd,vs,rel,dd⟩:=vU I.hok e
  refine wpAny_in_of (vQ ry) hd dd.mapOf ?_;rw[←(rel.val k).Cj,←l];exact h _ (I.tok _)
 ·subst ey
  cases(show u=dM b from ry)
  obtain⟨z,hd,xs,rel,dd⟩:=ye I.hok e
  refine wpAny_in_heap (Gj hu) (z6 I.hok eb) hd dd ?_;have q:=(rel.val k).Cj;rw[Bj] at q;rw[←q,←l];exact h _ (I.tok _)
theorem Y8{Q:Value→au→Prop}(hu:A.units+1<eU)(I:Inv X pins σ H s)(g:lQ H a y o)(ry:RelV y u)(h:∀s',Inv X pins σ H s'→Q (.bool (!o.isSome)) s'):
  aM (model X.prog X.w) A (dZ .NotIn u (.ref a)) Q E s:=by
 rcases g with⟨kvs,k,e,ey,l⟩|⟨kvs,k,b,e,ey,eb,l⟩
 ·subst ey
  obtain⟨z,hd,vs,rel,dd⟩:=vU I.hok e
  refine wpAny_notIn_of (vQ ry) hd dd.mapOf ?_;rw[←(rel.val k).Cj,←l];exact h _ (I.tok _)
 ·subst ey
  cases(show u=dM b from ry)
  obtain⟨z,hd,xs,rel,dd⟩:=ye I.hok e
  refine wpAny_notIn_heap (Gj hu) (z6 I.hok eb) hd dd ?_;have q:=(rel.val k).Cj;rw[Bj] at q;rw[←q,←l];exact h _ (I.tok _)
theorem xO{h':aV}{t':Nat}{ob:HO}(I:Inv X pins σ H s)(mu:Er (H a))(hs:zu a s.heap h')(he:∃q,h'.get? a=some q)(new:eY X.prog X.w (upd H a ob) h' a ob):
  Inv X pins σ (upd H a ob) {s with heap:=h',toks:=t'}:=
 I.write (x:=a) (e:=a) mu (.inl rfl) (fun b q hb z=>(hs.2 b hb).trans z) he new
theorem Jm{P:bf}{w:aY}{H':Hp}{h':aV}{kvs:List (Key×V)}{vs:List (Key×Value)}(z:kvs.length≤bM)(hd:(a==rU)=false)(rel:KV kvs vs)(dd:h'.DictOf (jk P w) a vs):
  eY P w H' h' a (.dK kvs):=⟨z,hd,vs,rel,dd⟩
theorem Xd{H':Hp}{Q:Unit→au→Prop}(hu:A.units+1<eU)(I:Inv X pins σ H s)(g:q9 H a y v H')(ry:RelV y u)(rv:RelV v r)(h:∀s',Inv X pins σ H' s'→Q () s'):
  aM (model X.prog X.w) A (setItem (.ref a) u r) Q E s:=by
 rcases g with⟨kvs,k,e,ey,l,eH⟩|⟨kvs,k,b,e,ey,eb,l,eH⟩
 ·subst ey eH
  obtain⟨z,hd,vs,rel,dd⟩:=JB I.hok e
  have hz:vs.length≤bM:=by rw[←rel.length];exact z
  have hl:(putK kvs k v).length≤bM:=by have:=Hj kvs k v;omega
  refine wpAny_setItem_pairs (hsz:=hz) (vQ ry) dd fun h' tO hs=>h _ ?_
  have he:∃q,h'.get? a=some q:=let ⟨q,_,_,hq,_⟩:=tO;⟨q,hq⟩
  exact xO I (by rw[e];exact lG) hs he (Jm hl hd (rel.put k rv) tO)
 ·subst ey eH
  cases(show u=dM b from ry)
  obtain⟨z,hd,xs,rel,dd⟩:=akI I.hok e
  have hz:xs.length≤bM:=by rw[←Paired.length rel];exact z
  have hl:(putK kvs k v).length≤bM:=by have:=Hj kvs k v;omega
  refine wpAny_setItem_heap (hsz:=hz) (Gj hu) (z6 I.hok eb) dd fun h' tO hs=>h _ ?_
  obtain⟨q,es,ep,hq,h2,h3,h4,_,h5⟩:=tO
  refine xO I (by rw[e];exact lG) hs ⟨q,hq⟩ ⟨hl,hd,_,(rel.put k eb rv).keeps fun c ys ec=>?_,q,es,ep,hq,h2,h3,h4,h5⟩;rw[cJ (Rh ec e (fun z=>nomatch z))];exact ec
end
section
variable{X:Cx}{pins:List (aa×Obj)}{σ:St}{H:Hp}{s:au}{a:aa}{kvs:List (Key×V)}{k:Key}{u:Value}{A:bY}{E:Value→au→Prop}
theorem akJ{Q:Value→au→Prop}(I:Inv X pins σ H s)(e:Rd H a (.dK kvs))(h:∀t s',Inv X pins σ H s'→Q (.int kvs.length t) s'):aM (model X.prog X.w) A (call (.builtin "len") [.ref a]) Q E s:=by
 obtain⟨z,hd,vs,rel,dd⟩:=vU I.hok e
 refine call_len_dict hd dd (by rw[←rel.length];rw[jg] at z;omega) ?_;rw[←rel.length];exact h _ _ (I.tok _)
end
theorem aeY{X:Cx}{pins:List (aa×Obj)}{σ:St}{H:Hp}{s:au}{a:aa}{y:V}{o:Option V}(I:Inv X pins σ H s)(g:lQ H a y o):s.TypeIs (.ref a) "dict":=by
 rcases g with⟨kvs,k,e,_,_⟩|⟨kvs,k,b,e,_,_,_⟩
 ·obtain⟨_,_,vs,_,dd⟩:=vU I.hok e
  exact dd.typeIs
 ·obtain⟨_,_,xs,_,dd⟩:=ye I.hok e
  exact dd.typeIs
section
variable{X:Cx}{o i e value:Expr}{pos pos' tpos:Pos}{td ty tv:TE}
end
theorem Oi{P:bf}{w:aY}{H:Hp}(h:aV)(hb:rU<h.objs.size):eY P w H (h.push {cls:=.type "dict",data:=.dict #[]}) h.objs.size (.dK []):=
 ⟨lF _,beq_eq_false_iff_ne.mpr (jQ (dO hb)),[],.nil,Heap.DictOf.new h⟩
def ajB:TE:=fun _ H Q=>∀p,H p=none→Q (.ref p) (upd H p (.dK []))
section
variable{X:Cx}{pos:Pos}
theorem agW:PE X (.Dict [] [] pos) ajB:=fun pins s σ H Q I h=>
 wpAny_Dict_empty ⟨.ref s.heap.objs.size,_,I.laid (a:=s.heap.objs.size) (o:=.dK []) (t':=s.toks) (fun _ _ q=>cD _ q) (bO _) (Oi s.heap I.big),rfl,h _ (I.hok.fresh (bO _))⟩
end
def QL:List (TE×TE)→St→Hp→(List (V×V)→Hp→Prop)→Prop
 |[],_,H,Q=>Q [] H
 |(tk,tv)::r,σ,H,Q=>tk σ H fun x H1=>tv σ H1 fun y H2=>QL r σ H2 fun ps H3=>Q ((x,y)::ps) H3
abbrev VV:List (V×V)→List (Value×Value)→Prop:=Paired fun p q=>RelV p.1 q.1∧RelV p.2 q.2
def J7(X:Cx)(pos:Pos)(keys:List (Option Expr))(values:List Expr)(uW:List (TE×TE)):Prop:=
 ∀(pins:List (aa×Obj))(s:au)(σ:St)(H:Hp)(Q:List (V×V)→Hp→Prop),Inv X pins σ H s→QL uW σ H Q→
  aM (model X.prog X.w) X.A (evalPairs (pairTrees keys values X.env pos)) (fun vs s'=>∃ps H',Inv X pins σ H' s'∧VV ps vs∧Q ps H') X.xe s
theorem ah8{X:Cx}{pos:Pos}:J7 X pos [] [] []:=fun pins s σ H Q I h=>pairTrees_nil_walk ⟨[],H,I,.nil,h⟩
theorem agX{X:Cx}{pos:Pos}{k v:Expr}{ks:List (Option Expr)}{vs:List Expr}{tk tv:TE}{uW:List (TE×TE)}(hk:PE X k tk)(hv:PE X v tv)(hr:J7 X pos ks vs uW):
  J7 X pos (some k::ks) (v::vs) ((tk,tv)::uW):=fun pins s σ H Q I h=>
 pairTrees_cons_walk (bu (hk pins s σ H _ I h) fun u s1 ⟨x,H1,I1,rx,q1⟩=>bu (hv pins s1 σ H1 _ I1 q1) fun w2 s2 ⟨y,H2,I2,ry,q2⟩=>
  bu (hr pins s2 σ H2 _ I2 q2) fun ws s3 ⟨ps,H3,I3,rel,q3⟩=>⟨(x,y)::ps,H3,I3,.cons ⟨rx,ry⟩ rel,q3⟩)
def Dg(kvs more:List (Key×V)):List (Key×V):=more.foldl (fun acc kv=>putK acc kv.1 kv.2) kvs
theorem KV.merge:∀{more:List (Key×V)}{rs:List (Key×Value)}{kvs:List (Key×V)}{vs:List (Key×Value)},KV more rs→KV kvs vs→KV (Dg kvs more) (merged vs rs):=by
 intro more rs kvs vs r;unfold KV at r;induction r generalizing kvs vs with
 |nil=>intro q;exact q
 |@cons p q ps qs h t ih=>
  intro r0;have e:KV (putK kvs p.1 p.2) (stored vs q.1 q.2):=by
   have:=r0.put p.1 h.2;rw[←h.1];exact this
  exact ih e
theorem VL:∀(more kvs:List (Key×V)),(Dg kvs more).length≤kvs.length+more.length
 |[],kvs=>by show kvs.length≤kvs.length+0;omega
 |p::r,kvs=>by
  have h1:=VL r (putK kvs p.1 p.2);have h2:=Hj kvs p.1 p.2
  show(Dg (putK kvs p.1 p.2) r).length≤_
  rw[cO];omega
theorem Wy{P:bf}{w:aY}:∀{kvs:List (Key×V)}{ws:List (Value×Value)},VV (kvs.map fun kv=>(kV kv.1,kv.2)) ws→∃rs,Carries (jk P w) ws rs∧KV kvs rs
 |[],_,r=>by rw[lD] at r;cases r;exact⟨[],lG,.nil⟩
 |p::kvs,_,r=>by
  rw[cg] at r;cases r with
  |@cons a b as bs h t=>
   obtain⟨rs,c,q⟩:=Wy (P:=P) (w:=w) t
   obtain⟨b1,b2⟩:=b
   exact⟨(p.1,b2)::rs,⟨vQ h.1,rfl,c⟩,.cons ⟨rfl,h.2⟩ q⟩
def akK(uW:List (TE×TE)):TE:=fun σ H Q=>∀p,H p=none→QL uW σ (upd H p (.dK [])) fun ps H2=>H2 p=some (.dK [])∧∃kvs:List (Key×V),ps=kvs.map (fun kv=>(kV kv.1,kv.2))∧kvs.length≤15∧Q (.ref p) (upd H2 p (.dK (Dg [] kvs)))
theorem ah9{X:Cx}{pos:Pos}{keys:List (Option Expr)}{values:List Expr}{uW:List (TE×TE)}(h:J7 X pos keys values uW)(hall:keys.all (·.isSome)=true)(hl:keys.length=values.length)(h0:keys≠[])
  (h15:keys.length≤15):PE X (.Dict keys values pos) (akK uW):=by
 intro pins s σ H Q I q;have hn:=I.hok.fresh (bO s.heap.objs.size);have I1:=I.laid (a:=s.heap.objs.size) (o:=.dK []) (h':=s.heap.push {cls:=.type "dict",data:=.dict #[]}) (t':=s.toks) (fun _ _ q=>cD _ q) (bO _) (Oi s.heap I.big);refine wpAny_Dict_walk (knd:=jk X.prog X.w) hall hl h0 h15 (bu (h pins _ σ _ _ I1 (q _ hn)) fun ws s2 aK=>?_)
 obtain⟨ps,H2,I2,rel,e,kvs,ep,lk,q2⟩:=aK
 subst ep
 obtain⟨rs,c,rk⟩:=Wy (P:=X.prog) (w:=X.w) rel
 obtain⟨z,hd,J8,r0,dd⟩:=JB I2.hok e
 cases r0
 refine⟨rs,c,dd,fun h' tO hs=>⟨.ref s.heap.objs.size,_,?_,rfl,q2⟩⟩
 have hz:(Dg [] kvs).length≤bM:=by
  have h1:=VL kvs [];rw[Bs] at h1;rw[jg];omega
 have he:∃q,h'.get? s.heap.objs.size=some q:=let ⟨q,_,_,hq,_⟩:=tO;⟨q,hq⟩
 exact xO I2 (by rw[e];exact lG) hs he (Jm hz hd (rk.merge .nil) tO)
structure M1(X:Cx)(o:Expr)(m:Str)(apos:Pos)(e:Expr)(cpos:Pos):Prop where
 base:xu o m X.env (eval o X.env)=eval o X.env
 few:((gm cpos (aZ [e] X.env)).all (fun x=>!x.1)&&(Cp cpos (BR [] X.env)).all (fun x=>x.1.isSome)
  &&decide (([e]:List Expr).length+([]:List pR).length+(if([]:List pR).isEmpty then 0 else 1)<30))=true
 line:(apos.endLine==cpos.line)=true
 trees:gm cpos (aZ [e] X.env)=[(false,eval e X.env)]
structure M2(X:Cx)(o:Expr)(m:Str)(apos:Pos)(e f:Expr)(cpos:Pos):Prop where
 base:xu o m X.env (eval o X.env)=eval o X.env
 few:((gm cpos (aZ [e,f] X.env)).all (fun x=>!x.1)&&(Cp cpos (BR [] X.env)).all (fun x=>x.1.isSome)
  &&decide (([e,f]:List Expr).length+([]:List pR).length+(if([]:List pR).isEmpty then 0 else 1)<30))=true
 line:(apos.endLine==cpos.line)=true
 trees:gm cpos (aZ [e,f] X.env)=[(false,eval e X.env),(false,eval f X.env)]
def IsD(H:Hp)(a:aa):Prop:=(∃kvs,Rd H a (.dK kvs))∨∃kvs,Rd H a (.dT kvs)
theorem ajC{X:Cx}{pins:List (aa×Obj)}{σ:St}{H:Hp}{s:au}{a:aa}(I:Inv X pins σ H s)(d:IsD H a):
  s.TypeIs (.ref a) "dict"∧(∀b,dM a=.ref b→∃ob,s.heap.get? b=some ob∧ob.dict=none)∧(a==rU)=false:=by
 rcases d with⟨kvs,e⟩|⟨kvs,e⟩
 ·obtain⟨_,hd,vs,_,dd⟩:=vU I.hok e
  refine⟨dd.typeIs,fun b q=>?_,hd⟩
  cases q
  obtain⟨ob,_,_,h1,h2,_⟩:=dd
  exact⟨ob,h1,h2.2.1⟩
 ·obtain⟨_,hd,xs,_,dd⟩:=ye I.hok e
  refine⟨dd.typeIs,fun b q=>?_,hd⟩
  cases q
  obtain⟨ob,_,_,h1,h2,_⟩:=dd
  exact⟨ob,h1,h2.2.1⟩
section
variable{X:Cx}{pins:List (aa×Obj)}{σ:St}{H:Hp}{s:au}{a:aa}{y d:V}{u r:Value}{o:Option V}{A:bY}{E:Value→au→Prop}
theorem aac{Q:Value→au→Prop}(hu:A.units+1<eU)(I:Inv X pins σ H s)(g:lQ H a y o)(ry:RelV y u)(rd:RelV d r)(h:∀w' s',Inv X pins σ H s'→RelV (o.getD d) w'→Q w' s'):
  aM (model X.prog X.w) A (call (.builtin "dict.get") [.ref a,u,r]) Q E s:=by
 rcases g with⟨kvs,k,e,ey,l⟩|⟨kvs,k,b,e,ey,eb,l⟩
 ·subst ey
  obtain⟨z,hd,vs,rel,dd⟩:=vU I.hok e
  refine call_meetsIn Uk dd.typeIs acO (acF _ _ _) (meets_dict_get_default (jk X.prog X.w) a (vQ ry) hd r) ⟨_,dd.mapOf,h _ _ (I.tok _) ?_⟩;rw[l]
  exact(rel.val k).getD rd
 ·subst ey
  cases(show u=dM b from ry)
  obtain⟨z,hd,xs,rel,dd⟩:=ye I.hok e
  refine call_meetsIn Uk dd.typeIs acO (acF _ _ _) (meetsH_dict_get_default (Cg (jk X.prog X.w)) a b hd r) ⟨Gj hu,k,xs,z6 I.hok eb,dd,h _ _ (I.tok _) ?_⟩;rw[l]
  exact(rel.val k).getD rd
end
section
variable{X:Cx}{o e f:Expr}{apos cpos:Pos}{td ty tx:TE}
end
section
variable{X:Cx}{pins:List (aa×Obj)}{σ:St}{H:Hp}{s:au}{a:aa}{kvs:List (Key×V)}{A:bY}{E:Value→au→Prop}
end
section
variable{X:Cx}{pins:List (aa×Obj)}{σ:St}{H:Hp}{s:au}{a:aa}{y:V}{u:Value}{A:bY}{E:Value→au→Prop}
end
end L2
namespace Att
open PySem PySem.W PySem.Calls PyProof.Rows
theorem ad0{P:Params}{h:aV}:∀(ns:List Int)(vs:List Value),WellAll P h vs (ns.map WData.int)→IntsAre vs ns:=by
 intro ns;induction ns with
 |nil=>
  intro vs w;rw[lD] at w;cases w;exact .nil
 |cons n ns ih=>
  intro vs w;rw[cg] at w;cases w with
  |cons a b=>
   cases a;exact .cons _ _ (ih _ b)
theorem af5{l:OpenLaw}{n:Nat}(hn:l.most=some n){P:Params}{h:aV}{args:List WData}{vals:List Value}
  (hpre:l.row.toRowW.claim.pre args=true)(hwl:WellAll P h vals args):
  ∃a vs ns,vals=[dM a]∧args=[WData.list (ns.map WData.int)]∧h.get? a=some {cls:=.type "list",data:=.seq vs.toArray}∧IntsAre vs ns∧ns.length≤n:=by
 have hsh:WShape.hasAll [] args [.list .int]=true:=(pre_splitW hpre).1;have hc:l.pre.holds [] {args:=args}=true:=(pre_splitW hpre).2
 obtain⟨d,r,rfl,h1,h2⟩:=hasAllW_cons hsh
 obtain rfl:=hasAllW_nil h2
 obtain⟨xs,rfl,h3⟩:=hasW_list h1
 obtain⟨ns,rfl⟩:=items_int h3
 have hlen:ns.length≤n:=by
  unfold OpenLaw.pre at hc;have h4:(WTm.not (.lt (.lit (.int (n:Int))) (.len (.arg 0)))).holds [] {args:=[.list (ns.map .int)]}=true:=by
   have h4:=(holds_andW hc).1;rw[hn] at h4;exact h4
  have h5:=condW_of h4 (w_not (w_lt w_lit (w_len_list (w_arg rfl))));rw[aW] at h5;refine Nat.le_of_not_lt fun q=>?_
  have q':(n:Int)<((ns.length:Nat):Int):=by omega
  first
   |(rw[decide_eq_true q'] at h5;exact absurd h5 (by decide))
   |(simp at h5;omega)
 cases hwl with
 |cons w1 w2=>
  cases w2;cases w1 with
  |list ho hall=>exact⟨_,_,ns,rfl,rfl,ho,ad0 ns _ hall,hlen⟩
theorem af6(l:OpenLaw)(args:List WData):l.row.toRowW.claim.post args (.bool true) args=true:=
 postW_of (r:=l.row.toRowW) (X:=(true==true))
  (show WShape.has [] (.bool true) .bool=true by first|rfl|decide|simp[WShape.has,WShape.arms,WShape.armsAll])
  (show(WTm.eq .res (.lit (.bool true))).value [] {args:=args,res:=some (.bool true),after:=args}=some (.bool (true==true)) from w_eq_bool (w_res rfl) w_lit) rfl
theorem aeZ{l:OpenLaw}{n:Nat}{q:bf}{loose:List Str}{XP:(Str→Option Value)→aV→Prop}{YP:aY→aV→Prop}{d:DefRec}
  (hn:l.most=some n)(hdf:d.params.defaults=[])
  (call:∀(w:aY)(s₀ s₁:au)(mg mb:Str→Option Value)(fa:aa)(o:Obj)(pm cd doc:Value)(a:aa)(vs:List Value)(ns:List Int),
   Ground q loose [] XP w s₀ mg mb s₁.heap→YP w s₁.heap→
   s₁.heap.get? fa=some o→o.data=.func (docDef d.name d.params d.body d.scope pm cd doc)→s₁.heap.CodeRec cd d.name→mg d.name=some (.ref fa)→
   s₁.heap.get? a=some {cls:=.type "list",data:=.seq vs.toArray}→IntsAre vs ns→ns.length≤n→s₁.gens=#[]→
   j8 (model l.prog w) zP (.call (.ref fa) ⟨[.ref a],[]⟩) (fun r s'=>r=.ok (.ret (.bool true))∧OldK s₁.heap s'.heap∧s'.os=s₁.os∧AllBare s'.gens) s₁):
  WalkO q loose XP YP l.row.toRowW d [] (fun f vs=>Wz f vs):=by
 intro w s₀ s₁ mg mb G Y fa o pm cd doc dV kV ho hd hcd hD hmg hg args vals as hpre hlay hrd hwl hlo;obtain rfl:dV=.none:=Dflts.none hD hdf;obtain rfl:kV=.none:=Dflts.noKw hD
 obtain⟨a,vs,ns,rfl,rfl,hobj,hints,hlen⟩:=af5 hn hpre hwl
 refine enter_call (GX (call w s₀ s₁ mg mb fa o pm cd doc a vs ns G Y ho (fd_plain hd) hcd hmg hobj hints hlen hg) fun r s' hq=>?_)
 obtain⟨rfl,h2,h3,h4⟩:=hq
 exact⟨.inl ⟨.bool true,.bool true,[],rfl,fun _=>rfl,.bool true,af6 l _,fun _=>⟨yQ,fun _ hm=>(nomatch hm)⟩⟩,h2,h3,h4⟩
section
variable{prog:bf}{w:aY}{A:bY}{E:Value→au→Prop}{s:au}{K:Frag}
def ledger(h:aV)(L d:aa):List (aa×Obj):=(dJ h.objs.size).filterMap fun a=>if a=L∨a=d then none else(h.get? a).map fun o=>(a,o)
end
end Att
namespace L2
open PySem PySem.Spec PyProof.Rows
theorem Xe:∀{vs:List Value}{ns:List Int},IntsAre vs ns→Vals (ns.map V.int) vs
 |_,_,.nil=>.nil
 |_,_,.cons n t h=>.cons ⟨t,rfl⟩ (Xe h)
def Only(H:Hp):Prop:=∀b,H b=none∨∃o xs,H b=some (.lg o (.lst xs))
theorem agY{P:bf}{w:aY}{K:aG}{mg mb:Str→Option Value}{CX:pA}{k:Nat}{fa a:aa}{fd:dw}{x:Str}{sp:Sp}{s₁:au}{vs:List Value}{ns:List Int}
  (KX:K.In s₁.heap)(hns:s₁.heap.Ns gk mg)(hb:s₁.heap.Ns builtinsNs mb)(hbb:∀x:Str,x≠"__name__"→mb x=rR x)(hlim:s₁.heap.NoLimit)(hg:s₁.gens=#[])
  (ha:s₁.heap.get? a=some {cls:=.type "list",data:=.seq vs.toArray})(hi:IntsAre vs ns)(hl:ns.length≤bM)(hr:gZ k zP)
  (F:∀base:aV,K.In base→base.Ns gk mg→di P w K mg base CX k fa fd [x] sp)(hbind:∀(s:au)(u:Value),xN s fd ⟨[u],[]⟩ [(x,u)])
  (hsp:∀H:Hp,Only H→bK K H a (ns.map V.int)→sp [.ref a] H (fun v _=>v=.bl true) fun _ _ _=>False)
  (SN:∀H e s',CX [] H s₁ (fun _ _ _=>False) e s'→False):
  j8 (model P w) zP (.call (.ref fa) ⟨[.ref a],[]⟩) (fun r s'=>r=.ok (.ret (.bool true))∧OldK s₁.heap s'.heap∧s'.os=s₁.os∧AllBare s'.gens) s₁:=by
 have rv:=Xe hi;have lenV:=hi.length;have core:∀H:Hp,Only H→bK K H a (ns.map V.int)→gA P w H s₁.heap→(∀b,H b≠none→b=a)→(H a≠none→K.lookup a=none)→
   j8 (model P w) zP (.call (.ref fa) ⟨[.ref a],[]⟩) (fun r s'=>r=.ok (.ret (.bool true))∧OldK s₁.heap s'.heap∧s'.os=s₁.os∧AllBare s'.gens) s₁:=by
  intro H hO hS hok hA hK;have Y9:∀{b:aa}{o:Obj},s₁.heap.get? b=some o→H b=none→(uJ s₁.heap H).get? b=some o:=fun e n=>agN e n
  have Ey:∀{b:aa}{o:Obj}{es:Array DictEntry}{ep:Nat},s₁.heap.get? b=some o→o.data=.dict es ep→H b=none:=fun{b o es ep} e d=>by
   cases q:H b with
   |none=>rfl
   |some u=>
    have e':b=a:=hA b (by rw[q];simp);subst e';rw[ha] at e;cases e;have d':Data.seq vs.toArray _=Data.dict es ep:=d;cases d'
  have J9:∀{b:aa}{m:Str→Option Value},s₁.heap.Ns b m→(uJ s₁.heap H).Ns b m:=fun{b m} ⟨o,es,ep,e,d,r⟩=>⟨o,es,ep,Y9 e (Ey e d),d,r⟩
  have hKb:K.In (uJ s₁.heap H):=fun b o e=>Y9 (KX b o e) (by
   cases q:H b with
   |none=>rfl
   |some u=>
    have e':b=a:=hA b (by rw[q];simp);subst e';rw[hK (by rw[q];simp)] at e;cases e)
  have hM:Mod K mg (uJ s₁.heap H):=⟨hKb,J9 hns,⟨mb,J9 hb,hbb⟩,let ⟨mc,h1,h2⟩:=hlim;⟨mc,J9 h1,h2⟩⟩
  have e0:yq P w K mg (uJ s₁.heap H) zP [] s₁ H:=⟨rfl,hM,fun b o e=>ahS e,Nat.le_of_eq (afR _ _),trivial,fun b hb=>absurd (show b∈([]:List aa) from hb) (by simp),hok,.of_eq hg⟩
  refine GX ((F _ hKb (J9 hns)).run zP [] s₁ H ⟨[.ref a],[]⟩ [.ref a] [.ref a] _ _ hr e0 (hbind s₁ (.ref a)) (.cons rfl .nil) (hsp H hO hS)) fun r s' h=>?_
  cases r with
  |error e=>exact(SN H e s' h).elim
  |ok fl=>
   cases fl with
   |next=>exact qx h
   |brk=>exact qx h
   |cont=>exact qx h
   |ret u=>
    obtain⟨v,H',os,bare,un,hok',r',q⟩:=h
    have q':v=.bl true:=q;subst q';obtain rfl:u=pK true:=r'
    refine⟨rfl,OldK.of_keep fun b o e=>?_,os,bare⟩
    cases q:H b with
    |none=>exact un.keep b o e q (by intro z;exact absurd (show b∈([]:List aa) from z) (by simp)) (by simp)
    |some u=>
     rcases hO b with z|⟨ob,xs,z⟩
     ·rw[q] at z;cases z
     ·have z2:=un.oX b ob _ z
      obtain⟨e1,_⟩:=hok b _ z
      obtain⟨e2,_⟩:=hok' b _ z2
      rw[e] at e1;cases e1;exact e2
 cases hk:K.lookup a with
 |some o=>
  have e:=KX a o hk;rw[ha] at e;cases e;refine core (fun _=>none) (fun _=>.inl rfl) (.inr ⟨_,vs.toArray,_,hk,rfl,rfl,rfl,by rw[fW,lenV];exact hl,by simpa using rv⟩) (fun b u z=>by have z':(none:Option HO)=some u:=z;cases z') (fun b z=>absurd rfl z) fun z=>absurd rfl z
 |none=>
  refine core (fun b=>if b=a then some (.lg {cls:=.type "list",data:=.seq vs.toArray} (.lst (ns.map V.int))) else none) (fun b=>?_) (.inl (.inr ⟨{cls:=.type "list",data:=.seq vs.toArray},if_pos rfl⟩)) (fun b u z=>?_) (fun b z=>?_) fun _=>hk
  ·by_cases hb:b=a
   ·exact .inr ⟨_,_,if_pos hb⟩
   ·exact .inl (if_neg hb)
  ·by_cases hb:b=a
   ·have z':=(if_pos hb).symm.trans z;cases z';subst hb
    exact⟨ha,by rw[aW];exact hl,vs,_,rv,ha⟩
   ·have z':=(if_neg hb).symm.trans z;cases z'
  ·by_cases hb:b=a
   ·exact hb
   ·exact absurd (if_neg hb) z
theorem aia{l:Vf}{n k:Nat}{q:bf}{loose:List Str}{XP:(Str→Option Value)→aV→Prop}{YP:aY→aV→Prop}{d:DefRec}{K:Params→aG}{CX:aY→pA}{sp:aY→Sp}{x:Str}
  (hn:l.most=some n)(hn2:n≤bM)(hdf:d.params.defaults=[])(hr:gZ k zP)
  (hY:∀(w:aY)(h:aV),YP w h→(K w.params).In h)
  (F:∀(w:aY)(mg:Str→Option Value)(fa:aa)(h:aV),(K w.params).In h→h.Ns gk mg→mg d.name=some (.ref fa)→
   ∃fd:dw,(∀(s:au)(u:Value),xN s fd ⟨[u],[]⟩ [(x,u)])∧
    ∀base:aV,(K w.params).In base→base.Ns gk mg→di l.prog w (K w.params) mg base (CX w) k fa fd [x] (sp w))
  (hsp:∀(w:aY)(H:Hp)(a:aa)(ns:List Int),ns.length≤n→Only H→bK (K w.params) H a (ns.map V.int)→sp w [.ref a] H (fun v _=>v=.bl true) fun _ _ _=>False)
  (SN:∀(w:aY)(H:Hp)(s:au)(e:Value)(s':au),CX w [] H s (fun _ _ _=>False) e s'→False):
  aej q loose XP YP l.row.toRowW d [] (fun f vs=>Wz f vs):=by
 refine Att.aeZ hn hdf fun w s₀ s₁ mg mb fa o pm cd doc a vs ns G Y ho hd hcd hmg hobj hints hlen hg=>?_
 have KX:=hY w _ Y
 obtain⟨fd,hb,hF⟩:=F w mg fa _ KX G.T.g hmg
 exact agY KX G.T.g G.T.b G.T.builtins G.T.nolimit hg hobj hints (jP hlen hn2) hr hF hb (fun H hO hS=>hsp w H a ns hlen hO hS) fun H e s'=>SN w H s₁ e s'
def zQ(s:cU):Arguments:=match s with
 |.FunctionDef _ a _ _ _ _ _ _ _ _=>a
 |_=>{posonlyargs:=[],args:=[],vararg:=none,kwonlyargs:=[],kw_defaults:=[],kwarg:=none,defaults:=[]}
def vK(s:cU):List cU:=match s with
 |.FunctionDef _ _ b _ _ _ _ _ _ _=>b
 |_=>[]
def cL(s:cU):iY:=match s with
 |.FunctionDef _ _ _ _ _ _ sc _ _ _=>sc
 |_=>{kind:=.function,names:=[],isGenerator:=false,isCoroutine:=false}
abbrev eV:pA:=fun _ _ _ _ _ _=>False
abbrev E0:XK:=fun _ _ _=>False
theorem akL{X:Cx}:Passes eV X E0:=fun _ _ _ _ _ _ _ h=>h.elim
structure fP(K:aG)(x qual:Str)(st:cU)(f:aa)(fd:dw):Prop where
 ex:∃(oc:Value)(od:Option aa)(kV doc pm:Value)(an:Option aa)(cdv ct:Value)(osl:Array (Option Value)),
  fd=xx x qual (zQ st) (vK st) (cL st) .none kV doc pm an cdv ct∧K.lookup f=some ⟨oc,od,.func fd,osl⟩∧Lj K cdv qual=true
 kp:vq K (.ref f)=true
section
variable{P:bf}{w:aY}{K:aG}{mg:Str→Option Value}{base:aV}
theorem fP.ok{x qual:Str}{st:cU}{f:aa}{fd:dw}{N ps:List Str}{k:Nat}{sp:Sp}(F:fP K x qual st f fd)(S:gG N ps (cL st))(len:∀vs H Q E,sp vs H Q E→vs.length=ps.length)
  (hbody:∀(cdv:Value)(A:bY)(outer:List Env)(s:au)(H:Hp)(vs:List V)(Q:VK)(E:XK),gZ k (A.deeper (envOfC qual (cL st) s.heap.objs.size f cdv))→sp vs H Q E→
   ∃t,iK (yr eV P w K mg base N qual (cL st) f cdv A outer s H E).uT (vK st) t∧t {nx:=fun _ H'=>Q .non H',rt:=Q} (start N vs) H):di P w K mg base eV (k+1) f fd ps sp:=by
 obtain⟨oc,od,kV,doc,pm,an,cdv,ct,osl,rfl,lk,hcd⟩:=F.ex
 refine akG lk hcd S len fun A outer s H vs Q E hr hsp=>?_
 obtain⟨t,h,q⟩:=hbody cdv A outer s H vs Q E hr hsp
 exact⟨t,h.uT,q⟩
theorem fP.binds{x qual:Str}{st:cU}{f:aa}{fd:dw}{ps:List Str}(F:fP K x qual st f fd)
  (h:∀(kV doc pm:Value)(an:Option aa)(cdv ct:Value)(us:List Value),us.length=ps.length→bindArgs (xx x qual (zQ st) (vK st) (cL st) .none kV doc pm an cdv ct) ⟨us,[]⟩=pure (ps.zip us)):Binds K fd ps []:=by
 obtain⟨oc,od,kV,doc,pm,an,cdv,ct,osl,rfl,lk,hcd⟩:=F.ex
 exact .all (h kV doc pm an cdv ct)
theorem QM{x qual:Str}{st:cU}{f:aa}{oc:Value}{od an:Option aa}{osl:Array (Option Value)}{kV doc pm cdv ct:Value}(l:K.lookup f=some ⟨oc,od,.func (xx x qual (zQ st) (vK st) (cL st) .none kV doc pm an cdv ct),osl⟩)
  (c:Lj K cdv qual=true)(k:vq K (.ref f)=true):fP K x qual st f (xx x qual (zQ st) (vK st) (cL st) .none kV doc pm an cdv ct):=⟨⟨oc,od,kV,doc,pm,an,cdv,ct,osl,rfl,l,c⟩,k⟩
end
section
variable{X:Cx}
theorem pv(i:Nat){x:Str}{pos:Pos}(hN:X.N[i]?=some x:=by rfl)(hv:J0 X.env.scope x:=by first|exact cA rfl|exact pW (cA rfl)|exact pW (pW rfl))(hd:(x==("__debug__":Str))=false:=by decide)
  (hcd:(x==("__classdict__":Str))=false:=by decide):PE X (.Name x pos) (qY i):=ajc hN hv hd hcd
end
theorem wg{A B:Prop}(h:B):if false=true then A else B:=by
 rw[if_neg gP];exact h
theorem wj{A B:Prop}(h:A):if true=true then A else B:=by
 rw[if_pos rfl];exact h
def bh(H H':Hp):Prop:=∀b o,H b=some o→H' b=some o
theorem bh.refl(H:Hp):bh H H:=fun _ _ h=>h
theorem bh.trans{H H1 H2:Hp}(a:bh H H1)(b:bh H1 H2):bh H H2:=fun c o h=>b c o (a c o h)
theorem bh.free{H H':Hp}(e:bh H H'){l:aa}(h:H' l=mU):H l=mU:=by
 cases q:H l with
 |none=>rfl
 |some o=>
  rw[e l o q] at h;cases h
theorem bh.seq{K:aG}{H H':Hp}{a:aa}{xs:List V}(e:bh H H')(h:bK K H a xs):bK K H' a xs:=by
 rcases h with(h|⟨o,h⟩)|h
 ·exact .inl (.inl (e _ _ h))
 ·exact .inl (.inr ⟨o,e _ _ h⟩)
 ·exact .inr h
section
variable{X:Cx}
theorem af7:jw X (.builtin "len") (fun xs H Q=>∃a kvs,xs=[V.ref a]∧H a=some (.dK kvs)∧Q (.int kvs.length) H):=by
 intro pins s σ H xs us Q I r h
 obtain⟨a,kvs,rfl,ha,q⟩:=h
 obtain⟨u,rfl,ru⟩:=vals1 r
 cases ru;exact akJ I (.inl ha) fun t s' I'=>⟨.int kvs.length,H,I',⟨t,rfl⟩,q⟩
end
section
variable{κ:Type}[DecidableEq κ]
end
def Cx.blk(X:Cx)(N:List Str)(scope:iY)(cl:List (Str×aa))(C:aa)(s:au)(H:Hp)(fp:List aa):Cx:=
 {X with N:=N,s₀:=s,H₀:=H,env:=Oj scope cl C X.env,outer:=X.stack,ex:=fp,fn:=fun _=>false,pn:=[],xe:=fun _ _=>False}
theorem MJ(f:Str×zM→List (Str×aa)→Sem (ForInStep (List (Str×aa))))
  (hf:∀n k r,f (n,k) r=if k==oF then(do let c ←cellOf env n;pure (.yield ((n,c)::r))) else pure (.yield r)):
  ∀(names:List (Str×zM))(cs:List (Str×aa)),(∀y∈names,y.2=.free→∃c,env.cells.lookup y.1=some c)→(∀n c,cs.lookup n=some c→env.cells.lookup n=some c)→
   ∃cl,(forIn names cs f:Sem (List (Str×aa)))=pure cl∧(∀n c,cl.lookup n=some c→env.cells.lookup n=some c)∧
    ∀n,((∃c,cs.lookup n=some c)∨∃y∈names,y.1=n∧y.2=.free)→∃c,cl.lookup n=some c
 |[],cs,_,h2=>⟨cs,rfl,h2,fun n h=>h.elim id fun⟨_,hy,_⟩=>nomatch hy⟩
 |(n,k)::r,cs,h1,h2=>by
  rw[List.forIn_cons,hf];by_cases hk:k=.free
  ·subst hk
   obtain⟨c,hc⟩:=h1 (n,.free) dG rfl
   have hc':env.cells.lookup n=some c:=hc;have e:cellOf env n=pure c:=by unfold cellOf;rw[hc']
   obtain⟨cl,q1,q2,q3⟩:=MJ f hf r ((n,c)::cs) (fun y hy=>h1 y (dN _ hy)) (fun m d hm=>by
    rw[yS] at hm;by_cases hb:(m==n)=true
    ·rw[hb] at hm;have:=eq_of_beq hb;subst this;cases hm;exact hc'
    ·rw[U8] at hb;rw[hb] at hm;exact h2 m d hm)
   refine⟨cl,?_,q2,fun m hm=>q3 m ?_⟩
   ·rw[if_pos (show(oF==oF)=true from rfl),e];simp only[pure_bind];exact q1
   ·by_cases hb:m=n
    ·subst hb;exact .inl ⟨c,by simp[yS]⟩
    ·rcases hm with⟨d,hm⟩|⟨y,hy,e1,e2⟩
     ·refine .inl ⟨d,?_⟩;rw[yS,beq_eq_false_iff_ne.mpr hb];exact hm
     ·rcases bU.mp hy with rfl|hy
      ·exact absurd e1.symm hb
      ·exact .inr ⟨y,hy,e1,e2⟩
  ·have hb:(k==oF)=false:=beq_eq_false_iff_ne.mpr hk
   obtain⟨cl,q1,q2,q3⟩:=MJ f hf r cs (fun y hy=>h1 y (dN _ hy)) h2
   refine⟨cl,?_,q2,fun m hm=>q3 m ?_⟩
   ·rw[hb];simp only[pF,if_false,pure_bind];exact q1
   ·rcases hm with hm|⟨y,hy,e1,e2⟩
    ·exact .inl hm
    ·rcases bU.mp hy with rfl|hy
     ·exact absurd e2 hk
     ·exact .inr ⟨y,hy,e1,e2⟩
theorem Hz(h1:∀y∈scope.names,y.2=.free→∃c,env.cells.lookup y.1=some c):
  ∃cl,closureFor scope env=pure cl∧(∀n c,cl.lookup n=some c→env.cells.lookup n=some c)∧∀y∈scope.names,y.2=.free→∃c,cl.lookup y.1=some c:=by
 unfold closureFor
 obtain⟨cl,q1,q2,q3⟩:=MJ (env:=env) (fun x r=>if(x.2==oF)=true then(do let c ←cellOf env x.1;pure (.yield ((x.1,c)::r))) else pure (.yield r)) (fun n k r=>rfl) scope.names [] h1 (fun n c h=>by simp at h)
 have q:=congrArg (fun t:Sem (List (Str×aa))=>t >>= fun cs=>pure cs) q1;simp only[pure_bind] at q
 exact⟨cl,q,q2,fun y hy e=>q3 y.1 (.inr ⟨y,hy,rfl,e⟩)⟩
theorem V8{scope:iY}{env:Env}{x:Str}:∀{names:List (Str×zM)},
  (names.map fun(n,k)=>if(k==oF&&env.scope.kind==.function&&env.kindOf n==some .cell) then(n,Ma) else(n,k)).lookup x=
   (names.lookup x).map fun k=>if(k==oF&&env.scope.kind==.function&&env.kindOf x==some .cell) then Ma else k
 |[]=>rfl
 |(n,k)::r=>by
  have ih:=@V8 scope env x r;show List.lookup x ((if(k==oF&&env.scope.kind==.function&&env.kindOf n==some .cell)=true then(n,Ma) else(n,k))::_)=_;cases hx:x==n with
  |true=>
   have e:=eq_of_beq hx;subst e;by_cases hc:(k==oF&&env.scope.kind==.function&&env.kindOf x==some .cell)=true
   ·rw[if_pos hc];simp only[yS,beq_self_eq_true,j6,hc,if_true]
   ·rw[if_neg hc];simp only[yS,beq_self_eq_true,j6,hc,if_false];rfl
  |false=>
   by_cases hc:(k==oF&&env.scope.kind==.function&&env.kindOf n==some .cell)=true
   ·rw[if_pos hc];simp only[yS,hx];exact ih
   ·rw[if_neg hc];simp only[yS,hx];exact ih
def frees(js:List Nat)(σ:St):St:=js.map fun j=>(σ[j]?).join
section
variable{X:Cx}{pins:List (aa×Obj)}{σ:St}{H:Hp}{s s1:au}{NT NF:List Str}{js:List Nat}{scope:iY}{cl:List (Str×aa)}{fp:List aa}
structure oR(X:Cx)(NT NF:List Str)(js:List Nat)(scope:iY):Prop where
 kind:scope.kind=.function
 names:∀y∈scope.names,y.2=.local→scope.names.lookup y.1=some .local
 cell:∀y∈scope.names,y.2≠.cell
 free:∀y∈scope.names,y.2=.free→X.env.scope.names.lookup y.1=some .cell∨X.env.scope.names.lookup y.1=some .free
 len:js.length=NF.length
 fr:∀(k:Nat)(j:Nat)(x:Str),js[k]?=some j→NF[k]?=some x→X.N[j]?=some x∧scope.names.lookup x=some .free
 tg:∀x∈NT,scope.names.lookup x=some .local
 nd:(NT++NF).Nodup
theorem Inv.blk(I:Inv X pins σ H s)(B:oR X NT NF js scope)(q2:∀n c,cl.lookup n=some c→X.env.cells.lookup n=some c)(q3:∀y∈scope.names,y.2=.free→∃c,cl.lookup y.1=some c)
  (hf:∀b∈fp,jz X pins H b)(hlt:∀b∈fp,b<s.heap.objs.size){m:Str→Option Value}(hns:s1.heap.Ns s.heap.objs.size m)(keep:∀b o,s.heap.get? b=some o→s1.heap.get? b=some o)
  (hos:s1.os=s.os)(hg:AllBare s1.gens):
  Inv (X.blk (NT++NF) scope cl s.heap.objs.size s H fp) [] (cP NT.length none++frees js σ) H s1:=by
 have look:∀x,(X.blk (NT++NF) scope cl s.heap.objs.size s H fp).env.kindOf x=(scope.names.lookup x).map fun k=>if(k==oF&&X.env.scope.kind==.function&&X.env.kindOf x==some .cell) then Ma else k:=fun x=>V8 (scope:=scope)
 have ajD:∀x,((X.blk (NT++NF) scope cl s.heap.objs.size s H fp).env.kindOf x=some .cell∨(X.blk (NT++NF) scope cl s.heap.objs.size s H fp).env.kindOf x=some .free)→scope.names.lookup x=some .free:=fun x h=>by
  rw[look] at h;cases e:scope.names.lookup x with
  |none=>rw[e] at h;simp at h
  |some k=>
   rw[e] at h;by_cases hk:k=.free
   ·rw[hk]
   ·have hb:(k==oF)=false:=beq_eq_false_iff_ne.mpr hk;simp only[j6,hb,Vr,pF,if_false,K3] at h;rcases h with h|h
    ·subst h;exact absurd rfl (B.cell _ (vf e))
    ·exact absurd h hk
 have ltC:∀c x,X.env.cells.lookup x=some c→c<s.heap.objs.size:=fun c x e=>by
  obtain⟨v,q⟩:=I.cell x c e
  exact q.lt
 refine⟨⟨I.ok.mod,B.kind,I.ok.glob,I.ok.blt,bO _,fun x y c h1 h2=>I.ok.inj x y c (q2 x c h1) (q2 y c h2),fun x hx=>?_,fun x c h _=>(nomatch(show false=true from h)),I.ok.hd,I.ok.frames,.inl rfl,fun b hb=>⟨dO (hlt b hb),fun x c e=>(hf b hb).2.2.2.2.1 x c (q2 x c e)⟩,I.bs,jP I.ok.tM I.sz,fun b o e hb=>?_,fun b hb hb2=>?_,I.stack,I.YW⟩,
  hos,hg,Un.kept keep,⟨m,hns,fun i x v h1 h2 h3=>?_⟩,fun x c e=>?_,I.hok.fresh (bO _),fun x c e=>I.qQ x c (q2 x c e),fun p hp=>(nomatch(show p∈([]:List (aa×Obj)) from hp)),I.hok.kept keep,?_⟩
 ·exact q3 _ (vf (ajD x hx)) rfl
 ·rcases(hf b hb).2.2.2.1 with z|z
  ·exact I.ok.Ef b o e z
  ·exact absurd (nu (bW e) (jP I.ok.tM z)) (vz _)
 ·obtain⟨_,f1,f2,_⟩:=hf b hb
  rcases bU.mp (I.zY b hb2) with z|z
  ·exact f1 z
  ·exact f2 z
 ·have h1':(NT++NF)[i]?=some x:=h1;by_cases hi:i<NT.length
  ·rw[nY (by simpa using hi),Ue] at h2;split at h2<;>cases h2
  ·have hi':NT.length≤i:=by omega
   rw[nW (by simpa using hi')] at h2;rw[nW hi'] at h1';simp only[KH] at h2;unfold frees at h2;rw[gC] at h2;cases ej:js[i-NT.length]? with
   |none=>rw[ej] at h2;cases h2
   |some j=>
    rw[ej] at h2;have h2':(σ[j]?).join=some v:=by simpa using h2
    obtain⟨g1,g2⟩:=B.fr _ j x ej h1'
    have hj:σ[j]?=some (some v):=by
     cases e:σ[j]? with
     |none=>rw[e] at h2';cases h2'
     |some o=>rw[e] at h2';simp at h2';rw[h2']
    have hk:=B.free _ (vf g2) rfl;have hk':X.env.scope.names.lookup x=some .cell∨X.env.scope.names.lookup x=some .free:=hk
    obtain⟨m0,hn0,hl0⟩:=I.loc
    obtain⟨u,r,l⟩:=hl0 j x v g1 hj (.inr hk')
    refine⟨u,r,.inr ⟨?_,?_⟩⟩
    ·rw[look,g2];by_cases hc:(oF==oF&&X.env.scope.kind==.function&&X.env.kindOf x==some .cell)=true
     ·left;simp only[j6,hc,if_true]
     ·right;simp only[j6,hc,if_false];rfl
    ·rcases l with⟨k0,_⟩|⟨_,c,e,z⟩
     ·have k0':X.env.scope.names.lookup x=some .local:=k0;rcases hk' with z|z<;>rw[z] at k0'<;>cases k0'
     ·obtain⟨c',hc'⟩:=q3 _ (vf g2) rfl
      have hc2:cl.lookup x=some c':=hc';have e2:=q2 x c' hc2;rw[e] at e2;cases e2
      obtain⟨o,ho,hd⟩:=z
      exact⟨c,hc2,o,keep c o ho,hd⟩
 ·obtain⟨v,o,ho,hd⟩:=I.cell x c (q2 x c e)
  exact⟨v,o,keep c o ho,hd⟩
 ·show(cP NT.length none++frees js σ).length=(NT++NF).length
  unfold frees;simp[B.len]
theorem Inv.Rt(I:Inv X pins σ H s)(hf:∀b∈fp,jz X pins H b)(J:Inv (X.blk N scope cl s.heap.objs.size s H fp) Ri σ' H' s'):Inv X pins σ H' s':=
 I.call' J.os J.base J.hok J.bare fun b hb=>⟨(hf b hb).2.2.2.1,(hf b hb).2.1,(hf b hb).2.2.2.2.1,(hf b hb).2.2.2.2.2⟩
end
theorem aib(a:List α)(x y:α)(b:List α)(h:a.length=n):(a++x::b).set n y=a++y::b:=by
 subst h;rw[List.set_append_right _ _ (bO _),V9];rfl
inductive fZ where
 |one|many (n:Nat)
def wJ(K:aG):fZ→V→Hp→List V→Prop
 |.one,x,_,vs=>vs=[x]
 |.many n,x,H,vs=>∃a,x=.ref a∧cN K H a vs∧vs.length=n
def isNm(e:Expr)(x:Str):Prop:=∃pos,e=.Name x pos
def nP(tg:Expr)(NT:List Str):fZ→Prop
 |.one=>∃x,isNm tg x∧NT=[x]
 |.many n=>∃es k pos,tg=.Tuple es k pos∧Paired isNm es NT∧NT.length=n
theorem WD:∀{es:List Expr}{NT:List Str},Paired isNm es NT→rW es env=es.map fun e=>(false,assign e env)
 |_,_,.nil=>rfl
 |_,_,.cons ⟨pos,e⟩ t=>by
  subst e
  show(false,assign _ env)::rW _ env=_
  rw[WD t];rfl
section
variable{X:Cx}{pins:List (aa×Obj)}{H:Hp}{E:Value→au→Prop}
theorem af8(p:Paired isNm es NT):∀{pre NF:List Str}{σp fs:St}{s:au}{vs:List V}{us:List Value}{Q:Unit→au→Prop},
  X.N=pre++NT++NF→X.N.Nodup→(∀x∈NT,X.env.scope.names.lookup x=some .local)→σp.length=pre.length→vs.length=NT.length→
  Inv X pins (σp++(cP NT.length none++fs)) H s→Vals vs us→(∀s',Inv X pins (σp++(vs.map some++fs)) H s'→Q () s')→
  aM (model X.prog X.w) X.A (Bw (es.map fun e=>assign e X.env) us) Q E s:=by
 induction p with
 |nil=>
  intro pre NF σp fs s vs us Q hN nd hl hp hv I r q;cases vs with
  |cons _ _=>simp at hv
  |nil=>
   cases r;exact assignInOrder_nil (q s I)
 |@cons e x es NT he t ih=>
  intro pre NF σp fs s vs us Q hN nd hl hp hv I r q;cases vs with
  |nil=>simp at hv
  |cons v vs=>
   cases r with
   |cons r rr=>
    obtain⟨pos,rfl⟩:=he
    have hx:=hl x dG;have hi:X.N[pre.length]?=some x:=by
     rw[hN,kI,nW (bO _)];simp
    refine assignInOrder_cons (Gm (sr I nd hi (.inl hx) r (fun s' I'=>?_) (.inr hx)));have e1:(σp++(cP (x::NT).length none++fs)).set pre.length (some v)=(σp++[some v])++(cP NT.length none++fs):=by
     exact(aib σp none (some v) (cP NT.length none++fs) hp).trans (List.append_cons σp (some v) (cP NT.length none++fs))
    rw[e1] at I';refine ih (pre:=pre++[x]) (NF:=NF) (σp:=σp++[some v]) (by rw[hN];simp) nd (fun y hy=>hl y (dN _ hy)) (by simp[hp]) (by simpa using hv) I' rr fun s2 I2=>q s2 ?_
    have e2:σp++[some v]++(vs.map some++fs)=σp++((v::vs).map some++fs):=by simp
    rw[e2] at I2;exact I2
theorem ajE(tk:nP tg NT T)(hN:X.N=NT++NF)(nd:X.N.Nodup)(hc:X.calm=true)
  (hl:∀x∈NT,X.env.scope.names.lookup x=some .local)(I:Inv X pins (cP NT.length none++fs) H s)(r:RelV v u)(hv:wJ X.K T v H vs)
  (q:∀s',Inv X pins (vs.map some++fs) H s'→Q () s'):aM (model X.prog X.w) X.A (assign tg X.env u) Q E s:=by
 cases T with
 |one=>
  obtain⟨x,⟨pos,rfl⟩,rfl⟩:=tk
  have hv':vs=[v]:=hv;subst hv';have hx:=hl x dG;exact Gm (sr I nd (i:=0) (by rw[hN];rfl) (.inl hx) r (fun s' I'=>q s' I') (.inr hx))
 |many n=>
  obtain⟨es,k,pos,rfl,p,hn⟩:=tk
  obtain⟨a,rfl,hq,hlen⟩:=hv
  cases r
  obtain⟨its,rv,ht,hz⟩:=I.tuple hq
  have e:=WD (env:=X.env) p;have hpl:=p.length;refine assign_Tuple_tuple (I.ok.hd hc) ht (by rw[e];simp only[aW,fW];rw[←rv.length];omega) (by rw[e];simp) fun h' hx=>?_
  have I1:Inv X pins (cP NT.length none++fs) H {s with heap:=h'}:=I.kept (t':=s.toks) fun b o e=>hx b o (dO (bW e)) e
  rw[e,dB];exact af8 p (pre:=[]) (σp:=[]) (by rw[hN];rfl) nd hl rfl (by omega) I1 (by simpa using rv) q
end
def turnOf(target iter:Expr)(ifs:List Expr)(it:Value)(env:Env)(emit:Sem Unit)(more:Sem PySem.Fin):Sem PySem.Fin:=do
 sE iter.pos
 match ←oJ it with
 |none=>pure (.done .next)
 |some v=>
  w6 target it v
  assign target env v
  let mut ok:=true
  for c in ifs do
   if ok then ok ←isTrue c env (eval c env)
  if ok then emit
  more
theorem afk(elt target iter:Expr)(ifs:List Expr)(scope:iY)(pos:Pos)(it acc:Value)(env:Env):
  Cq (.ListComp elt [⟨target,iter,ifs,0⟩] scope pos) 0 it acc env=turnOf target iter ifs it env (do let _ ←call (.builtin "list.append") [acc,←eval elt env]) (again (.compLoop (.ListComp elt [⟨target,iter,ifs,0⟩] scope pos) 0 it acc env)):=by rfl
theorem afl(kx vx target iter:Expr)(ifs:List Expr)(scope:iY)(pos:Pos)(it:Value)(D:aa)(env:Env):
  Cq (.DictComp kx vx [⟨target,iter,ifs,0⟩] scope pos) 0 it (.ref D) env=turnOf target iter ifs it env (do
      let kv ←eval kx env
      let vv ←pQ [kv] (eval vx env)
      sE {kx.pos with endLine:=vx.pos.endLine,endCol:=vx.pos.endCol}
      pQ [kv,vv] (dictSet D kv vv)) (again (.compLoop (.DictComp kx vx [⟨target,iter,ifs,0⟩] scope pos) 0 it (.ref D) env)):=by rfl
theorem af9(elt target iter:Expr)(ifs:List Expr)(scope:iY)(pos:Pos)(it acc:Value)(env:Env):
  Cq (.SetComp elt [⟨target,iter,ifs,0⟩] scope pos) 0 it acc env=turnOf target iter ifs it env (do let v ←eval elt env;sE elt.pos;let _ ←call (.builtin "set.add") [acc,v]) (again (.compLoop (.SetComp elt [⟨target,iter,ifs,0⟩] scope pos) 0 it acc env)):=by rfl
def mH(X:Cx)(ifs:List Expr)(t:TT):Prop:=
 ∀(pins:List (aa×Obj))(s:au)(σ:St)(H:Hp)(Q:Bool→Hp→Prop),Inv X pins σ H s→t σ H Q→
  aM (model X.prog X.w) X.A (forIn ifs true fun c r=>if r=true then do let ok ←isTrue c X.env (eval c X.env);pure (ad3 ok) else pure (ad3 r)) (TP X pins σ Q) X.xe s
def alk:TT:=fun _ H Q=>Q true H
theorem aic:mH X [] alk:=fun _ _ _ H _ I h=>wpAny_tests_nil ⟨H,I,h⟩
theorem aid(h:PT X c t):mH X [c] t:=fun pins s σ H Q I q=>wpAny_tests_one (h pins s σ H Q I q)
abbrev TM:=St→Hp→(Hp→Prop)→Prop
def PM(X:Cx)(emit:Sem Unit)(t:TM):Prop:=
 ∀(pins:List (aa×Obj))(s:au)(σ:St)(H:Hp)(Q:Hp→Prop),Inv X pins σ H s→t σ H Q→
  aM (model X.prog X.w) X.A emit (fun _ s'=>∃H',Inv X pins σ H' s'∧Q H') X.xe s
def PJ(D:aa)(te:TE):TM:=fun σ H Q=>te σ H fun y H1=>∃xs,H1 D=some (.lst xs)∧xs.length<bM∧Q (upd H1 D (.lst (xs++[y])))
theorem aga(he:PE X elt te):PM X (do let _ ←call (.builtin "list.append") [.ref D,←eval elt X.env]) (PJ D te):=by
 intro pins s σ H Q I h;refine aD (bu (he pins s σ H _ I h) fun v s1 aK=>?_)
 obtain⟨y,H1,I1,r1,xs,hD,hz,q⟩:=aK
 refine aD (bu (Xb (X:=X) pins s1 σ H1 (.ref D) [y] (.ref D) [v] (fun _ H'=>Q H') I1 rfl (.cons r1 .nil) ⟨D,xs,y,rfl,rfl,hD,hz,q⟩) fun _ s2 ⟨_,H2,I2,_,q2⟩=>aX ⟨H2,I2,q2⟩)
def wu(K:aG)(T:fZ)(ts:TT)(em:TM)(fs:St)(J:It)(H0:Hp)(done:Hp→Prop):Prop:=
 ∃W:Nat→Nat→Hp→Prop,(∃m,W 0 m H0)∧∀i m H,W i m H→
  (J.stop i H∧done H)∨(J.go i H∧∀x H',J.wG i H x H'→∃vs,wJ K T x H' vs∧
   ts (vs.map some++fs) H' fun b H2=>if b=true then em (vs.map some++fs) H2 fun H3=>∃m',m'<m∧W (i+1) m' H3 else ∃m',m'<m∧W (i+1) m' H2)
section
variable{X:Cx}{NT NF:List Str}{tg iter e:Expr}{ifs:List Expr}{T:fZ}{ts:TT}{em:TM}{emit:Sem Unit}{acc:Value}{fp:List aa}{it:aa}{J:It}{tn:Nat→aV→Prop}
theorem agZ{fs:St}{vs:List V}{pins:List (aa×Obj)}{H:Hp}{s:au}(hv:vs.length=NT.length)(I:Inv X pins (vs.map some++fs) H s):Inv X pins (cP NT.length none++fs) H s:=
 I.weak (by simp[hv]) fun i v h=>by
  by_cases hi:i<NT.length
  ·rw[nY (by simpa using hi),Ue] at h;split at h<;>cases h
  ·rw[nW (by simp;omega)] at h⊢;simpa[hv] using h
theorem wJ.len{tg:Expr}{K:aG}{x:V}{H:Hp}{vs:List V}(tk:nP tg NT T)(h:wJ K T x H vs):vs.length=NT.length:=by
 cases T with
 |one=>obtain⟨y,_,rfl⟩:=tk;rw[show vs=[x] from h];rfl
 |many n=>obtain⟨_,_,_,_,_,e⟩:=tk;obtain⟨_,_,_,e'⟩:=h;omega
theorem Ol{R:qI→au→Prop}{fs:St}{H:Hp}{s:au}{done:Hp→Prop}(hx:X.xe=fun _ _=>False)(hT:Cq e 0 (.ref it) acc X.env=turnOf tg iter ifs (.ref it) X.env emit (again (.compLoop e 0 (.ref it) acc X.env)))
  (hq:(BJ e 0 (.ref it) acc X.env).isFrame=false)(hqu:(BJ e 0 (.ref it) acc X.env).quiet=true)(hA:X.A.under (BJ e 0 (.ref it) acc X.env)=X.A)
  (tk:nP tg NT T)(hN:X.N=NT++NF)(nd:X.N.Nodup)(hc:X.calm=true)(hl:∀x∈NT,X.env.scope.names.lookup x=some .local)
  (hts:mH X ifs ts)(hem:PM X emit em)(TT:Turn X.prog X.w X.K tg J fp it tn)(hf:∀b∈fp,jz X [] H b)(I:Inv X [] (cP NT.length none++fs) H s)(st:tn 0 s.heap)(hb:wu X.K T ts em fs J H done)
  (hR:∀H' s' σ',Inv X [] σ' H' s'→done H'→R (.ok .next) s'):
  j8 (model X.prog X.w) X.A (.compLoop e 0 (.ref it) acc X.env) R s:=by
 obtain⟨W,⟨m0,w0⟩,turn⟩:=hb
 have stat:∀{H':Hp},(∀b∈fp,H' b=none)→∀b∈fp,jz X [] H' b:=fun hn b hb=>⟨hn b hb,(hf b hb).2⟩
 have noE:∀{α:Type}{t:Sem α}{Q:α→au→Prop}{E:Value→au→Prop}{s:au},aM (model X.prog X.w) X.A t Q (fun _ _=>False) s→aM (model X.prog X.w) X.A t Q E s:=fun h=>nD h (fun _ _ z=>z) fun _ _ z=>z.elim
 have noX:∀{α:Type}{t:Sem α}{Q:α→au→Prop}{E:Value→au→Prop}{s:au},aM (model X.prog X.w) X.A t Q X.xe s→aM (model X.prog X.w) X.A t Q E s:=fun h=>noE (by rw[hx] at h;exact h)
 refine codeAny_loop hqu (fun n s'=>∃i H',Inv X [] (cP NT.length none++fs) H' s'∧tn i s'.heap∧(∀b∈fp,H' b=none)∧W i n H') ?_ m0 ⟨0,H,I,st,fun b hb=>(hf b hb).1,w0⟩;rintro n s3 ⟨i,H3,I3,st3,Ew,w3⟩;rw[hA];show aM _ X.A (if(BJ e 0 (.ref it) acc X.env).isFrame=true then(Cq e 0 (.ref it) acc X.env).onRaise (leaving X.env) else(Cq e 0 (.ref it) acc X.env).onRaise (fun x=>do noteFrame x X.env;theTreesLotGoes x)) _ _ s3;rw[hq,if_neg gP];refine wpAny_noted (noE ?_);rw[hT];unfold turnOf;refine aD (uc (aD ?_));rcases turn i n H3 w3 with⟨stop,qn⟩|⟨go,step⟩
 ·refine bu (TT.done X rfl rfl rfl hc i [] s3 _ H3 _ I3 (stat Ew) st3 stop) fun r s4 aK=>?_
  obtain⟨hr,I4⟩:=aK
  subst hr;exact aX (hR H3 s4 _ I4 qn)
 ·refine bu (TT.item X rfl rfl rfl hc i [] s3 _ H3 _ I3 (stat Ew) st3 go) fun r s4 aK=>?_
  obtain⟨u,hr,h4⟩:=aK
  subst hr;refine aD (bu h4 fun _ s5 aK=>?_)
  obtain⟨x,H5,I5,r5,y5,yG,Sx⟩:=aK
  have Sy:=I5.pinned (stat Sx) (TT.obj _ _ yG)
  obtain⟨vs,hv,q5⟩:=step x H5 y5
  have hvl:=wJ.len tk hv;refine aD (ajE tk hN nd hc hl Sy r5 hv fun s6 I6=>?_);refine aD (noX (bu (hts _ s6 _ H5 _ I6 q5) fun b s7 aK=>?_))
  obtain⟨H7,I7,q7⟩:=aK
  have aad:∀{s8:au}{H8:Hp},Inv X ([]++De fp s5.heap) (vs.map some++fs) H8 s8→(∃m',m'<n∧W (i+1) m' H8)→
    (BJ e 0 (.ref it) acc X.env=BJ e 0 (.ref it) acc X.env)∧∃m,m<n∧∃i H',Inv X [] (cP NT.length none++fs) H' s8∧tn i s8.heap∧(∀b∈fp,H' b=none)∧W i m H':=fun{s8 H8} I8 n8=>by
   obtain⟨m',hm,w8⟩:=n8
   refine⟨rfl,m',hm,i+1,H8,agZ hvl I8.H9,TT.keep _ _ _ yG fun b hb o e=>(I8.pin (b,o) (dY _ (dY _ (Hv hb e)))).1,fun b hb=>?_,w8⟩
   obtain⟨o,e,d⟩:=TT.obj _ _ yG b hb
   exact(I8.pin (b,o) (dY _ (dY _ (Hv hb e)))).2.1
  cases b with
  |false=>exact aX (aad I7 q7)
  |true=>exact aD (noX (bu (hem _ s7 _ H7 _ I7 q7) fun _ s8 ⟨H8,I8,q8⟩=>aX (aad I8 q8)))
end
structure Bk where
 cl:List (Str×aa)
 C:aa
 s:au
 H:Hp
 fp:List aa
abbrev Cx.bk(X:Cx)(N:List Str)(scope:iY)(b:Bk):Cx:=X.blk N scope b.cl b.C b.s b.H b.fp
section
variable{X:Cx}{NT NF:List Str}{js:List Nat}{elt kx vx tg iter e:Expr}{ifs:List Expr}{T:fZ}{wi:TI}{ts:Bk→TT}{te tk' tv:Bk→TE}{scope:iY}{pos:Pos}
def SQ(K:aG)(wi:TI)(T:fZ)(ts:Bk→TT)(te:Bk→TE)(js:List Nat):TE:=fun σ H Q=>wi σ H fun J H1=>∀D,H1 D=none→∀b,wu K T (ts b) (PJ D (te b)) (frees js σ) J (upd H1 D (.lst [])) (Q (.ref D))
theorem aae{pins:List (aa×Obj)}{σ:St}{s2:au}{H2:Hp}{cl:List (Str×aa)}{it:aa}{fp:List aa}{tn:Nat→aV→Prop}{J:It}{Q:Hp→Prop}{RR:Value→aa→qI→au→Prop}{E:Value→au→Prop}
  (B:oR X NT NF js scope)(tk:nP tg NT T)(hc:X.calm=true)
  (hin:∀b,mH (X.bk (NT++NF) scope b) ifs (ts b)∧PE (X.bk (NT++NF) scope b) elt (te b))
  (q2:∀n c,cl.lookup n=some c→X.env.cells.lookup n=some c)(q3:∀y∈scope.names,y.2=.free→∃c,cl.lookup y.1=some c)
  (I2:Inv X pins σ H2 s2)(TT:Turn X.prog X.w X.K tg J fp it tn)(st2:tn 0 s2.heap)(f2:∀b∈fp,jz X pins H2 b)
  (q:∀b,wu X.K T (ts b) (PJ s2.heap.objs.size (te b)) (frees js σ) J (upd H2 s2.heap.objs.size (.lst [])) Q)
  (hR:∀C H' s' m,Inv X pins σ H' s'→jz X pins H' C→s'.heap.Ns C m→Q H'→RR (.ref s2.heap.objs.size) C (.ok .next) s'):
  aM (model X.prog X.w) X.A (newList []) (fun acc s₃=>aM (model X.prog X.w) X.A (Vt scope X.env.globals cl [] X.env.qual none .none (some X.env)) (fun cenv s₄=>
   j8 (model X.prog X.w) X.A (.compStart (.ListComp elt [⟨tg,iter,ifs,0⟩] scope pos) 0 (.ref it) acc {cenv with scope:=relabel scope X.env}) (RR acc cenv.locals) s₄) E s₃) E s2:=by
 refine mK ?_;have hD:H2 s2.heap.objs.size=none:=I2.hok.fresh (bO _);have I3:Inv X pins σ (upd H2 s2.heap.objs.size (.lst [])) {s2 with heap:=s2.heap.push {cls:=.type "list",dict:=none,data:=.seq ([]:List Value).toArray}}:=
  I2.laid (t':=s2.toks) (fun b o e=>cD _ e) (bO _) ⟨lF _,[],0,.nil,ie _ rfl⟩
 have hsz:(s2.heap.push {cls:=.type "list",dict:=none,data:=.seq ([]:List Value).toArray}).objs.size=s2.heap.objs.size+1:=xj ..;refine Ul B.cell (by intro y hy;simp at hy) (fun h₁ hns₁ hsb₁=>?_) B.kind;have tQ:∀b∈fp,b<s2.heap.objs.size:=fun b hb=>by
  obtain⟨o,e,_⟩:=TT.obj 0 _ st2 b hb
  exact bW e
 have f3:∀b∈fp,jz X pins (upd H2 s2.heap.objs.size (.lst [])) b:=fun b hb=>⟨by rw[cJ (dO (tQ b hb))];exact(f2 b hb).1,(f2 b hb).2⟩
 have keep:∀b o,(s2.heap.push {cls:=.type "list",dict:=none,data:=.seq ([]:List Value).toArray}).get? b=some o→h₁.get? b=some o:=fun b o e=>
  hsb₁.extBut b o (dO (bW e)) (cD _ e)
 have wK:∀b∈fp,b<(s2.heap.push {cls:=.type "list",dict:=none,data:=.seq ([]:List Value).toArray}).objs.size:=fun b hb=>by have:=tQ b hb;rw[hsz];exact wX this
 have I4:=I3.blk (s1:={s2 with heap:=h₁,toks:=s2.toks+([]:List (Str×Value)).length}) B q2 q3 f3 wK hns₁ keep rfl I2.bare;have wL:tn 0 h₁:=TT.keep 0 _ _ st2 fun b _ o e=>keep b o (cD _ e)
 obtain⟨i1,i2⟩:=hin ⟨cl,(s2.heap.push {cls:=.type "list",dict:=none,data:=.seq ([]:List Value).toArray}).objs.size,{s2 with heap:=s2.heap.push {cls:=.type "list",dict:=none,data:=.seq ([]:List Value).toArray}},upd H2 s2.heap.objs.size (.lst []),fp⟩
 have loop:j8 (model X.prog X.w) X.A (.compLoop (.ListComp elt [⟨tg,iter,ifs,0⟩] scope pos) 0 (.ref it) (.ref s2.heap.objs.size) (Oj scope cl (s2.heap.push {cls:=.type "list",dict:=none,data:=.seq ([]:List Value).toArray}).objs.size X.env))
   (RR (.ref s2.heap.objs.size) (s2.heap.push {cls:=.type "list",dict:=none,data:=.seq ([]:List Value).toArray}).objs.size) {s2 with heap:=h₁,toks:=s2.toks+([]:List (Str×Value)).length}:=by
  refine Ol (X:=X.blk (NT++NF) scope cl (s2.heap.push {cls:=.type "list",dict:=none,data:=.seq ([]:List Value).toArray}).objs.size {s2 with heap:=s2.heap.push {cls:=.type "list",dict:=none,data:=.seq ([]:List Value).toArray}} (upd H2 s2.heap.objs.size (.lst [])) fp)
   (T:=T) (fs:=frees js σ) (done:=Q) rfl (afk elt tg iter ifs scope pos _ _ _) rfl rfl rfl tk rfl B.nd hc (fun x hx=>Um (B.tg x hx)) i1 (aga i2) TT (fun b hb=>?_) I4 wL (q _) fun H' s' σ' J' qd=>?_
  ·exact⟨(f3 b hb).1,dO (wK b hb),fun hb2=>by
    rcases bU.mp (I3.zY b hb2) with z|z
    ·exact(f3 b hb).2.1 z
    ·exact(f3 b hb).2.2.1 z,.inl hb,fun x c e=>(f3 b hb).2.2.2.2.1 x c (q2 x c e),fun p hp=>(nomatch(show p∈([]:List (aa×Obj)) from hp))⟩
  ·obtain⟨m,hn,_⟩:=J'.loc
   exact hR _ H' s' m (I3.Rt f3 J') (I3.uL (bO _) J'.free) hn qd
 exact codeAny_compStart_list loop (TT.self _ 0 _ _ _ wL loop)
theorem akM(B:oR X NT NF js scope)(tk:nP tg NT T)(hc:X.calm=true)(hi:PI X tg iter wi)
  (hin:∀b,mH (X.bk (NT++NF) scope b) ifs (ts b)∧PE (X.bk (NT++NF) scope b) elt (te b))
  (hs:∀x,tY iter X.env x=pure x:=by intro _;rfl):PE X (.ListComp elt [⟨tg,iter,ifs,0⟩] scope pos) (SQ X.K wi T ts te js):=by
 intro pins s σ H Q I h
 obtain⟨cl,hclos,q2,q3⟩:=Hz (env:=X.env) (scope:=scope) fun y hy e=>I.ok.has y.1 (B.free y hy e)
 rw[eval_ListComp];refine Kz (use:=none) rfl hs hclos B.kind B.names (bu (hi pins s σ H _ I h) fun v s1 h1=>bu h1 fun itv s2 aK=>?_)
 obtain⟨it,fp,tn,J,H2,e,I2,TT,st2,f2,q⟩:=aK
 subst e;refine aae (Q:=fun H'=>Q (.ref s2.heap.objs.size) H') (RR:=fun acc C=>Om (model X.prog X.w) X.A X.xe none (EP X pins σ Q) acc C) B tk hc hin q2 q3 I2 TT st2 f2 (q _ (I2.hok.fresh (bO _))) fun C H' s' m I' fC hn qd=>?_
 refine⟨m,hn,fun h' sb=>⟨.ref s2.heap.objs.size,H',?_,rfl,qd⟩⟩
 exact I'.turned (t':=s'.toks) (fun b o hb e=>(sb.2 b hb).trans e) fC.1 fC.2.1 fC.2.2.2.1 fC.2.2.2.2.1 fC.2.2.2.2.2
theorem ag0(B:oR X NT NF js scope)(tk:nP tg NT T)(hc:X.calm=true)(hi:PI X tg iter wi)
  (hin:∀b,mH (X.bk (NT++NF) scope b) ifs (ts b)∧PE (X.bk (NT++NF) scope b) elt (te b))
  (hsw:uf (.ListComp elt [⟨tg,iter,ifs,0⟩] scope pos) (some (.Name y pos')) spos.line X.env=pure true)
  (hN:X.N.Nodup)(hI:X.N[i]?=some y)(hy:X.env.scope.names.lookup y=some .local)
  (hs:∀x,tY iter X.env x=pure x:=by intro _;rfl):PS X (.Assign [.Name y pos'] (.ListComp elt [⟨tg,iter,ifs,0⟩] scope pos) spos) (Am (SQ X.K wi T ts te js) (vP i)):=by
 intro pins s σ H D I h
 obtain⟨cl,hclos,q2,q3⟩:=Hz (env:=X.env) (scope:=scope) fun y hy e=>I.ok.has y.1 (B.free y hy e)
 rw[acT _ _ _ _ hsw];refine aD (uc (aD ?_));show aM _ X.A (do let _ ←VM (.ListComp elt [⟨tg,iter,ifs,0⟩] scope pos) scope X.env _ (newList []) false (eval iter X.env) (some (assign (.Name y pos') X.env))) _ _ s;refine aD (nD (Kz (use:=some (assign (.Name y pos') X.env)) (Q:=fun _ s'=>SP X pins D .next s') rfl hs hclos B.kind B.names
  (bu (hi pins s σ H _ I h) fun v s1 h1=>bu h1 fun itv s2 ⟨it,fp,tn,J,H2,e,I2,TT,st2,f2,q⟩=>?_)) (fun _ s' hq=>aX (aX hq)) fun _ _ e=>e)
 subst e;refine aae (Q:=fun H'=>D.nx (σ.set i (some (.ref s2.heap.objs.size))) H') (RR:=fun acc C=>Om (model X.prog X.w) X.A X.xe (some (assign (.Name y pos') X.env)) (fun _ s'=>SP X pins D .next s') acc C) B tk hc hin q2 q3 I2 TT st2 f2 (q _ (I2.hok.fresh (bO _))) fun C H' s' m I' fC hn qd=>?_
 show aM _ X.A (assign (.Name y pos') X.env (.ref s2.heap.objs.size)) _ _ _;refine Gm (Nv I' hN hI (.inl hy) (v:=.ref s2.heap.objs.size) rfl (fun s3 I3 aK=>?_) (.inr hy))
 obtain⟨a,sb,ha⟩:=aK
 have SX:C≠a:=by
  rcases ha with z|z
  ·rw[z];exact fC.2.1
  ·exact fun w=>fC.2.2.2.2.1 y a z w.symm
 refine⟨m,hn.sameBut sb SX,fun h' sb'=>⟨_,H',?_,qd⟩⟩
 exact I3.turned (t':=s3.toks) (fun b o hb e=>(sb'.2 b hb).trans e) fC.1 fC.2.1 fC.2.2.2.1 fC.2.2.2.2.1 fC.2.2.2.2.2
end
def S7(z:Str):It:=⟨fun i _=>i<z.cps.size,fun i H x H'=>H'=H∧∃c,z.cps[i]?=some c∧x=.str ⟨#[c]⟩,fun i _=>z.cps.size≤i⟩
theorem ag1{P:bf}{w:aY}{K:aG}{tg:Expr}{z:Str}{t:Tok}{ty:String}{it:aa}(hty:ty="str_ascii_iterator"∨ty="str_iterator")(hgo:∀i u,w6 tg i u=pure ()):
  Turn P w K tg (S7 z) [it] it (fun i h=>h.IsStrIter it ty z t i) where
 mem:=by simp
 obj:=fun i h st b hb=>by
  have e:b=it:=by simpa using hb
  subst e
  obtain⟨o,e,c,d⟩:=st
  exact⟨o,e,fun v q=>by rw[d] at q;cases q⟩
 keep:=fun i h h' st k=>let ⟨o,ho,r⟩:=st;⟨o,k it (by simp) o ho,r⟩
 item:=by
  intro X hP hw hK hc i pins s σ H E I hf st hg;subst hP hw hK
  obtain⟨f0,f1,f2,f3,f4,f5⟩:=hf it (by simp)
  have hi:i<z.cps.size:=hg;have W:Walks X.prog X.w X.A it [it] [it] z.cps.size (SignAt z) (fun i h=>h.IsStrIter it ty z t i):=by
   rcases hty with rfl|rfl
   ·exact Walks.strAscii (I.ok.hd hc) it z t
   ·exact Walks.strWide (I.ok.hd hc) it z t
  refine W.item i s _ _ hi st fun v h' tk hv st' kk=>?_
  obtain⟨c,u,hc',rfl⟩:=hv
  have I1:Inv X pins σ H {s with heap:=h',toks:=tk}:=I.turned (fun b o hb e=>kk b o (by simpa using hb) e) f0 f1 f3 f4 f5
  refine⟨_,rfl,?_⟩
  rw[hgo];exact aX ⟨.str ⟨#[c]⟩,H,I1,⟨u,rfl⟩,⟨rfl,c,hc',rfl⟩,st',fun b hb=>(hf b hb).1⟩
 done:=by
  intro X hP hw hK hc i pins s σ H E I hf st hg;subst hP hw hK
  obtain⟨f0,f1,f2,f3,f4,f5⟩:=hf it (by simp)
  have hi:z.cps.size≤i:=hg;rcases hty with rfl|rfl
  ·exact wpAny_pyNext_ascii_end (I.ok.hd hc) st (by simpa using hi) fun h' eb=>⟨rfl,I.turned (t':=s.toks) (fun b o hb e=>eb b o hb e) f0 f1 f3 f4 f5⟩
  ·exact wpAny_pyNext_wide_end (I.ok.hd hc) st (by simpa using hi) fun h' eb=>⟨rfl,I.turned (t':=s.toks) (fun b o hb e=>eb b o hb e) f0 f1 f3 f4 f5⟩
 self:=fun _ _ _ _ _ st h=>by
  rcases hty with rfl|rfl
  ·exact wpAny_pyIter_striter_ascii st h
  ·exact wpAny_pyIter_striter_wide st h
section
variable{X:Cx}{tg:Expr}
def alm(tl:TE):TI:=fun σ H R=>tl σ H fun x H1=>∃z,x=.str z∧R (S7 z) H1
theorem aaf{l:Expr}{tl:TE}(hl:PE X l tl)(hgo:∀i u,w6 tg i u=pure ():=by intro _ _;rfl):PI X tg l (alm tl):=by
 intro pins s σ H R I h;refine bu (hl pins s σ H _ I h) fun v s1 aK=>?_
 obtain⟨x,H1,I1,r1,q1⟩:=aK
 obtain⟨z,e,q⟩:=q1
 subst e
 obtain⟨t,rfl⟩:=r1
 have fin:∀(o:Obj)(ty:String),(ty="str_ascii_iterator"∨ty="str_iterator")→Heap.IsStrIter (s1.heap.push o) s1.heap.objs.size ty z t 0→PIE X pins σ tg R (.ref s1.heap.objs.size) {s1 with heap:=s1.heap.push o}:=fun o ty hty st=>by
  refine⟨s1.heap.objs.size,[s1.heap.objs.size],_,_,H1,rfl,I1.kept (t':=s1.toks) fun b o e=>cD _ e,ag1 hty hgo,st,fun b hb=>?_,q⟩
  have e:b=s1.heap.objs.size:=by simpa using hb
  subst e;exact I1.uL (bO _) (I1.hok.fresh (bO _))
 cases ha:z.cps.all (·<128)
 ·exact wpAny_pyIter_wide ha (fin _ _ (.inr rfl) ⟨_,ie _ rfl,rfl,rfl⟩)
 ·exact wpAny_pyIter_ascii ha (fin _ _ (.inl rfl) ⟨_,ie _ rfl,rfl,rfl⟩)
theorem agb:cC X (dZ .LtE) (fun x y H Q=>∃i j,x=.str i∧y=.str j∧Q (.bl (!(decide (j.cps.toList<i.cps.toList)))) H):=by
 intro pins s σ H x y v u Q I rx ry h
 obtain⟨i,j,rfl,rfl,q⟩:=h
 obtain⟨t,rfl⟩:=rx
 obtain⟨t',rfl⟩:=ry
 exact PySem.P.le_str (fL I q rfl)
theorem Ng:∀{ys:List Str}{us:List Value},Vals (ys.map V.str) us→StrsAre us ys
 |[],_,h=>by cases h;exact .nil
 |y::ys,_,h=>by
  cases h with
  |cons r rr=>
   obtain⟨t,rfl⟩:=r
   exact .cons y t (Ng rr)
theorem aie:wI X "str.join" (fun x xs H Q=>∃z p ys,x=.str z∧xs=[.ref p]∧bK X.K H p (ys.map V.str)∧(ys.map (·.length)).sum+ys.length*z.length≤16777216∧Q (.str (Txt.join z ys)) H):=by
 intro pins s σ H x xs v us Q I rx r h
 obtain⟨z,p,ys,rfl,rfl,hp,hz,q⟩:=h
 obtain⟨t,rfl⟩:=rx
 obtain⟨u,rfl,ru⟩:=vals1 r
 cases ru
 obtain⟨its,rv,pl,_⟩:=I.list hp
 exact join_list pl.isList (by simpa using Ng rv) hz fun t' k=>⟨.str _,H,I.tok _,⟨_,rfl⟩,q⟩
end
section
variable{X:Cx}
theorem part_of(h:sI v o):∃l:Option (Int×Tok),v=partValue l∧l.map (·.1)=o:=by
 cases h with
 |none=>exact⟨none,rfl,rfl⟩
 |int i t=>exact⟨some (i,t),rfl,rfl⟩
theorem ajF:uV X (fun x lo hi H Q=>∃z,x=.str z∧z.length≤bM∧Q (.str (Txt.slice z lo hi)) H):=by
 intro pins s σ H x v vl vu lo hi sl Q I rx hs pl pu h
 obtain⟨z,rfl,hz,q⟩:=h
 obtain⟨t,rfl⟩:=rx
 obtain⟨l,rfl,rfl⟩:=part_of pl
 obtain⟨u,rfl,rfl⟩:=part_of pu
 refine⟨"str",_,F.slot_str_getitem.lookup,Wv s z t,?_⟩
 exact wpAny_getItem_str_slice (l:=l) (u:=u) (st:=none) hs rfl (post_val_or_str ⟨jP (Txt.slice_le z _ _) hz,fun t' k=>⟨.str _,H,I.tok _,⟨t',rfl⟩,q⟩⟩)
theorem XM:∀{bs:List Bool}{us:List Value},Vals (bs.map V.bl) us→us=bs.map pK
 |[],_,h=>by cases h;rfl
 |b::bs,_,h=>by
  cases h with
  |cons r rr=>
   cases r;rw[XM rr];rfl
theorem ag2(hc:X.calm=true):jw X (.builtin "all") (fun xs H Q=>∃(p:aa)(bs:List Bool),xs=[.ref p]∧bK X.K H p (bs.map V.bl)∧Q (.bl (bs.all id)) H):=by
 intro pins s σ H xs us Q I r h
 obtain⟨p,bs,rfl,hp,q⟩:=h
 obtain⟨u,rfl,ru⟩:=vals1 r
 cases ru
 obtain⟨its,rv,pl,_⟩:=I.list hp
 have hl:=pl.isList;have e0:=XM rv;subst e0;have hlt:p<s.heap.objs.size:=by obtain⟨_,e,_⟩:=hl;exact bW e
 refine call_all_walk (Uy hl ?_)
 refine⟨s.heap.objs.size,[s.heap.objs.size,p],[s.heap.objs.size],(bs.map pK).toArray.size,_,_,fun i=>(bs[i]?).getD true,rfl,afm (A:=X.A.in1) (I.ok.hd hc) _ p (dO hlt) (bs.map pK).toArray,
  ⟨⟨_,ie _ rfl,rfl,rfl⟩,hl.push _⟩,fun i v s' Q' E' hP hQ=>?_,fun h' tk hk=>?_⟩
 ·have hP':(bs.map pK)[i]?=some v:=by simpa using hP
  rw[gC] at hP';cases e:bs[i]? with
  |none=>rw[e] at hP';cases hP'
  |some b=>
   rw[e] at hP';cases hP';simp only[e,Gr] at hQ;exact vm hQ
 ·have e:((dJ (bs.map pK).toArray.size).all fun i=>(bs[i]?).getD true)=bs.all id:=by
   have:(bs.map pK).toArray.size=bs.length:=by simp
   rw[this,qw,oh,oh];constructor
   ·intro h b hb
    obtain⟨i,hi,rfl⟩:=vg hb
    have:=h i (pH.mpr hi);simpa[jt hi] using this
   ·intro h i hi;have hi':=pH.mp hi;simp only[jt hi',Gr];exact h _ (wZ hi')
  rw[e]
  refine⟨.bl _,H,I.kept fun b x e=>hk b x (fun hm=>?_) (cD _ e),rfl,q⟩
  rw[jf.mp hm] at e;exact vz _ (bW e)
end
mutual
def RD(K:aG)(H:Hp):aj→V→Prop
 |.none,v=>v=.non
 |.bool b,v=>v=.bl b
 |.int i,v=>v=.int i
 |.str x,v=>v=.str x
 |.tuple ds,v=>∃a vs,v=.ref a∧cN K H a vs∧nq K H ds vs
 |.list ds,v=>∃a vs,v=.ref a∧bK K H a vs∧nq K H ds vs
 |.dict _,_=>False
def nq(K:aG)(H:Hp):List aj→List V→Prop
 |[],vs=>vs=[]
 |d::ds,vs=>∃v r,vs=v::r∧RD K H d v∧nq K H ds r
end
theorem cN.same{K:aG}{H H':Hp}{a:aa}{xs:List V}(e:∀b ys,H b=some (.tup ys)→H' b=some (.tup ys))(ef:∀b o u,H b=some (.lg o u)→H' b=some (.lg o u))(h:cN K H a xs):cN K H' a xs:=by
 rcases h with(h|⟨o,h⟩)|h
 ·exact .inl (.inl (e _ _ h))
 ·exact .inl (.inr ⟨o,ef _ _ _ h⟩)
 ·exact .inr h
mutual
theorem RD.same{K:aG}{H H':Hp}(e:bh H H'):∀{d:aj}{v:V},RD K H d v→RD K H' d v
 |.none,_,h=>h
 |.bool _,_,h=>h
 |.int _,_,h=>h
 |.str _,_,h=>h
 |.tuple ds,v,h=>by
  obtain⟨a,vs,e1,q,r⟩:=h
  exact⟨a,vs,e1,q.same (fun b ys z=>e _ _ z) (fun b o u z=>e _ _ z),nq.same e r⟩
 |.list ds,v,h=>by
  obtain⟨a,vs,e1,q,r⟩:=h
  exact⟨a,vs,e1,e.seq q,nq.same e r⟩
theorem nq.same{K:aG}{H H':Hp}(e:bh H H'):∀{ds:List aj}{vs:List V},nq K H ds vs→nq K H' ds vs
 |[],_,h=>h
 |d::ds,vs,h=>by
  obtain⟨v,r,e1,q,t⟩:=h
  exact⟨v,r,e1,RD.same e q,nq.same e t⟩
end
section
variable{X:Cx}{pins:List (aa×Obj)}{σ:St}{H:Hp}{s:au}
mutual
theorem RD.reads(I:Inv X pins σ H s):∀{d:aj}{v:V}{u:Value},RD X.K H d v→RelV v u→∃as,Reads s.heap u d as
 |.none,_,_,h,r=>by
  cases(show _=V.non from h)
  cases r
  exact⟨_,.none⟩
 |.bool b,_,_,h,r=>by
  cases(show _=V.bl b from h)
  cases r
  exact⟨_,.bool b⟩
 |.int i,_,_,h,r=>by
  cases(show _=V.int i from h)
  obtain⟨t,rfl⟩:=r
  exact⟨_,.int i t⟩
 |.str x,_,_,h,r=>by
  cases(show _=V.str x from h)
  obtain⟨t,rfl⟩:=r
  exact⟨_,.str x t⟩
 |.tuple ds,v,u,h,r=>by
  obtain⟨a,vs,e1,q,t⟩:=h
  subst e1;cases r
  obtain⟨its,rv,⟨o,e,c,n,d⟩,_⟩:=I.tuple q
  obtain⟨as,R⟩:=nq.reads I t rv
  exact⟨_,.tuple e c d (by simpa using R)⟩
 |.list ds,v,u,h,r=>by
  obtain⟨a,vs,e1,q,t⟩:=h
  subst e1;cases r
  obtain⟨its,rv,⟨o,n,e,c,_,d⟩,_⟩:=I.list q
  obtain⟨as,R⟩:=nq.reads I t rv
  exact⟨_,.list e c d (by simpa using R)⟩
theorem nq.reads(I:Inv X pins σ H s):∀{ds:List aj}{vs:List V}{us:List Value},nq X.K H ds vs→Vals vs us→∃as,ReadsAll s.heap us ds as
 |[],_,_,h,r=>by
  cases(show _=[] from h)
  cases r
  exact⟨_,.nil⟩
 |d::ds,vs,us,h,r=>by
  obtain⟨v,rr,e1,q,t⟩:=h
  subst e1;cases r with
  |cons r1 r2=>
   obtain⟨as,R⟩:=RD.reads I q r1
   obtain⟨bs,R2⟩:=nq.reads I t r2
   exact⟨_,.cons R R2⟩
end
end
section
variable{X:Cx}
end
def aag(lq:iY)(N0 NT NF:List Str)(js:List Nat)(scope:iY):Bool:=
 scope.kind==.function&&scope.names.all (fun y=>!(y.2==.local)||scope.names.lookup y.1==some .local)&&scope.names.all (fun y=>!(y.2==.cell))&&
  scope.names.all (fun y=>!(y.2==.free)||(lq.names.lookup y.1==some .cell||lq.names.lookup y.1==some .free))&&js.length==NF.length&&
  (js.zip NF).all (fun p=>N0[p.1]?==some p.2&&scope.names.lookup p.2==some .free)&&NT.all (fun x=>scope.names.lookup x==some .local)&&decide (NT++NF).Nodup
theorem nQ.ok(h:aag lq N0 NT NF js scope=true)(ho:X.env.scope=lq)(hN:X.N=N0):oR X NT NF js scope:=by
 unfold aag at h;simp only[iQ] at h
 obtain⟨⟨⟨⟨⟨⟨⟨h1,h2⟩,h3⟩,h4⟩,h5⟩,h6⟩,h7⟩,h8⟩:=h
 refine⟨eq_of_beq h1,fun y hy e=>?_,fun y hy e=>?_,fun y hy e=>?_,by simpa using h5,fun k j x ej ex=>?_,fun x hx=>?_,of_decide_eq_true h8⟩
 ·have:=oh.mp h2 y hy;rw[e] at this;simpa using this
 ·have:=oh.mp h3 y hy;rw[e] at this;simp at this
 ·have:=oh.mp h4 y hy;rw[e] at this;rw[ho];simpa using this
 ·have hm:(j,x)∈js.zip NF:=by
   have:(js.zip NF)[k]?=some (j,x):=by
    rw[List.getElem?_zip_eq_some]
    exact⟨ej,ex⟩
   exact nZ this
  have:=oh.mp h6 _ hm;simp only[iQ] at this;rw[hN]
  exact⟨eq_of_beq this.1,eq_of_beq this.2⟩
 ·exact eq_of_beq (oh.mp h7 x hx)
structure cX(P:bf)(w:aY)(K:aG)(mg:Str→Option Value)(base:aV)(x:Str)(k:Nat)(ps:List Str)(sp:Sp):Prop where
 ex:∃(f:aa)(fd:dw),mg x=some (.ref f)∧vq K (.ref f)=true∧Binds K fd ps []∧di P w K mg base eV k f fd ps sp
section
variable{X:Cx}{x:Str}{k:Nat}{ps:List Str}{sp:Sp}{p pos:Pos}{e:Expr}{es:List Expr}{t:TA}
theorem akN(F:cX X.prog X.w X.K X.mg X.base x k ps sp)(hr:gZ k X.A)(hg:Gl X x)(ha:PA X (e::es) t)(hdb:(x==("__debug__":Str))=false:=by decide)
  (he:aZ (e::es) X.env=(false,eval e X.env)::aZ es X.env:=by rfl)(hpl:(gm pos (aZ es X.env)).any (·.1)=false:=by rfl):
  PE X (.Call (.Name x p) (e::es) [] pos) (Rn sp [] E0 t):=by
 obtain⟨f,fd,h1,h2,h3,h4⟩:=F.ex
 exact ahZ h4 hr hg h1 h2 h3 .nil akL ha hdb he hpl
theorem ae0:jw X (.builtin "isinstance") (fun xs H Q=>∃x n t b,xs=[x,.ty n]∧lO X.K H x t∧zb X.K t (.type n)=some b∧Q (.bl b) H):=by
 intro pins s σ H xs us Q I r h
 obtain⟨x,n,t,b,rfl,ty,e,q⟩:=h
 obtain⟨u,u2,rfl,r1,r2⟩:=vals2 r
 cases r2;exact afZ I r1 ty e fun tk=>⟨.bl b,H,I.tok tk,rfl,q⟩
end
structure Fx(K:aG)(T:fZ)(J:It)(n:Nat)(vs:Nat→List V)(G:Hp→Prop):Prop where
 go:∀i H,i<n→G H→J.go i H
 wG:∀i H x H',i<n→G H→J.wG i H x H'→H'=H∧wJ K T x H (vs i)
 stop:∀H,G H→J.stop n H
section
variable{K:aG}{T:fZ}{J:It}{n:Nat}{vs:Nat→List V}{G:Hp→Prop}{ts:TT}{te:TE}{fs:St}{H1:Hp}{D:aa}{done:Hp→Prop}
end
theorem aif(h:n≤m)(hm:m≤16777216:=by decide):n≤bM:=by rw[jg];omega
section
variable{K:aG}{T:fZ}{J:It}{n:Nat}{vs:Nat→List V}{G:Hp→Prop}{te:TE}{fs:St}{H1:Hp}{D:aa}{done:Hp→Prop}
end
section
variable{X:Cx}
theorem wI.r{id:String}{r:V→List V→Hp→VK→Prop}(h:wI X id r):Ax X id r:=h
end
def Ext(p:aa)(H H':Hp):Prop:=∀b o,H b=some o→b≠p→H' b=some o
theorem Ext.refl(p:aa)(H:Hp):Ext p H H:=fun _ _ h _=>h
theorem Ext.trans(a:Ext p H H1)(b:Ext p H1 H2):Ext p H H2:=fun c o h hc=>b c o (a c o h hc) hc
theorem bh.ext(s:bh H H'):Ext p H H':=fun b o h _=>s b o h
theorem Ext.upd:Ext p H (upd H p o):=fun b u h hb=>by rw[cJ hb];exact h
theorem bh.upd(h:H p=none):bh H (L2.upd H p o):=fun b u e=>by rw[cJ (pL e h)];exact e
def R7(D:aa)(tk tv:TE):TM:=fun σ H Q=>tk σ H fun y H1=>tv σ H1 fun z H2=>∃kvs k,H2 D=some (.dK kvs)∧y=kV k∧kvs.length<bM∧Q (upd H2 D (.dK (putK kvs k z)))
theorem ajG(hu:X.A.units+1<eU)(hk:PE X kx tk)(hv:PE X vx tv):PM X (do
      let kv ←eval kx X.env
      let vv ←pQ [kv] (eval vx X.env)
      sE {kx.pos with endLine:=vx.pos.endLine,endCol:=vx.pos.endCol}
      pQ [kv,vv] (dictSet D kv vv)) (R7 D tk tv):=by
 intro pins s σ H Q I h;refine aD (bu (hk pins s σ H _ I h) fun kv s1 aK=>?_)
 obtain⟨y,H1,I1,r1,q1⟩:=aK
 refine aD (mQ (bu (hv pins s1 σ H1 _ I1 q1) fun vv s2 aK=>?_))
 obtain⟨z,H2,I2,r2,kvs,k,hD,ey,hl,q2⟩:=aK
 subst ey;refine aD (uc (mQ ?_))
 obtain⟨z1,hd,vs,rel,dd⟩:=JB I2.hok hD
 have hz:vs.length≤bM:=by rw[←rel.length];exact z1
 have hl2:(putK kvs k z).length≤bM:=by have:=Hj kvs k z;omega
 refine wpAny_dictSet_pairs (hsz:=hz) (vQ r1) dd fun h' tO hs=>⟨_,?_,q2⟩
 have he:∃q,h'.get? D=some q:=let ⟨q,_,_,hq,_⟩:=tO;⟨q,hq⟩
 exact xO I2 (by rw[hD];exact lG) hs he (Jm hl2 hd (rel.put k r2) tO)
section
variable{X:Cx}{NT NF:List Str}{js:List Nat}{elt kx vx tg iter e:Expr}{ifs:List Expr}{T:fZ}{wi:TI}{ts:Bk→TT}{te tk' tv:Bk→TE}{scope:iY}{pos:Pos}
def tDC(K:aG)(wi:TI)(T:fZ)(ts:Bk→TT)(tk' tv:Bk→TE)(js:List Nat):TE:=fun σ H Q=>wi σ H fun J H1=>∀D,H1 D=none→∀b,wu K T (ts b) (R7 D (tk' b) (tv b)) (frees js σ) J (upd H1 D (.dK [])) (Q (.ref D))
theorem ajH{pins:List (aa×Obj)}{σ:St}{s2:au}{H2:Hp}{cl:List (Str×aa)}{it:aa}{fp:List aa}{tn:Nat→aV→Prop}{J:It}{Q:Hp→Prop}{RR:Value→aa→qI→au→Prop}{E:Value→au→Prop}
  (B:oR X NT NF js scope)(tk:nP tg NT T)(hc:X.calm=true)(hu:X.A.units+1<eU)
  (hin:∀b,mH (X.bk (NT++NF) scope b) ifs (ts b)∧PE (X.bk (NT++NF) scope b) kx (tk' b)∧PE (X.bk (NT++NF) scope b) vx (tv b))
  (q2:∀n c,cl.lookup n=some c→X.env.cells.lookup n=some c)(q3:∀y∈scope.names,y.2=.free→∃c,cl.lookup y.1=some c)
  (I2:Inv X pins σ H2 s2)(TT:Turn X.prog X.w X.K tg J fp it tn)(st2:tn 0 s2.heap)(f2:∀b∈fp,jz X pins H2 b)
  (q:∀b,wu X.K T (ts b) (R7 s2.heap.objs.size (tk' b) (tv b)) (frees js σ) J (upd H2 s2.heap.objs.size (.dK [])) Q)
  (hR:∀C H' s' m,Inv X pins σ H' s'→jz X pins H' C→s'.heap.Ns C m→Q H'→RR (.ref s2.heap.objs.size) C (.ok .next) s'):
  aM (model X.prog X.w) X.A (newDict) (fun acc s₃=>aM (model X.prog X.w) X.A (Vt scope X.env.globals cl [] X.env.qual none .none (some X.env)) (fun cenv s₄=>
   j8 (model X.prog X.w) X.A (.compStart (.DictComp kx vx [⟨tg,iter,ifs,0⟩] scope pos) 0 (.ref it) acc {cenv with scope:=relabel scope X.env}) (RR acc cenv.locals) s₄) E s₃) E s2:=by
 refine mK ?_;have hD:H2 s2.heap.objs.size=none:=I2.hok.fresh (bO _);have I3:Inv X pins σ (upd H2 s2.heap.objs.size (.dK [])) {s2 with heap:=s2.heap.push {cls:=.type "dict",dict:=none,data:=.dict #[]}}:=
  I2.laid (t':=s2.toks) (fun b o e=>cD _ e) (bO _) (Oi s2.heap I2.big)
 have hsz:(s2.heap.push {cls:=.type "dict",dict:=none,data:=.dict #[]}).objs.size=s2.heap.objs.size+1:=xj ..;refine Ul B.cell (by intro y hy;simp at hy) (fun h₁ hns₁ hsb₁=>?_) B.kind;have tQ:∀b∈fp,b<s2.heap.objs.size:=fun b hb=>by
  obtain⟨o,e,_⟩:=TT.obj 0 _ st2 b hb
  exact bW e
 have f3:∀b∈fp,jz X pins (upd H2 s2.heap.objs.size (.dK [])) b:=fun b hb=>⟨by rw[cJ (dO (tQ b hb))];exact(f2 b hb).1,(f2 b hb).2⟩
 have keep:∀b o,(s2.heap.push {cls:=.type "dict",dict:=none,data:=.dict #[]}).get? b=some o→h₁.get? b=some o:=fun b o e=>
  hsb₁.extBut b o (dO (bW e)) (cD _ e)
 have wK:∀b∈fp,b<(s2.heap.push {cls:=.type "dict",dict:=none,data:=.dict #[]}).objs.size:=fun b hb=>by have:=tQ b hb;rw[hsz];exact wX this
 have I4:=I3.blk (s1:={s2 with heap:=h₁,toks:=s2.toks+([]:List (Str×Value)).length}) B q2 q3 f3 wK hns₁ keep rfl I2.bare;have wL:tn 0 h₁:=TT.keep 0 _ _ st2 fun b _ o e=>keep b o (cD _ e)
 obtain⟨i1,i2,i3⟩:=hin ⟨cl,(s2.heap.push {cls:=.type "dict",dict:=none,data:=.dict #[]}).objs.size,{s2 with heap:=s2.heap.push {cls:=.type "dict",dict:=none,data:=.dict #[]}},upd H2 s2.heap.objs.size (.dK []),fp⟩
 have loop:j8 (model X.prog X.w) X.A (.compLoop (.DictComp kx vx [⟨tg,iter,ifs,0⟩] scope pos) 0 (.ref it) (.ref s2.heap.objs.size) (Oj scope cl (s2.heap.push {cls:=.type "dict",dict:=none,data:=.dict #[]}).objs.size X.env))
   (RR (.ref s2.heap.objs.size) (s2.heap.push {cls:=.type "dict",dict:=none,data:=.dict #[]}).objs.size) {s2 with heap:=h₁,toks:=s2.toks+([]:List (Str×Value)).length}:=by
  refine Ol (X:=X.blk (NT++NF) scope cl (s2.heap.push {cls:=.type "dict",dict:=none,data:=.dict #[]}).objs.size {s2 with heap:=s2.heap.push {cls:=.type "dict",dict:=none,data:=.dict #[]}} (upd H2 s2.heap.objs.size (.dK [])) fp)
   (T:=T) (fs:=frees js σ) (done:=Q) rfl (afl kx vx tg iter ifs scope pos _ _ _) rfl rfl rfl tk rfl B.nd hc (fun x hx=>Um (B.tg x hx)) i1 (ajG hu i2 i3) TT (fun b hb=>?_) I4 wL (q _) fun H' s' σ' J' qd=>?_
  ·exact⟨(f3 b hb).1,dO (wK b hb),fun hb2=>by
    rcases bU.mp (I3.zY b hb2) with z|z
    ·exact(f3 b hb).2.1 z
    ·exact(f3 b hb).2.2.1 z,.inl hb,fun x c e=>(f3 b hb).2.2.2.2.1 x c (q2 x c e),fun p hp=>(nomatch(show p∈([]:List (aa×Obj)) from hp))⟩
  ·obtain⟨m,hn,_⟩:=J'.loc
   exact hR _ H' s' m (I3.Rt f3 J') (I3.uL (bO _) J'.free) hn qd
 exact codeAny_compStart_dict loop (TT.self _ 0 _ _ _ wL loop)
theorem ag3(B:oR X NT NF js scope)(tk:nP tg NT T)(hc:X.calm=true)(hu:X.A.units+1<eU)(hi:PI X tg iter wi)
  (hin:∀b,mH (X.bk (NT++NF) scope b) ifs (ts b)∧PE (X.bk (NT++NF) scope b) kx (tk' b)∧PE (X.bk (NT++NF) scope b) vx (tv b))
  (hsw:uf (.DictComp kx vx [⟨tg,iter,ifs,0⟩] scope pos) (some (.Name y pos')) spos.line X.env=pure true)
  (hN:X.N.Nodup)(hI:X.N[i]?=some y)(hy:X.env.scope.names.lookup y=some .local)
  (hs:∀x,tY iter X.env x=pure x:=by intro _;rfl):PS X (.Assign [.Name y pos'] (.DictComp kx vx [⟨tg,iter,ifs,0⟩] scope pos) spos) (Am (tDC X.K wi T ts tk' tv js) (vP i)):=by
 intro pins s σ H D I h
 obtain⟨cl,hclos,q2,q3⟩:=Hz (env:=X.env) (scope:=scope) fun y hy e=>I.ok.has y.1 (B.free y hy e)
 rw[acT _ _ _ _ hsw];refine aD (uc (aD ?_));show aM _ X.A (do let _ ←VM (.DictComp kx vx [⟨tg,iter,ifs,0⟩] scope pos) scope X.env _ (newDict) false (eval iter X.env) (some (assign (.Name y pos') X.env))) _ _ s;refine aD (nD (Kz (use:=some (assign (.Name y pos') X.env)) (Q:=fun _ s'=>SP X pins D .next s') rfl hs hclos B.kind B.names
  (bu (hi pins s σ H _ I h) fun v s1 h1=>bu h1 fun itv s2 ⟨it,fp,tn,J,H2,e,I2,TT,st2,f2,q⟩=>?_)) (fun _ s' hq=>aX (aX hq)) fun _ _ e=>e)
 subst e;refine ajH (hu:=hu) (Q:=fun H'=>D.nx (σ.set i (some (.ref s2.heap.objs.size))) H') (RR:=fun acc C=>Om (model X.prog X.w) X.A X.xe (some (assign (.Name y pos') X.env)) (fun _ s'=>SP X pins D .next s') acc C) B tk hc (hin:=hin) q2 q3 I2 TT st2 f2 (q _ (I2.hok.fresh (bO _))) fun C H' s' m I' fC hn qd=>?_
 show aM _ X.A (assign (.Name y pos') X.env (.ref s2.heap.objs.size)) _ _ _;refine Gm (Nv I' hN hI (.inl hy) (v:=.ref s2.heap.objs.size) rfl (fun s3 I3 aK=>?_) (.inr hy))
 obtain⟨a,sb,ha⟩:=aK
 have SX:C≠a:=by
  rcases ha with z|z
  ·rw[z];exact fC.2.1
  ·exact fun w=>fC.2.2.2.2.1 y a z w.symm
 refine⟨m,hn.sameBut sb SX,fun h' sb'=>⟨_,H',?_,qd⟩⟩
 exact I3.turned (t':=s3.toks) (fun b o hb e=>(sb'.2 b hb).trans e) fC.1 fC.2.1 fC.2.2.2.1 fC.2.2.2.2.1 fC.2.2.2.2.2
end
section
variable{X:Cx}
theorem aih{K:aG}{t:Value}{c d:Value}{p q:Bool}(e1:zb K t c=some p)(e2:zb K t d=some q):Lk K t [c,d]=some (p||q):=by
 unfold Lk;rw[e1];cases p with
 |true=>rfl
 |false=>
  unfold Lk;rw[e2];cases q with
  |true=>rfl
  |false=>rfl
end
structure Fy(K:aG)(T:fZ)(J:It)(n:Nat)(vs:Nat→List V)(G:Hp→Prop):Prop where
 go:∀i H,i<n→G H→J.go i H
 wG:∀i H x H',i<n→G H→J.wG i H x H'→bh H H'∧wJ K T x H' (vs i)
 stop:∀H,G H→J.stop n H
section
variable{K:aG}{T:fZ}{J:It}{n:Nat}{vs:Nat→List V}{G:Hp→Prop}{ts:TT}{te:TE}{fs:St}{H1:Hp}{D:aa}{done:Hp→Prop}
end
theorem Inv.CJ{X:Cx}{pins:List (aa×Obj)}{σ:St}{H H':Hp}{s:au}{h':aV}{t':Nat}{ch:List aa}(I:Inv X pins σ H s)(k:∀b o,b∉ch→s.heap.get? b=some o→h'.get? b=some o)(hf:∀b∈ch,jz X pins H b)
  (hs:bh H H')(hfr:∀b o,s.heap.get? b=some o→H b=none→H' b=none)(hn:∀b u,H' b=some u→H b=some u∨eY X.prog X.w H' h' b u):Inv X pins σ H' {s with heap:=h',toks:=t'}:=by
 have Et:∀b u,H b=some u→b∉ch:=fun b u e z=>by rw[(hf b z).1] at e;cases e
 refine I.step (g':=s.gens) (d':=s.drawn) (ch:=ch) (fun b hb=>⟨(hf b hb).2.2.2.1,(hf b hb).2.1,(hf b hb).2.2.2.2.1,(hf b hb).2.2.2.2.2⟩) (fun b o _ _ hc e _=>k b o hc e) (fun b o _ _ hc e _=>⟨o.slots,k b o hc e⟩) (fun b o _ e n=>hfr b o e n)
  (fun b o hc e=>⟨o,k b o hc e⟩) (fun _ _ e=>hs _ _ e) (fun _ _ _ e=>hs _ _ e) (fun b ps e=>⟨#[],by rw[hs _ _ e];simp⟩) (fun m hm=>?_) (fun b u e=>?_) I.bare
 ·obtain⟨o,es,ep,ho,r⟩:=hm
  exact⟨o,es,ep,k _ o (fun z=>(hf _ z).2.1 rfl) ho,r⟩
 ·rcases hn b u e with z|z
  ·refine(I.hok b u z).stay (fun c v hc q=>k c v ?_ q) (fun _ q=>hs _ _ q) fun _ _ q=>hs _ _ q
   rcases hc with y|y
   ·rw[y];exact Et b u z
   ·exact Et c _ y
  ·exact z
def S8(K:aG)(a b:aa):It:=⟨fun i H=>∃xs ys,bK K H a xs∧bK K H b ys∧i<min xs.length ys.length,
 fun i H v H'=>∃p x y,H p=none∧v=.ref p∧H'=upd H p (.tup [x,y])∧∀xs ys,bK K H a xs→bK K H b ys→xs[i]?=some x∧ys[i]?=some y,
 fun i H=>∃xs ys,bK K H a xs∧bK K H b ys∧i=min xs.length ys.length⟩
theorem ag4{P:bf}{w:aY}{K:aG}{es:List Expr}{k:Nat}{ps:Pos}{a b z TI TO i1 i2:aa}(D:ZipApart z TI TO i1 i2 a b):
  Turn P w K (.Tuple es k ps) (S8 K a b) [z,TI,TO,i1,i2] z (fun i h=>IsZip h z TI TO .none∧IsPair h TI (.ref i1) (.ref i2)∧(∃c d,IsPair h TO c d)∧h.IsListIter i1 a i∧h.IsListIter i2 b i) where
 mem:=by simp
 obj:=fun i h st c hc=>by
  obtain⟨h1,h2,⟨_,_,h3⟩,⟨o4,e4,_,d4⟩,⟨o5,e5,_,d5⟩⟩:=st
  simp only[bU,jN,or_false] at hc;rcases hc with rfl|rfl|rfl|rfl|rfl
  ·exact⟨_,h1,fun v q=>by cases q⟩
  ·exact⟨_,h2,fun v q=>by cases q⟩
  ·exact⟨_,h3,fun v q=>by cases q⟩
  ·exact⟨_,e4,fun v q=>by rw[d4] at q;cases q⟩
  ·exact⟨_,e5,fun v q=>by rw[d5] at q;cases q⟩
 keep:=fun i h h' st kk=>by
  obtain⟨h1,h2,⟨c,d,h3⟩,h4,h5⟩:=st
  exact⟨kk z (by simp) _ h1,kk TI (by simp) _ h2,⟨c,d,kk TO (by simp) _ h3⟩,h4.at fun o e=>kk i1 (by simp) o e,h5.at fun o e=>kk i2 (by simp) o e⟩
 item:=by
  intro X hP hw hK hc i pins s σ H E I hf st hg;subst hP hw hK
  obtain⟨xs,ys,ha,hb,hi⟩:=hg
  obtain⟨its,r1,p1,_⟩:=I.list ha
  obtain⟨its2,r2,p2,_⟩:=I.list hb
  have l1:=r1.length;have l2:=r2.length;have W:=ae1 (prog:=X.prog) (w:=X.w) (A:=X.A) (I.ok.hd hc) z TI TO i1 i2 a b D its.toArray its2.toArray
  obtain⟨s1,s2,s3,s4,s5⟩:=st
  refine W.item i s _ E (by simp;omega) ⟨s1,s2,s3,s4,s5,p1.isList,p2.isList⟩ fun T vals h' tk hv hT ht hm kk=>?_
  obtain⟨x,y,hx,hy,rfl⟩:=hv
  refine⟨_,rfl,W.go es k ps i T _ _ E hm fun h2 st2 rC=>?_⟩
  have gx:xs[i]?=some (xs.getD i .non):=by
   have:i<xs.length:=by omega
   simp[qC,this]
  have gy:ys[i]?=some (ys.getD i .non):=by
   have:i<ys.length:=by omega
   simp[qC,this]
  obtain⟨u1,hu1,q1⟩:=r1.get gx
  obtain⟨u2,hu2,q2⟩:=r2.get gy
  have ex:u1=x:=by
   have:its[i]?=some x:=by simpa using hx
   rw[hu1] at this;exact fV this
  have ey:u2=y:=by
   have:its2[i]?=some y:=by simpa using hy
   rw[hu2] at this;exact fV this
  subst ex ey;have wf:∀c,c∈[z,TO,i1,i2]→jz X pins H c:=fun c hc=>hf c (by simp at hc⊢;rcases hc with rfl|rfl|rfl|rfl<;>simp)
  have Ez:H T=none:=I.hok.fresh hT;have nT:T∉[z,TO,i1,i2]:=W.apart i T _ hm;have kT:h2.get? T=h'.get? T:=by
   obtain⟨o,e,_⟩:=id ht
   rw[rC T o nT e];exact e.symm
  obtain⟨oT,eT,cT,nT',dT⟩:=id ht
  refine⟨.ref T,upd H T (.tup [xs.getD i .non,ys.getD i .non]),I.CJ (fun c o hc e=>rC c o hc (kk c o hc e)) wf (bh.upd Ez) (fun c o e n=>?_) (fun c u e=>?_),rfl,⟨T,_,_,Ez,rfl,rfl,fun xs' ys' h1 h2=>?_⟩,?_,fun c hc=>?_⟩
  ·rw[cJ]
   ·exact n
   ·intro z;subst z;exact absurd (bW e) (Nh.mpr hT)
  ·by_cases EY:c=T
   ·subst EY;rw[eN] at e;cases e;refine .inr ⟨by show 2≤bM;decide,[u1,u2],.cons q1 (.cons q2 .nil),oT,kT.trans eT,cT,nT',by simpa using dT⟩
   ·rw[cJ EY] at e;exact .inl e
  ·rw[I.HY h1 ha,I.HY h2 hb]
   exact⟨gx,gy⟩
  ·exact⟨st2.1,st2.2.1,st2.2.2.1,st2.2.2.2.1,st2.2.2.2.2.1⟩
  ·rw[cJ]
   ·exact(hf c hc).1
   ·intro z;subst z
    obtain⟨o,e,_⟩:∃o,s.heap.get? c=some o∧True:=by
     simp only[bU,jN,or_false] at hc
     obtain⟨c1,d1,s3⟩:=s3
     obtain⟨o4,e4,_⟩:=s4
     obtain⟨o5,e5,_⟩:=s5
     rcases hc with rfl|rfl|rfl|rfl|rfl
     ·exact⟨_,s1,trivial⟩
     ·exact⟨_,s2,trivial⟩
     ·exact⟨_,s3,trivial⟩
     ·exact⟨_,e4,trivial⟩
     ·exact⟨_,e5,trivial⟩
    exact absurd (bW e) (Nh.mpr hT)
 done:=by
  intro X hP hw hK hc i pins s σ H E I hf st hg;subst hP hw hK
  obtain⟨xs,ys,ha,hb,hi⟩:=hg
  obtain⟨its,r1,p1,_⟩:=I.list ha
  obtain⟨its2,r2,p2,_⟩:=I.list hb
  have l1:=r1.length;have l2:=r2.length;have W:=ae1 (prog:=X.prog) (w:=X.w) (A:=X.A) (I.ok.hd hc) z TI TO i1 i2 a b D its.toArray its2.toArray
  obtain⟨s1,s2,s3,s4,s5⟩:=st
  have e:i=min its.toArray.size its2.toArray.size:=by simp;omega
  subst e;refine W.done s _ E ⟨s1,s2,s3,s4,s5,p1.isList,p2.isList⟩ fun h' tk kk=>⟨rfl,?_⟩
  have wf:∀c,c∈[z,TO,i1,i2]→jz X pins H c:=fun c hc=>hf c (by simp at hc⊢;rcases hc with rfl|rfl|rfl|rfl<;>simp)
  exact I.CJ kk wf (bh.refl H) (fun _ _ _ n=>n) fun _ _ e=>.inl e
 self:=fun _ _ _ _ _ st h=>adN st.1 h
def aln(K:aG)(t:TA):TI:=fun σ H R=>t σ H fun vs H1=>∃a b xs ys,vs=[.ref a,.ref b]∧bK K H1 a xs∧bK K H1 b ys∧R (S8 K a b) H1
theorem ajI{X:Cx}{es:List Expr}{k:Nat}{ps:Pos}{x y:Expr}{t:TA}{p pos:Pos}(hg:Gl X "zip")(hm:X.mg "zip"=none)(ha:PA X [x,y] t)(hs:aZ [x,y] X.env=[(false,eval x X.env),(false,eval y X.env)]:=by rfl)(hs2:aZ [y] X.env=[(false,eval y X.env)]:=by rfl):
  PI X (.Tuple es k ps) (.Call (.Name "zip" p) [x,y] [] pos) (aln X.K t):=by
 intro pins s σ H R I h;refine Call_ (uz I hg hm anp (FW (bu (ha pos pins s σ H _ I h) fun us s1 aK=>?_) (by rw[hs,hs2]) (by rw[hs2];rfl)))
 obtain⟨vs,H1,I1,r1,q1⟩:=aK
 obtain⟨a,b,xs,ys,e,h1,h2,q⟩:=q1
 subst e;cases r1 with
 |cons r rr=>
  cases rr with
  |cons r' rr=>
   cases rr;cases r;cases r'
   obtain⟨its,v1,p1,_⟩:=I1.list h1
   obtain⟨its2,v2,p2,_⟩:=I1.list h2
   have lt1:a<s1.heap.objs.size:=by obtain⟨_,e,_⟩:=p1.isList;exact bW e
   have tQ:b<s1.heap.objs.size:=by obtain⟨_,e,_⟩:=p2.isList;exact bW e
   refine call_zip_2 p1.isList p2.isList fun h' g1 g2 g3 g4 g5 hsz kk=>?_
   refine adN g1 ?_;have I2:Inv X pins σ H1 {s1 with heap:=h'}:=I1.kept (t':=s1.toks) kk
   refine⟨s1.heap.objs.size+4,[s1.heap.objs.size+4,s1.heap.objs.size+2,s1.heap.objs.size+3,s1.heap.objs.size,s1.heap.objs.size+1],_,_,H1,rfl,I2,ag4 (zipApart_new lt1 tQ),⟨g1,g2,⟨_,_,g3⟩,g4,g5⟩,fun c hc=>?_,q⟩
   refine I1.uL ?_ (I1.hok.fresh ?_)
   all_goals
    simp only[bU,jN,or_false] at hc;rcases hc with rfl|rfl|rfl|rfl|rfl<;>omega
theorem afn(I:Inv X pins σ H s)(rx:RelV x u)(ty:lO X.K H x t)(e:Lk X.K t its=some b)
  (hc:s.heap.IsTuple c its.toArray)(h:∀tk,Q (.bool b) {s with toks:=tk}):aM (model X.prog X.w) A (call (.builtin "isinstance") [u,.ref c]) Q E s:=by
 obtain⟨⟨oc,od,oda,osl⟩,g1,g2,g3,g4⟩:=hc
 simp only at g2 g4;subst g2 g4;cases ty with
 |non=>cases(show u=pJ from rx);exact rQ adp I.gM lG g1 e (fun z=>nomatch z) h
 |bl y=>cases(show u=pK y from rx);exact rQ adq I.gM lG g1 e (fun z=>nomatch z) h
 |int i=>obtain⟨t,q⟩:=(show ∃t,u=HH i t from rx);cases q;exact rQ adJ I.gM lG g1 e (fun z=>nomatch z) h
 |str y=>obtain⟨t,q⟩:=(show ∃t,u=HJ y t from rx);cases q;exact rQ adK I.gM lG g1 e (fun z=>nomatch z) h
 |flt y=>obtain⟨t,q⟩:=(show ∃t,u=Wi y t from rx);cases q;exact rQ ade I.gM lG g1 e (fun z=>nomatch z) h
 |@lst a xs ea=>
  cases(show u=dM a from rx)
  obtain⟨_,_,n,_,h1⟩:=(show eY X.prog X.w H s.heap a (.lst xs) from I.hok a _ ea)
  exact rQ KR I.gM ⟨_,h1,rfl⟩ g1 e (fun z=>nomatch z) h
 |@lg a ob xs ea=>
  cases(show u=dM a from rx)
  obtain⟨_,_,_,n,_,h1⟩:=(show eY X.prog X.w H s.heap a (.lg ob (.lst xs)) from I.hok a _ ea)
  exact rQ KR I.gM ⟨_,h1,rfl⟩ g1 e (fun z=>nomatch z) h
 |@tup a xs ea=>
  cases(show u=dM a from rx)
  obtain⟨_,_,_,p⟩:=(show eY X.prog X.w H s.heap a (.tup xs) from I.hok a _ ea)
  obtain⟨o,h1,h2,_⟩:=p
  exact rQ adf I.gM ⟨o,h1,h2⟩ g1 e (fun z=>nomatch z) h
 |@dK a kvs ea=>
  cases(show u=dM a from rx)
  obtain⟨_,_,vs,_,p⟩:=(show eY X.prog X.w H s.heap a (.dK kvs) from I.hok a _ ea)
  obtain⟨o,es,ep,h1,h2,_⟩:=p
  exact rQ KY I.gM ⟨o,h1,h2.1⟩ g1 e (fun z=>nomatch z) h
 |@dT a kvs ea=>
  cases(show u=dM a from rx)
  obtain⟨_,_,xs,_,o,es,ep,h1,h2,_⟩:=(show eY X.prog X.w H s.heap a (.dT kvs) from I.hok a _ ea)
  exact rQ KY I.gM ⟨o,h1,h2.1⟩ g1 e (fun z=>nomatch z) h
 |@ins a C dx fs ea cl ha hn htk hm=>
  cases(show u=dM a from rx)
  obtain⟨mA,O,_⟩:=Y4 I.hok ea
  obtain⟨od,J,_⟩:=O.look
  exact rQ (adL (cl.get _) cl.hd ha hn htk hm) I.gM J g1 e (fun z=>nomatch z) h
theorem aeD:jw X (.builtin "isinstance") (fun xs H Q=>∃x c m n t p q,xs=[x,.ref c]∧H c=some (.tup [.ty m,.ty n])∧lO X.K H x t∧zb X.K t (.type m)=some p∧zb X.K t (.type n)=some q∧Q (.bl (p||q)) H):=by
 intro pins s σ H xs us Q I r h
 obtain⟨x,c,m,n,t,p,q,rfl,hc,ty,e1,e2,k⟩:=h
 obtain⟨u,u2,rfl,r1,r2⟩:=vals2 r
 cases r2
 obtain⟨_,its,rv,ob,g1,g2,g3⟩:=(show eY X.prog X.w H s.heap c (.tup [.ty m,.ty n]) from I.hok c _ hc)
 cases rv with
 |cons a1 rv=>
  cases rv with
  |cons a2 rv=>
   cases rv;cases a1;cases a2;exact afn I r1 ty (aih e1 e2) ⟨ob,g1,g2,g3⟩ fun tk=>⟨.bl (p||q),H,I.tok tk,rfl,k⟩
end L2
namespace L2
open PySem PySem.Spec PyProof.Rows PySem.W
section
variable{N:Nat}{lt:Nat→Nat→Bool}{α β:Type}
def dX(N:Nat)(lt:Nat→Nat→Bool):KasT α→(α→Prop)→Prop
 |.ret a,R=>R a
 |.ask i j k,R=>i<N∧j<N∧dX N lt (k (lt i j)) R
theorem dX.mono:∀{t:KasT α},dX N lt t R→(∀a,R a→S a)→dX N lt t S
 |.ret a,h,f=>f a h
 |.ask i j k,h,f=>⟨h.1,h.2.1,dX.mono h.2.2 f⟩
theorem dX.bind:∀{t:KasT α},dX N lt t (fun a=>dX N lt (f a) R)→dX N lt (t.bind f) R
 |.ret a,h=>h
 |.ask i j k,h=>⟨h.1,h.2.1,dX.bind h.2.2⟩
theorem dX.wp(ask:∀i j,i<N→j<N→∀C:Bool→au→Prop,C (lt i j) s→cmp i j C s)(q:∀a,R a→Q a s):∀{t:KasT α},dX N lt t R→t.kasWp cmp Q s
 |.ret a,h=>q a h
 |.ask i j k,h=>ask i j h.1 h.2.1 _ (dX.wp ask q h.2.2)
def KP(N:Nat)(p:Array Nat):Prop:=p.toList.Perm (dJ N)
theorem KP.ix(h:KP N p)(h0:0<N)(i:Nat):p.getD i 0<N:=by
 by_cases hi:i<p.size
 ·have:p.getD i 0∈p.toList:=by simp[afo,hi]
  exact pH.mp (h.mem_iff.mp this)
 ·simpa[afo,hi] using h0
theorem KP.rev(h:KP N p)(i j:Nat):KP N (kas_rev p i j):=((mirror_perm p i j _).toList).trans h
theorem KP.bub(h:KP N p)(i j:Nat):KP N (bubble p i j):=((bubble_perm p i j).toList).trans h
theorem QS(h:KP N p)(h0:0<N):∀f n,dX N lt (kas_asc p f n) fun _=>True
 |0,n=>trivial
 |f+1,n=>by
  refine⟨h.ix h0 _,h.ix h0 _,?_⟩
  dsimp only;split
  ·exact trivial
  ·exact QS h h0 f (n+1)
theorem IW(h0:0<N):∀f (p:Array Nat) n q,KP N p→dX N lt (kas_desc f p n q) fun r=>KP N r.1
 |0,p,n,q,h=>h
 |f+1,p,n,q,h=>by
  refine⟨h.ix h0 _,h.ix h0 _,?_⟩
  dsimp only;split
  ·split
   ·exact IW h0 f _ _ _ (h.rev _ _)
   ·exact IW h0 f _ _ _ h
  ·refine⟨h.ix h0 _,h.ix h0 _,?_⟩
   dsimp only;split
   ·exact h
   ·exact IW h0 f _ _ _ h
theorem XN(h0:0<N)(h:KP N p)(n nrem:Nat):dX N lt (kas_tail3 n nrem p) fun r=>KP N r.2:=
 dX.bind (dX.mono (QS (h.rev 0 n) h0 _ _) fun _ _=>h.rev 0 n)
theorem Wo(h0:0<N)(h:KP N p)(n nrem:Nat):dX N lt (kas_descPart n nrem p) fun r=>KP N r.2:=by
 refine dX.bind (dX.mono (IW h0 _ p _ _ h) fun r hr=>?_);split
 ·exact XN h0 (KP.rev hr _ _) _ _
 ·exact XN h0 hr _ _
theorem ag5(h0:0<N)(h:KP N p)(nrem:Nat):dX N lt (kas_count nrem p) fun r=>KP N r.2:=by
 refine dX.bind (dX.mono (QS h h0 _ _) fun n _=>?_);split
 ·exact h
 ·split
  ·refine⟨h.ix h0 _,h.ix h0 _,?_⟩
   dsimp only;split
   ·exact h
   ·exact Wo h0 (h.rev _ _) _ _
  ·exact Wo h0 h _ _
theorem Oo(h0:0<N)(h:KP N p)(k:Nat):∀f l r,dX N lt (kas_place p k f l r) fun _=>True
 |0,l,r=>trivial
 |f+1,l,r=>by
  unfold kas_place;split
  ·exact trivial
  ·refine⟨h.ix h0 _,h.ix h0 _,?_⟩
   dsimp only;split
   ·exact Oo h0 h k f _ _
   ·exact Oo h0 h k f _ _
theorem aah(h0:0<N):∀f (p:Array Nat) k,KP N p→dX N lt (kas_bin f p k) (KP N)
 |0,p,k,h=>h
 |f+1,p,k,h=>dX.bind (dX.mono (Oo h0 h k _ _ _) fun l _=>aah h0 f _ _ (h.bub _ _))
theorem Za(h0:0<N):dX N lt (kas_sort N) (KP N):=by
 refine dX.bind (dX.mono (ag5 h0 (p:=List.toArray (dJ N)) (zc _) N) fun r hr=>?_);split
 ·exact aah h0 _ _ _ hr
 ·exact hr
end
def kLt:Key→Key→Bool
 |.inl i,.inl j=>decide (i<j)
 |.inr x,.inr y=>decide (x.cps.toList<y.cps.toList)
 |_,_=>false
def dF:List Key→List Key→Bool
 |a::r,b::t=>if a=b then dF r t else kLt a b
 |_,_=>false
def bJ:Key→Bool
 |.inl _=>true
 |.inr _=>false
section
variable{prog:bf}{w:aY}{A:bY}{E:Value→au→Prop}{s:au}{Q:Bool→au→Prop}
theorem ag6(ra:RelV (kV a) u)(rb:RelV (kV b) v)(ht:bJ a=bJ b)(h:Q (kLt a b) s):aM (model prog w) A (oneLt' f u v) Q E s:=by
 cases a with
 |inl i=>
  cases b with
  |inr y=>cases ht
  |inl j=>
   obtain⟨t,rfl⟩:=ra
   obtain⟨t',rfl⟩:=rb
   cases f with
   |true=>exact oneLt_int h
   |false=>exact kat_one _ _ (lt_int h)
 |inr x=>
  cases b with
  |inl y=>cases ht
  |inr y=>
   obtain⟨t,rfl⟩:=ra
   obtain⟨t',rfl⟩:=rb
   cases f with
   |true=>exact oneLt_str h
   |false=>exact kat_one _ _ (lt_str h)
theorem Zb(ht:bJ a=bJ b):rB (kV a) (kV b)=decide (a=b):=by
 cases a with
 |inl i=>
  cases b with
  |inr y=>cases ht
  |inl j=>show(i==j)=_;rw[qw];simp
 |inr x=>
  cases b with
  |inl y=>cases ht
  |inr y=>show(x==y)=_;rw[qw];simp
theorem Ig(a:Key):oO (kV a)=true:=by cases a<;>rfl
theorem XQ:∀{ks js:List Key}{us vs:List Value}{i:Nat},Vals (ks.map kV) us→Vals (js.map kV) vs→ks.map bJ=js.map bJ→Q (dF ks js) s→KatLex prog w A true false Q (us.zip vs) i s
 |[],[],_,_,_,ra,rb,_,h=>by
  cases ra;cases rb;exact kat_nil h
 |[],_::_,_,_,_,_,_,e,_=>by cases e
 |_::_,[],_,_,_,_,_,e,_=>by cases e
 |a::ks,b::js,us,vs,i,ra,rb,e,h=>by
  cases ra with
  |cons r1 ra=>
   cases rb with
   |cons r2 rb=>
    have e1:bJ a=bJ b:=(zg e).1;have e2:=(zg e).2;refine kat_cons (QK r1 r2 (Ig a) (Ig b) prog w _ _ ?_);rw[Zb e1];unfold dF at h;by_cases hab:a=b
    ·rw[if_pos hab] at h;rw[decide_eq_true hab];exact kat_yes (XQ ra rb e2 h)
    ·rw[if_neg hab] at h;rw[decide_eq_false hab];exact kat_no (ag6 r1 r2 e1 h)
end
section
variable{prog:bf}{w:aY}{A:bY}{E:Value→au→Prop}{s:au}{vs:List Value}{κ:SortKind}{lt:Nat→Nat→Bool}{Rl:List Nat→Prop}
def Kp(a:aa)(h h':aV):Prop:=∀b o,b≠a→h.get? b=some o→h'.get? b=some o
theorem afp(ho:s.heap.get? a=some (seqObj "list" vs.toArray n))(h64:vs.length<64)(hg:2≤vs.length→dX vs.length lt (kas_sort vs.length) fun p=>KP vs.length p∧Rl p.toList)(hsm:vs.length<2→Rl (dJ vs.length))
  (hk:2≤vs.length→∀s':au,Kp a s.heap s'.heap→∀Q:SortKind→au→Prop,Q κ s'→aM (model prog w) A (keyKind' vs.toArray) Q (fun _ _=>False) s')
  (hl:2≤vs.length→∀s':au,Kp a s.heap s'.heap→∀i j,i<vs.length→j<vs.length→∀C:Bool→au→Prop,C (lt i j) s'→kas_ask prog w A κ vs i j C s')
  (h:∀(p:List Nat)(h':aV)(c:Nat),p.Perm (dJ vs.length)→Rl p→Kp a s.heap h'→h'.get? a=some (seqObj "list" (p.map fun i=>vs.getD i pJ).toArray c)→P (.done (.ret .none)) {s with heap:=h'}):
  aM (model prog w) A (kJ.«list.sort» ⟨[.ref a],[]⟩) P E s:=by
 have lta:a<s.heap.objs.size:=bW ho
 obtain⟨e1,ho1⟩:∃e1,(s.heap.update a (lH fun _=>(#[]:Array Value))).get? a=some (seqObj "list" #[] e1):=⟨_,get?_update_seq ho fun _=>#[]⟩
 have sz:vs.length≤bM:=by rw[jg];omega
 have kp:Kp a s.heap (((s.heap.update a (lH fun _=>(#[]:Array Value))).push (seqObj "tuple" vs.toArray 0)).push (seqObj "list" #[] 0)):=fun b o hb e=>
  cD _ (cD _ (((tW s.heap a _).2 b hb).trans e))
 have Fb:(((s.heap.update a (lH fun _=>(#[]:Array Value))).push (seqObj "tuple" vs.toArray 0)).push (seqObj "list" #[] 0)).get? a=some (seqObj "list" #[] e1):=cD _ (cD _ ho1);rw[list_sort_plain];refine aD (listItems_at ho rfl (aD (listUpdate_at ho rfl (aD (seqEpoch_at ho1 rfl (aD (wpAny_newTuple (aD (Mf (mQ ?_) (lF _))) (by show vs.length≤_;exact sz))))) (by rw[fW];exact sz) (lF _))));show aM (model prog w) A _ P E {s with heap:=((s.heap.update a (lH fun _=>(#[]:Array Value))).push (seqObj "tuple" vs.toArray 0)).push (seqObj "list" #[] 0)};dsimp only;have fin:∀(p:List Nat),p.Perm (dJ vs.length)→Rl p→∀out:Array Value,out=(p.map fun i=>vs.getD i pJ).toArray→
   P (.done (.ret .none)) {s with heap:=(((s.heap.update a (lH fun _=>(#[]:Array Value))).push (seqObj "tuple" vs.toArray 0)).push (seqObj "list" #[] 0)).update a (lH fun _=>out)}:=fun p hp hrl out eo=>by
  subst eo;refine h p _ _ hp hrl (fun b o hb e=>((tW _ a _).2 b hb).trans (kp b o hb e)) (get?_update_seq Fb _)
 by_cases h2:vs.toArray.size<2
 ·rw[if_pos h2,if_pos h2];refine aD (aX ?_);rw[StateT.run_pure];refine aD (aX ?_);dsimp only;have hz:(pairsOf vs).size≤bM:=by rw[pairsOf_size];exact sz
  refine aD (seqEpoch_at Fb rfl (aD (listUpdate_at Fb rfl ?_ (hsz2:=by rw[Array.size_map];show(pairsOf vs).size≤_;omega))));simp only[bne_self_eq_false,pF,if_false];refine aX (fin (dJ vs.length) (zc _) (hsm (by simpa using h2)) _ ?_);apply Array.toList_inj.mp
  show((vs.toArray.zip vs.toArray).map (·.2)).toList=_
  rw[Array.toList_map,Array.toList_zip,List.map_snd_zip (bO _)];show vs=_;refine yU (by simp) fun i h1 h3=>?_
  simp[qC,h1]
 ·have h2':2≤vs.length:=by simpa using h2
  rw[if_neg h2,if_neg h2];refine aD (nD (hk h2' _ kp (fun k s'=>k=κ∧s'={s with heap:=((s.heap.update a (lH fun _=>(#[]:Array Value))).push (seqObj "tuple" vs.toArray 0)).push (seqObj "list" #[] 0)}) ⟨rfl,rfl⟩) (fun k s0 hk0=>?_) fun _ _ x=>x.elim)
  obtain⟨rfl,rfl⟩:=hk0
  refine aD (nD (kat_run (ks:=vs) (vs:=vs) (Q:=fun st' s'=>∃p:Array Nat,(KP vs.length p∧Rl p.toList)∧arrOf st'=p.map (kas_item (vs.toArray.zip vs.toArray))∧failedOf st'=none∧s'={s with heap:=((s.heap.update a (lH fun _=>(#[]:Array Value))).push (seqObj "tuple" vs.toArray 0)).push (seqObj "list" #[] 0)})
   rfl h2' h64 (G:=fun p s'=>(KP vs.length p∧Rl p.toList)∧s'={s with heap:=((s.heap.update a (lH fun _=>(#[]:Array Value))).push (seqObj "tuple" vs.toArray 0)).push (seqObj "list" #[] 0)}) (fun p st' s' a1 a2 a3 a4=>⟨p,a4.1,a2,a3,a4.2⟩) (dX.wp (lt:=lt) (hl h2' _ kp) (fun p hp=>⟨hp,rfl⟩) (hg h2'))) ?_ fun _ _ e=>e)
  rintro⟨⟨⟩,st'⟩ s' ⟨p,⟨hp,hrl⟩,har,hf,rfl⟩
  dsimp only;have hout:=kat_snds (ks:=vs) (vs:=vs) rfl har;have hps:p.toList.length=vs.length:=by rw[hp.length_eq,lA]
  rw[hout];refine aD (seqEpoch_at Fb rfl (aD (listUpdate_at Fb rfl ?_ (lF _) (by rw[fW,aW,hps];omega))));rw[hf];simp only[bne_self_eq_false,pF,if_false];exact aX (fin p.toList hp hrl _ rfl)
end
def abp(h:aV)(d:aa)(es:Array DictEntry)(ep:Nat):Prop:=∃o,h.get? d=some o∧o.ExactDict∧o.data=.dict es ep
section
variable{prog:bf}{w:aY}{A:bY}{E:Value→au→Prop}{s:au}{d it:aa}{es:Array DictEntry}{ep i:Nat}
theorem abp.ty(h:abp s.heap d es ep):s.TypeIs (.ref d) "dict":=let ⟨o,ho,hc,_⟩:=h;⟨o,ho,hc.1⟩
theorem ae2(K:KdlSrc prog w T r d n P OK)(hh:A.handled=none)(hok:OK s.heap)(hn:n≤bM)
  (h:∀(h':aV)(tk:Nat)(acc:Array Value),s.heap.objs.size≤h'.objs.size→(∀b o,s.heap.get? b=some o→h'.get? b=some o)→ItemsOf P acc n→R acc.toList {s with heap:=h',toks:=tk}):
  aM (model prog w) A (collect (.ref r)) R E s:=by
 have hlt:=K.there _ hok;unfold collect;refine aD (wpAny_runValue (vp entry_proto_collect' ?_));rw[u9 acs _];show aM _ A.in1 (newList [] >>= fun l=>again (.builtin "list.__iadd__" ⟨[l,.ref r],[]⟩)) _ _ s;refine aD (mK ?_);refine aX ⟨ud KC _,vp entry_list_iadd' ?_⟩;rw[u9 KC _];have hS:(s.heap.push {cls:=.type "list",data:=.seq ([]:List Value).toArray}).get? s.heap.objs.size=some {cls:=.type "list",data:=.seq #[]}:=ie _ rfl;show aM _ A.in1 (Ks (.ref s.heap.objs.size) (.ref r) (.ref s.heap.objs.size)) _ _ _;have key:=kdl_extend (A:=A) (s:={s with heap:=s.heap.push {cls:=.type "list",data:=.seq ([]:List Value).toArray}}) (R:=fun(q:qI)(s':au)=>∃(h':aV)(tk:Nat)(acc':Array Value)(c':Nat),q=.ok (.ret (.ref s.heap.objs.size))∧s'={s with heap:=h',toks:=tk}∧(∀b o,s.heap.get? b=some o→h'.get? b=some o)∧h'.get? s.heap.objs.size=some {cls:=.type "list",dict:=none,data:=.seq acc' c',slots:=#[]}∧ItemsOf P acc' n)
  K hh (K.keep _ _ hok fun b _ o e=>cD _ e) s.heap.objs.size (zx hlt.1) (zx hlt.2) (.ref s.heap.objs.size) 0 hS (fun h' tk acc' c' hk hS' hacc=>⟨h',tk,acc',c',rfl,rfl,fun b o e=>hk b o (dO (bW e)) (cD _ e),hS',hacc⟩) hn
 refine nD key (fun fin s' x=>?_) fun e s' x=>?_
 ·cases fin with
  |done f=>
   obtain⟨h',tk,acc',c',e,rfl,hk,hS',hacc⟩:=x
   cases e;show aM _ A (load s.heap.objs.size >>= _) _ _ _
   exact aD (Hu hS' (aX (h h' tk acc' (vB (bW hS')) hk hacc)))
  |again c₁=>
   refine⟨x.1,GX x.2 fun q s₂ y=>?_⟩
   obtain⟨h',tk,acc',c',rfl,rfl,hk,hS',hacc⟩:=y
   show aM _ A (load s.heap.objs.size >>= _) _ _ _;exact aD (Hu hS' (aX (h h' tk acc' (vB (bW hS')) hk hacc)))
 ·obtain⟨_,_,_,_,e',_⟩:=x;cases e'
end
theorem NB:∀{us:List Value}{ns:List Str},StrsAre us ns→Vals (ns.map V.str) us
 |_,_,.nil=>.nil
 |_,_,.cons _ t r=>.cons ⟨t,rfl⟩ (NB r)
section
variable{X:Cx}
theorem gZ.bH(r:gZ k A):A.units+1<eU:=by have:=r.un;omega
abbrev Row:=aa×List Key
def TupAt(h:aV)(r:Row):Prop:=∃its,Vals (r.2.map kV) its∧IsTup h r.1 its.toArray
theorem TupAt.keep(t:TupAt h r)(k:∀b o,h.get? b=some o→h'.get? b=some o):TupAt h' r:=by
 obtain⟨its,v,o,e,c⟩:=t
 exact⟨its,v,o,k _ _ e,c⟩
theorem Zc:∀{rows:List Row},(∀r∈rows,TupAt h r∧r.2.map bJ=b::sh)→∃fs,KatTups h (rows.map fun r=>dM r.1) fs∧fs.length=rows.length∧∀f∈fs,∃k,RelV (kV k) f∧bJ k=b
 |[],_=>⟨[],KatTups.nil,rfl,by simp⟩
 |r::rows,ha=>by
  obtain⟨fs,t,l,g⟩:=Zc (rows:=rows) fun q hq=>ha q (dN _ hq)
  obtain⟨⟨its,v,o,e,c,n,d⟩,s⟩:=ha r dG
  obtain⟨a,ks⟩:=r
  cases ks with
  |nil=>cases s
  |cons k ks=>
   cases v with
   |@cons _ u _ us v1 v2=>
    refine⟨u::fs,KatTups.cons e c d (by simp) t,by simp[l],fun f hf=>?_⟩
    rcases bU.mp hf with rfl|hf
    ·exact⟨k,v1,(zg s).1⟩
    ·exact g f hf
theorem agc(r:RelV (kV k) f)(e:bJ k=b):Looks M h (typeOf f) (if b=true then .type "int" else .type "str"):=by
 subst e;cases k with
 |inl i=>obtain⟨t,rfl⟩:=r;exact Looks.of_pure rfl
 |inr i=>obtain⟨t,rfl⟩:=r;exact Looks.of_pure rfl
theorem Oq(rows:List Row)(hi:i<rows.length):(rows.map fun r=>dM r.1).getD i pJ=.ref rows[i].1:=by simp[qC,hi]
def rowAt(rows:List Row)(i:Nat):List Key:=((rows[i]?).map (·.2)).getD []
theorem agd{prog:bf}{w:aY}{A:bY}{s':au}{rows:List Row}{b:Bool}{sh:List Bool}(ha:∀r∈rows,TupAt s'.heap r∧r.2.map bJ=b::sh)(h0:0<rows.length)(Q:SortKind→au→Prop)(q:Q (tuples' true) s'):
  aM (model prog w) A (keyKind' (rows.map fun r=>dM r.1).toArray) Q (fun _ _=>False) s':=by
 obtain⟨fs,t,l,g⟩:=Zc ha
 refine kat_kind (T:=if b=true then .type "int" else .type "str") t (by omega) (fun v hv=>?_) (by cases b<;>rfl) (by cases b<;>exact q)
 obtain⟨k,r,e⟩:=g v hv
 exact agc r e
theorem aii(ha:∀r∈rows,TupAt s'.heap r∧r.2.map bJ=sh)(hi:i<rows.length)(hj:j<rows.length)(C:Bool→au→Prop)(q:C (dF (rowAt rows i) (rowAt rows j)) s'):
  kas_ask prog w A (tuples' true) (rows.map fun r=>dM r.1) i j C s':=by
 obtain⟨⟨its,v,o,e,c,n,d⟩,s1⟩:=ha rows[i] (wZ hi)
 obtain⟨⟨its2,v2,o2,e2,c2,n2,d2⟩,s2⟩:=ha rows[j] (wZ hj)
 unfold kas_ask;rw[Oq rows hi,Oq rows hj];have l1:=v.length;have l2:=v2.length;have l3:rows[i].2.length=rows[j].2.length:=by
  have:=congrArg pI (s1.trans s2.symm);simpa using this
 refine kat_lt e d e2 d2 ?_;have ez:decide (its.toArray.size<its2.toArray.size)=false:=by
  rw[decide_eq_false];simp only[fW];rw[aW] at l1 l2;omega
 rw[ez];have q':C (dF rows[i].2 rows[j].2) s':=by
  unfold rowAt at q;rw[jt hi,jt hj] at q;exact q
 exact XQ (by simpa using v) (by simpa using v2) (s1.trans s2.symm) q'
theorem age{rows:List Row}{p:List Nat}(h:p.Perm (dJ rows.length)):(p.map fun i=>rows.getD i (0,[])).Perm rows:=by
 have e:(dJ rows.length).map (fun i=>rows.getD i (0,[]))=rows:=yU (by simp) fun i h1 h2=>by simp[qC,h2]
 exact(h.map _).trans (by rw[e])
theorem agf{rows:List Row}{p:List Nat}(h:p.Perm (dJ rows.length)):(p.map fun i=>(rows.map fun r=>dM r.1).getD i pJ)=(p.map fun i=>rows.getD i (0,[])).map fun r=>dM r.1:=by
 rw[dB];refine wW fun i hi=>?_
 have hlt:=pH.mp (h.mem_iff.mp hi);rw[Oq rows hlt];simp[qC,hlt]
theorem Xf:∀(rows:List Row),Vals (rows.map fun r=>V.ref r.1) (rows.map fun r=>dM r.1)
 |[]=>.nil
 |r::rows=>.cons rfl (Xf rows)
end
section
variable{K:aG}{T:fZ}{J:It}{n:Nat}{vs:Nat→List V}{G:Hp→Prop}{ts:TT}{em:TM}{fs:St}{H0 H1:Hp}{D:aa}{done:Hp→Prop}
end
theorem Ot(A:bY)(s:au)(ra:RelV (kV a) u)(rb:RelV (kV b) v)(ht:bJ a=bJ b):Hw A s u v (decide (a=b)):=by
 rw[←Zb ht];exact QK ra rb (Ig a) (Ig b)
theorem Ih(A:bY)(s:au)(ra:RelV (kV a) u)(rb:RelV (kV b) v)(ht:bJ a=bJ b)(prog:bf)(w:aY)(E:Value→au→Prop)(Q:Value→au→Prop)(h:Q (.bool (kLt a b)) s):
  aM (model prog w) A (BV .Lt u v) Q E s:=by
 cases a with
 |inl i=>
  cases b with
  |inr y=>cases ht
  |inl j=>
   obtain⟨t,rfl⟩:=ra
   obtain⟨t',rfl⟩:=rb
   exact(lt_int h:aM (model prog w) A (dZ .Lt _ _) Q E s)
 |inr x=>
  cases b with
  |inl y=>cases ht
  |inr y=>
   obtain⟨t,rfl⟩:=ra
   obtain⟨t',rfl⟩:=rb
   exact(lt_str h:aM (model prog w) A (dZ .Lt _ _) Q E s)
section
open PySem.SeqAt
open PySem.AutoSeq1 (wpAny_loadPart')
open PySem.MeetsSeq PySem.MeetsSeq2 PySem.MeetsSeq3
theorem aek(l b:aa)(items items2:Array Value)(n n2:Nat)(dd dd2:Option aa)(sl sl2:Array (Option Value))(ns ms:List Key)(hi:Vals (ns.map kV) items.toList)(hj:Vals (ms.map kV) items2.toList)(hty:ns.map bJ=ms.map bJ):
  Meets (kJ.«tuple.__lt__» ⟨[.ref l,.ref b],[]⟩)
   (fun _ R s=>s.heap.get? l=some {cls:=.type "tuple",dict:=dd,data:=.seq items n,slots:=sl}∧s.heap.get? b=some {cls:=.type "tuple",dict:=dd2,data:=.seq items2 n2,slots:=sl2}∧R (.ok (.ret (.bool (dF ns ms)))) s):=
 .of_wp fun prog w A R s h=>by
  obtain⟨hp,g,d,tk,os⟩:=s;obtain⟨hl,hb,h⟩:=h
  have f2:=acE;have z0:ns.length=ms.length:=by have:=congrArg pI hty;simpa using this
  have z1:items.size=ns.length:=by have:=hi.length;rw[aW] at this;simpa using this.symm
  have z2:items2.size=ms.length:=by have:=hj.length;rw[aW] at this;simpa using this.symm
  wp_walk using oA hl,oA hb,adO _ (fun rest b s'=>b.1=none∧s'=⟨hp,g,d,tk,os⟩∧∃(vs ws:List Value)(ns' ms':List Key),rest=vs.zip ws∧
   Vals (ns'.map kV) vs∧Vals (ms'.map kV) ws∧ns'.map bJ=ms'.map bJ∧R (.ok (.ret (.bool (dF ns' ms')))) ⟨hp,g,d,tk,os⟩) _
  case turn=>
   rintro⟨y,x⟩ rest b s' ⟨hb',rfl,vs,ws,ns',ms',hz,Ka,hwi,hlen,hR⟩
   cases ns' with
   |nil=>cases Ka;rw[List.zip_nil_left] at hz;cases hz
   |cons a ns'=>
    cases ms' with
    |nil=>cases hlen
    |cons c ms'=>
     cases Ka with
     |cons r1 abq=>
      cases hwi with
      |cons r2 abr=>
       rw[Gk] at hz;injection hz with hyx hrest
       injection hyx with hy hx
       subst hy hx;have t1:bJ a=bJ c:=(zg hlen).1;have t2:=(zg hlen).2;unfold dF at hR;refine aD (Ot A.in1 ⟨hp,g,d,tk,os⟩ r1 r2 t1 prog w _ _ ?_);by_cases hac:a=c
       ·rw[if_pos hac] at hR;rw[decide_eq_true hac];wp_walk
        exact⟨rfl,rfl,_,_,_,_,hrest,abq,abr,t2,hR⟩
       ·rw[if_neg hac] at hR;rw[decide_eq_false hac];have hri:=Ih A.in1 ⟨hp,g,d,tk,os⟩ r1 r2 t1 prog w;wp_walk using hri
        exact⟨_,rfl,by simpa using hR⟩
  case fin=>
   rintro⟨b1,b2⟩ s' ⟨hb',rfl,vs,ws,ns',ms',hz,Ka,hwi,hlen,hR⟩
   simp only at hb';subst hb';have hv:dF ns' ms'=decide (items.size<items2.size):=by
    rw[decide_eq_false (by omega)];cases ns' with
    |nil=>unfold dF;rfl
    |cons a ns'=>
     cases ms' with
     |nil=>cases hlen
     |cons c ms'=>
      cases Ka with
      |cons r1 abq=>
       cases hwi with
       |cons r2 abr=>
        rw[Gk] at hz;cases hz
   rw[hv] at hR;wp_walk
   exact⟨_,rfl,by simpa[acq] using hR⟩
  case h=>
   exact⟨rfl,rfl,items.toList,items2.toList,ns,ms,rfl,hi,hj,hty,h⟩
end
theorem WK(hl:IsTup s.heap l items)(hb:IsTup s.heap b items2)(hi:Vals (ns.map kV) items.toList)(hj:Vals (ms.map kV) items2.toList)(hty:ns.map bJ=ms.map bJ)
  (hu:A.units<eU)(h:Q (.bool (dF ns ms)) s):aM (model prog w) A (dZ .Lt (.ref l) (.ref b)) Q E s:=by
 obtain⟨⟨cls,dd,data,sl⟩,ho,hc,n,hd⟩:=id hl
 obtain⟨⟨cls2,dd2,data2,sl2⟩,ho2,hc2,n2,hd2⟩:=id hb
 simp only at hc hd hc2 hd2;subst hc hd hc2 hd2;exact Ui (op:=.Lt) ⟨_,ho,rfl⟩ ⟨_,ho2,rfl⟩ acU acP (acG _ _) (aek l b items items2 n n2 dd dd2 sl sl2 ns ms hi hj hty)
  ⟨ho,ho2,show pK (dF ns ms)≠Uo∧Q (.bool (dF ns ms)) s from⟨(fun x=>nomatch x),h⟩⟩ hu
mutual
def RX(H:Hp):aj→V→Prop
 |.none,v=>v=.non
 |.bool b,v=>v=.bl b
 |.int i,v=>v=.int i
 |.str x,v=>v=.str x
 |.list ds,v=>∃a vs,v=.ref a∧H a=some (.lst vs)∧lW H ds vs
 |.tuple ds,v=>∃a vs,v=.ref a∧H a=some (.tup vs)∧lW H ds vs
 |.dict _,_=>False
def lW(H:Hp):List aj→List V→Prop
 |[],vs=>vs=[]
 |d::ds,vs=>∃v r,vs=v::r∧RX H d v∧lW H ds r
end
mutual
theorem RX.same(s:bh H H'):∀{d:aj}{v:V},RX H d v→RX H' d v
 |.none,_,h=>h
 |.bool _,_,h=>h
 |.int _,_,h=>h
 |.str _,_,h=>h
 |.list ds,_,h=>by
  obtain⟨a,vs,e,q,r⟩:=h
  exact⟨a,vs,e,s _ _ q,lW.same s r⟩
 |.tuple ds,_,h=>by
  obtain⟨a,vs,e,q,r⟩:=h
  exact⟨a,vs,e,s _ _ q,lW.same s r⟩
theorem lW.same(s:bh H H'):∀{ds:List aj}{vs:List V},lW H ds vs→lW H' ds vs
 |[],_,h=>h
 |d::ds,vs,h=>by
  obtain⟨v,r,e,q,t⟩:=h
  exact⟨v,r,e,RX.same s q,lW.same s t⟩
end
mutual
theorem RX.rd{K:aG}{H:Hp}:∀{d:aj}{v:V},RX H d v→RD K H d v
 |.none,_,h=>h
 |.bool _,_,h=>h
 |.int _,_,h=>h
 |.str _,_,h=>h
 |.list ds,_,h=>by
  obtain⟨a,vs,e,q,r⟩:=h
  exact⟨a,vs,e,bK.of q,lW.rd r⟩
 |.tuple ds,_,h=>by
  obtain⟨a,vs,e,q,r⟩:=h
  exact⟨a,vs,e,cN.of q,lW.rd r⟩
theorem lW.rd{K:aG}{H:Hp}:∀{ds:List aj}{vs:List V},lW H ds vs→nq K H ds vs
 |[],_,h=>h
 |d::ds,vs,h=>by
  obtain⟨v,r,e,q,t⟩:=h
  exact⟨v,r,e,RX.rd q,lW.rd t⟩
end
def Fd:aj→Value
 |.none=>.type "NoneType"
 |.bool _=>.type "bool"
 |.int _=>.type "int"
 |.str _=>.type "str"
 |.list _=>.type "list"
 |.tuple _=>.type "tuple"
 |.dict _=>.type "dict"
theorem RX.ty{K:aG}{H:Hp}{d:aj}{v:V}(h:RX H d v):lO K H v (Fd d):=by
 cases d with
 |none=>cases(show v=.non from h);exact .non
 |bool b=>cases(show v=.bl b from h);exact .bl b
 |int i=>cases(show v=.int i from h);exact .int i
 |str x=>cases(show v=.str x from h);exact .str x
 |list ds=>obtain⟨a,vs,rfl,e,_⟩:=h;exact .lst e
 |tuple ds=>obtain⟨a,vs,rfl,e,_⟩:=h;exact .tup e
 |dict ds=>exact(show False from h).elim
section
variable{X:Cx}
theorem afq(hu:X.A.units<eU):cC X (dZ .Lt) (fun x y H Q=>∃a b ks js,x=.ref a∧y=.ref b∧H a=some (.tup (ks.map kV))∧H b=some (.tup (js.map kV))∧ks.map bJ=js.map bJ∧Q (.bl (dF ks js)) H):=by
 intro pins s σ H x y v u Q I rx ry h
 obtain⟨a,b,ks,js,rfl,rfl,ha,hb,ht,q⟩:=h
 cases rx;cases ry
 obtain⟨_,its,r1,p1⟩:=(show eY X.prog X.w H s.heap a (.tup (ks.map kV)) from I.hok a _ ha)
 obtain⟨_,its2,r2,p2⟩:=(show eY X.prog X.w H s.heap b (.tup (js.map kV)) from I.hok b _ hb)
 exact WK p1 p2 (by simpa using r1) (by simpa using r2) ht hu (fL I q rfl)
theorem Ni(hu:X.A.units<eU):cC X (dZ .Lt) (fun x y H Q=>(∃a b,x=kV a∧y=kV b∧bJ a=bJ b∧Q (.bl (kLt a b)) H)∨∃a b ks js,x=.ref a∧y=.ref b∧H a=some (.tup (ks.map kV))∧H b=some (.tup (js.map kV))∧ks.map bJ=js.map bJ∧Q (.bl (dF ks js)) H):=by
 refine cC.or ?_ (afq hu);intro pins s σ H x y v u Q I rx ry h
 obtain⟨a,b,rfl,rfl,ht,q⟩:=h
 exact Ih X.A s rx ry ht _ _ _ _ (fL I q rfl)
end
structure Ord(lt:Nat→Nat→Bool):Prop where
 abt:∀a b,lt a b=true→lt b a=false
 trans:∀a b c,lt b a=false→lt c b=false→lt c a=false
section
variable{N:Nat}{lt:Nat→Nat→Bool}(O:Ord lt)
abbrev at0(p:Array Nat)(i:Nat):Nat:=p.getD i 0
def Up(lt:Nat→Nat→Bool)(p:Array Nat)(n:Nat):Prop:=∀i j,i<j→j<n→lt (at0 p j) (at0 p i)=false
def Dn(lt:Nat→Nat→Bool)(p:Array Nat)(n:Nat):Prop:=∀i j,i<j→j<n→lt (at0 p i) (at0 p j)=false
theorem QT(p:Array Nat)(i:Nat):at0 p i=(p[i]?).getD 0:=rJ
theorem aai(hj:j≤p.size)(k:Nat):at0 (kas_rev p i j) k=if i≤k∧k<j then at0 p (i+j-1-k) else at0 p k:=by
 rw[QT,QT,QT];unfold kas_rev;rw[getElem?_mirror_all hj];split<;>rfl
theorem KP.size(h:KP N p):p.size=N:=by
 have:=h.length_eq;rw[lA] at this;simpa using this
include O
theorem Up.succ(h:Up lt p n)(hn:1≤n)(hs:lt (at0 p n) (at0 p (n-1))=false):Up lt p (n+1):=fun i j hij hj=>by
 by_cases e:j<n
 ·exact h i j hij e
 ·have ej:j=n:=by omega
  subst ej;by_cases ei:i=j-1
  ·rw[ei];exact hs
  ·exact O.trans _ _ _ (h i (j-1) (by omega) (by omega)) hs
theorem Dn.succ(h:Dn lt p n)(hn:1≤n)(hs:lt (at0 p (n-1)) (at0 p n)=false):Dn lt p (n+1):=fun i j hij hj=>by
 by_cases e:j<n
 ·exact h i j hij e
 ·have ej:j=n:=by omega
  subst ej;by_cases ei:i=j-1
  ·rw[ei];exact hs
  ·exact O.trans _ _ _ hs (h i (j-1) (by omega) (by omega))
theorem Dn.turn(h:Dn lt p n)(hn:n≤p.size):Up lt (kas_rev p 0 n) n:=fun a b hab hb=>by
 rw[aai hn,aai hn,if_pos ⟨by omega,by omega⟩,if_pos ⟨by omega,by omega⟩];exact h _ _ (by omega) (by omega)
end
theorem aij(h:kLt a b=true):kLt b a=false:=by
 cases a with
 |inl i=>
  cases b with
  |inr y=>cases h
  |inl j=>have:=of_decide_eq_true h;exact decide_eq_false (by omega)
 |inr x=>
  cases b with
  |inl y=>cases h
  |inr y=>exact KeyOrd.klt_asymm (O:=strKind.toKeyOrd) (a:=x.cps.toList) (b:=y.cps.toList) h
theorem ajJ(t1:bJ a=bJ b)(t2:bJ b=bJ c)(h:kLt a c=true):kLt a b=true∨kLt b c=true:=by
 cases a with
 |inl i=>
  cases b with
  |inr y=>cases t1
  |inl j=>
   cases c with
   |inr y=>cases t2
   |inl k=>
    have h1:=of_decide_eq_true h;by_cases h2:i<j
    ·exact .inl (decide_eq_true h2)
    ·exact .inr (decide_eq_true (by omega))
 |inr x=>
  cases b with
  |inl y=>cases t1
  |inr y=>
   cases c with
   |inl k=>cases t2
   |inr z=>exact strKind.negTrans x.cps.toList y.cps.toList z.cps.toList h
theorem str_of_list{x y:Str}(h:x.cps.toList=y.cps.toList):x=y:=by
 cases x;cases y;simp at h;simp[h]
theorem ajK(t:bJ a=bJ b)(h1:kLt a b=false)(h2:kLt b a=false):a=b:=by
 cases a with
 |inl i=>
  cases b with
  |inr y=>cases t
  |inl j=>
   have g1:=of_decide_eq_false h1;have g2:=of_decide_eq_false h2;have:i=j:=by omega
   rw[this]
 |inr x=>
  cases b with
  |inl y=>cases t
  |inr y=>
   have:=strKind.total x.cps.toList y.cps.toList h1 h2;rw[str_of_list this]
def uB(rows:List Row)(i:Nat):List Key:=(rows.getD i (rows.headD (0,[]))).2
def lK(rows:List Row)(i j:Nat):Bool:=dF (uB rows i) (uB rows j)
def runK{α:Type}(lt:Nat→Nat→Bool):KasT α→α
 |.ret a=>a
 |.ask i j k=>runK lt (k (lt i j))
theorem dX.run:∀{t:KasT α},dX N lt t R→dX N lt t (fun a=>R a∧a=runK lt t)∧R (runK lt t)
 |.ret a,h=>⟨⟨h,rfl⟩,h⟩
 |.ask i j k,h=>let r:=dX.run h.2.2;⟨⟨h.1,h.2.1,r.1⟩,r.2⟩
def tK(ks:List (List Key)):List Nat:=if ks.length<2 then dJ ks.length else(runK (fun i j=>dF (ks.getD i (ks.headD [])) (ks.getD j (ks.headD []))) (kas_sort ks.length)).toList
def Eh(ks:List (List Key)):List (List Key):=(tK ks).map fun i=>ks.getD i (ks.headD [])
theorem agg(ks:List (List Key)):(tK ks).Perm (dJ ks.length):=by
 unfold tK;split
 ·exact zc _
 ·exact(dX.run (Za (lt:=fun i j=>dF (ks.getD i (ks.headD [])) (ks.getD j (ks.headD []))) (by omega))).2
theorem agh(ks:List (List Key)):(Eh ks).Perm ks:=by
 have:=(agg ks).map fun i=>ks.getD i (ks.headD [])
 refine this.trans (ad4 ?_);refine yU (by simp) fun i h1 h2=>?_
 simp[h2]
theorem Ii(rows:List Row)(i:Nat):uB rows i=(rows.map (·.2)).getD i ((rows.map (·.2)).headD []):=by
 unfold uB;cases h:rows[i]? with
 |none=>cases rows<;>simp_all [qC]
 |some r=>simp[qC,h]
theorem agi(hn:n=rows.length)(h2:2≤n):dX n (lK rows) (kas_sort n) fun p=>KP n p∧p.toList=tK (rows.map (·.2)):=by
 subst hn;have e:lK rows=fun i j=>dF ((rows.map (·.2)).getD i ((rows.map (·.2)).headD [])) ((rows.map (·.2)).getD j ((rows.map (·.2)).headD [])):=by
  funext i j;rw[lK,Ii,Ii]
 refine(dX.run (Za (lt:=lK rows) (N:=rows.length) (by omega))).1.mono fun p hp=>⟨hp.1,?_⟩
 unfold tK;rw[if_neg (by rw[aW];omega),hp.2,e,aW]
theorem afr{rows:List Row}{n:Nat}(hn:n=rows.length)(h:n<2):dJ n=tK (rows.map (·.2)):=by
 subst hn;unfold tK;rw[if_pos (by rw[aW];exact h),aW]
theorem aik{rows:List Row}{p:List Nat}(h:p.Perm (dJ rows.length))(hr:p=tK (rows.map (·.2))):(p.map fun i=>rows.getD i (0,[])).map (·.2)=Eh (rows.map (·.2)):=by
 unfold Eh;rw[←hr,dB];refine wW fun i hi=>?_
 have hlt:=pH.mp (h.mem_iff.mp hi);simp[qC,hlt]
section
variable{X:Cx}
theorem ag7(ha:∀r∈rows,TupAt s'.heap r∧r.2.map bJ=sh)(hi:i<rows.length)(hj:j<rows.length)(C:Bool→au→Prop)(q:C (lK rows i j) s'):
  kas_ask prog w A (tuples' true) (rows.map fun r=>dM r.1) i j C s':=by
 refine aii ha hi hj C ?_;have e1:uB rows i=rowAt rows i:=by simp[uB,rowAt,qC,hi]
 have e2:uB rows j=rowAt rows j:=by simp[uB,rowAt,qC,hj]
 unfold lK at q;rw[e1,e2] at q;exact q
end
abbrev uM:=List (Option aj)
def qR(H:Hp)(Γ:uM)(σ:St):Prop:=σ.length=Γ.length∧∀(i:Nat)(d:aj),Γ[i]?=some (some d)→∃v,σ[i]?=some (some v)∧RX H d v
theorem qR.same(h:qR H Γ σ)(s:bh H H'):qR H' Γ σ:=⟨h.1,fun i d e=>let ⟨v,a,b⟩:=h.2 i d e;⟨v,a,b.same s⟩⟩
theorem qR.set(h:qR H Γ σ)(hv:RX H d v):qR H (Γ.set i (some d)) (σ.set i (some v)):=by
 refine⟨by rw[vo,vo];exact h.1,fun j e he=>?_⟩
 by_cases hj:i=j
 ·subst hj;rw[Bm] at he;simp only[if_true] at he;split at he
  ·rename_i hl;cases he
   refine⟨v,?_,hv⟩
   rw[Bm];simp only[if_true];rw[if_pos (by rw[h.1];exact hl)]
  ·cases he
 ·rw[yP hj] at he;rw[yP hj];exact h.2 j e he
def er(Z:List aa)(H:Hp):Hp:=fun b=>if b∈Z then none else H b
theorem ir(h:er Z H b=some o):H b=some o:=by
 unfold er at h;split at h
 ·cases h
 ·exact h
theorem Ae(Z:List aa)(H:Hp):bh (er Z H) H:=fun b o h=>ir h
theorem PK(s:bh H H'):bh (er Z H) (er Z H'):=fun b o h=>by
 unfold er at h⊢;split at h
 ·cases h
 ·rename_i n;rw[if_neg n];exact s _ _ h
theorem Dh(H:Hp):er [] H=H:=by
 funext b;simp[er]
def Jo(t:TE)(Γ:uM)(d:aj):Prop:=∀Z σ H (Q:VK),(∀b,b∈Z→H b≠none)→qR (er Z H) Γ σ→(∀v H',bh H H'→RX (er Z H') d v→Q v H')→t σ H Q
def Zd(t:TA)(Γ:uM)(ds:List aj):Prop:=∀Z σ H (Q:List V→Hp→Prop),(∀b,b∈Z→H b≠none)→qR (er Z H) Γ σ→(∀vs H',bh H H'→lW (er Z H') ds vs→Q vs H')→t σ H Q
section
variable{Γ:uM}{K:aG}
theorem Jo.run(h:Jo t Γ d)(e:qR H Γ σ)(q:∀v H',bh H H'→RX H' d v→Q v H'):t σ H Q:=
 h [] σ H Q (fun _ m=>by cases m) (by rw[Dh];exact e) fun v H' s r=>q v H' s (by rw[Dh] at r;exact r)
end
end L2
namespace HT
open PySem PySem.Spec PyProof.Rows
section
variable{prog:bf}{w:aY}{A:bY}{E:Value→au→Prop}{s:au}
theorem ac7{t sl:aa}{items:Array Value}{vl vu:Value}{lo hi:Option Int}{Q:Value→au→Prop}(ht:IsTup s.heap t items)(hs:s.heap.IsSliceOf sl vl vu .none)(pl:sI vl lo)(pu:sI vu hi)
  (hw:bT items.size 0 lo=0∧bT items.size items.size hi=items.size)(h:Q (.ref t) s):aM (model prog w) A (vI (.ref t) (.ref sl)) Q E s:=by
 obtain⟨os,hos,hcs,hds⟩:=id hs
 have hTs:s.TypeIs (.ref sl) "slice":=⟨os,hos,hcs⟩
 unfold vI
 try with_reducible refine mQ ?_
 first|refine aD (aX ?_)|skip
 refine aD (adu ht.typeIs (by decide) ?_);refine aD (Bd (name:=fJ "__getitem__") ht.typeIs Kr
  (qu Kr ht.typeIs entry_tuple_getitem ?_ (args_tuple_getitem _ _)))
 show aM _ _ (acA (.ref t) >>= _) _ _ s;refine aD (tupleItemsOf_ ht ?_);refine aD (GZ hTs ?_);rw[if_pos (by decide)];refine aD (U7 hs pl pu ?_);have hyes:((((bT items.size 0 lo:Nat):Int)==0&&(1:Int)==1&&(bT items.size items.size hi-bT items.size 0 lo)==items.size)=true):=by
  rw[hw.1,hw.2];simp
 show aM _ _ (if(((bT items.size 0 lo:Nat):Int)==0&&(1:Int)==1&&(bT items.size items.size hi-bT items.size 0 lo)==items.size)=true then _ else _) _ _ s;rw[if_pos hyes];unfold amQ;refine aD (aD (GZ ht.typeIs (aX ?_)));rw[if_pos (by decide)];refine aD (xG ?_);exact aX ⟨_,rfl,aX h⟩
end
end HT
namespace L2
open PySem PySem.Spec PyProof.Rows PySem.W
section
variable{X:Cx}
def alo(K:aG):V→Option Int→Option Int→Hp→VK→Prop:=fun x lo hi H Q=>∃a xs,x=.ref a∧cN K H a xs∧(qZ xs lo hi=xs→Q (.ref a) H)∧∀p,H p=none→Q (.ref p) (upd H p (.tup (qZ xs lo hi)))
theorem ail:uV X (alo X.K):=by
 intro pins s σ H x v vl vu lo hi sl Q I rx hs pl pu h
 obtain⟨a,xs,rfl,hx,q1,q2⟩:=h
 by_cases hw:HT.bT xs.length 0 lo=0∧HT.bT xs.length xs.length hi=xs.length
 ·cases rx
  obtain⟨its,r,ht,hz⟩:=I.tuple hx
  have hlen:its.toArray.size=xs.length:=by rw[fW];exact r.length.symm
  refine⟨"tuple",_,PyProof.Rows.slot_tuple_getitem.lookup,ht.typeIs,?_⟩
  refine HT.ac7 ht hs pl pu (by rw[hlen];exact hw) ?_
  refine⟨.ref a,H,I,rfl,q1 ?_⟩
  unfold qZ;rw[hw.1,hw.2];simp
 ·exact ajs pins s σ H _ v vl vu lo hi sl Q I rx hs pl pu ⟨a,xs,rfl,hx,hw,q2⟩
end
end L2
namespace HT
open PySem PySem.Spec PyProof.Rows
open Sem (wp)
open Builtin
end HT
namespace L2
open PySem PySem.Spec PyProof.Rows PySem.W
section
variable{X:Cx}
end
section
variable{Γ:uM}{K:aG}
end
section
variable{Γ:uM}{K:aG}
end
section
variable{Γ:uM}{K:aG}
end
section
variable{X:Cx}
theorem afs(hu:X.A.units+64<eU):cC X (dZ .NotEq) (fun x y H Q=>∃d e,RX H d x∧RX H e y∧lX d=true∧lX e=true∧Q (.bl (!PyData.eqv d e)) H):=by
 intro pins s σ H x y v u Q I rx ry h
 obtain⟨d,e,hd,he,h1,h2,q⟩:=h
 obtain⟨as,ra⟩:=RD.reads I (hd.rd (K:=X.K)) rx
 obtain⟨bs,rb⟩:=RD.reads I (he.rd (K:=X.K)) ry
 exact ne_dataH ra rb h1 h2 hu ⟨.bl _,H,I,rfl,q⟩
end
section
variable{Γ:uM}{K:aG}
def ajL(t:TE)(Γ:uM)(d:aj):Prop:=∀σ H (Q:VK),qR H Γ σ→(∀v H',bh H H'→RX H' d v→Q v H')→t σ H Q
theorem Jo.r(h:Jo t Γ d):ajL t Γ d:=fun σ H Q e q=>h.run e q
theorem Zd.run(h:Zd t Γ ds)(e:qR H Γ σ)(q:∀vs H',bh H H'→lW H' ds vs→Q vs H'):t σ H Q:=
 h [] σ H Q (fun _ m=>by cases m) (by rw[Dh];exact e) fun v H' s r=>q v H' s (by rw[Dh] at r;exact r)
end
theorem I9{xs:Array Nat}(h:xs.toList.Pairwise (·<·)){i k d:Nat}(hik:i<k)(hk:k<xs.size):xs.getD i d<xs.getD k d:=by
 have h1:=FZ.mp h i k (by simpa using G3 hik hk) (by simpa using hk) hik;have hi:i<xs.size:=G3 hik hk;rw[rJ,rJ,mJ hk,mJ hi];simpa using h1
theorem Ou{xs:Array Nat}{j:Nat}(h:xs.toList.Pairwise (·<·)):∀f lo hi,lo≤hi→hi≤xs.size→hi-lo≤f→(∀i,i<lo→xs.getD i j<j)→(∀i,hi≤i→i<xs.size→j≤xs.getD i j)→
  Gp xs j f lo hi≤xs.size∧(∀i,i<Gp xs j f lo hi→xs.getD i j<j)∧∀i,Gp xs j f lo hi≤i→i<xs.size→j≤xs.getD i j
 |0,lo,hi,h1,h2,h3,h4,h5=>by
  unfold Gp
  exact⟨by omega,h4,fun i a b=>h5 i (by omega) b⟩
 |f+1,lo,hi,h1,h2,h3,h4,h5=>by
  unfold Gp;by_cases hlt:lo<hi
  ·rw[if_pos hlt];dsimp only;by_cases hm:xs.getD ((lo+hi) / 2) j<j
   ·rw[if_pos hm];refine Ou h f _ _ (by omega) h2 (by omega) (fun i hi'=>?_) h5;by_cases e:i=(lo+hi) / 2
    ·rw[e];exact hm
    ·exact G3 (I9 h (by omega) (by omega)) hm
   ·rw[if_neg hm];refine Ou h f _ _ (by omega) (by omega) (by omega) h4 (fun i hi' hs=>?_);by_cases e:i=(lo+hi) / 2
    ·rw[e];omega
    ·have:=I9 (d:=j) h (show(lo+hi) / 2<i by omega) hs;omega
  ·rw[if_neg hlt]
   exact⟨by omega,h4,fun i a b=>h5 i (by omega) b⟩
theorem NK(j:Nat)(h:xs.toList.Pairwise (·<·)):iU xs j≤xs.size∧(∀i,i<iU xs j→xs.getD i j<j)∧∀i,iU xs j≤i→i<xs.size→j≤xs.getD i j:=
 Ou h xs.size 0 xs.size (lF _) (bO _) (by omega) (fun i hi=>by omega) (fun i a b=>by omega)
theorem Ze(h:xs.toList.Pairwise (·<·)):iU xs 0=0:=by
 obtain⟨_,b,_⟩:=NK 0 h
 cases e:iU xs 0 with
 |zero=>rfl
 |succ n=>have:=b 0 (by omega);omega
theorem WL{xs:Array Nat}(h:xs.toList.Pairwise (·<·)){i:Nat}(hi:i<xs.size):iU xs (xs[i]+1)=i+1:=by
 obtain⟨a,b,c⟩:=NK (xs[i]+1) h
 have e:∀k d,(hk:k<xs.size)→xs.getD k d=xs[k]:=fun k d hk=>by rw[rJ,mJ hk];rfl
 have mono:∀p q,(hp:p<xs.size)→(hq:q<xs.size)→p<q→xs[p]<xs[q]:=fun p q hp hq pq=>by
  have:=I9 (d:=0) h pq hq
  rwa [e p 0 hp,e q 0 hq] at this
 by_cases h1:iU xs (xs[i]+1)≤i
 ·have:=c i h1 hi;rw[e i _ hi] at this;omega
 ·by_cases h2:iU xs (xs[i]+1)=i+1
  ·exact h2
  ·have hs:i+1<xs.size:=by omega
   have:=b (i+1) (by omega);rw[e _ _ hs] at this;have:=mono i (i+1) hi hs (by omega);omega
structure jb(b:Bool)(t:um):Prop where
 led:t.led=b
 S9:t.dummies=#[]
 Tc:t.place.toList.Pairwise (·<·)
theorem jb.standIn(h:jb b t)(n:Nat):jb b (t.standIn n):=⟨h.led,rfl,by simpa[SetTable.standIn] using KD⟩
theorem jb.orStandIn(h:jb b t)(n:Nat):jb b (t.orStandIn n):=by
 unfold SetTable.orStandIn;split
 ·exact h
 ·exact h.standIn n
theorem has_none(j:Nat):aeE #[] j=false:=rfl
theorem WM(hd:t.dummies=#[])(f:Nat→Int)(h:Int):∀fuel (p:SetTable.Probe) j d,p.dummy=none→Uz t f h fuel p=some (.empty j d)→d=none∧t.slot j=.empty
 |0,p,j,d,_,e=>by simp[Uz] at e
 |fuel+1,p,j,d,hp,e=>by
  unfold Uz at e;have adv:(t.advance p).dummy=none:=by
   unfold SetTable.advance;split<;>exact hp
  cases hs:t.slot p.j with
  |empty=>
   rw[hs] at e;simp only[K3,anh] at e
   exact⟨by rw[←e.2];exact hp,by rw[←e.1];exact hs⟩
  |dummy=>
   unfold ael at hs;rw[hd] at hs;simp only[has_none] at hs;split at hs
   ·cases hs
   ·simp at hs
  |live i=>
   rw[hs] at e;simp only at e;split at e
   ·cases e
   ·exact WM hd f h fuel _ j d adv e
theorem aft{xs:Array Nat}{j:Nat}(h:xs.toList.Pairwise (·<·))(hn:xs[iU xs j]?≠some j):(SetTable.insertAt xs (iU xs j) j).toList.Pairwise (·<·):=by
 obtain⟨a,b,c⟩:=NK j h
 rw[SetTable.toList_insertAt];have h':=h;rw[←List.take_append_drop (iU xs j) xs.toList,Uq] at h'
 obtain⟨h1,h2,h3⟩:=h'
 have e:∀k d,(hk:k<xs.size)→xs.getD k d=xs.toList[k]'(by simpa using hk):=fun k d hk=>by rw[rJ,mJ hk];simp
 have lo:∀x,x∈xs.toList.take (iU xs j)→x<j:=fun x hx=>by
  obtain⟨i,hi,rfl⟩:=vg hx
  have hi':i<iU xs j:=by simp at hi;omega
  have:=b i hi';rw[e i j (by omega)] at this;rw[adw];exact this
 have hi:∀x,x∈xs.toList.drop (iU xs j)→j<x:=fun x hx=>by
  obtain⟨i,hi,rfl⟩:=vg hx
  have hs:iU xs j+i<xs.size:=by simp at hi;omega
  have h0:=c (iU xs j) (bO _) (by omega);have ne:xs.getD (iU xs j) j≠j:=fun z=>hn (by
   have hb:iU xs j<xs.size:=by omega
   rw[rJ,mJ hb] at z;rw[mJ hb];simpa using z)
  rw[List.getElem_drop,←e _ j hs];by_cases z:i=0
  ·subst z;simp only[Wa];omega
  ·have:=I9 (d:=j) h (show iU xs j<iU xs j+i by omega) hs;omega
 rw[Uq]
 refine⟨h1,tX.mpr ⟨hi,h2⟩,fun x hx y hy=>?_⟩
 rcases bU.mp hy with rfl|hy
 ·exact lo x hx
 ·exact h3 x hx y hy
theorem jb.layNew(h:jb b t)(es:Array (Int×Value))(hs:Int)(x:Value):jb b (layNew t es hs x).2.1:=by
 unfold PySem.layNew;cases hf:t.freeSlot hs with
 |none=>exact h.standIn _
 |some q=>
  obtain⟨slot,wd⟩:=q
  have free:t.slot slot=.empty:=by
   unfold SetTable.freeSlot at hf;split at hf
   ·rename_i j d hp
    obtain⟨rfl,hj⟩:=WM h.S9 _ _ _ _ _ _ rfl hp
    simp only[K3,aem] at hf;rw[←hf.1];exact hj
   ·cases hf
  have hn:t.place[iU t.place slot]?≠some slot:=fun z=>by
   unfold ael at free;simp[z] at free
  show jb b ((t.put slot).1.orStandIn _);refine jb.orStandIn (t:=(t.put slot).1) ⟨h.led,?_,aft h.Tc hn⟩ _
  show(if aeE t.dummies slot then _ else t.dummies)=#[]
  rw[h.S9];rfl
theorem jb.relayAll(h:jb b t)(es:Array (Int×Value))(n:Nat):jb b (relayAll t es n).2.1:=by
 unfold Gx;split
 ·rename_i t' order hr;dsimp only;split
  ·unfold SetTable.relaid SetTable.laid at hr;cases ho:SetTable.layClean (SetTable.sizeAbove n-1) (es.map (·.1)) with
   |none=>simp[ho] at hr
   |some owner=>
    simp only[ho,Option.bind_eq_bind,gQ,Option.pure_def,K3,aem] at hr;rw[←hr.1]
    refine⟨h.led,rfl,?_⟩
    simp only[List.map_filterMap];refine anm _ (fun x y hxy=>?_) KD;intro u hu v hv;simp only[Ga] at hu hv
    obtain⟨p,⟨_,_,rfl⟩,rfl⟩:=hu
    obtain⟨q,⟨_,_,rfl⟩,rfl⟩:=hv
    exact hxy
  ·exact h.standIn _
 ·exact h.standIn _
theorem jb.plain(h:jb b t)(v:Bool):jb b {t with plain:=v}:=⟨h.led,h.S9,h.Tc⟩
theorem jb.fresh(b:Bool):jb b (.fresh 0 0 b):=⟨rfl,rfl,.nil⟩
end L2
namespace L2
open PySem PySem.Spec PySem.W
section
variable{prog:bf}{w:aY}{T:Type}[DecidableEq T](knd:xm prog w T)
def bt(w:aY):Bool:=!(w.params.followText "set-order")
inductive jJ:List (Int×Value)→List T→Prop
 |nil:jJ [] []
 |cons {e:Int×Value} {k:T} {es:List (Int×Value)} {ks:List T}:(knd.is k e.2=true∧e.1=knd.hash k∧e.2.scannable=true)→jJ es ks→jJ (e::es) (k::ks)
def m6(h:aV)(a:aa)(ks:List T):Prop:=∃o es ep t,h.get? a=some o∧o.ExactSet∧o.data=.set es ep t∧(∃ks',jJ knd es.toList ks'∧ks'.Perm ks)∧es.size<pN∧t.fits es.size=true∧jb (bt w) t
def kj(ks:List T)(k:T):List T:=if k∈ks then ks else ks++[k]
variable{knd}
theorem jJ.elems(h:jJ knd es ks):ElemsOf knd es:=by
 induction h with
 |nil=>intro e he;cases he
 |cons a _ ih=>
  intro e he;rcases bU.mp he with rfl|he
  ·exact⟨⟨_,a.1,a.2.1⟩,a.2.2⟩
  ·exact ih e he
theorem jJ.len(h:jJ knd es ks):es.length=ks.length:=by
 induction h with
 |nil=>rfl
 |cons _ _ ih=>simp[ih]
theorem jJ.perm(p:es'.Perm es):∀{ks:List T},jJ knd es ks→∃ks',jJ knd es' ks'∧ks'.Perm ks:=by
 induction p with
 |nil=>intro ks h;exact⟨ks,h,.refl _⟩
 |cons x _ ih=>
  intro ks h;cases h with
  |cons a r=>
   obtain⟨ks',h1,h2⟩:=ih r
   exact⟨_::ks',.cons a h1,h2.cons _⟩
 |swap x y l=>
  intro ks h;cases h with
  |cons a r=>
   cases r with
   |cons b r=>exact⟨_::_::_,.cons b (.cons a r),.swap ..⟩
 |trans _ _ ih1 ih2=>
  intro ks h
  obtain⟨k2,h1,p1⟩:=ih2 h
  obtain⟨k3,h2,p2⟩:=ih1 h1
  exact⟨k3,h2,p2.trans p1⟩
theorem jJ.push(h:jJ knd es ks)(hk:knd.is k x=true)(hx:x.scannable=true):jJ knd (es++[(knd.hash k,x)]) (ks++[k]):=by
 induction h with
 |nil=>exact .cons ⟨hk,rfl,hx⟩ .nil
 |cons a _ ih=>exact .cons a ih
theorem jJ.mem(h:jJ knd es ks)(hm:x∈es)(hp:knd.is k x.2=true):k∈ks:=by
 induction h with
 |nil=>cases hm
 |cons a _ ih=>
  rcases bU.mp hm with rfl|hm
  ·cases knd.inj _ _ _ hp a.1;exact dG ..
  ·exact dN _ (ih hm)
theorem jJ.none(h:jJ knd es ks)(e:es.findIdx? (fun e=>knd.is k e.2)=.none):k∉ks:=by
 have e':=List.findIdx?_eq_none_iff.mp e;clear e;induction h with
 |nil=>intro h;cases h
 |cons a _ ih=>
  intro hm;rcases bU.mp hm with rfl|hm
  ·have:=e' _ (dG ..);rw[a.1] at this;cases this
  ·exact ih (fun x hx=>e' x (dN _ hx)) hm
variable{A:bY}{E:Value→au→Prop}{s:au}
theorem Zf{h:aV}{a:aa}{o:Obj}{es es':Array (Int×Value)}{ep:Nat}{t t':um}{ks:List T}(ho:h.get? a=some o)(ex:o.ExactSet)(hd:o.data=.set es ep t)(e:∃ks',jJ knd es'.toList ks'∧ks'.Perm ks)
  (hb:es'.size<pN)(hf:t'.fits es'.size=true)(tb:jb (bt w) t'):
  ∃o',(h.update a (Nj es' t')).get? a=some o'∧o'.ExactSet∧o'.data=.set es' (ep+1) t'∧m6 knd (h.update a (Nj es' t')) a ks:=by
 have g:=yN (Nj es' t') ho (by rw[putSet_of es' t' hd];rfl);rw[putSet_of es' t' hd] at g
 exact⟨_,g,ex,rfl,_,es',ep+1,t',g,ex,rfl,e,hb,hf,tb⟩
theorem aim{a:aa}{k:T}{x:Value}{ks:List T}{Q:Bool→au→Prop}(hk:knd.is k x=true)(hx:x.scannable=true)(hS:m6 knd s.heap a ks)(room:ks.length+1<pN)
  (h:∀b h',zu a s.heap h'→m6 knd h' a (kj ks k)→Q b {s with heap:=h'}):aM (model prog w) A (setAddHashed a x (knd.hash k)) Q E s:=by
 obtain⟨o,es,ep,t,ho,ex,hd,⟨k0,ek,pk⟩,hb,hf,tb⟩:=hS
 have sz:es.size=ks.length:=by rw[←jM,ek.len,pk.length_eq]
 have el:=ek.elems;have mono:∀{u:Unit→au→Prop}{s1:au}(g:Bool),u () s1→∀r:Sem Unit,(r=rule "set.scan.the-table-gave-way"∨r=pure ())→aM (model prog w) A r u E s1:=fun g hu r hr=>by
  rcases hr with rfl|rfl
  ·exact xG hu
  ·exact aX hu
 unfold setAddHashed setAddHashedIn;refine mQ (aD (Bo ho hd hf ?_));simp only[byScan_of hx hb el,if_true];unfold setAddByScan;refine aD (aD (xG (aD (wpAny_setScan_of hk ho hd hf el ?_))));cases hr:es.toList.findIdx? (fun e=>knd.is k e.2) with
 |some j=>
  obtain⟨hj,hp,_⟩:=List.findIdx?_eq_some_iff_getElem.mp hr
  have hm:k∈ks:=pk.mem_iff.mp (ek.mem (wZ hj) hp);refine aX (aX (h _ s.heap (UG a s.heap) ?_));rw[kj,if_pos hm]
  exact⟨o,es,ep,t,ho,ex,hd,⟨k0,ek,pk⟩,hb,hf,tb⟩
 |none=>
  have hm:k∉ks:=fun z=>ek.none hr (pk.mem_iff.mpr z)
  have pn:=layNew_perm t es (knd.hash k) x;have fn:=layNew_fits t es (knd.hash k) x;have tn:=tb.layNew es (knd.hash k) x;dsimp only;generalize layNew t es (knd.hash k) x=L at pn fn tn⊢
  obtain⟨es1,t1,wd,gv⟩:=L
  dsimp only at pn fn tn⊢;rw[adx] at pn
  obtain⟨k1,e1,p1⟩:=(ek.push hk hx).perm pn
  have ak:kj ks k=ks++[k]:=by rw[kj,if_neg hm]
  have q1:∃ks',jJ knd es1.toList ks'∧ks'.Perm (kj ks k):=⟨k1,e1,by rw[ak];exact p1.trans (pk.append_right _)⟩
  have wM:es1.size=es.size+1:=by rw[←jM,pn.length_eq,fU,jM];rfl
  have b1:es1.size<pN:=by omega
  refine aD (mono gv ?_ _ (by cases gv<;>first|exact .inl rfl|exact .inr rfl));have tail:∀t2:um,t2.fits es1.size=true→jb (bt w) t2→aM (model prog w) A (do
    storeSet a es1 t2
    if(!wd&&t2.tooFull)=true then do
      (match(Gx t2 es1 (zf es1.size)).2.2 with|true=>rule "set.scan.the-table-gave-way" |false=>pure ())
      storeSet a (Gx t2 es1 (zf es1.size)).1 (Gx t2 es1 (zf es1.size)).2.1
      pure (some true)
     else pure (some true)) (fun r s'=>aM (model prog w) A (match r with|some added=>pure added|none=>setAddHashedIn a x (knd.hash k) 99999) Q E s') E s:=fun t2 f2 tb2=>by
   obtain⟨o1,g1,ex1,d1,S1⟩:=Zf (knd:=knd) ho ex hd q1 b1 f2 tb2
   refine aD (ady ho hd ?_ (UJ b1));have yf:=tW s.heap a (Nj es1 t2);split
   ·have pr:=relayAll_perm t2 es1 (zf es1.size);have fr:=relayAll_fits t2 es1 (zf es1.size);have tr:=tb2.relayAll es1 (zf es1.size);generalize Gx t2 es1 (zf es1.size)=L2 at pr fr tr⊢
    obtain⟨es2,t3,gv2⟩:=L2
    dsimp only at pr fr tr⊢
    obtain⟨k2,e2,p2⟩:=q1
    obtain⟨k3,e3,p3⟩:=e2.perm pr
    have sz2:es2.size=es1.size:=by rw[←jM,pr.length_eq,jM]
    have b2:es2.size<pN:=by omega
    refine aD (mono gv2 ?_ _ (by cases gv2<;>first|exact .inl rfl|exact .inr rfl));refine aD (ady g1 d1 ?_ (UJ b2))
    obtain⟨_,_,_,_,S2⟩:=Zf (knd:=knd) g1 ex1 d1 ⟨k3,e3,p3.trans p2⟩ b2 fr tr
    exact aX (aX (h _ _ (yf.trans (tW ..)) S2))
   ·exact aX (aX (h _ _ yf S1))
  split
  ·refine aD ?_;rw[hashByValue_scannable 8 hx];refine aX ?_;by_cases hv:plainKind x=true
   ·simp only[hv,if_true];exact tail t1 fn tn
   ·simp only[hv,pF,if_false];exact tail _ (SetTable.fits_plain_off fn) (tn.plain false)
  ·refine aD (aX ?_);simp only[if_true];exact tail t1 fn tn
end
section
variable{T:Type}[DecidableEq T]
def dedup(ks:List T):List T:=ks.foldl kj []
theorem afu(ks:List T)(k:T):dedup (ks++[k])=kj (dedup ks) k:=by simp[dedup,List.foldl_append]
theorem ag8{ks:List T}{k x:T}:x∈kj ks k↔x∈ks∨x=k:=by
 unfold kj;split
 ·rename_i h
  exact⟨.inl,fun z=>z.elim id fun e=>e▸h⟩
 ·simp
theorem Vu{x:T}:∀(ks as:List T),x∈ks.foldl kj as↔x∈as∨x∈ks
 |[],as=>by simp
 |k::ks,as=>by rw[Br,Vu,ag8,bU,or_assoc]
theorem agj{ks:List T}{x:T}:x∈dedup ks↔x∈ks:=by
 rw[dedup,Vu];simp
theorem afv{ks:List T}{k:T}(h:ks.Nodup):(kj ks k).Nodup:=by
 unfold kj;split
 ·exact h
 ·rename_i hk;exact j5.mpr ⟨h,by simp,fun a ha b hb=>by rw[jf] at hb;rintro rfl;exact hk (hb▸ha)⟩
theorem U9:∀(ks as:List T),as.Nodup→(ks.foldl kj as).Nodup
 |[],_,h=>h
 |k::ks,_,h=>U9 ks _ (afv h)
theorem ae3(ks:List T):(dedup ks).Nodup:=U9 ks [] .nil
theorem ag9(ks:List T)(k:T):(kj ks k).length≤ks.length+1:=by
 unfold kj;split<;>simp
theorem Vv:∀(ks as:List T),(ks.foldl kj as).length≤as.length+ks.length
 |[],_=>by simp
 |k::ks,as=>by
  have h1:=Vv ks (kj as k);have h2:=ag9 as k;simp only[Br,cO];omega
theorem Xg(ks:List T):(dedup ks).length≤ks.length:=by simpa[dedup] using Vv ks []
end
section
variable{prog:bf}{w:aY}{T:Type}[DecidableEq T]{knd:xm prog w T}{A:bY}{E:Value→au→Prop}{s:au}
theorem m6.at(H:m6 knd h a ks)(e:∀o,h.get? a=some o→h'.get? a=some o):m6 knd h' a ks:=
 let ⟨o,es,ep,t,ho,r⟩:=H
 ⟨o,es,ep,t,e o ho,r⟩
theorem m6.lt(H:m6 knd h a ks):a<h.objs.size:=let ⟨_,_,_,_,ho,_⟩:=H;bW ho
theorem m6.ty(H:m6 knd s.heap a ks):s.TypeIs (.ref a) "set":=let ⟨o,_,_,_,ho,ex,_⟩:=H;⟨o,ho,ex.1⟩
end
section
variable{prog:bf}{w:aY}{T:Type}[DecidableEq T]{knd:xm prog w T}{A:bY}{E:Value→au→Prop}{s:au}
def qb(w:aY):Obj:={cls:=.type "set",dict:=none,data:=.set #[] 0 (.fresh 0 0 (bt w))}
theorem ajM(g:h.get? a=some (qb w)):m6 knd h a []:=⟨_,#[],0,_,g,⟨rfl,rfl,rfl⟩,rfl,⟨[],.nil,.refl _⟩,by decide,rfl,jb.fresh _⟩
end
theorem XR:Manifest.owners.lookup (String.ofList "rotareti_tes".toList.reverse)=some Manifest.sig_set_iterator:=by kernel_rfl
theorem qF:Slot "set_iterator" "__next__" "set_iterator.__next__":=.of (owner:="set_iterator") (n:="__next__") (by rw[typeLookup_type,acV];kernel_rfl) (by decide +kernel) (by decide +kernel) (by decide +kernel) (by first|exact .inl (by decide +kernel)|exact .inr (by decide +kernel)) (by rw[Vw];kernel_rfl)
theorem Zg:Slot "set_iterator" "__iter__" "set_iterator.__iter__":=.of (owner:="set_iterator") (n:="__iter__") (by rw[typeLookup_type,acV];kernel_rfl) (by decide +kernel) (by decide +kernel) (by decide +kernel) (by first|exact .inl (by decide +kernel)|exact .inr (by decide +kernel)) (by rw[Vw];kernel_rfl)
theorem HR:Ov table "set_iterator.__next__"=some kJ.«set_iterator.__next__»:=entryFor_of_tree (by kernel_rfl)
theorem agk:Ov table "set_iterator.__iter__"=some kJ.«dict_keyiterator.__iter__»:=entryFor_alias (id':="dict_keyiterator.__iter__") (by kernel_rfl) rfl (by decide +kernel) (by kernel_rfl)
theorem afw:Ov table "set.__iter__"=some kJ.«frozenset.__iter__»:=entryFor_alias (id':="frozenset.__iter__") (by kernel_rfl) rfl (by decide +kernel) (by kernel_rfl)
theorem HS(a:Value):Di "set_iterator.__next__" ⟨[a],[]⟩:=by
 unfold Di;rw[signature?_of (id:="set_iterator.__next__") (n:="__txen__".toList) (o:="rotareti_tes".toList) (by kernel_rfl) XR];kernel_rfl
theorem agl(a:Value):Di "set_iterator.__iter__" ⟨[a],[]⟩:=by
 unfold Di;rw[signature?_of (id:="set_iterator.__iter__") (n:="__reti__".toList) (o:="rotareti_tes".toList) (by kernel_rfl) XR];kernel_rfl
section
variable{prog:bf}{w:aY}{A:bY}{E:Value→au→Prop}{s:au}{it S:aa}{es:Array (Int×Value)}{ep i n:Nat}{t:um}{first:Value}
def lR(b:Bool)(h:aV)(a:aa)(es:Array (Int×Value))(ep:Nat)(t:um):Prop:=∃o,h.get? a=some o∧o.ExactSet∧o.data=.set es ep t∧t.fits es.size=true∧jb b t
theorem lR.at(H:lR b h a es ep t)(e:∀o,h.get? a=some o→h'.get? a=some o):lR b h' a es ep t:=let ⟨o,ho,r⟩:=H;⟨o,e o ho,r⟩
def jX(h:aV)(it S:aa)(first:Value)(i n ep:Nat):Prop:=∃o,h.get? it=some o∧o.cls=.type "set_iterator"∧o.data=.fields #[first,jm i,.ref S,jm n,jm ep]
theorem jX.at(H:jX h it S first i n ep)(e:∀o,h.get? it=some o→h'.get? it=some o):jX h' it S first i n ep:=let ⟨o,ho,r⟩:=H;⟨o,e o ho,r⟩
theorem jX.ty(H:jX s.heap it S first i n ep):s.TypeIs (.ref it) "set_iterator":=let ⟨o,ho,c,_⟩:=H;⟨o,ho,c⟩
theorem jX.set{h:aV}{j:Nat}{x:Value}{vs:Array Value}{o:Obj}(ho:h.get? it=some o)(hc:o.cls=.type "set_iterator")(hd:o.data=.fields vs):
  ∃o',(h.update it (Obj.mapFields (·.setIfInBounds j x))).get? it=some o'∧o'.cls=.type "set_iterator"∧o'.data=.fields (vs.setIfInBounds j x):=
 ⟨_,yN _ ho (Obj.isFreed_of_fields (adk hd _)),(Obj.cls_mapFields ..).trans hc,by rw[adk hd]⟩
theorem PL(hit:jX s.heap it S first i n ep)(h:Q (.ref it) s):aM (model prog w) A (Dd (.ref it)) Q E s:=by
 refine adz hit.ty Zg (qu Zg hit.ty agk (show aM _ _ (ret (.ref it)) _ _ s from ?_) (agl _));exact aX ⟨_,rfl,"set_iterator",_,hit.ty,qF.lookup,h⟩
theorem Zh{Q:Option Value→au→Prop}{slot:Nat}{R:Option (Value×Nat)}(hit:jX s.heap it S (jm slot) i n ep)(hs:lR (bt w) s.heap S es ep t)(hn:n=es.size)(ne:S≠it)
  (nx:∀{B:bY}{E':Value→au→Prop}{C:Option (Value×Nat)→au→Prop},C R s→aM (model prog w) B (CK S slot i ep) C E' s){x:Value}{nxt:Nat}(hR:R=some (x,nxt))
  (h:∀h',jX h' it S (jm nxt) (i+1) n ep→zu it s.heap h'→Q (some x) {s with heap:=h'}):aM (model prog w) A (oJ (.ref it)) Q E s:=by
 obtain⟨o,ho,hc,hd⟩:=id hit
 obtain⟨os,hos,exs,hds,hf,tb⟩:=id hs
 unfold oJ;refine aD (Mg (Bd (name:=fJ "__next__") hit.ty qF (qu qF hit.ty HR ?_ (HS _))));unfold kJ.«set_iterator.__next__»;refine aD (aX (aD (Ln ho hd ?_)));dsimp only[jm];refine aD (Ge hos hds hf ?_);subst hn;subst hR;rw[if_neg (by simp)];refine aD (nx ?_);dsimp only;refine aD (Bt ho hd (by simp) ?_)
 obtain⟨o1,g1,c1,d1⟩:=jX.set (j:=0) (x:=.int nxt 0) ho hc hd
 refine aD (Bt g1 d1 (by simp) ?_)
 obtain⟨o2,g2,c2,d2⟩:=jX.set (j:=1) (x:=.int (i+1) 0) g1 c1 d1
 refine aX ⟨_,rfl,aX (h _ ⟨o2,g2,c2,?_⟩ ((tW ..).trans (tW ..)))⟩;rw[d2];simp[jm]
theorem Zi(hh:A.handled=none)(h:∀h',(∀b o,s'.heap.get? b=some o→h'.get? b=some o)→Q none {s' with heap:=h'}):
  aM (model prog w) A.in1 (do let e ←newExc (.type "StopIteration") [];(raiseNew e:Sem Fin)) (fun fin s1=>∃v,fin=Fin.done (Flow.ret v)∧aM (model prog w) A (pure (some v)) Q E s1)
   (fun e s1=>aM (model prog w) A (do if(←isInstance e (Ca "StopIteration"))=true then pure none else throw e) Q E s1) s':=by
 refine aD ?_;simp only[newExc,newTuple];refine aD (mK ?_ (by size_fits));refine aD (m:=firstArgMember _ _) (wpAny_of_eq (a:=pJ) (by first|rfl|(simp only[firstArgMember];rfl)) ?_);refine mK ?_ (by size_fits);simp only[raiseNew];refine aD (wpAny_handled ?_);rw[show A.in1.handled=none from hh];refine aD (aX (wpAny_throw ?_));refine aD (adP (T:="StopIteration") (b:=true) ⟨_,ie _ rfl,rfl⟩ isSubtype_stop ?_);exact aX (h _ fun b o e=>cD _ (cD _ e))
theorem aaj{Q:Option Value→au→Prop}{slot:Nat}(hh:A.handled=none)(hit:jX s.heap it S (jm slot) i n ep)(hs:lR (bt w) s.heap S es ep t)(hn:n=es.size)
  (nx:∀{B:bY}{E':Value→au→Prop}{C:Option (Value×Nat)→au→Prop},C none s→aM (model prog w) B (CK S slot i ep) C E' s)
  (h:∀h',(∀b o,b≠it→s.heap.get? b=some o→h'.get? b=some o)→Q none {s with heap:=h'}):aM (model prog w) A (oJ (.ref it)) Q E s:=by
 obtain⟨o,ho,hc,hd⟩:=id hit
 obtain⟨os,hos,exs,hds,hf,tb⟩:=id hs
 unfold oJ;refine aD (Mg (Bd (name:=fJ "__next__") hit.ty qF (qu qF hit.ty HR ?_ (HS _))));unfold kJ.«set_iterator.__next__»;refine aD (aX (aD (Ln ho hd ?_)));dsimp only[jm];refine aD (Ge hos hds hf ?_);subst hn;rw[if_neg (by simp)];refine aD (nx ?_);dsimp only;refine aD (Bt ho hd (by simp) ?_);exact Zi hh fun h' kk=>h h' fun b o hb e=>kk b o (((tW ..).2 b hb).trans e)
end
section
variable{prog:bf}{w:aY}{A:bY}{E:Value→au→Prop}{s:au}{it S:aa}{es:Array (Int×Value)}{ep i n:Nat}{t:um}{first:Value}
theorem Ja(h:Q (!bt w) s):aM (model prog w) A WN Q E s:=by
 unfold WN;refine aD (K8 (aX ?_));have h':Q (w.params.followText "set-order") s:=by simpa[bt] using h
 exact h'
theorem Nk:∀{l:List α}{j:Nat}(h:j<l.length),(l[j]::l.eraseIdx j).Perm l
 |[],j,h=>by cases h
 |a::l,0,h=>.refl _
 |a::l,j+1,h=>by
  have:=Nk (l:=l) (j:=j) (by simpa using h);simp only[List.getElem_cons_succ,List.eraseIdx_cons_succ]
  exact(Vx ..).trans (this.cons a)
theorem Xh(hs:lR (bt w) s.heap S es ep t)(hb:bt w=true)(nd:(!t.plain&&decide (es.size>1))=false)
  (h:C (match es[iU t.place slot]?,t.place[iU t.place slot]? with|some (_,x),some j=>some (x,j+1)|_,_=>none) s):aM (model prog w) A (CK S slot i ep) C E s:=by
 obtain⟨o,ho,ex,hd,hf,tb⟩:=hs
 unfold CK;refine aD (Bo ho hd hf ?_);refine aD (Ja ?_);rw[hb];simp only[aen,pF,if_false];refine Lf (fun z=>?_) (fun _=>?_)
 ·have z':(!t.plain&&decide (es.size>1))=true:=z;rw[nd] at z';cases z'
 refine aD (show aM _ _ (if(!t.led&&!es.isEmpty)=true then _ else _) _ _ _ from ?_);rw[tb.led,hb];simp only[aen,Vr,pF,if_false];exact aX (aX h)
theorem Xi(hs:lR (bt w) s.heap S es ep t)(hb:bt w=false)
  (h:C (((xH (w.params.setOrder S ep) es)[i]?).map fun e=>(e.2,slot)) s):aM (model prog w) A (CK S slot i ep) C E s:=by
 obtain⟨o,ho,ex,hd,hf,tb⟩:=hs
 unfold CK;refine aD (Bo ho hd hf ?_);refine aD (Ja ?_);rw[hb];simp only[aea,if_true,bne_self_eq_false,pF,if_false];refine aD ?_;unfold setWalk;refine aD (Bo ho hd hf ?_);refine aD (Ja ?_);rw[hb];simp only[aea,if_true];refine aD (K8 (aX ?_));exact aX h
theorem Zj(f:Nat→Nat):∀(m k:Nat)(left:List α)(out:Array α),left.length=m→(Wb f m k left out).toList.Perm (out.toList++left)
 |0,k,left,out,h=>by
  unfold Wb;rw[acH.mp h];simp
 |m+1,k,left,out,h=>by
  unfold Wb;have hl:f k%left.length<left.length:=Nat.mod_lt _ (by omega);rw[jt hl];dsimp only
  refine(Zj f m (k+1) _ _ (by rw[ac1];simp[hl];omega)).trans ?_
  rw[adx,kI];refine acW _ ?_;exact Nk hl
theorem NP(f:Nat→Nat)(xs:Array α):(xH f xs).toList.Perm xs.toList:=by
 have:=Zj f xs.size 0 xs.toList #[] (by simp);simpa[xH] using this
theorem aha(hm:m≠0)(h:∀j d,j<m→Q j {s with drawn:=d}):aM (model prog w) A (choose src m) Q E s:=fun Γ p _=>⟨hm,h _ _ (Nat.mod_lt _ (Nat.pos_of_ne_zero hm))⟩
theorem XS:∀(m:Nat)(xs:List α)(s:au)(Q:List α→au→Prop),xs.length=m→(∀ys d,ys.Perm xs→Q ys {s with drawn:=d})→aM (model prog w) A (drawOrder m xs) Q E s
 |0,xs,s,Q,hl,h=>by
  unfold drawOrder;rw[acH.mp hl] at h;exact aX (h [] s.drawn (.refl _))
 |m+1,[],s,Q,hl,h=>by cases hl
 |m+1,x::xs,s,Q,hl,h=>by
  unfold drawOrder;refine aD (aha (by simp) fun j d hj=>?_);rw[jt hj];dsimp only;refine aD (XS m _ _ _ (by rw[ac1,if_pos hj];simpa using hl) fun ys d' hp=>?_);exact aX (h _ d' ((hp.cons _).trans (Nk hj)))
end
section
variable{prog:bf}{w:aY}{A:bY}{E:Value→au→Prop}{s:au}{it S pl:aa}{es:Array (Int×Value)}{ep i n:Nat}{t:um}{ps:List Nat}
def Ay(h:aV)(pl:aa)(ps:List Nat):Prop:=∃o c,h.get? pl=some o∧o.data=.seq (ps.map fun k:Nat=>jm k).toArray c
theorem Ay.at(H:Ay h pl ps)(e:∀o,h.get? pl=some o→h'.get? pl=some o):Ay h' pl ps:=let ⟨o,c,ho,r⟩:=H;⟨o,c,e o ho,r⟩
theorem ain(hit:jX s.heap it S (.ref pl) i n ep)(hs:lR (bt w) s.heap S es ep t)(hp:Ay s.heap pl ps)(hn:n=es.size)(hk:ps[i]?=some k)(he:es[k]?=some e)
  (h:∀h',jX h' it S (.ref pl) (i+1) n ep→zu it s.heap h'→Q (some e.2) {s with heap:=h'}):aM (model prog w) A (oJ (.ref it)) Q E s:=by
 obtain⟨o,ho,hc,hd⟩:=id hit
 obtain⟨os,hos,exs,hds,hf,tb⟩:=id hs
 obtain⟨op,cp,hop,hdp⟩:=hp
 unfold oJ;refine aD (Mg (Bd (name:=fJ "__next__") hit.ty qF (qu qF hit.ty HR ?_ (HS _))));unfold kJ.«set_iterator.__next__»;refine aD (aX (aD (Ln ho hd ?_)));dsimp only[jm];refine aD (Ge hos hds hf ?_);subst hn;rw[if_neg (by simp)];refine aD (Gy hop hdp ?_);dsimp only;rw[show((ps.map fun k:Nat=>jm k).toArray)[((i:Int)).toNat]?=some (.int (k:Int) 0) by simp[hk,jm]];dsimp only;refine aD ?_;unfold setNextDrawn;refine aD (Bo hos hds hf ?_);simp only[Bg,bne_self_eq_false,pF,if_false,he];refine aX (aD (Bt ho hd (by simp) ?_))
 obtain⟨o1,g1,c1,d1⟩:=jX.set (j:=1) (x:=.int (i+1) 0) ho hc hd
 refine aX ⟨_,rfl,aX (h _ ⟨o1,g1,c1,?_⟩ (tW ..))⟩;rw[d1];simp[jm]
theorem ajN(hh:A.handled=none)(hit:jX s.heap it S (.ref pl) i n ep)(hs:lR (bt w) s.heap S es ep t)(hp:Ay s.heap pl ps)(hn:n=es.size)(hk:ps.length≤i)
  (h:∀h',(∀b o,b≠it→s.heap.get? b=some o→h'.get? b=some o)→Q none {s with heap:=h'}):aM (model prog w) A (oJ (.ref it)) Q E s:=by
 obtain⟨o,ho,hc,hd⟩:=id hit
 obtain⟨os,hos,exs,hds,hf,tb⟩:=id hs
 obtain⟨op,cp,hop,hdp⟩:=hp
 unfold oJ;refine aD (Mg (Bd (name:=fJ "__next__") hit.ty qF (qu qF hit.ty HR ?_ (HS _))));unfold kJ.«set_iterator.__next__»;refine aD (aX (aD (Ln ho hd ?_)));dsimp only[jm];refine aD (Ge hos hds hf ?_);subst hn;rw[if_neg (by simp)];refine aD (Gy hop hdp ?_);dsimp only;rw[show((ps.map fun k:Nat=>jm k).toArray)[((i:Int)).toNat]?=none by simp[hk]];dsimp only;refine aD (Bt ho hd (by simp) ?_)
 obtain⟨o1,g1,c1,d1⟩:=jX.set (j:=0) (x:=.int 0 0) ho hc hd
 refine aD (Bt g1 d1 (by simp) ?_);exact Zi hh fun h' kk=>h h' fun b o hb e=>kk b o ((((tW ..).trans (tW ..)).2 b hb).trans e)
theorem agm(hh:A.handled=none)(ne:S≠it)(hb:bt w=true)(nd:(!t.plain&&decide (es.size>1))=false)(hz:t.place.size=es.size)(rs:t.place.toList.Pairwise (·<·)):
  Walks prog w A it [it,S] [it] es.size (fun i v=>(es.toList.map (·.2))[i]?=some v) (fun i h=>jX h it S (jm (if i=0 then 0 else t.place.getD (i-1) 0+1:Nat)) i es.size ep∧lR (bt w) h S es ep t) where
 sub:=fun b hb=>by simp at hb;simp[hb]
 frame:=fun _ _ _ st hk=>⟨st.1.at fun o e=>hk it (by simp) o e,st.2.at fun o e=>hk S (by simp) o e⟩
 item:=fun i s Q E hi st hQ=>by
  have hp:i<t.place.size:=by omega
  have bl:iU t.place (if i=0 then 0 else t.place.getD (i-1) 0+1)=i:=by
   by_cases z:i=0
   ·subst z;exact Ze rs
   ·rw[if_neg z];have h1:i-1<t.place.size:=by omega
    have:=WL rs h1;rw[rJ,mJ h1,Gr,this];omega
  refine Zh (R:=some (es[i].2,t.place[i]+1)) st.1 st.2 rfl ne (fun c=>Xh st.2 hb nd ?_) rfl fun h' hit' same=>hQ _ h' s.toks (by simp[hi]) ⟨?_,st.2.at fun o e=>(same.2 S ne).trans e⟩ fun b o hb e=>(same.2 b fun z=>hb (by simp[z])).trans e
  ·rw[bl,mJ hi,mJ hp];exact c
  ·have e1:(if i+1=0 then 0 else t.place.getD (i+1-1) 0+1)=t.place[i]+1:=by
    rw[if_neg (by omega),Nat.add_sub_cancel,rJ,mJ hp,Gr]
   rw[e1];exact hit'
 done:=fun s Q E st hQ=>by
  have bl:iU t.place (if es.size=0 then 0 else t.place.getD (es.size-1) 0+1)=es.size:=by
   by_cases z:es.size=0
   ·rw[if_pos z,z];exact Ze rs
   ·rw[if_neg z];have h1:es.size-1<t.place.size:=by omega
    have:=WL rs h1;rw[rJ,mJ h1,Gr,this];omega
  refine aaj hh st.1 st.2 rfl (fun c=>Xh st.2 hb nd ?_) fun h' kk=>hQ h' s.toks fun b o hb e=>kk b o (fun z=>hb (by simp[z])) e
  rw[bl,acQ (bO _)];exact c
 self:=fun _ _ _ _ st hQ=>PL st.1 hQ
theorem agn(hh:A.handled=none)(ne:S≠it)(hb:bt w=false):
  Walks prog w A it [it,S] [it] es.size (fun i v=>((xH (w.params.setOrder S ep) es).toList.map (·.2))[i]?=some v) (fun i h=>jX h it S (jm (0:Nat)) i es.size ep∧lR (bt w) h S es ep t) where
 sub:=fun b hb=>by simp at hb;simp[hb]
 frame:=fun _ _ _ st hk=>⟨st.1.at fun o e=>hk it (by simp) o e,st.2.at fun o e=>hk S (by simp) o e⟩
 item:=fun i s Q E hi st hQ=>by
  have hl:(xH (w.params.setOrder S ep) es).size=es.size:=by rw[←jM,(NP _ es).length_eq,jM]
  have hp:i<(xH (w.params.setOrder S ep) es).size:=by omega
  refine Zh (R:=some ((xH (w.params.setOrder S ep) es)[i].2,0)) st.1 st.2 rfl ne (fun c=>Xi st.2 hb ?_) rfl fun h' hit' same=>hQ _ h' s.toks (by simp[hp]) ⟨hit',st.2.at fun o e=>(same.2 S ne).trans e⟩ fun b o hb e=>(same.2 b fun z=>hb (by simp[z])).trans e
  rw[mJ hp];exact c
 done:=fun s Q E st hQ=>by
  have hl:(xH (w.params.setOrder S ep) es).size=es.size:=by rw[←jM,(NP _ es).length_eq,jM]
  refine aaj hh st.1 st.2 rfl (fun c=>Xi st.2 hb ?_) fun h' kk=>hQ h' s.toks fun b o hb e=>kk b o (fun z=>hb (by simp[z])) e
  rw[acQ (by omega)];exact c
 self:=fun _ _ _ _ st hQ=>PL st.1 hQ
theorem afx(hh:A.handled=none)(ne:S≠it)(np:pl≠it)(pp:ps.Perm (dJ es.size)):
  Walks prog w A it [it,S,pl] [it] es.size (fun i v=>(ps.map fun k=>(es.getD k (0,.none)).2)[i]?=some v) (fun i h=>jX h it S (.ref pl) i es.size ep∧lR (bt w) h S es ep t∧Ay h pl ps) where
 sub:=fun b hb=>by simp at hb;simp[hb]
 frame:=fun _ _ _ st hk=>⟨st.1.at fun o e=>hk it (by simp) o e,st.2.1.at fun o e=>hk S (by simp) o e,st.2.2.at fun o e=>hk pl (by simp) o e⟩
 item:=fun i s Q E hi st hQ=>by
  have hl:ps.length=es.size:=by rw[pp.length_eq,lA]
  have hp:i<ps.length:=by omega
  have hk:ps[i]<es.size:=pH.mp (pp.mem_iff.mp (wZ hp));refine ain (k:=ps[i]) (e:=es[ps[i]]) st.1 st.2.1 st.2.2 rfl (jt hp) (mJ hk) fun h' hit' same=>hQ _ h' s.toks ?_ ⟨hit',st.2.1.at fun o e=>(same.2 S ne).trans e,st.2.2.at fun o e=>(same.2 pl np).trans e⟩ fun b o hb e=>(same.2 b fun z=>hb (by simp[z])).trans e
  rw[gC,jt hp,j6,rJ,mJ hk];rfl
 done:=fun s Q E st hQ=>by
  have hl:ps.length=es.size:=by rw[pp.length_eq,lA]
  exact ajN hh st.1 st.2.1 st.2.2 rfl (by omega) fun h' kk=>hQ h' s.toks fun b o hb e=>kk b o (fun z=>hb (by simp[z])) e
 self:=fun _ _ _ _ st hQ=>PL st.1 hQ
end
section
variable{prog:bf}{w:aY}{A:bY}{E:Value→au→Prop}{s:au}{S:aa}{es:Array (Int×Value)}{ep:Nat}{t:um}
theorem ago(hs:lR (bt w) s.heap S es ep t)(h:Q (bt w&&(!t.plain&&decide (es.size>1))) s):aM (model prog w) A (setDrawn S) Q E s:=by
 obtain⟨os,hos,exs,hds,hf,tb⟩:=id hs
 unfold setDrawn;refine aD (Bo hos hds hf ?_);refine aD (Ja (aX ?_));rw[Bool.not_not];exact h
theorem ahb(hh:A.handled=none)(hs:lR (bt w) s.heap S es ep t)(hb:es.size<pN)
  (h:∀(I:aa)(h1:aV)(d:xX)(fp:List aa)(out:List Value)(St:Nat→aV→Prop),Walks prog w A I fp [I] es.size (fun i v=>out[i]?=some v) St→St 0 h1→out.Perm (es.toList.map (·.2))→(∀b o,s.heap.get? b=some o→h1.get? b=some o)→s.heap.objs.size≤I→
   (∀b∈fp,b=S∨s.heap.objs.size≤b)→Q (.ref I) {s with heap:=h1,drawn:=d}):aM (model prog w) A (Dd (.ref S)) Q E s:=by
 obtain⟨os,hos,exs,hds,hf,tb⟩:=id hs
 have hT:s.TypeIs (.ref S) "set":=⟨os,hos,exs.1⟩
 have lt:S<s.heap.objs.size:=bW hos;have hz:t.place.size=es.size:=by
  have:=hf;simp only[SetTable.fits,iQ,beq_iff_eq] at this;exact this.1
 refine adz hT ad5 (qu ad5 hT afw ?_ (F.args_set_iter_1 _));unfold kJ.«frozenset.__iter__» ano ani;refine aD (aD (aX (aX ?_)));refine aD (aD (Ge hos hds hf (aX ?_)));refine aD (ago hs ?_);by_cases hd:(bt w&&(!t.plain&&decide (es.size>1)))=true
 ·rw[if_pos hd];refine aD (XS _ _ _ _ (lA ..) fun ps d pp=>?_);have pl:ps.length=es.size:=by rw[pp.length_eq,lA]
  unfold newTuple;refine aD (mK ?_ (show(List.map (fun i:Nat=>jm i) ps).toArray.size≤bM by rw[fW,aW,pl,jg];unfold pN at hb;omega));have g1:(s.heap.push {cls:=.type "tuple",data:=.seq (ps.map fun k:Nat=>jm k).toArray}).get? S=some os:=cD _ hos;refine aD (adA (s:={s with heap:=s.heap.push _,drawn:=d}) g1 hds hf ?_);refine aD ?_;unfold newFields;refine mK ?_;refine aX ⟨_,rfl,"set_iterator",_,⟨_,ie _ rfl,rfl⟩,qF.lookup,?_⟩;have wM:(s.heap.push {cls:=.type "tuple",data:=.seq (ps.map fun k:Nat=>jm k).toArray}).objs.size=s.heap.objs.size+1:=xj ..;refine h _ _ d [_,S,s.heap.objs.size] _ _ (afx (ep:=ep) (t:=t) hh ?_ ?_ pp) ⟨⟨_,ie _ rfl,rfl,rfl⟩,⟨os,cD _ g1,exs,hds,hf,tb⟩,⟨_,0,cD _ (ie _ rfl),rfl⟩⟩ ?_ (fun b o e=>cD _ (cD _ e)) ?_ ?_
  ·rw[wM];exact dO (wX lt)
  ·rw[wM];exact dO (Va _)
  ·have e2:(dJ es.size).map (fun k=>(es.getD k (0,pJ)).2)=es.toList.map (·.2):=by
    refine yU (by simp) fun j h1 h2=>?_
    have hj:j<es.size:=by simpa using h1
    simp[rJ,mJ hj]
   rw[←e2];exact pp.map _
  ·rw[wM];exact BW _
  ·intro b hb';simp only[bU,jN,or_false] at hb';rcases hb' with rfl|rfl|rfl
   ·right;rw[wM];exact BW _
   ·exact .inl rfl
   ·exact .inr (bO _)
 ·rw[if_neg hd];refine aD (aX ?_);refine aD (adA hos hds hf ?_);refine aD ?_;unfold newFields;refine mK ?_;refine aX ⟨_,rfl,"set_iterator",_,⟨_,ie _ rfl,rfl⟩,qF.lookup,?_⟩;have abu:∀b,b∈[s.heap.objs.size,S]→b=S∨s.heap.objs.size≤b:=fun b hb'=>by
   simp only[bU,jN,or_false] at hb';rcases hb' with rfl|rfl
   ·exact .inr (bO _)
   ·exact .inl rfl
  cases hbt:bt w with
  |true=>
   rw[hbt] at hd;have nd:(!t.plain&&decide (es.size>1))=false:=by simpa using hd
   exact h _ _ s.drawn [_,S] _ _ (agm (ep:=ep) hh (dO lt) hbt nd hz tb.Tc) ⟨⟨_,ie _ rfl,rfl,rfl⟩,⟨os,cD _ hos,exs,hds,hf,tb⟩⟩ (.refl _) (fun b o e=>cD _ e) (bO _) abu
  |false=>
   exact h _ _ s.drawn [_,S] _ _ (agn (ep:=ep) (t:=t) hh (dO lt) hbt) ⟨⟨_,ie _ rfl,rfl,rfl⟩,⟨os,cD _ hos,exs,hds,hf,tb⟩⟩ ((NP _ es).map _) (fun b o e=>cD _ e) (bO _) abu
end
end L2
namespace L2
open PySem PySem.Spec PySem.W PyProof.Rows
section
variable{prog:bf}{w:aY}{A:bY}{E:Value→au→Prop}{s:au}{S:aa}{es:Array (Int×Value)}{ep:Nat}{t:um}
theorem ahc(hT:s.TypeIs (.ref S) "set")(h:Q false s):aM (model prog w) A (acu (.ref S)) Q E s:=by
 unfold acu;refine aD (wpAny_specialOf hT PySem.F.slot_set_len.lookup ?_);generalize hid:("set.__len__":String)=nm
 wp_delta
 rw[show splitId nm=some ("set","__len__") by subst hid;decide +kernel];subst hid;refine aD (adP (T:="set") (b:=true) hT (by rw[Vw];kernel_rfl) ?_);refine Lf (fun z=>absurd z (by decide)) fun _=>Lf (fun _=>?_) fun z=>absurd (by decide +kernel) z
 exact aD (GZ hT (aX h))
theorem agp{out:List Value}{acc:Array Value}(h:ItemsOf (fun i v=>out[i]?=some v) acc out.length):acc=out.toArray:=by
 refine Array.ext (by simpa using h.1) fun j h1 h2=>?_
 have this:out[j]?=some acc[j]:=h.2 j acc[j] (mJ h1);have hj:j<out.length:=by simpa using h2
 rw[jt hj] at this;simpa using(fV this).symm
theorem afy{R:qI→au→Prop}(hh:A.handled=none)(hs:lR (bt w) s.heap S es ep t)(hb:es.size<pN){L:aa}(ne:L≠S){c0:Nat}(hL:s.heap.get? L=some {cls:=.type "list",data:=.seq #[] c0})(res:Value)
  (hR:∀(h':aV)(d:xX)(tk:Nat)(us:List Value)(c':Nat),us.Perm (es.toList.map (·.2))→(∀b o,b≠L→s.heap.get? b=some o→h'.get? b=some o)→h'.get? L=some {cls:=.type "list",dict:=none,data:=.seq us.toArray c',slots:=#[]}→
   R (.ok (.ret res)) {s with heap:=h',drawn:=d,toks:=tk}):
  aM (model prog w) A.in1 (Ks (.ref L) (.ref S) res) (fun fin s'=>match fin with|.done f=>R (.ok f) s'|.again c'=>c'.quiet=true∧j8 (model prog w) A c' R s') (fun e s'=>R (.error e) s') s:=by
 obtain⟨os,hos,exs,hds,hf,tb⟩:=id hs
 have hT:s.TypeIs (.ref S) "set":=⟨os,hos,exs.1⟩
 have ltL:L<s.heap.objs.size:=bW hL;unfold Ks;refine aD (GZ hT ?_);rw[show(Ud (.ref L) (.ref S)||Ca "set"==Ca "list"||Ca "set"==Ca "tuple")=false by
  rw[show Ud (.ref L) (.ref S)=false by simp[Ud,ne]];decide]
 simp only[pF,if_false];refine aD (ahb (A:=A.in1) hh hs hb fun I h1 d fp out St W st pm kp geI okf=>?_);have lo:out.length=es.size:=by rw[pm.length_eq,aW,jM]
 have bz:L∉fp:=fun z=>(okf L z).elim ne fun z'=>absurd ltL (Nh.mpr z')
 have run:∀(h2:aV)(c1 tk:Nat),St 0 h2→(∀b o,b≠L→s.heap.get? b=some o→h2.get? b=some o)→h2.get? L=some {cls:=.type "list",data:=.seq #[] c1}→
   j8 (model prog w) A (.builtin "list.extend.loop" ⟨[.ref L,.ref I,res],[]⟩) R {s with heap:=h2,drawn:=d,toks:=tk}:=fun h2 c1 tk st2 k2 g2=>by
  refine codeAny_extend_loopS W.toS (UJ hb) L bz res es.size 0 _ #[] c1 rfl (lF _) st2 g2 (ItemsOf.nil _) fun s3 acc c3 mv g3 io=>?_
  rw[←lo] at io;have ea:=agp io;subst ea;rw[Moved.eq_with mv];refine hR s3.heap d s3.toks out c3 pm (fun b o nb e=>mv.heap b o (fun z=>?_) (k2 b o nb e)) g3;rcases bU.mp z with z|z
  ·exact nb z
  ·exact absurd (bW e) (by rw[jf.mp z];exact Nh.mpr geI)
 have gL:=kp L _ hL;have gS:Shared.TypeIs {s with heap:=h1,drawn:=d} (.ref S) "set":=⟨os,kp S _ hos,exs.1⟩
 refine aD (mQ (ahc gS ?_));refine Lf (fun _=>?_) fun _=>aX ⟨ud acB _,run h1 c0 s.toks st (fun b o _ e=>kp b o e) gL⟩
 refine aD (xG (aD (show aM _ _ (NQ L (·.push .none) >>= fun _=>NQ L (·.pop)) _ _ _ from ?_)));refine aD (Gv gL rfl ?_);have u2:=yN (lH (·.push pJ)) gL rfl;refine Gv (hz:=by seq_fits) u2 rfl ?_;have u3:=yN (lH (·.pop)) u2 rfl;have far:∀b o,b≠L→h1.get? b=some o→((h1.update L (lH (·.push pJ))).update L (lH (·.pop))).get? b=some o:=fun b o nb e=>
  (rM _ _ (jQ nb)).trans ((rM _ _ (jQ nb)).trans e)
 exact aX ⟨ud acB _,run _ _ s.toks (W.frame 0 _ _ st fun b hb' o e=>far b o (fun z=>bz (z▸hb')) e) (fun b o nb e=>far b o nb (kp b o e)) u3⟩
theorem ae4(hh:A.handled=none)(hs:lR (bt w) s.heap S es ep t)(hb:es.size<pN)
  (h:∀(h':aV)(d:xX)(tk:Nat)(us:List Value),us.Perm (es.toList.map (·.2))→s.heap.objs.size≤h'.objs.size→(∀b o,s.heap.get? b=some o→h'.get? b=some o)→R us {s with heap:=h',drawn:=d,toks:=tk}):
  aM (model prog w) A (collect (.ref S)) R E s:=by
 have ltS:S<s.heap.objs.size:=let ⟨_,e,_⟩:=hs;bW e
 unfold collect;refine aD (wpAny_runValue (vp entry_proto_collect' ?_));rw[u9 acs _];show aM _ A.in1 (newList [] >>= fun l=>again (.builtin "list.__iadd__" ⟨[l,.ref S],[]⟩)) _ _ s;refine aD (mK (aX ⟨ud KC _,vp entry_list_iadd' ?_⟩));rw[u9 KC _];have g0:(s.heap.push {cls:=.type "list",data:=.seq ([]:List Value).toArray}).get? s.heap.objs.size=some {cls:=.type "list",data:=.seq #[]}:=ie _ rfl;show aM _ A.in1 (Ks (.ref s.heap.objs.size) (.ref S) (.ref s.heap.objs.size)) _ _ _;have key:=afy (prog:=prog) (A:=A) (s:={s with heap:=s.heap.push {cls:=.type "list",data:=.seq ([]:List Value).toArray}})
  (R:=fun(q:qI)(s':au)=>∃(h':aV)(d:xX)(tk:Nat)(us:List Value)(c':Nat),q=.ok (.ret (.ref s.heap.objs.size))∧s'={s with heap:=h',drawn:=d,toks:=tk}∧us.Perm (es.toList.map (·.2))∧(∀b o,s.heap.get? b=some o→h'.get? b=some o)∧h'.get? s.heap.objs.size=some {cls:=.type "list",dict:=none,data:=.seq us.toArray c',slots:=#[]})
  hh (hs.at fun o e=>cD _ e) hb (zx ltS) g0 (.ref s.heap.objs.size) (fun h' d tk us c' pm kk g=>⟨h',d,tk,us,c',rfl,rfl,pm,fun b o e=>kk b o (dO (bW e)) (cD _ e),g⟩)
 refine nD key (fun fin s' x=>?_) fun e s' x=>?_
 ·cases fin with
  |done f=>
   obtain⟨h',d,tk,us,c',e,rfl,pm,kk,g⟩:=x
   cases e;show aM _ A (load s.heap.objs.size >>= _) _ _ _;exact aD (Hu g (aX (h h' d tk us pm (vB (bW g)) kk)))
  |again c1=>
   refine⟨x.1,GX x.2 fun q s2 y=>?_⟩
   obtain⟨h',d,tk,us,c',rfl,rfl,pm,kk,g⟩:=y
   show aM _ A (load s.heap.objs.size >>= _) _ _ _;exact aD (Hu g (aX (h h' d tk us pm (vB (bW g)) kk)))
 ·obtain⟨_,_,_,_,_,e',_⟩:=x
  cases e'
end
section
variable{prog:bf}{w:aY}{A:bY}{E:Value→au→Prop}{s:au}{S:aa}{es:Array (Int×Value)}{ep:Nat}{t:um}
theorem afz{Ok:List Value→Prop}{Q:Value→au→Prop}(hh:A.handled=none)(hs:lR (bt w) s.heap S es ep t)(few:es.size<64)
  (srt:∀us:List Value,us.Perm (es.toList.map (·.2))→∀(B:bY)(s1:au)(a:aa)(n:Nat)(P:Fin→au→Prop)(E':Value→au→Prop),s1.heap.get? a=some (seqObj "list" us.toArray n)→
   (∀out:Array Value,Ok out.toList→P (.done (.ret .none)) {s1 with heap:=sortedHeap s1.heap a us out})→aM (model prog w) B (kJ.«list.sort» ⟨[.ref a],[]⟩) P E' s1)
  (h:∀(D:aa)(h':aV)(d:xX)(tk c:Nat)(out:Array Value),Ok out.toList→s.heap.objs.size≤D→(∀b o,s.heap.get? b=some o→h'.get? b=some o)→h'.get? D=some (seqObj "list" out c)→Q (.ref D) {s with heap:=h',drawn:=d,toks:=tk}):
  aM (model prog w) A (call (.builtin "sorted") [.ref S]) Q E s:=by
 refine T9 kind_sorted plain_sorted entry_sorted (args_sorted1 _) ?_;unfold kJ.«sorted»;refine aD (m:=WQ "sorted" 1 1 _) (aX (aD (ae4 (A:=A.in1) hh hs (by unfold pN;omega) fun h1 d tk us pm ge kk=>?_)));have lu:us.length=es.size:=by rw[pm.length_eq,aW,jM]
 refine aD (Mf ?_ (by rw[jg];omega));have gL:(h1.push (seqObj "list" us.toArray 0)).get? h1.objs.size=some (seqObj "list" us.toArray 0):=ie _ rfl;refine aD (mQ (qu slot_list_sort ⟨_,gL,rfl⟩ entry_list_sort (srt us pm _ {s with heap:=h1.push (seqObj "list" us.toArray 0),drawn:=d,toks:=tk} _ 0 _ _ gL fun out ok=>⟨_,rfl,?_⟩) (args_list_sort _)))
 obtain⟨c,gD⟩:=sortedHeap_at (out:=out) gL
 refine aX ⟨_,rfl,h h1.objs.size _ d tk c out ok ge (fun b o e=>?_) gD⟩;have lb:b<h1.objs.size:=bW (kk b o e)
 show(sortedHeap (h1.push (seqObj "list" us.toArray 0)) h1.objs.size us out).get? b=some o
 rw[sortedHeap_old (dO lb) (by rw[xj];exact wX lb)];exact cD _ (kk b o e)
end
theorem Inv.drew(d:xX)(I:Inv X pins σ H s):Inv X pins σ H {s with drawn:=d}:=
 I.call (g':=s.gens) (t':=s.toks) (d':=d) (ch:=[]) (Un.kept fun _ _ e=>e) (I.hok.kept fun _ _ e=>e) I.bare (fun _ z=>nomatch z)
section
variable{X:Cx}{T:Type}[DecidableEq T]{knd:xm X.prog X.w T}{l:Expr}{tl:TE}{p1 p2 pos1 pos2:Pos}
end
section
variable{prog:bf}{w:aY}
theorem ahd(h:jJ (GK prog w) es ks):(es.map (·.2)).map strOf=ks∧∀v,v∈es.map (·.2)→∃x t,v=.str x t:=by
 induction h with
 |nil=>exact⟨rfl,fun v hv=>by cases hv⟩
 |@cons e k es ks a _ ih=>
  obtain⟨t,ht⟩:=ac5 (show VG k e.2=true from a.1)
  refine⟨by rw[cg,cg,ih.1,ht];rfl,fun v hv=>?_⟩
  rcases bU.mp hv with rfl|hv
  ·exact⟨k,t,ht⟩
  ·exact ih.2 v hv
end
section
variable{X:Cx}{l:Expr}{tl:TE}{p1 p2 pos1 pos2:Pos}
end
section
variable{prog:bf}{w:aY}{A:bY}{E:Value→au→Prop}{s:au}{R:qI→au→Prop}{I S:aa}{fp wr:List aa}{n:Nat}{Pv:Nat→Value→Prop}{St:Nat→aV→Prop}{bt:Nat→Nat→Bool}
def akO(v:Value)(c:Nat):Obj:={cls:=.type "list",dict:=none,data:=.seq #[v,v] c,slots:=#[]}
end
section
variable{prog:bf}{w:aY}{A:bY}{E:Value→au→Prop}{s:au}
theorem aeF{id:String}{b:kJ}{as:List Value}{kw:List (Str×Value)}{Q:Value→au→Prop}(hk:builtinKind id=none)(hp:plainId id=true)(hb:Ov table id=some b)(ha:Di id ⟨as,kw⟩)
  (hc:aM (model prog w) A.in1 (b ⟨as,kw⟩) (fun fin s'=>match fin with
   |.done f=>(match(Except.ok f:qI) with|.ok (.ret v)=>Q v s'|.ok _=>False|.error e=>E e s')
   |.again c'=>c'.quiet=true∧j8 (model prog w) A c' (fun r s'=>match r with|.ok (.ret v)=>Q v s'|.ok _=>False|.error e=>E e s') s') E s):aM (model prog w) A (call (.builtin id) as kw) Q E s:=by
 refine wpAny_call (codeAny_call_builtin hp hb ?_);simp only[checkBuiltinCall,hk];cases hg:Manifest.signature? id with
 |none=>exact aX hc
 |some sg=>
  simp only[Di,hg] at ha;show aM _ A.in1 (aeb id sg ⟨as,kw⟩) _ _ s;rw[show aeb id sg ⟨as,kw⟩=pure () from ha];exact aX hc
end
section
variable{X:Cx}{l de:Expr}{tl td:TE}{p pos kp:Pos}
end
end L2
namespace L2
open PySem PySem.Spec PyProof.Rows PySem.W
def cV:aj→Option Key
 |.int i=>some (.inl i)
 |.str x=>some (.inr x)
 |_=>none
def keysOf:List aj→Option (List Key)
 |[]=>some []
 |d::r=>match cV d,keysOf r with
  |some k,some t=>some (k::t)
  |_,_=>none
def sV:aj→Option (List Key)
 |.tuple ds=>keysOf ds
 |_=>none
def cM{κ:Type}(f:aj→Option κ):List (aj×aj)→Option (List κ)
 |[]=>some []
 |p::r=>match f p.1,cM f r with
  |some k,some t=>some (k::t)
  |_,_=>none
def wN(H:Hp)(a:aa)(kvs:List (aj×aj))(vs:List V):Prop:=
 (∃ks,cM cV kvs=some ks∧H a=some (.dK (ks.zip vs)))∨∃ks,(kvs≠[]∧cM sV kvs=some ks)∧H a=some (.dT (ks.zip vs))
mutual
def RZ(H:Hp):aj→V→Prop
 |.none,v=>v=.non
 |.bool b,v=>v=.bl b
 |.int i,v=>v=.int i
 |.str x,v=>v=.str x
 |.list ds,v=>∃a vs,v=.ref a∧H a=some (.lst vs)∧cz H ds vs
 |.tuple ds,v=>∃a vs,v=.ref a∧H a=some (.tup vs)∧cz H ds vs
 |.dict kvs,v=>∃a vs,v=.ref a∧wN H a kvs vs∧gO H kvs vs
def cz(H:Hp):List aj→List V→Prop
 |[],vs=>vs=[]
 |d::ds,vs=>∃v r,vs=v::r∧RZ H d v∧cz H ds r
def gO(H:Hp):List (aj×aj)→List V→Prop
 |[],vs=>vs=[]
 |p::r,vs=>∃v t,vs=v::t∧RZp H p v∧gO H r t
def RZp(H:Hp):aj×aj→V→Prop
 |(_,d),v=>RZ H d v
end
theorem wN.same(s:bh H H')(h:wN H a kvs vs):wN H' a kvs vs:=by
 rcases h with⟨ks,e,h⟩|⟨ks,e,h⟩
 ·exact .inl ⟨ks,e,s _ _ h⟩
 ·exact .inr ⟨ks,e,s _ _ h⟩
mutual
theorem RZ.same(s:bh H H'):∀{d:aj}{v:V},RZ H d v→RZ H' d v
 |.none,_,h=>h
 |.bool _,_,h=>h
 |.int _,_,h=>h
 |.str _,_,h=>h
 |.list ds,_,h=>by
  obtain⟨a,vs,e,q,r⟩:=h
  exact⟨a,vs,e,s _ _ q,cz.same s r⟩
 |.tuple ds,_,h=>by
  obtain⟨a,vs,e,q,r⟩:=h
  exact⟨a,vs,e,s _ _ q,cz.same s r⟩
 |.dict kvs,_,h=>by
  obtain⟨a,vs,e,q,r⟩:=h
  exact⟨a,vs,e,q.same s,gO.same s r⟩
theorem cz.same(s:bh H H'):∀{ds:List aj}{vs:List V},cz H ds vs→cz H' ds vs
 |[],_,h=>h
 |d::ds,vs,h=>by
  obtain⟨v,r,e,q,t⟩:=h
  exact⟨v,r,e,RZ.same s q,cz.same s t⟩
theorem gO.same(s:bh H H'):∀{kvs:List (aj×aj)}{vs:List V},gO H kvs vs→gO H' kvs vs
 |[],_,h=>h
 |(k,d)::ds,vs,h=>by
  obtain⟨v,r,e,q,t⟩:=h
  exact⟨v,r,e,RZ.same s q,gO.same s t⟩
end
theorem gU:∀{ds:List aj}{vs:List V},cz H ds vs→vs.length=ds.length
 |[],_,h=>by cases(show _=[] from h);rfl
 |e::ds,vs,h=>by
  obtain⟨u,r,e1,q,s⟩:=h
  subst e1;rw[cO,cO,gU s]
theorem Jb:∀{ds:List (aj×aj)}{vs:List V},gO H ds vs→vs.length=ds.length
 |[],_,h=>by cases(show _=[] from h);rfl
 |e::ds,vs,h=>by
  obtain⟨u,r,e1,q,s⟩:=h
  subst e1;rw[cO,cO,Jb s]
theorem vM:∀{ds:List aj}{vs:List V}{i:Nat}{d:aj},cz H ds vs→ds[i]?=some d→∃v,vs[i]?=some v∧RZ H d v
 |[],_,_,_,_,e=>by simp at e
 |x::ds,vs,i,d,h,e=>by
  obtain⟨u,r,e1,q,s⟩:=h
  subst e1;cases i with
  |zero=>cases e;exact⟨u,rfl,q⟩
  |succ i=>
   obtain⟨v,e2,h2⟩:=vM (i:=i) s (by simpa using e)
   exact⟨v,by simpa using e2,h2⟩
theorem xP:∀{ds es:List aj}{vs ws:List V},cz H ds vs→cz H es ws→cz H (ds++es) (vs++ws)
 |[],_,_,_,h,g=>by cases(show _=[] from h);exact g
 |d::ds,_,_,_,h,g=>by
  obtain⟨u,r,e1,q,s⟩:=h
  subst e1
  exact⟨u,_,rfl,q,xP s g⟩
theorem XX:∀{ds:List aj}{vs:List V}(n:Nat),cz H ds vs→cz H (ds.take n) (vs.take n)
 |_,_,0,_=>by rw[aec,aec];rfl
 |[],_,n+1,h=>by cases(show _=[] from h);rfl
 |d::ds,_,n+1,h=>by
  obtain⟨u,r,e1,q,s⟩:=h
  subst e1
  exact⟨u,_,rfl,q,XX n s⟩
theorem X3:∀{ds:List aj}{vs:List V}(n:Nat),cz H ds vs→cz H (ds.drop n) (vs.drop n)
 |_,_,0,h=>h
 |[],_,n+1,h=>by cases(show _=[] from h);rfl
 |d::ds,_,n+1,h=>by
  obtain⟨u,r,e1,q,s⟩:=h
  subst e1;exact X3 n s
theorem Zk(hv:RZ H d v):∀{ds:List aj}{vs:List V}(i:Nat),cz H ds vs→cz H (ds.set i d) (vs.set i v)
 |[],_,_,h=>by cases(show _=[] from h);rfl
 |x::ds,_,i,h=>by
  obtain⟨u,r,e1,q,s⟩:=h
  subst e1;cases i with
  |zero=>exact⟨v,r,rfl,hv,s⟩
  |succ i=>exact⟨u,_,rfl,q,Zk hv i s⟩
def jF:aj→Bool
 |.none=>true
 |.bool _=>true
 |.int _=>true
 |.str _=>true
 |_=>false
def toV:aj→V
 |.none=>.non
 |.bool b=>.bl b
 |.int i=>.int i
 |.str x=>.str x
 |_=>.non
theorem aio(f:jF d=true)(h:RZ H d v):v=toV d:=by
 cases d<;>first|exact h|cases f
theorem aip(f:jF d=true):RZ H d (toV d):=by
 cases d<;>first|rfl|cases f
theorem Ow:∀{ds:List aj}{vs:List V},ds.all jF=true→cz H ds vs→vs=ds.map toV
 |[],_,_,h=>h
 |d::ds,vs,f,h=>by
  obtain⟨u,r,e1,q,s⟩:=h
  rw[LR,iQ] at f;rw[e1,aio f.1 q,Ow f.2 s];rfl
theorem X4(ns:List Str):cz H (ns.map cF) (ns.map V.str):=by
 induction ns with
 |nil=>rfl
 |cons n r ih=>exact⟨_,_,rfl,rfl,ih⟩
mutual
def jB:aj→Bool
 |.list _=>false
 |.tuple ds=>eZ ds
 |.dict _=>false
 |_=>true
def eZ:List aj→Bool
 |[]=>true
 |d::r=>jB d&&eZ r
end
mutual
theorem RZ.jB(t:∀a vs,H a=some (.tup vs)→H' a=some (.tup vs)):∀{d:aj}{v:V},jB d=true→RZ H d v→RZ H' d v
 |.none,_,_,h=>h
 |.bool _,_,_,h=>h
 |.int _,_,_,h=>h
 |.str _,_,_,h=>h
 |.list ds,_,n,h=>nomatch n
 |.tuple ds,_,n,h=>by
  obtain⟨a,vs,e,q,r⟩:=h
  exact⟨a,vs,e,t _ _ q,cz.jB t n r⟩
 |.dict _,_,n,_=>nomatch n
theorem cz.jB(t:∀a vs,H a=some (.tup vs)→H' a=some (.tup vs)):∀{ds:List aj}{vs:List V},eZ ds=true→cz H ds vs→cz H' ds vs
 |[],_,_,h=>h
 |d::ds,vs,n,h=>by
  obtain⟨v,r,e,q,w⟩:=h
  have n':L2.jB d=true∧eZ ds=true:=by rw[eZ,iQ] at n;exact n
  exact⟨v,r,e,RZ.jB t n'.1 q,cz.jB t n'.2 w⟩
end
mutual
def rD:aj→Bool
 |.list ds=>wz ds
 |.tuple ds=>wz ds
 |.dict _=>false
 |_=>true
def wz:List aj→Bool
 |[]=>true
 |d::r=>rD d&&wz r
end
mutual
theorem RZ.rx:∀{d:aj}{v:V},rD d=true→RZ H d v→RX H d v
 |.none,_,_,h=>h
 |.bool _,_,_,h=>h
 |.int _,_,_,h=>h
 |.str _,_,_,h=>h
 |.list ds,_,n,h=>by
  obtain⟨a,vs,e,q,r⟩:=h
  exact⟨a,vs,e,q,cz.rx n r⟩
 |.tuple ds,_,n,h=>by
  obtain⟨a,vs,e,q,r⟩:=h
  exact⟨a,vs,e,q,cz.rx n r⟩
 |.dict _,_,n,_=>nomatch n
theorem cz.rx:∀{ds:List aj}{vs:List V},wz ds=true→cz H ds vs→lW H ds vs
 |[],_,_,h=>h
 |d::ds,vs,n,h=>by
  obtain⟨v,r,e,q,t⟩:=h
  have n':rD d=true∧wz ds=true:=by rw[wz,iQ] at n;exact n
  exact⟨v,r,e,RZ.rx n'.1 q,cz.rx n'.2 t⟩
end
inductive Vl where
 |im (d:aj)
 |ow (d:aj)
 |ce (n:Nat)
 |sc (ns:List Int)
abbrev En:=List (Option Vl)
abbrev Ce:=List (List Int)
def own1:Option Vl→Option V→List aa
 |some (.ow _),some (.ref a)=>[a]
 |_,_=>[]
def bD:En→St→List aa
 |x::e,v::s=>own1 x v++bD e s
 |_,_=>[]
theorem lZ:∀{env:En}{σ:St},a∈bD env σ↔∃(i:Nat)(d:aj),env[i]?=some (some (Vl.ow d))∧σ[i]?=some (some (V.ref a))
 |[],σ=>by
  constructor
  ·intro h;simp[bD] at h
  ·rintro⟨i,d,e,_⟩;simp at e
 |x::e,[]=>by
  constructor
  ·intro h;simp[bD] at h
  ·rintro⟨i,d,_,e⟩;simp at e
 |x::e,v::s=>by
  rw[bD,cR,lZ (env:=e) (σ:=s)];constructor
  ·rintro(h|⟨i,d,h1,h2⟩)
   ·unfold own1 at h;split at h
    ·rw[jf] at h;subst h
     exact⟨0,_,rfl,rfl⟩
    ·simp at h
   ·exact⟨i+1,d,by simpa using h1,by simpa using h2⟩
  ·rintro⟨i,d,h1,h2⟩
   cases i with
   |zero=>
    simp at h1 h2;subst h1 h2;exact .inl (jf.mpr rfl)
   |succ i=>exact .inr ⟨i,d,by simpa using h1,by simpa using h2⟩
theorem CN:∀{env:En}{σ:St}{i j:Nat}{d e:aj},(bD env σ).Nodup→env[i]?=some (some (Vl.ow d))→σ[i]?=some (some (V.ref a))→env[j]?=some (some (Vl.ow e))→σ[j]?=some (some (V.ref a))→i=j
 |[],_,i,_,_,_,_,h,_,_,_=>by simp at h
 |_::_,[],i,_,_,_,_,_,h,_,_=>by simp at h
 |x::en,v::s,i,j,d,e,nd,h1,h2,h3,h4=>by
  rw[bD,j5] at nd;cases i with
  |zero=>
   cases j with
   |zero=>rfl
   |succ j=>
    simp at h1 h2;subst h1 h2;have:a∈bD en s:=lZ.mpr ⟨j,e,by simpa using h3,by simpa using h4⟩;exact absurd rfl (nd.2.2 a (jf.mpr rfl) a this)
  |succ i=>
   cases j with
   |zero=>
    simp at h3 h4;subst h3 h4;have:a∈bD en s:=lZ.mpr ⟨i,d,by simpa using h1,by simpa using h2⟩;exact absurd rfl (nd.2.2 a (jf.mpr rfl) a this)
   |succ j=>rw[CN (i:=i) (j:=j) nd.2.1 (by simpa using h1) (by simpa using h2) (by simpa using h3) (by simpa using h4)]
def Td(x y:Option Vl):Prop:=y=x∨∃d,x=some (.ow d)∧y=some (.im d)
def Fz:En→En→Prop
 |[],[]=>True
 |x::r,y::t=>Td x y∧Fz r t
 |_,_=>False
theorem Fz.refl:∀e:En,Fz e e
 |[]=>trivial
 |x::r=>⟨.inl rfl,Fz.refl r⟩
theorem Fz.trans:∀{a b c:En},Fz a b→Fz b c→Fz a c
 |[],[],[],_,_=>trivial
 |x::r,y::t,z::w,h,g=>by
  refine⟨?_,Fz.trans h.2 g.2⟩
  rcases h.1 with e|⟨d,e1,e2⟩
  ·rw[←e];exact g.1
  ·rcases g.1 with e|⟨d',e3,e4⟩
   ·exact .inr ⟨d,e1,e.trans e2⟩
   ·rw[e2] at e3;cases e3
 |[],[],_::_,_,g=>nomatch g
 |[],_::_,_,h,_=>nomatch h
 |_::_,[],_,h,_=>nomatch h
 |_::_,_::_,[],_,g=>nomatch g
theorem Fz.len:∀{a b:En},Fz a b→b.length=a.length
 |[],[],_=>rfl
 |_::_,_::_,h=>by rw[cO,cO,Fz.len h.2]
 |[],_::_,h=>nomatch h
 |_::_,[],h=>nomatch h
theorem Fz.at:∀{a b:En}{i:Nat}{y:Vl},Fz a b→b[i]?=some (some y)→a[i]?=some (some y)∨∃d,a[i]?=some (some (.ow d))∧y=.im d
 |[],[],i,y,_,e=>by simp at e
 |x::r,z::t,0,y,h,e=>by
  simp at e;rcases h.1 with q|⟨d,q1,q2⟩
  ·left;rw[←q,e];rfl
  ·right;rw[e] at q2;cases q2;exact⟨d,by rw[q1];rfl,rfl⟩
 |x::r,z::t,i+1,y,h,e=>by
  simpa using Fz.at (i:=i) h.2 (by simpa using e)
 |[],_::_,_,_,h,_=>nomatch h
 |_::_,[],_,_,h,_=>nomatch h
theorem aiq(h:Td x y)(v:Option V):Wc (own1 y v) (own1 x v):=by
 rcases h with e|⟨d,e1,e2⟩
 ·rw[e];exact yR _
 ·rw[e2];exact List.nil_sublist _
theorem Fz.own:∀{a b:En}{σ:St},Fz a b→Wc (bD b σ) (bD a σ)
 |[],[],σ,_=>by cases σ<;>exact yR _
 |x::r,y::t,[],h=>yR _
 |x::r,y::t,v::s,h=>by
  rw[bD,bD];exact Gf (aiq h.1 v) (Fz.own h.2)
 |[],_::_,_,h=>nomatch h
 |_::_,[],_,h=>nomatch h
abbrev aR(Z Θ:List aa)(env:En)(σ:St):List aa:=Z++(Θ++bD env σ)
def jV(E H:Hp)(a:aa):aj→Prop
 |.list ds=>∃vs,H a=some (.lst vs)∧cz E ds vs
 |.dict kvs=>∃vs,wN H a kvs vs∧gO E kvs vs
 |_=>False
theorem jV.same(s:bh E E')(h:∀o,H a=some o→H' a=some o)(r:jV E H a d):jV E' H' a d:=by
 cases d<;>first|exact r.elim|skip
 ·obtain⟨vs,e,q⟩:=r
  exact⟨vs,h _ e,q.same s⟩
 ·obtain⟨vs,e,q⟩:=r
  refine⟨vs,?_,q.same s⟩
  rcases e with⟨ks,k,e⟩|⟨ks,k,e⟩
  ·exact .inl ⟨ks,k,h _ e⟩
  ·exact .inr ⟨ks,k,h _ e⟩
theorem jV.rz(h:∀o,H a=some o→E a=some o)(r:jV E H a d):RZ E d (.ref a):=by
 cases d<;>first|exact r.elim|skip
 ·obtain⟨vs,e,q⟩:=r
  exact⟨a,vs,rfl,h _ e,q⟩
 ·obtain⟨vs,e,q⟩:=r
  refine⟨a,vs,rfl,?_,q⟩
  rcases e with⟨ks,k,e⟩|⟨ks,k,e⟩
  ·exact .inl ⟨ks,k,h _ e⟩
  ·exact .inr ⟨ks,k,h _ e⟩
structure aQ(Θ:List aa)(H H':Hp):Prop where
 keep:∀a o,H a=some o→a∉Θ→H' a=some o
 dom:∀a,H a≠none→H' a≠none
theorem aQ.refl(Θ:List aa)(H:Hp):aQ Θ H H:=⟨fun _ _ e _=>e,fun _ e=>e⟩
theorem aQ.trans(a:aQ Θ H H1)(b:aQ Θ H1 H2):aQ Θ H H2:=⟨fun c o e n=>b.keep _ _ (a.keep _ _ e n) n,fun c e=>b.dom _ (a.dom _ e)⟩
theorem aQ.none(k:aQ Θ H H')(h:H' a=none):H a=none:=by
 cases e:H a with
 |none=>rfl
 |some o=>exact absurd h (k.dom a (by rw[e];exact vh _))
theorem aQ.of(s:bh H H'):aQ Θ H H':=⟨fun a o e _=>s _ _ e,fun a h=>by
 cases e:H a with
 |none=>exact absurd e h
 |some o=>rw[s _ _ e];exact vh _⟩
theorem aQ.upd(h:H p=mU):aQ Θ H (L2.upd H p o):=aQ.of (bh.upd h)
theorem j9(k:aQ Θ H H')(ht:∀a∈Θ,a∈Z)(hz:∀a,a∈Z'→a∈Z∨H a=none):bh (er Z H) (er Z' H'):=fun b o h=>by
 unfold er at h⊢;split at h
 ·cases h
 ·rename_i n;rw[if_neg,k.keep _ _ h (fun m=>n (ht b m))];intro m;rcases hz b m with q|q
  ·exact n q
  ·rw[q] at h;cases h
def Ao(K:aG)(E H:Hp)(Θ:List aa):Vl→V→Prop
 |.im d,v=>RZ E d v
 |.ow d,v=>∃a,v=.ref a∧jV E H a d
 |.ce n,v=>∃a,v=.ref a∧Θ[n]?=some a
 |.sc ns,v=>∃a,v=.ref a∧bK K E a (ns.map V.int)
def NT(o:Option HO):Prop:=∃u,o=some u∧∀vs,u≠.tup vs
theorem NT.ne(h:NT o):o≠none:=by
 obtain⟨u,rfl,_⟩:=h
 exact vh _
theorem jV.nt(r:jV E H a d):NT (H a):=by
 cases d<;>first|exact r.elim|skip
 ·obtain⟨vs,e,q⟩:=r
  exact⟨_,e,fun _ z=>nomatch z⟩
 ·obtain⟨vs,e,q⟩:=r
  rcases e with⟨ks,k,e⟩|⟨ks,k,e⟩
  ·exact⟨_,e,fun _ z=>nomatch z⟩
  ·exact⟨_,e,fun _ z=>nomatch z⟩
theorem jV.there(r:jV E H a d):H a≠none:=r.nt.ne
structure nJ(Θ:List aa)(C:Ce)(H:Hp):Prop where
 len:C.length=Θ.length
 at_:∀(n:Nat)(a:aa)(ns:List Int),Θ[n]?=some a→C[n]?=some ns→H a=some (.lst (ns.map V.int))
structure Sm(K:aG)(Z Θ:List aa)(env:En)(C:Ce)(σ:St)(H:Hp):Prop where
 len:σ.length=env.length
 nd:(aR Z Θ env σ).Nodup
 dom:∀a∈Z,NT (H a)
 slot:∀(i:Nat)(x:Vl),env[i]?=some (some x)→∃v,σ[i]?=some (some v)∧Ao K (er (aR Z Θ env σ) H) H Θ x v
 cell:nJ Θ C H
theorem nJ.dom(c:nJ Θ C H):∀a∈Θ,NT (H a):=fun a m=>by
 obtain⟨n,hn,e⟩:=vg m
 have e1:Θ[n]?=some a:=by rw[jt hn,e]
 have h2:n<C.length:=by rw[c.len];exact hn
 exact⟨_,c.at_ n a C[n] e1 (jt h2),fun _ z=>nomatch z⟩
section
variable{K:aG}{Z Θ:List aa}{env env':En}{C C':Ce}{σ:St}{H H':Hp}
theorem Sm.Kc(S:Sm K Z Θ env C σ H):∀a∈aR Z Θ env σ,NT (H a):=fun a m=>by
 rcases cR.mp m with m|m
 ·exact S.dom a m
 ·rcases cR.mp m with m|m
  ·exact S.cell.dom a m
  ·obtain⟨i,d,e1,e2⟩:=lZ.mp m
   obtain⟨v,e3,b,e4,r⟩:=S.slot i _ e1
   rw[e2] at e3;cases e3;cases e4;exact r.nt
theorem Sm.yt(S:Sm K Z Θ env C σ H):∀a∈aR Z Θ env σ,H a≠none:=fun a m=>(S.Kc a m).ne
theorem Sm.qj(S:Sm K Z Θ env C σ H):∀a∈Θ,a∈aR Z Θ env σ:=fun a m=>dY _ (gB _ m)
theorem Ao.same(s:bh E E')(h:∀d a,x=.ow d→v=.ref a→∀o,H a=some o→H' a=some o)(r:Ao K E H Θ x v):Ao K E' H' Θ x v:=by
 cases x with
 |im d=>exact RZ.same s r
 |ow d=>obtain⟨a,e,q⟩:=r;exact⟨a,e,q.same s (h d a rfl e)⟩
 |ce n=>exact r
 |sc ns=>obtain⟨a,e,q⟩:=r;exact⟨a,e,s.seq q⟩
theorem Sm.mW(S:Sm K Z Θ env C σ H)(m:a∈bD env σ):a∉Z∧a∉Θ:=by
 have h:=S.nd;rw[j5] at h
 obtain⟨_,h2,h3⟩:=h
 rw[j5] at h2
 refine⟨fun z=>h3 a z a (dY _ m) rfl,fun z=>h2.2.2 a z a m rfl⟩
theorem Sm.go(S:Sm K Z Θ env C σ H)(k:aQ Θ H H')(c:nJ Θ C' H'):Sm K Z Θ env C' σ H' where
 len:=S.len
 nd:=S.nd
 dom:=fun a m=>by
  obtain⟨u,e,n⟩:=S.dom a m
  have h:=S.nd;rw[j5] at h
  exact⟨u,k.keep _ _ e fun z=>h.2.2 a m a (gB _ z) rfl,n⟩
 slot:=fun i x e=>by
  obtain⟨v,e1,r⟩:=S.slot i x e
  refine⟨v,e1,r.same (j9 k S.qj fun a m=>.inl m) fun d a ex ev o ho=>k.keep _ _ ho ?_⟩
  subst ex ev
  exact(S.mW (lZ.mpr ⟨i,d,e,e1⟩)).2
 cell:=c
theorem Sm.fz(S:Sm K Z Θ env C σ H)(f:Fz env env'):Sm K Z Θ env' C σ H:=by
 have sub:Wc (aR Z Θ env' σ) (aR Z Θ env σ):=Gf (yR _) (Gf (yR _) f.own);have sm:bh (er (aR Z Θ env σ) H) (er (aR Z Θ env' σ) H):=j9 (aQ.refl [] H) (fun _ m=>nomatch m) fun a m=>.inl (sub.subset m)
 refine⟨by rw[f.len];exact S.len,sub.nodup S.nd,S.dom,fun i x e0=>?_,S.cell⟩
 rcases f.at e0 with e|⟨d,e,ex⟩
 ·obtain⟨v,e1,r⟩:=S.slot i x e
  exact⟨v,e1,r.same sm fun _ _ _ _ _ ho=>ho⟩
 ·subst ex
  obtain⟨v,e1,a,ev,r⟩:=S.slot i _ e
  subst ev
  refine⟨_,e1,jV.rz (H:=H) (fun o ho=>?_) (r.same sm fun _ ho=>ho)⟩
  unfold er;rw[if_neg]
  ·exact ho
  ·intro m;have hm:a∈bD env σ:=lZ.mpr ⟨i,d,e,e1⟩;rcases cR.mp m with m|m
   ·exact(S.mW hm).1 m
   ·rcases cR.mp m with m|m
    ·exact(S.mW hm).2 m
    ·obtain⟨j,d',e3,e4⟩:=lZ.mp m
     have nd:=S.nd;rw[j5] at nd;have nd2:=nd.2.1;rw[j5] at nd2;rcases f.at e3 with e5|⟨_,_,e5⟩
     ·have:=CN nd2.2.1 e e1 e5 e4;subst this;rw[e0] at e3;cases e3
     ·cases e5
end
section
variable{K:aG}{Z Θ:List aa}{env env':En}{C C':Ce}{σ:St}{H H':Hp}{a p:aa}
theorem Sm.pop(S:Sm K (a::Z) Θ env C σ H):Sm K Z Θ env C σ H:=by
 have sm:bh (er (aR (a::Z) Θ env σ) H) (er (aR Z Θ env σ) H):=j9 (aQ.refl [] H) (fun _ m=>nomatch m) fun b m=>.inl (dN _ m)
 exact⟨S.len,(iR.mp S.nd).2,fun b m=>S.dom b (dN _ m),fun i x e=>let ⟨v,e1,r⟩:=S.slot i x e;⟨v,e1,r.same sm fun _ _ _ _ _ h=>h⟩,S.cell⟩
theorem Sm.push(S:Sm K Z Θ env C σ H)(hp:H p=none)(o:HO)(ho:∀vs,o≠.tup vs):Sm K (p::Z) Θ env C σ (upd H p o):=by
 have k:aQ Θ H (upd H p o):=aQ.upd hp;have sm:bh (er (aR Z Θ env σ) H) (er (aR (p::Z) Θ env σ) (upd H p o)):=j9 k S.qj fun b m=>by
  rcases bU.mp m with rfl|m
  ·exact .inr hp
  ·exact .inl m
 have c:nJ Θ C (upd H p o):=⟨S.cell.len,fun n b ns e1 e2=>by
  have:=S.cell.at_ n b ns e1 e2;rw[cJ (pL this hp)];exact this⟩
 refine⟨S.len,iR.mpr ⟨fun m=>S.yt p m hp,S.nd⟩,fun b m=>?_,fun i x e=>?_,c⟩
 ·rcases bU.mp m with rfl|m
  ·exact⟨o,eN,ho⟩
  ·obtain⟨u,e,n⟩:=S.dom b m
   exact⟨u,by rw[cJ (pL e hp)];exact e,n⟩
 ·obtain⟨v,e1,r⟩:=S.slot i x e
  refine⟨v,e1,r.same sm fun d b ex ev o' ho=>?_⟩
  rw[cJ (pL ho hp)];exact ho
theorem Sm.yf(S:Sm K Z Θ env C σ H)(s:bh H H'):Sm K Z Θ env C σ H':=
 S.go (aQ.of s) ⟨S.cell.len,fun n b ns e1 e2=>s _ _ (S.cell.at_ n b ns e1 e2)⟩
def Res(K:aG)(Z Θ:List aa)(env:En)(C:Ce)(σ:St)(H H':Hp):Vl→V→Prop
 |.im d,v=>Sm K Z Θ env C σ H'∧RZ (er (aR Z Θ env σ) H') d v
 |.ow d,v=>∃a,v=.ref a∧H a=none∧Sm K (a::Z) Θ env C σ H'∧jV (er (aR (a::Z) Θ env σ) H') H' a d
 |.ce n,v=>Sm K Z Θ env C σ H'∧∃a,v=.ref a∧Θ[n]?=some a
 |.sc ns,v=>Sm K Z Θ env C σ H'∧∃a,v=.ref a∧bK K (er (aR Z Θ env σ) H') a (ns.map V.int)
def yH(E T:Hp):aj→V→Prop
 |.list ds,v=>∃a vs,v=.ref a∧T a=some (.lst vs)∧cz E ds vs
 |.dict kvs,v=>∃a vs,v=.ref a∧wN T a kvs vs∧gO E kvs vs
 |d,v=>RZ E d v
theorem yH.same(s:bh E E')(t:bh T T')(h:yH E T d v):yH E' T' d v:=by
 cases d<;>first|exact RZ.same s h|skip
 ·obtain⟨a,vs,e,q,r⟩:=h
  exact⟨a,vs,e,t _ _ q,r.same s⟩
 ·obtain⟨a,vs,e,q,r⟩:=h
  exact⟨a,vs,e,q.same t,r.same s⟩
theorem RZ.bor(t:bh E T)(h:RZ E d v):yH E T d v:=by
 cases d<;>first|exact h|skip
 ·obtain⟨a,vs,e,q,r⟩:=h
  exact⟨a,vs,e,t _ _ q,r⟩
 ·obtain⟨a,vs,e,q,r⟩:=h
  exact⟨a,vs,e,q.same t,r⟩
abbrev fj(Z Θ:List aa)(env:En)(σ:St)(H:Hp)(d:aj)(v:V):Prop:=yH (er (aR Z Θ env σ) H) (er Θ H) d v
theorem sJ(h:∀a,a∈Z'→a∈Z):bh (er Z H) (er Z' H):=j9 (aQ.refl [] H) (fun _ m=>nomatch m) fun b m=>.inl (h b m)
theorem aaU:bh (er (aR Z Θ env σ) H) (er Θ H):=sJ fun a m=>dY _ (gB _ m)
theorem Fz.sub(f:Fz env env'):∀a,a∈aR Z Θ env' σ→a∈aR Z Θ env σ:=fun a m=>
 (Gf (yR _) (Gf (yR _) f.own)).subset m
theorem Ru(S:Sm K Z Θ env C σ H)(k:aQ Θ H H')(f:Fz env env'):bh (er (aR Z Θ env σ) H) (er (aR Z Θ env' σ) H'):=j9 k S.qj fun a m=>.inl (f.sub a m)
theorem aak(k:aQ Θ H H'):bh (er Θ H) (er Θ H'):=j9 k (fun _ m=>m) fun a m=>.inl m
theorem fj.go(h:fj Z Θ env σ H d v)(S:Sm K Z Θ env C σ H)(k:aQ Θ H H')(f:Fz env env'):fj Z Θ env' σ H' d v:=yH.same (Ru S k f) (aak k) h
def dat:Vl→Option aj
 |.im d=>some d
 |.ow d=>some d
 |.ce _=>none
 |.sc _=>none
theorem Res.sm(h:Res K Z Θ env C σ H H' r v):Sm K Z Θ env C σ H':=by
 cases r with
 |im d=>exact h.1
 |ow d=>obtain⟨a,_,_,S,_⟩:=h;exact S.pop
 |ce n=>exact h.1
 |sc ns=>exact h.1
theorem Res.bor(h:Res K Z Θ env C σ H H' r v)(e:dat r=some d):fj Z Θ env σ H' d v:=by
 cases r with
 |im d'=>cases e;exact RZ.bor aaU h.2
 |ow d'=>
  cases e
  obtain⟨a,rfl,_,S,r⟩:=h
  have na:a∉Θ:=fun m=>(iR.mp S.nd).1 (dY _ (gB _ m))
  have sm:bh (er (aR (a::Z) Θ env σ) H') (er (aR Z Θ env σ) H'):=sJ fun b m=>dN _ m
  have ha:∀o,H' a=some o→er Θ H' a=some o:=fun o ho=>by unfold er;rw[if_neg na];exact ho
  cases d<;>first|exact r.elim|skip
  ·obtain⟨vs,e,q⟩:=r
   exact⟨a,vs,rfl,ha _ e,q.same sm⟩
  ·obtain⟨vs,e,q⟩:=r
   refine⟨a,vs,rfl,?_,q.same sm⟩
   rcases e with⟨ks,k,e⟩|⟨ks,k,e⟩
   ·exact .inl ⟨ks,k,ha _ e⟩
   ·exact .inr ⟨ks,k,ha _ e⟩
 |ce n=>cases e
 |sc ns=>cases e
def still:Vl→Vl
 |.ow d=>.im d
 |r=>r
theorem Res.still(h:Res K Z Θ env C σ H H' r v):Res K Z Θ env C σ H H' (still r) v:=by
 cases r with
 |ow d=>
  obtain⟨a,rfl,hn,S,r⟩:=h
  refine⟨S.pop,jV.rz (H:=H') (fun o ho=>?_) (r.same (sJ fun b m=>dN _ m) fun _ h=>h)⟩
  unfold er;rw[if_neg (show ¬a∈aR Z Θ env σ from(iR.mp S.nd).1)];exact ho
 |im d=>exact h
 |ce n=>exact h
 |sc ns=>exact h
theorem Res.from(h:Res K Z Θ env C σ H H' r v)(k:aQ Θ H0 H):Res K Z Θ env C σ H0 H' r v:=by
 cases r with
 |ow d=>
  obtain⟨a,e,hn,S,r⟩:=h
  exact⟨a,e,k.none hn,S,r⟩
 |im d=>exact h
 |ce n=>exact h
 |sc ns=>exact h
theorem Dj(S:Sm K Z Θ env C σ H)(h:H a=some (.tup vs)):er (aR Z Θ env σ) H a=some (.tup vs):=by
 unfold er;rw[if_neg]
 ·exact h
 ·intro m
  obtain⟨u,e,n⟩:=S.Kc a m
  rw[h] at e;exact n vs (fV e).symm
def rst(r:Vl)(env env':En):En:=match r with
 |.im d=>if jB d then env else env'
 |_=>env'
theorem Res.rst(S:Sm K Z Θ env C σ H)(k:aQ Θ H H')(h:Res K Z Θ env' C' σ H H' r v):Res K Z Θ (rst r env env') C' σ H H' r v:=by
 cases r with
 |im d=>
  by_cases f:L2.jB d=true
  ·have:L2.rst (.im d) env env'=env:=if_pos f;rw[this];have S':=S.go k h.1.cell
   exact⟨S',h.2.jB (fun a vs e=>Dj S' (ir e)) f⟩
  ·have:L2.rst (.im d) env env'=env':=if_neg f;rw[this];exact h
 |ow d=>exact h
 |ce n=>exact h
 |sc ns=>exact h
theorem Fz.rst(r:Vl)(f:Fz env env'):Fz env (rst r env env'):=by
 cases r with
 |im d=>
  show Fz env (if L2.jB d then env else env');split
  ·exact Fz.refl _
  ·exact f
 |ow d=>exact f
 |ce n=>exact f
 |sc ns=>exact f
theorem iD(S:Sm K Z Θ env C σ H)(f:jF d=true)(hv:v=toV d):Res K Z Θ env C σ H H (.im d) v:=⟨S,by rw[hv];exact aip f⟩
theorem zR(S:Sm K Z Θ env C σ H)(r:cz (er (aR Z Θ env σ) H) ds vs)(hp:H p=none):Res K Z Θ env C σ H (upd H p (.lst vs)) (.ow (.list ds)) (.ref p):=by
 refine⟨p,rfl,hp,S.push hp _ (fun _ z=>nomatch z),vs,eN,r.same (j9 (aQ.upd (Θ:=Θ) hp) S.qj fun b m=>?_)⟩
 rcases bU.mp m with rfl|m
 ·exact .inr hp
 ·exact .inl m
theorem air(S:Sm K Z Θ env C σ H)(ho:∀vs,o≠.tup vs)(d:wN (upd H p o) p kvs vs)(r:gO (er (aR Z Θ env σ) H) kvs vs)(hp:H p=none):Res K Z Θ env C σ H (upd H p o) (.ow (.dict kvs)) (.ref p):=by
 refine⟨p,rfl,hp,S.push hp _ ho,vs,d,r.same (j9 (aQ.upd (Θ:=Θ) hp) S.qj fun b m=>?_)⟩
 rcases bU.mp m with rfl|m
 ·exact .inr hp
 ·exact .inl m
theorem Jc(S:Sm K Z Θ env C σ H)(r:cz (er (aR Z Θ env σ) H) ds vs)(hp:H p=none):Res K Z Θ env C σ H (upd H p (.tup vs)) (.im (.tuple ds)) (.ref p):=by
 have S':=S.yf (bh.upd (o:=.tup vs) hp)
 refine⟨S',p,vs,rfl,?_,r.same (j9 (aQ.upd (Θ:=Θ) hp) S.qj fun b m=>.inl m)⟩
 unfold er;rw[if_neg (fun m=>S.yt p m hp),eN]
end
theorem hide{P:Prop}(h:∀G:Prop,(P→G)→G):P:=h P id
inductive abv{α β:Type}(o:Option α)(g:α→Option β)(y:β):Prop
 |mk (x:α) (h1:o=some x) (h2:g x=some y):abv o g y
theorem iG(h:o.bind g=some y):abv o g y:=by
 cases o with
 |none=>cases h
 |some x=>exact⟨x,rfl,h⟩
def imO:Vl→Option aj
 |.im y=>some y
 |_=>none
theorem Dk(h:imO x=some y):x=.im y:=by
 cases x<;>cases h;rfl
def strD:aj→Option Str
 |.str z=>some z
 |_=>none
theorem ais(h:strD d=some z):d=.str z:=by
 cases d<;>cases h;rfl
def intD:aj→Option Int
 |.int k=>some k
 |_=>none
theorem PN(h:intD d=some k):d=.int k:=by
 cases d<;>cases h;rfl
abbrev FE:=En→Ce→Option (Vl×En×Ce)
abbrev FB:=En→Ce→Option (aj×En×Ce)
abbrev FT:=En→Ce→Option (Bool×Ce)
abbrev wO:=En→Ce→Option (List aj×En×Ce)
abbrev FA:=En→Ce→Option (List Vl×En×Ce)
inductive tE(K:aG)(f:FE)(σ:St)(H:Hp)(Q:VK):Prop
 |mk (Z Θ:List aa) (env:En) (C:Ce) (r:Vl) (env':En) (C':Ce) (S:Sm K Z Θ env C σ H) (hf:f env C=some (r,env',C')) (q:∀v H',aQ Θ H H'→Fz env env'→Res K Z Θ env' C' σ H H' r v→Q v H'):tE K f σ H Q
inductive dH(K:aG)(f:FB)(σ:St)(H:Hp)(Q:VK):Prop
 |mk (Z Θ:List aa) (env:En) (C:Ce) (d:aj) (env':En) (C':Ce) (S:Sm K Z Θ env C σ H) (hf:f env C=some (d,env',C')) (q:∀v H',aQ Θ H H'→Fz env env'→Sm K Z Θ env' C' σ H'→fj Z Θ env' σ H' d v→Q v H'):dH K f σ H Q
inductive eX(K:aG)(f:FT)(σ:St)(H:Hp)(Q:Bool→Hp→Prop):Prop
 |mk (Z Θ:List aa) (env:En) (C:Ce) (b:Bool) (C':Ce) (S:Sm K Z Θ env C σ H) (hf:f env C=some (b,C')) (q:∀H',aQ Θ H H'→Sm K Z Θ env C' σ H'→Q b H'):eX K f σ H Q
inductive yu(E T:Hp):List aj→List V→Prop
 |nil:yu E T [] []
 |cons {d:aj} {v:V} {ds:List aj} {vs:List V}:yH E T d v→yu E T ds vs→yu E T (d::ds) (v::vs)
abbrev JC(Z Θ:List aa)(env:En)(σ:St)(H:Hp)(ds:List aj)(vs:List V):Prop:=yu (er (aR Z Θ env σ) H) (er Θ H) ds vs
inductive uX(K:aG)(f:wO)(σ:St)(H:Hp)(Q:List V→Hp→Prop):Prop
 |mk (Z Θ:List aa) (env:En) (C:Ce) (ds:List aj) (env':En) (C':Ce) (S:Sm K Z Θ env C σ H) (hf:f env C=some (ds,env',C')) (q:∀vs H',aQ Θ H H'→Fz env env'→Sm K Z Θ env' C' σ H'→JC Z Θ env' σ H' ds vs→Q vs H'):uX K f σ H Q
theorem PE.weak(h:PE X e t)(w:∀σ H Q,t' σ H Q→t σ H Q):PE X e t':=fun pins s σ H Q I q=>h pins s σ H Q I (w σ H Q q)
theorem PT.weak(h:PT X e t)(w:∀σ H Q,t' σ H Q→t σ H Q):PT X e t':=fun pins s σ H Q I q=>h pins s σ H Q I (w σ H Q q)
theorem PA.weak(h:PA X e t)(w:∀σ H Q,t' σ H Q→t σ H Q):PA X e t':=fun p pins s σ H Q I q=>h p pins s σ H Q I (w σ H Q q)
theorem PS.weak(h:PS X e t)(w:∀D σ H,t' D σ H→t D σ H):PS X e t':=fun pins s σ H D I q=>h pins s σ H D I (w D σ H q)
theorem iK.weak(h:iK X e t)(w:∀D σ H,t' D σ H→t D σ H):iK X e t':=fun pins s σ H D I q=>h pins s σ H D I (w D σ H q)
theorem PW.weak(h:PW X e t)(w:∀σ H Q,t' σ H Q→t σ H Q):PW X e t':=fun wh pins s σ H Q I q=>h wh pins s σ H Q I (w σ H Q q)
def fVar(i:Nat):FE:=fun env C=>match env[i]? with
 |some (some (.im d))=>some (.im d,env,C)
 |some (some (.ow d))=>some (.im d,env.set i (some (.im d)),C)
 |some (some (.ce n))=>some (.ce n,env,C)
 |some (some (.sc ns))=>some (.sc ns,env,C)
 |_=>none
def az(i:Nat):FB:=fun env C=>match env[i]? with
 |some (some x)=>(dat x).map fun d=>(d,env,C)
 |_=>none
def fCst(d:aj):FE:=fun env C=>some (.im d,env,C)
def ao(f:FE):FB:=fun env C=>match f env C with
 |some (r,e',C')=>(dat r).map fun d=>(d,e',C')
 |none=>none
theorem aal:∀{env:En}{i:Nat}{d:aj},env[i]?=some (some (.ow d))→Fz env (env.set i (some (.im d)))
 |[],i,d,e=>by simp at e
 |x::r,0,d,e=>by simp at e;subst e;exact⟨.inr ⟨d,rfl,rfl⟩,Fz.refl r⟩
 |x::r,i+1,d,e=>⟨.inl rfl,aal (by simpa using e)⟩
section
variable{X:Cx}{e:Expr}{i:Nat}
theorem aO(h:PE X e (qY i)):PE X e (tE X.K (fVar i)):=h.weak fun σ H Q aK=>by
 obtain⟨Z,Θ,env,C,r,env',C',S,hf,q⟩:=aK
 unfold fVar at hf;split at hf;all_goals first|(rename_i d hd;cases hf)|cases hf
 ·obtain⟨v,e1,r⟩:=S.slot i _ hd
  exact⟨v,e1,q v H (aQ.refl _ _) (Fz.refl _) ⟨S,r⟩⟩
 ·have f:=aal hd
  obtain⟨v,e1,r⟩:=S.slot i _ hd
  have S':=S.fz f
  refine⟨v,e1,q v H (aQ.refl _ _) f ⟨S',?_⟩⟩
  have hi:i<env.length:=by
   have:=je.mp hd;exact this.1
  obtain⟨v',e2,r'⟩:=S'.slot i (.im d) (by rw[Bm,if_pos rfl,if_pos hi])
  rw[e1] at e2;cases e2;exact r'
 ·obtain⟨v,e1,r⟩:=S.slot i _ hd
  exact⟨v,e1,q v H (aQ.refl _ _) (Fz.refl _) ⟨S,r⟩⟩
 ·obtain⟨v,e1,r⟩:=S.slot i _ hd
  exact⟨v,e1,q v H (aQ.refl _ _) (Fz.refl _) ⟨S,r⟩⟩
theorem aJ(h:PE X e (qY i)):PE X e (dH X.K (az i)):=h.weak fun σ H Q aK=>by
 obtain⟨Z,Θ,env,C,d,env',C',S,hf,q⟩:=aK
 unfold az at hf;split at hf
 ·rename_i x hx
  obtain⟨v,e1,r⟩:=S.slot i _ hx
  have ex:dat x=some d∧env=env'∧C=C':=by
   cases hd:dat x with
   |none=>rw[hd] at hf;cases hf
   |some d'=>rw[hd] at hf;cases hf;exact⟨rfl,rfl,rfl⟩
  obtain⟨ex,rfl,rfl⟩:=ex
  refine⟨v,e1,q v H (aQ.refl _ _) (Fz.refl _) S ?_⟩
  cases x with
  |im d'=>cases ex;exact RZ.bor aaU r
  |ow d'=>
   cases ex
   obtain⟨a,rfl,r⟩:=r
   have na:=(S.mW (lZ.mpr ⟨i,_,hx,e1⟩)).2;have ha:∀o,H a=some o→er Θ H a=some o:=fun o ho=>by unfold er;rw[if_neg na];exact ho
   cases d<;>first|exact r.elim|skip
   ·obtain⟨vs,e,q⟩:=r
    exact⟨a,vs,rfl,ha _ e,q⟩
   ·obtain⟨vs,e,q⟩:=r
    refine⟨a,vs,rfl,?_,q⟩
    rcases e with⟨ks,k,e⟩|⟨ks,k,e⟩
    ·exact .inl ⟨ks,k,ha _ e⟩
    ·exact .inr ⟨ks,k,ha _ e⟩
  |ce n=>cases ex
  |sc ns=>cases ex
 ·cases hf
theorem aL(h:PE X e (tC v))(f:jF d=true:=by rfl)(hv:v=toV d:=by rfl):PE X e (tE X.K (fCst d)):=h.weak fun σ H Q aK=>by
 obtain⟨Z,Θ,env,C,r,env',C',S,hf,q⟩:=aK
 cases hf;exact q v H (aQ.refl _ _) (Fz.refl _) (iD S f hv)
theorem aq(h:PE X e (tE X.K f)):PE X e (dH X.K (ao f)):=h.weak fun σ H Q aK=>by
 obtain⟨Z,Θ,env,C,d,env',C',S,hf,q⟩:=aK
 unfold ao at hf;split at hf
 ·rename_i r e' C1 hr;cases hd:dat r with
  |none=>rw[hd] at hf;cases hf
  |some d'=>
   rw[hd] at hf;cases hf
   exact⟨Z,Θ,env,C,r,env',C',S,hr,fun v H' k f R=>q v H' k f R.sm (R.bor hd)⟩
 ·cases hf
end
def LIM:Nat:=1000000
theorem sy(h:n≤LIM):n≤bM:=by rw[jg];unfold LIM at h;omega
def fQ(K:aG)(r:R2)(op:aj→aj→Option Vl):Prop:=
 ∀(Z Θ:List aa)(env:En)(C:Ce)(σ:St)(H:Hp)(x y:V)(dx dy:aj)(res:Vl),Sm K Z Θ env C σ H→fj Z Θ env σ H dx x→fj Z Θ env σ H dy y→op dx dy=some res→
  ∀Q:VK,(∀v H',aQ Θ H H'→Res K Z Θ env C σ H H' res v→Q v H')→r x y H Q
def aH(op:aj→aj→Option Vl)(fa fb:FB):FE:=fun env C=>match fa env C with
 |some (x,e1,C1)=>match fb e1 C1 with
  |some (y,e2,C2)=>match op x y with
   |some r=>some (r,rst r env e2,C2)
   |none=>none
  |none=>none
 |none=>none
theorem Ij{K:aG}{r:R2}{op:aj→aj→Option Vl}(L:fQ K r op){fa fb:FB}:∀σ H Q,tE K (aH op fa fb) σ H Q→Ex r (dH K fa) (dH K fb) σ H Q:=by
 rintro σ H Q ⟨Z,Θ,env,C,res,env',C',S,hf,q⟩;unfold aH at hf;split at hf
 ·rename_i x e1 C1 h1;split at hf
  ·rename_i y e2 C2 h2;split at hf
   ·rename_i r0 h3;cases hf
    refine⟨Z,Θ,env,C,x,e1,C1,S,h1,fun v H1 k1 f1 S1 b1=>⟨Z,Θ,e1,C1,y,e2,C',S1,h2,fun u H2 k2 f2 S2 b2=>?_⟩⟩
    refine L Z Θ e2 C' σ H2 v u x y res S2 (b1.go S1 k2 f2) b2 h3 Q fun z H3 k3 R=>?_
    have k:=(k1.trans k2).trans k3;exact q z H3 k ((f1.trans f2).rst res) ((R.from (k1.trans k2)).rst S k)
   ·cases hf
  ·cases hf
 ·cases hf
section
variable{X:Cx}{a b:Expr}{fa fb:FB}{pos:Pos}{r:R2}{op:aj→aj→Option Vl}
theorem bL(ho:cC X (mV o) r)(L:fQ X.K r op)(ha:PE X a (dH X.K fa))(hb:PE X b (dH X.K fb)):PE X (.BinOp a o b pos) (tE X.K (aH op fa fb)):=(akA ho ha hb).weak (Ij L)
theorem qJ(ho:cC X (dZ o) r)(L:fQ X.K r op)(ha:PE X a (dH X.K fa))(hb:PE X b (dH X.K fb))(hm:By o b=false):PE X (.Compare a [o] [b] pos) (tE X.K (aH op fa fb)):=(ahX ho ha hb hm).weak (Ij L)
theorem cH(ho:qi X r)(L:fQ X.K r op)(ha:PE X a (dH X.K fa))(hb:PE X b (dH X.K fb))(hs:IV b):PE X (.Subscript a b pos) (tE X.K (aH op fa fb)):=(Ro ho ha hb hs).weak (Ij L)
end
theorem fQ.or{K:aG}{r r':R2}{op op':aj→aj→Option Vl}(h:fQ K r op)(h':fQ K r' op'):fQ K (fun x y H Q=>r x y H Q∨r' x y H Q) (fun x y=>match op x y with|some z=>some z|none=>op' x y):=by
 intro Z Θ env C σ H x y dx dy res S bx cY e Q q;cases h1:op dx dy with
 |some z=>
  simp only[h1] at e;cases e;exact .inl (h Z Θ env C σ H x y dx dy _ S bx cY h1 Q q)
 |none=>
  simp only[h1] at e;exact .inr (h' Z Θ env C σ H x y dx dy res S bx cY e Q q)
section
variable{K:aG}{Z Θ:List aa}{env:En}{C:Ce}{σ:St}{H:Hp}{x:V}
theorem fj.int(h:fj Z Θ env σ H (.int i) x):x=.int i:=h
theorem fj.str(h:fj Z Θ env σ H (.str i) x):x=.str i:=h
theorem fj.tup(h:fj Z Θ env σ H (.tuple ds) x):∃a vs,x=.ref a∧H a=some (.tup vs)∧cz (er (aR Z Θ env σ) H) ds vs:=by
 obtain⟨a,vs,e,q,r⟩:=h
 exact⟨a,vs,e,ir q,r⟩
theorem fj.lst(h:fj Z Θ env σ H (.list ds) x):∃a vs,x=.ref a∧H a=some (.lst vs)∧cz (er (aR Z Θ env σ) H) ds vs:=by
 obtain⟨a,vs,e,q,r⟩:=h
 exact⟨a,vs,e,ir q,r⟩
theorem fj.dct(h:fj Z Θ env σ H (.dict kvs) x):∃a vs,x=.ref a∧wN H a kvs vs∧gO (er (aR Z Θ env σ) H) kvs vs:=by
 obtain⟨a,vs,e,q,r⟩:=h
 exact⟨a,vs,e,q.same (Ae _ _),r⟩
theorem fj.flat(f:jF d=true)(h:fj Z Θ env σ H d x):x=toV d:=by
 cases d<;>first|exact h|cases f
theorem fj.rx(n:rD d=true)(h:fj Z Θ env σ H d x):RX H d x:=by
 cases d<;>first|exact h|skip
 ·obtain⟨a,vs,e,q,r⟩:=h
  exact⟨a,vs,e,ir q,(r.same (Ae _ _)).rx n⟩
 ·obtain⟨a,vs,e,q,r⟩:=h
  exact⟨a,vs,e,ir q,(r.same (Ae _ _)).rx n⟩
 ·cases n
end
section
variable{X:Cx}
def bN:aj→aj→Option Vl
 |.int i,.int j=>some (.im (.int (i+j)))
 |.str x,.str y=>if x.length+y.length≤LIM then some (.im (.str (x++y))) else none
 |.list xs,.list ys=>if xs.length+ys.length≤LIM then some (.ow (.list (xs++ys))) else none
 |.tuple xs,.tuple ys=>if xs.isEmpty then some (.im (.tuple ys)) else if xs.length+ys.length≤LIM then some (.im (.tuple (xs++ys))) else none
 |_,_=>none
def aaV(K:aG):R2:=fun x y H Q=>∃a b ys,x=.ref a∧y=.ref b∧cN K H a []∧cN K H b ys∧Q (.ref b) H
theorem ait:cC X (mV .Add) (aaV X.K):=by
 intro pins s σ H x y v u Q I rx ry h
 obtain⟨a,b,ys,rfl,rfl,ha,hb,q⟩:=h
 cases rx;cases ry
 obtain⟨its,r1,p1,_⟩:=I.tuple ha
 obtain⟨its2,r2,p2,_⟩:=I.tuple hb
 obtain⟨⟨cls,dd,data,sl⟩,ho,hc,n,hd⟩:=id p1
 obtain⟨⟨cls2,dd2,data2,sl2⟩,ho2,hc2,n2,hd2⟩:=id p2
 simp only at hc hd hc2 hd2;subst hc hd hc2 hd2;exact V5 ⟨_,ho,rfl⟩ ⟨_,ho2,rfl⟩ U6 VH Uh Ug (Uc _ _)
  (tuple_addW0 a b its.toArray its2.toArray n n2 dd dd2 sl sl2 (by cases r1;rfl)) ⟨ho,ho2,⟨.ref b,H,I,rfl,q⟩⟩
def aaW(K:aG):R2:=fun x y H Q=>(((o9 fun i j=>.int (i+j)) x y H Q∨∃i j,x=.str i∧y=.str j∧i.length+j.length≤bM∧Q (.str (i++j)) H)∨abm x y H Q)∨aaV K x y H Q∨aaR K x y H Q
theorem dR:cC X (mV .Add) (aaW X.K):=((ajm.or afg).or ajy).or (ait.or ah4)
theorem dU{K:aG}:fQ K (aaW K) bN:=by
 intro Z Θ env C σ H x y dx dy res S bx cY e Q q;unfold bN at e;split at e
 ·cases e;cases bx.int;cases cY.int;exact .inl (.inl (.inl ⟨_,_,rfl,rfl,q _ _ (aQ.refl _ _) (iD S rfl rfl)⟩))
 ·split at e
  ·rename_i hl;cases e;cases bx.str;cases cY.str;exact .inl (.inl (.inr ⟨_,_,rfl,rfl,sy hl,q _ _ (aQ.refl _ _) (iD S rfl rfl)⟩))
  ·cases e
 ·split at e
  ·rename_i hl;cases e
   obtain⟨a,vs,rfl,ha,r1⟩:=bx.lst
   obtain⟨b,ws,rfl,hb,r2⟩:=cY.lst
   exact .inl (.inr ⟨a,b,vs,ws,rfl,rfl,ha,hb,by rw[gU r1,gU r2];exact sy hl,fun p hp=>q _ _ (aQ.upd hp) (zR S (xP r1 r2) hp)⟩)
  ·cases e
 ·split at e
  ·rename_i xs ys he;cases e;have:xs=[]:=List.isEmpty_iff.mp he;subst this;have by2:=cY
   obtain⟨a,vs,rfl,ha,r1⟩:=bx.tup
   obtain⟨b,ws,rfl,hb,r2⟩:=cY.tup
   cases(show vs=[] from r1)
   exact .inr (.inl ⟨a,b,ws,rfl,rfl,cN.of ha,cN.of hb,q _ _ (aQ.refl _ _) ⟨S,by2⟩⟩)
  split at e
  ·rename_i xs ys he hl;cases e
   obtain⟨a,vs,rfl,ha,r1⟩:=bx.tup
   obtain⟨b,ws,rfl,hb,r2⟩:=cY.tup
   have l1:=gU r1;have l2:=gU r2;have hv:vs≠[]:=fun z=>by
    subst z;cases xs with
    |nil=>exact he rfl
    |cons _ _=>cases l1
   refine .inr (.inr ⟨a,b,vs,ws,rfl,rfl,cN.of ha,cN.of hb,hv,by rw[l1,l2];exact sy hl,fun z=>?_,fun _ p hp=>q _ _ (aQ.upd hp) (Jc S (xP r1 r2) hp)⟩);subst z;have:ys=[]:=List.eq_nil_of_length_eq_zero l2.symm;subst this;rw[ju] at q;refine q _ _ (aQ.refl _ _) ⟨S,?_⟩;exact bx
  ·cases e
 ·cases e
def vV:aj→aj→Option Vl
 |.int i,.int j=>some (.im (.int (i-j)))
 |_,_=>none
theorem PX{K:aG}{g:Int→Int→V}{op:aj→aj→Option Vl}(h:∀dx dy res,op dx dy=some res→∃i j d,dx=.int i∧dy=.int j∧res=.im d∧jF d=true∧g i j=toV d):fQ K (o9 g) op:=by
 intro Z Θ env C σ H x y dx dy res S bx cY e Q q
 obtain⟨i,j,d,rfl,rfl,rfl,f,hv⟩:=h _ _ _ e
 cases bx.int;cases cY.int
 exact⟨_,_,rfl,rfl,q _ _ (aQ.refl _ _) (iD S f hv)⟩
theorem Jp{K:aG}{Cn:Int→Int→Prop}{g:Int→Int→V}{op:aj→aj→Option Vl}(h:∀dx dy res,op dx dy=some res→∃i j d,dx=.int i∧dy=.int j∧res=.im d∧jF d=true∧g i j=toV d∧Cn i j):fQ K (rI Cn g) op:=by
 intro Z Θ env C σ H x y dx dy res S bx cY e Q q
 obtain⟨i,j,d,rfl,rfl,rfl,f,hv,c⟩:=h _ _ _ e
 cases bx.int;cases cY.int
 exact⟨_,_,rfl,rfl,c,q _ _ (aQ.refl _ _) (iD S f hv)⟩
theorem Dl{K:aG}:fQ K (o9 fun i j=>.int (i-j)) vV:=PX fun dx dy res e=>by
 unfold vV at e;split at e<;>cases e
 exact⟨_,_,_,rfl,rfl,rfl,rfl,rfl⟩
def jG:aj→aj→Option Vl
 |.int i,.int j=>if 0<j then some (.im (.int (i%j))) else none
 |_,_=>none
theorem qK{K:aG}:fQ K (rI (fun _ j=>0<j) fun i j=>.int (i%j)) jG:=Jp fun dx dy res e=>by
 unfold jG at e;split at e
 ·split at e
  ·rename_i h;cases e;exact⟨_,_,_,rfl,rfl,rfl,rfl,rfl,h⟩
  ·cases e
 ·cases e
def vN:aj→aj→Option Vl
 |.int i,.int j=>if 0<j∧j<1073741824 then some (.im (.int (i / j))) else none
 |_,_=>none
theorem P0{K:aG}:fQ K (rI abf fun i j=>.int (i / j)) vN:=Jp fun dx dy res e=>by
 unfold vN at e;split at e
 ·split at e
  ·rename_i h;cases e;exact⟨_,_,_,rfl,rfl,rfl,rfl,rfl,h⟩
  ·cases e
 ·cases e
def vW:aj→aj→Option Vl
 |.int i,.int j=>if 0≤j∧j≤1000000∧i.natAbs<2^64 then some (.im (.int (i^j.toNat))) else none
 |_,_=>none
theorem QV{K:aG}:fQ K (rI abg fun i j=>.int (i^j.toNat)) vW:=Jp fun dx dy res e=>by
 unfold vW at e;split at e
 ·split at e
  ·rename_i h;cases e;exact⟨_,_,_,rfl,rfl,rfl,rfl,rfl,h⟩
  ·cases e
 ·cases e
def iZ:aj→aj→Option Vl
 |.int i,.int j=>if(-(2^64)<i∧i<2^64)∨(-(2^64)<j∧j<2^64) then some (.im (.int (i*j))) else none
 |_,_=>none
theorem oM{K:aG}:fQ K (rI Eg fun i j=>.int (i*j)) iZ:=Jp fun dx dy res e=>by
 unfold iZ at e;split at e
 ·split at e
  ·rename_i h;cases e;exact⟨_,_,_,rfl,rfl,rfl,rfl,rfl,h⟩
  ·cases e
 ·cases e
end
section
variable{X:Cx}
def yI:aj→aj→Option Bool
 |.int i,.int j=>some (i==j)
 |.str x,.str y=>some (x==y)
 |.bool a,.bool b=>some (a==b)
 |d,e=>if rD d&&rD e&&(lX d&&lX e) then some (HB d e) else none
def lU(d e:aj):Option Vl:=(yI d e).map fun b=>.im (.bool b)
def qe(d e:aj):Option Vl:=(yI d e).map fun b=>.im (.bool (!b))
theorem afA(hu:X.A.units+64<eU):cC X (dZ .Eq) (fun x y H Q=>∃d e,RX H d x∧RX H e y∧lX d=true∧lX e=true∧Q (.bl (HB d e)) H):=by
 intro pins s σ H x y v u Q I rx ry h
 obtain⟨d,e,hd,he,h1,h2,q⟩:=h
 obtain⟨as,ra⟩:=RD.reads I (hd.rd (K:=X.K)) rx
 obtain⟨bs,rb⟩:=RD.reads I (he.rd (K:=X.K)) ry
 exact PySem.SeqAt.compareEq_shaped ra rb h1 h2 hu ⟨.bl _,H,I,rfl,q⟩
def abw:R2:=fun x y H Q=>rEq x y H Q∨∃d e,RX H d x∧RX H e y∧lX d=true∧lX e=true∧Q (.bl (HB d e)) H
def abx:R2:=fun x y H Q=>rNe x y H Q∨∃d e,RX H d x∧RX H e y∧lX d=true∧lX e=true∧Q (.bl (!PyData.eqv d e)) H
theorem uA(hu:X.A.units+64<eU):cC X (dZ .Eq) abw:=akB.or (afA hu)
theorem Jq(hu:X.A.units+64<eU):cC X (dZ .NotEq) abx:=akC.or (afs hu)
theorem Xj(h:yI d e=some b):(jF d=true∧jF e=true∧RW (toV d) (toV e)=true∧b=decide (toV d=toV e))∨(rD d=true∧rD e=true∧lX d=true∧lX e=true∧b=HB d e):=by
 unfold yI at h;split at h
 ·cases h;exact .inl ⟨rfl,rfl,rfl,Pr.symm⟩
 ·cases h;exact .inl ⟨rfl,rfl,rfl,Pu.symm⟩
 ·cases h;exact .inl ⟨rfl,rfl,rfl,QF.symm⟩
 ·split at h
  ·rename_i q;cases h;rw[iQ,iQ,iQ] at q;exact .inr ⟨q.1.1,q.1.2,q.2.1,q.2.2,rfl⟩
  ·cases h
theorem uC{K:aG}:fQ K abw lU:=by
 intro Z Θ env C σ H x y dx dy res S bx cY e Q q;unfold lU at e;cases h:yI dx dy with
 |none=>rw[h] at e;cases e
 |some b=>
  rw[h] at e;cases e;have fin:=q (.bl b) H (aQ.refl _ _) (iD S rfl rfl);rcases Xj h with⟨f1,f2,sc,eb⟩|⟨n1,n2,s1,s2,eb⟩
  ·rw[bx.flat f1,cY.flat f2];rw[eb] at fin;exact .inl ⟨sc,fin⟩
  ·rw[eb] at fin;exact .inr ⟨dx,dy,bx.rx n1,cY.rx n2,s1,s2,fin⟩
theorem JD{K:aG}:fQ K abx qe:=by
 intro Z Θ env C σ H x y dx dy res S bx cY e Q q;unfold qe at e;cases h:yI dx dy with
 |none=>rw[h] at e;cases e
 |some b=>
  rw[h] at e;cases e;have fin:=q (.bl (!b)) H (aQ.refl _ _) (iD S rfl rfl);rcases Xj h with⟨f1,f2,sc,eb⟩|⟨n1,n2,s1,s2,eb⟩
  ·rw[bx.flat f1,cY.flat f2];rw[eb] at fin;exact .inl ⟨sc,fin⟩
  ·rw[eb] at fin;exact .inr ⟨dx,dy,bx.rx n1,cY.rx n2,s1,s2,fin⟩
def strLt(x y:Str):Bool:=decide (x.cps.toList<y.cps.toList)
def aaX(xs ys:List aj):Option Bool:=match keysOf xs,keysOf ys with
 |some ks,some js=>if ks.map bJ=js.map bJ then some (dF ks js) else none
 |_,_=>none
def uN:aj→aj→Option Vl
 |.int i,.int j=>some (.im (.bool (decide (i<j))))
 |.str x,.str y=>some (.im (.bool (strLt x y)))
 |.tuple xs,.tuple ys=>(aaX xs ys).map fun b=>.im (.bool b)
 |_,_=>none
theorem vD:∀{ds:List aj}{ks:List Key}{vs:List V},keysOf ds=some ks→cz E ds vs→vs=ks.map kV
 |[],ks,vs,h,r=>by cases h;exact r
 |d::ds,ks,vs,h,r=>by
  unfold keysOf at h;split at h
  ·rename_i k t h1 h2;cases h
   obtain⟨u,w,e1,q,s⟩:=r
   rw[e1,vD h2 s];have:u=kV k:=by
    cases d<;>first|(cases h1;exact q)|cases h1
   rw[this];rfl
  ·cases h
def alp:R2:=fun x y H Q=>(∃a b,x=kV a∧y=kV b∧bJ a=bJ b∧Q (.bl (kLt a b)) H)∨∃a b ks js,x=.ref a∧y=.ref b∧H a=some (.tup (ks.map kV))∧H b=some (.tup (js.map kV))∧ks.map bJ=js.map bJ∧Q (.bl (dF ks js)) H
theorem Rv{K:aG}:fQ K alp uN:=by
 intro Z Θ env C σ H x y dx dy res S bx cY e Q q;unfold uN at e;split at e
 ·cases e;cases bx.int;cases cY.int;exact .inl ⟨.inl _,.inl _,rfl,rfl,rfl,q _ _ (aQ.refl _ _) (iD S rfl rfl)⟩
 ·cases e;cases bx.str;cases cY.str;exact .inl ⟨.inr _,.inr _,rfl,rfl,rfl,q _ _ (aQ.refl _ _) (iD S rfl rfl)⟩
 ·rename_i xs ys;unfold aaX at e;split at e
  ·rename_i ks js h1 h2;split at e
   ·rename_i ht;cases e
    obtain⟨a,vs,rfl,ha,r1⟩:=bx.tup
    obtain⟨b,ws,rfl,hb,r2⟩:=cY.tup
    rw[vD h1 r1] at ha;rw[vD h2 r2] at hb;exact .inr ⟨a,b,ks,js,rfl,rfl,ha,hb,ht,q _ _ (aQ.refl _ _) (iD S rfl rfl)⟩
   ·cases e
  ·cases e
 ·cases e
def oY:aj→aj→Option Vl
 |.int i,.int j=>some (.im (.bool (decide (i≤j))))
 |.str x,.str y=>some (.im (.bool (!strLt y x)))
 |_,_=>none
def aby:R2:=fun x y H Q=>(o9 fun i j=>.bl (decide (i≤j))) x y H Q∨∃i j,x=.str i∧y=.str j∧Q (.bl (!(decide (j.cps.toList<i.cps.toList)))) H
theorem z7:cC X (dZ .LtE) aby:=akD.or agb
theorem Af{K:aG}:fQ K aby oY:=by
 intro Z Θ env C σ H x y dx dy res S bx cY e Q q;unfold oY at e;split at e
 ·cases e;cases bx.int;cases cY.int;exact .inl ⟨_,_,rfl,rfl,q _ _ (aQ.refl _ _) (iD S rfl rfl)⟩
 ·cases e;cases bx.str;cases cY.str;exact .inr ⟨_,_,rfl,rfl,q _ _ (aQ.refl _ _) (iD S rfl rfl)⟩
 ·cases e
def uO:aj→aj→Option Vl
 |.int i,.int j=>some (.im (.bool (decide (j<i))))
 |_,_=>none
def JN:aj→aj→Option Vl
 |.int i,.int j=>some (.im (.bool (decide (j≤i))))
 |_,_=>none
theorem Dy{K:aG}:fQ K (o9 fun i j=>.bl (decide (j<i))) uO:=PX fun dx dy res e=>by
 unfold uO at e;split at e<;>cases e
 exact⟨_,_,_,rfl,rfl,rfl,rfl,rfl⟩
theorem akP{K:aG}:fQ K (o9 fun i j=>.bl (decide (j≤i))) JN:=PX fun dx dy res e=>by
 unfold JN at e;split at e<;>cases e
 exact⟨_,_,_,rfl,rfl,rfl,rfl,rfl⟩
def isNone:aj→Bool
 |.none=>true
 |_=>false
def uD(d e:aj):Option Vl:=if isNone e then some (.im (.bool (isNone d))) else none
theorem X5(h:fj Z Θ env σ H d x):decide (x=V.non)=isNone d:=by
 cases d<;>first
  |(cases(show x=_ from h);rfl)
  |(obtain⟨a,vs,e,_⟩:=h;subst e;rfl)
theorem aam{K:aG}:fQ K (fun x y H Q=>y=.non∧Q (.bl (decide (x=.non))) H) uD:=by
 intro Z Θ env C σ H x y dx dy res S bx cY e Q q;unfold uD at e;split at e
 ·rename_i hn;cases e;have hy:y=.non:=of_decide_eq_true ((X5 cY).trans hn)
  exact⟨hy,by rw[X5 bx];exact q _ _ (aQ.refl _ _) (iD S rfl rfl)⟩
 ·cases e
end
section
variable{X:Cx}{pins:List (aa×Obj)}{σ:St}{H:Hp}{s:au}{a b:aa}
theorem Inv.Kd(I:Inv X pins σ H s)(h:H a=some (.dK [])):Inv X pins σ (upd H a (.dT [])) s:=by
 obtain⟨z,hm,vs,r,o,es,ep,h1,h2,h3,h4,h5,h6⟩:=I.hok a _ h
 cases r;have e0:es.toList=[]:=by
  cases hh:es.toList with
  |nil=>rfl
  |cons x xs=>rw[hh] at h5;cases h5
 have:=xO (t':=s.toks) (ob:=.dT []) I (by rw[h];trivial) (UG a s.heap) ⟨_,h1⟩ ⟨lF _,hm,[],.nil,o,es,ep,h1,h2,h3,e0,lC⟩;exact this
theorem Inv.Te(I:Inv X pins σ (upd H a (.dT [])) s)(h:H a=some (.dK [])):Inv X pins σ H s:=by
 obtain⟨z,hm,xs,r,o,es,ep,h1,h2,h3,h4,h5⟩:=I.hok a _ eN
 cases r;have e0:es=#[]:=by
  cases es;simp at h4;rw[h4]
 subst e0;have:=xO (t':=s.toks) (ob:=.dK []) I (by rw[eN];trivial) (UG a s.heap) ⟨_,h1⟩ (Jm (lF _) hm .nil ⟨o,#[],ep,h1,h2,h3,fun i hi=>absurd hi (by simp),.nil,lC⟩);rw[YT] at this;have e:upd H a (.dK [])=H:=by
  funext b;by_cases hb:b=a
  ·subst hb;rw[eN,h]
  ·exact cJ hb
 rw[e] at this;exact this
end
def nR(H:Hp)(a:aa)(y:V)(r:Option V):Prop:=lQ H a y r∨(H a=some (.dK [])∧(∃(b:aa)(ks:List Key),y=.ref b∧H b=some (.tup (ks.map kV)))∧r=none)
section
variable{X:Cx}{pins:List (aa×Obj)}{σ:St}{H:Hp}{s:au}{a:aa}{y v:V}{u r:Value}{o:Option V}{A:bY}{E:Value→au→Prop}
theorem nR.re(ha:H a=some (.dK [])){b:aa}{ks:List Key}(hb:H b=some (.tup (ks.map kV))):lQ (upd H a (.dT [])) a (.ref b) none:=by
 have:(upd H a (.dT [])) b=some (.tup (ks.map kV)):=by rw[cJ (Rh hb ha (fun z=>nomatch z))];exact hb
 exact lQ.t (kvs:=[]) (k:=ks) eN this
theorem akQ(hu:A.units+1<eU)(I:Inv X pins σ H s)(g:nR H a y o)(ry:RelV y u)(h:∀s',Inv X pins σ H s'→Q (.bool o.isSome) s'):aM (model X.prog X.w) A (dZ .In u (.ref a)) Q E s:=by
 rcases g with g|⟨ha,⟨b,ks,rfl,hb⟩,rfl⟩
 ·exact abo hu I g ry h
 ·exact abo hu (I.Kd ha) (nR.re ha hb) ry fun s' I'=>h s' (I'.Te ha)
theorem ahe(hu:A.units+1<eU)(I:Inv X pins σ H s)(g:nR H a y o)(ry:RelV y u)(h:∀s',Inv X pins σ H s'→Q (.bool (!o.isSome)) s'):aM (model X.prog X.w) A (dZ .NotIn u (.ref a)) Q E s:=by
 rcases g with g|⟨ha,⟨b,ks,rfl,hb⟩,rfl⟩
 ·exact Y8 hu I g ry h
 ·exact Y8 hu (I.Kd ha) (nR.re ha hb) ry fun s' I'=>h s' (I'.Te ha)
theorem ajO(hu:X.A.units+1<eU):cC X (dZ .In) (fun y x H Q=>∃a o,x=.ref a∧nR H a y o∧Q (.bl o.isSome) H):=by
 intro pins s σ H x y v u Q I rx ry h
 obtain⟨a,o,rfl,g,q⟩:=h
 cases ry;exact akQ hu I g rx fun s' I'=>⟨.bl _,H,I',rfl,q⟩
theorem agq(hu:X.A.units+1<eU):cC X (dZ .NotIn) (fun y x H Q=>∃a o,x=.ref a∧nR H a y o∧Q (.bl (!o.isSome)) H):=by
 intro pins s σ H x y v u Q I rx ry h
 obtain⟨a,o,rfl,g,q⟩:=h
 cases ry;exact ahe hu I g rx fun s' I'=>⟨.bl _,H,I',rfl,q⟩
theorem aiu(hu:X.A.units+1<eU):qi X (fun x y H Q=>∃a v,x=.ref a∧lQ H a y (some v)∧Q v H):=by
 intro value slice pins s σ H x y v u Q I rx ry h hs
 obtain⟨a,z,rfl,g,q⟩:=h
 cases rx;have hT:=aeY I g;have h2:aM (model X.prog X.w) X.A (vI (.ref a) u) (EP X pins σ Q) X.xe s:=af4 hu I g ry fun w' s' I' r'=>⟨z,H,I',r',q⟩
 unfold subscriptTail;refine aD ?_;rw[getitemInPython_of_ne hT.not_modules];refine aD (wpAny_specialOf hT PySem.F.slot_dict_getitem.lookup ?_);have fin:aM (model X.prog X.w) X.A (Wn slice false (.ref a) u) (fun r s₃=>aM (model X.prog X.w) X.A (letTemporaryGo value (.ref a) r >>= fun _=>pure r) (EP X pins σ Q) X.xe s₃) X.xe s:=by
  rw[hs];exact wpAny_operating (nD h2 (fun r s₃ h₃=>aD (wpAny_letTemporaryGo (aX h₃))) fun _ _ x=>x)
 first
  |exact aX (aD fin)
  |exact aD (aX (aD fin))
  |exact aD fin
end
def pZ{κ:Type}[DecidableEq κ](f:aj→Option κ)(k:κ):List (aj×aj)→Option aj
 |[]=>none
 |p::r=>if f p.1=some k then some p.2 else pZ f k r
def mX(kvs:List (aj×aj))(d:aj):Option (Option aj):=match cV d with
 |some k=>if(cM cV kvs).isSome then some (pZ cV k kvs) else none
 |none=>match sV d with
  |some ks=>if(cM sV kvs).isSome then some (pZ sV ks kvs) else none
  |none=>none
theorem Ox[DecidableEq κ]:∀{kvs:List (aj×aj)}{ks:List κ}{vs:List V},cM f kvs=some ks→gO E kvs vs→
  (∃d v,pZ f k kvs=some d∧mD (ks.zip vs) k=some v∧RZ E d v)∨(pZ f k kvs=none∧mD (ks.zip vs) k=none)
 |[],ks,vs,h,r=>by
  cases h
  cases(show vs=[] from r)
  exact .inr ⟨rfl,rfl⟩
 |(p,d)::kvs,ks,vs,h,r=>by
  unfold cM at h;split at h
  ·rename_i k' t h1 h2;cases h
   obtain⟨v,w,rfl,q,s⟩:=r
   by_cases e:k'=k
   ·subst e;refine .inl ⟨d,v,?_,?_,q⟩
    ·unfold pZ;rw[if_pos h1]
    ·exact Ib (p:=(k',v)) rfl
   ·have e1:pZ f k ((p,d)::kvs)=pZ f k kvs:=by
     show(if f p=some k then some d else pZ f k kvs)=_
     rw[if_neg];intro z;rw[h1] at z;exact e (fV z)
    have e2:mD ((k'::t).zip (v::w)) k=mD (t.zip w) k:=Ie (p:=(k',v)) e;rw[e1,e2];exact Ox h2 s
  ·cases h
theorem xK:∀{kvs:List (aj×aj)}{ks:List κ},cM f kvs=some ks→ks.length=kvs.length
 |[],ks,h=>by cases h;rfl
 |p::kvs,ks,h=>by
  unfold cM at h;split at h
  ·rename_i k' t h1 h2;cases h;rw[cO,cO,xK h2]
  ·cases h
theorem aan(h:cV d=some k)(r:RZ E d v):v=kV k:=by
 cases d<;>first|(cases h;exact r)|cases h
theorem aao(h:cV d=some k)(g:sV d=some ks):False:=by
 cases d<;>first|(cases h;done)|(cases g;done)
section
variable{K:aG}{Z Θ:List aa}{env:En}{C:Ce}{σ:St}{H:Hp}{x y:V}
theorem xM(h:cM cV kvs=some ks)(g:cM sV kvs=some js):kvs=[]:=by
 cases kvs with
 |nil=>rfl
 |cons p r=>
  unfold cM at h g;split at h
  ·rename_i h1 h2;split at g
   ·rename_i h3 h4
    exact(aao h1 h3).elim
   ·cases g
  ·cases h
theorem fj.get(h:fj Z Θ env σ H (.dict kvs) x)(hy:fj Z Θ env σ H d y)(e:mX kvs d=some o):
  ∃a r,x=.ref a∧nR H a y r∧((∃v,r=some v∧∃d',o=some d'∧RZ (er (aR Z Θ env σ) H) d' v∧lQ H a y (some v))∨(r=none∧o=none)):=by
 obtain⟨a,vs,rfl,dt,rd⟩:=h.dct
 unfold mX at e;split at e
 ·rename_i k hk;split at e
  ·rename_i hs;cases e;have yk:y=kV k:=by
    cases d<;>first|(cases hk;exact hy)|cases hk
   have dk:∃ks,cM cV kvs=some ks∧H a=some (.dK (ks.zip vs)):=by
    rcases dt with h|⟨ks,⟨ne,h2⟩,_⟩
    ·exact h
    ·obtain⟨ks',h1⟩:=wU.mp hs
     exact absurd (xM h1 h2) ne
   obtain⟨ks,h1,ha⟩:=dk
   have g:=lQ.k (k:=k) ha;rw[←yk] at g;rcases Ox (k:=k) h1 rd with⟨d',v,e1,e2,r⟩|⟨e1,e2⟩
   ·rw[e2] at g
    exact⟨a,some v,rfl,.inl g,.inl ⟨v,rfl,d',e1,r,g⟩⟩
   ·rw[e2] at g
    exact⟨a,none,rfl,.inl g,.inr ⟨rfl,e1⟩⟩
  ·cases e
 ·split at e
  ·rename_i ks hks;split at e
   ·rename_i hs;cases e
    obtain⟨b,hb,rfl⟩:∃b,H b=some (.tup (ks.map kV))∧y=.ref b:=by
     cases d<;>first|cases hks|skip
     obtain⟨b,ws,rfl,hb,r⟩:=hy.tup
     rw[vD hks r] at hb
     exact⟨b,hb,rfl⟩
    rcases dt with⟨js,h1,ha⟩|⟨js,⟨ne,h1⟩,ha⟩
    ·obtain⟨js',h2⟩:=wU.mp hs
     have:=xM h1 h2;subst this;cases h1
     exact⟨a,none,rfl,.inr ⟨ha,⟨b,ks,rfl,hb⟩,rfl⟩,.inr ⟨rfl,rfl⟩⟩
    ·have g:=lQ.t (k:=ks) ha hb;rcases Ox (k:=ks) h1 rd with⟨d',v,e1,e2,r⟩|⟨e1,e2⟩
     ·rw[e2] at g
      exact⟨a,some v,rfl,.inl g,.inl ⟨v,rfl,d',e1,r,g⟩⟩
     ·rw[e2] at g
      exact⟨a,none,rfl,.inl g,.inr ⟨rfl,e1⟩⟩
   ·cases e
  ·cases e
end
def inD(d:aj)(ds:List aj):Bool:=ds.any fun e=>rB (toV e) (toV d)
def inB(d:aj):aj→Option Bool
 |.list ds=>if jF d&&ds.all jF then some (inD d ds) else none
 |.tuple ds=>if jF d&&ds.all jF then some (inD d ds) else none
 |.dict kvs=>(mX kvs d).map (·.isSome)
 |_=>none
def jo(d e:aj):Option Vl:=(inB d e).map fun b=>.im (.bool b)
def mj(d e:aj):Option Vl:=(inB d e).map fun b=>.im (.bool (!b))
def abz(K:aG):R2:=fun x y H Q=>J6 K false x y H Q∨∃a o,y=.ref a∧nR H a x o∧Q (.bl o.isSome) H
def Zm(K:aG):R2:=fun x y H Q=>J6 K true x y H Q∨∃a o,y=.ref a∧nR H a x o∧Q (.bl (!o.isSome)) H
theorem sO(hu:X.A.units+1<eU):cC X (dZ .In) (abz X.K):=af2.or (ajO hu)
theorem ug(hu:X.A.units+1<eU):cC X (dZ .NotIn) (Zm X.K):=aeB.or (agq hu)
theorem NZ(f:jF d=true):oO (toV d)=true:=by
 cases d<;>first|rfl|cases f
theorem aaY:inV (toV d) (ds.map toV)=inD d ds:=by
 unfold inV inD;rw[aeG];rfl
theorem Zn{ds:List aj}(f:ds.all jF=true):(ds.map toV).all oO=true:=by
 rw[List.all_map,oh];intro d hd;exact NZ (oh.mp f d hd)
theorem X6{K:aG}{Z Θ:List aa}{env:En}{σ:St}{H:Hp}{x y:V}{dx dy:aj}{b:Bool}(bx:fj Z Θ env σ H dx x)(cY:fj Z Θ env σ H dy y)(e:inB dx dy=some b):
  (∃p xs,y=.ref p∧(bK K H p xs∨cN K H p xs)∧oO x=true∧xs.all oO=true∧inV x xs=b)∨∃a o,y=.ref a∧nR H a x o∧o.isSome=b:=by
 unfold inB at e;split at e
 ·split at e
  ·rename_i ds hf;rw[iQ] at hf;cases e
   obtain⟨a,vs,rfl,ha,r⟩:=cY.lst
   rw[Ow hf.2 r] at ha;rw[bx.flat hf.1];exact .inl ⟨a,_,rfl,.inl (bK.of ha),NZ hf.1,Zn hf.2,aaY⟩
  ·cases e
 ·split at e
  ·rename_i ds hf;rw[iQ] at hf;cases e
   obtain⟨a,vs,rfl,ha,r⟩:=cY.tup
   rw[Ow hf.2 r] at ha;rw[bx.flat hf.1];exact .inl ⟨a,_,rfl,.inr (cN.of ha),NZ hf.1,Zn hf.2,aaY⟩
  ·cases e
 ·rename_i kvs;cases hl:mX kvs dx with
  |none=>rw[hl] at e;cases e
  |some o=>
   rw[hl] at e;cases e
   obtain⟨a,r,rfl,g,q⟩:=cY.get bx hl
   refine .inr ⟨a,r,rfl,g,?_⟩;rcases q with⟨v,rfl,d',rfl,_⟩|⟨rfl,rfl⟩<;>rfl
 ·cases e
theorem sW{K:aG}:fQ K (abz K) jo:=by
 intro Z Θ env C σ H x y dx dy res S bx cY e Q q;unfold jo at e;cases h:inB dx dy with
 |none=>rw[h] at e;cases e
 |some b=>
  rw[h] at e;cases e;have fin:=q (.bl b) H (aQ.refl _ _) (iD S rfl rfl);rcases X6 (K:=K) bx cY h with⟨p,xs,e1,e2,e3,e4,e5⟩|⟨a,o,e1,e2,e3⟩
  ·rw[←e5] at fin;exact .inl ⟨p,xs,e1,e2,e3,e4,fin⟩
  ·rw[←e3] at fin;exact .inr ⟨a,o,e1,e2,fin⟩
theorem uo{K:aG}:fQ K (Zm K) mj:=by
 intro Z Θ env C σ H x y dx dy res S bx cY e Q q;unfold mj at e;cases h:inB dx dy with
 |none=>rw[h] at e;cases e
 |some b=>
  rw[h] at e;cases e;have fin:=q (.bl (!b)) H (aQ.refl _ _) (iD S rfl rfl);rcases X6 (K:=K) bx cY h with⟨p,xs,e1,e2,e3,e4,e5⟩|⟨a,o,e1,e2,e3⟩
  ·rw[←e5] at fin;exact .inl ⟨p,xs,e1,e2,e3,e4,fin⟩
  ·rw[←e3] at fin;exact .inr ⟨a,o,e1,e2,fin⟩
def tR:aj→aj→Option aj
 |.list ds,.int i=>fB ds i
 |.tuple ds,.int i=>fB ds i
 |.str z,.int i=>if z.length≤LIM then(fB z.cps.toList i).map fun c=>.str ⟨#[c]⟩ else none
 |.dict kvs,d=>match mX kvs d with
  |some (some e)=>some e
  |_=>none
 |_,_=>none
def bw(d e:aj):Option Vl:=(tR d e).map .im
def abA(K:aG):R2:=fun x y H Q=>rIx K x y H Q∨∃a v,x=.ref a∧lQ H a y (some v)∧Q v H
theorem cG(hu:X.A.units+1<eU):qi X (abA X.K):=ajv.or (aiu hu)
theorem Zo(r:cz E ds vs)(e:fB ds i=some d):∃v,fB vs i=some v∧RZ E d v:=by
 unfold fB at e⊢;rw[gU r];cases h:m9 ds.length i with
 |none=>rw[h] at e;cases e
 |some j=>
  rw[h] at e;exact vM r e
theorem cI{K:aG}:fQ K (abA K) bw:=by
 intro Z Θ env C σ H x y dx dy res S bx cY e Q q;unfold bw at e;cases h:tR dx dy with
 |none=>rw[h] at e;cases e
 |some d=>
  rw[h] at e;cases e;unfold tR at h;split at h
  ·obtain⟨a,vs,rfl,ha,r⟩:=bx.lst
   cases cY.int
   obtain⟨v,e1,r1⟩:=Zo r h
   exact .inl (.inl ⟨a,vs,_,v,rfl,rfl,bK.of ha,e1,q _ _ (aQ.refl _ _) ⟨S,r1⟩⟩)
  ·obtain⟨a,vs,rfl,ha,r⟩:=bx.tup
   cases cY.int
   obtain⟨v,e1,r1⟩:=Zo r h
   exact .inl (.inr (.inl ⟨a,vs,_,v,rfl,rfl,cN.of ha,e1,q _ _ (aQ.refl _ _) ⟨S,r1⟩⟩))
  ·split at h
   ·rename_i z i hz;cases bx.str;cases cY.int;cases hc:fB z.cps.toList i with
    |none=>rw[hc] at h;cases h
    |some c=>
     rw[hc] at h;cases h;exact .inl (.inr (.inr ⟨z,i,c,rfl,rfl,sy hz,hc,q _ _ (aQ.refl _ _) (iD S rfl rfl)⟩))
   ·cases h
  ·split at h
   ·rename_i kvs e' hl;cases h
    obtain⟨a,r,rfl,g,hq⟩:=bx.get cY hl
    rcases hq with⟨v,rfl,d',e1,r1,g1⟩|⟨_,e1⟩
    ·cases e1;exact .inr ⟨a,v,rfl,g1,q _ _ (aQ.refl _ _) ⟨S,r1⟩⟩
    ·cases e1
   ·cases h
  ·cases h
def truD:aj→Option Bool
 |.none=>some false
 |.bool b=>some b
 |.int i=>some (i != 0)
 |.str x=>if x.length≤LIM then some ((x.length:Int) != 0) else none
 |.list ds=>some (!ds.isEmpty)
 |.tuple ds=>some (!ds.isEmpty)
 |.dict kvs=>if(cM cV kvs).isSome then some (!kvs.isEmpty) else none
def fTru(f:FB):FT:=fun env C=>match f env C with
 |some (d,_,C')=>match truD d with
  |some b=>some (b,C')
  |none=>none
 |none=>none
def fTst(f:FE):FT:=fun env C=>match f env C with
 |some (.im (.bool b),_,C')=>some (b,C')
 |_=>none
def uE(f:FT):FT:=fun env C=>match f env C with
 |some (b,C')=>some (!b,C')
 |none=>none
def kW(f g:FT):FT:=fun env C=>match f env C with
 |some (true,C')=>g env C'
 |some (false,C')=>some (false,C')
 |none=>none
def rm(f g:FT):FT:=fun env C=>match f env C with
 |some (true,C')=>some (true,C')
 |some (false,C')=>g env C'
 |none=>none
theorem ajP{K:aG}{Z Θ:List aa}{env:En}{σ:St}{H:Hp}{x:V}{d:aj}{b:Bool}(h:fj Z Θ env σ H d x)(e:truD d=some b):R0 K x H b:=by
 cases d with
 |none=>cases e;cases(show x=_ from h);rfl
 |bool c=>cases e;cases(show x=_ from h);rfl
 |int i=>cases e;cases(show x=_ from h);rfl
 |str z=>
  simp only[truD] at e;split at e
  ·rename_i hz;cases e;cases(show x=_ from h);exact⟨sy hz,rfl⟩
  ·cases e
 |list ds=>
  cases e
  obtain⟨a,vs,rfl,ha,r⟩:=h.lst
  refine .inl ⟨vs,bK.of ha,?_⟩;have:=gU r;cases ds<;>cases vs<;>first|rfl|cases this
 |tuple ds=>
  cases e
  obtain⟨a,vs,rfl,ha,r⟩:=h.tup
  refine .inr (.inl ⟨vs,cN.of ha,?_⟩);have:=gU r;cases ds<;>cases vs<;>first|rfl|cases this
 |dict kvs=>
  simp only[truD] at e;split at e
  ·rename_i hs;cases e
   obtain⟨a,vs,rfl,da,r⟩:=h.dct
   rcases da with⟨ks,h1,ha⟩|⟨ks,⟨ne,h2⟩,ha⟩
   ·refine .inr (.inr ⟨_,ha,?_⟩);have l1:=xK h1;have l2:=Jb r;cases kvs<;>cases ks<;>cases vs<;>first|rfl|cases l1|cases l2
   ·obtain⟨ks',h1⟩:=wU.mp hs
    exact absurd (xM h1 h2) ne
  ·cases e
section
variable{X:Cx}{a b:Expr}{pos:Pos}
theorem oN(h:PE X a (dH X.K f))(he:∀whole,isTrue a X.env whole=(do let v ←whole;sE a.pos;pQ [v] (truthy v)):=by intro _;rfl):PT X a (eX X.K (fTru f)):=
 (agT h he).weak fun σ H Q aK=>by
  obtain⟨Z,Θ,env,C,b,C',S,hf,q⟩:=aK
  unfold fTru at hf;split at hf
  ·rename_i d e1 C1 h1;split at hf
   ·rename_i b' hb;cases hf
    exact⟨Z,Θ,env,C,d,e1,C',S,h1,fun v H' k f S' bo=>⟨b,ajP bo hb,q H' k (S.go k S'.cell)⟩⟩
   ·cases hf
  ·cases hf
theorem X7{K:aG}{t:TE}{f:FE}(w:∀σ H Q,tE K f σ H Q→t σ H Q):∀σ H Q,eX K (fTst f) σ H Q→Rm t σ H Q:=by
 rintro σ H Q ⟨Z,Θ,env,C,b,C',S,hf,q⟩;unfold fTst at hf;split at hf
 ·rename_i b' e1 C1 h1;cases hf;refine w _ _ _ ⟨Z,Θ,env,C,.im (.bool b),e1,C',S,h1,fun v H' k f R=>?_⟩
  obtain⟨S',r⟩:=R
  exact⟨b,r,q H' k (S.go k S'.cell)⟩
 ·cases hf
theorem fM(ho:cC X (dZ o) r)(L:fQ X.K r op)(ha:PE X a (dH X.K fa))(hb:PE X b (dH X.K fb))(hm:By o b=false):
  PT X (.Compare a [o] [b] pos) (eX X.K (fTst (aH op fa fb))):=(ahY ho ha hb hm).weak (X7 (Ij L))
theorem Dm(h:PT X a (eX X.K f)):PT X (.UnaryOp .Not a pos) (eX X.K (uE f)):=(ajd h).weak fun σ H Q aK=>by
 obtain⟨Z,Θ,env,C,b,C',S,hf,q⟩:=aK
 unfold uE at hf;split at hf
 ·rename_i b' C1 h1;cases hf
  exact⟨Z,Θ,env,C,b',C',S,h1,q⟩
 ·cases hf
theorem ahf{K:aG}{f g:FT}:∀σ H Q,eX K (kW f g) σ H Q→aba (eX K f) (eX K g) σ H Q:=by
 rintro σ H Q ⟨Z,Θ,env,C,b,C',S,hf,q⟩;unfold kW at hf;split at hf
 ·rename_i C1 h1
  exact⟨Z,Θ,env,C,true,C1,S,h1,fun H1 k1 S1=>wj ⟨Z,Θ,env,C1,b,C',S1,hf,fun H2 k2 S2=>q H2 (k1.trans k2) S2⟩⟩
 ·rename_i C1 h1;cases hf
  exact⟨Z,Θ,env,C,false,C',S,h1,fun H1 k1 S1=>wg (q H1 k1 S1)⟩
 ·cases hf
theorem aiv{K:aG}{f g:FT}:∀σ H Q,eX K (rm f g) σ H Q→tOr (eX K f) (eX K g) σ H Q:=by
 rintro σ H Q ⟨Z,Θ,env,C,b,C',S,hf,q⟩;unfold rm at hf;split at hf
 ·rename_i C1 h1;cases hf
  exact⟨Z,Θ,env,C,true,C',S,h1,fun H1 k1 S1=>wj (q H1 k1 S1)⟩
 ·rename_i C1 h1
  exact⟨Z,Θ,env,C,false,C1,S,h1,fun H1 k1 S1=>wg ⟨Z,Θ,env,C1,b,C',S1,hf,fun H2 k2 S2=>q H2 (k1.trans k2) S2⟩⟩
 ·cases hf
variable{rest:List Expr}
theorem xQ(h:PT X a (eX X.K f)):PW X (.BoolOp .And [a] pos) (eX X.K f):=pw_and1 h
theorem Dp(h:PT X a (eX X.K f)):PW X (.BoolOp .Or [a] pos) (eX X.K f):=pw_or1 h
theorem qL(h:PT X a (eX X.K f))(hb:PW X (.BoolOp .And (b::rest) pos) (eX X.K g)):PW X (.BoolOp .And (a::b::rest) pos) (eX X.K (kW f g)):=(pw_and h hb).weak ahf
theorem Ag(h:PT X a (eX X.K f))(hb:PW X (.BoolOp .Or (b::rest) pos) (eX X.K g)):PW X (.BoolOp .Or (a::b::rest) pos) (eX X.K (rm f g)):=(pw_or h hb).weak aiv
end
def wA(op op':aj→aj→Option Vl)(fa fb fc:FB):FE:=fun env C=>match fa env C with
 |some (x,e1,C1)=>match fb e1 C1 with
  |some (y,e2,C2)=>match op x y with
   |some (.im (.bool true))=>match fc e2 C2 with
    |some (z,e3,C3)=>match op' y z with
     |some (.im (.bool b))=>some (.im (.bool b),env,C3)
     |_=>none
    |none=>none
   |some (.im (.bool false))=>some (.im (.bool false),env,C2)
   |_=>none
  |none=>none
 |none=>none
theorem X8{K:aG}{r r':R2}{op op':aj→aj→Option Vl}(L:fQ K r op)(L':fQ K r' op'){fa fb fc:FB}:∀σ H Q,tE K (wA op op' fa fb fc) σ H Q→QG r r' (dH K fa) (dH K fb) (dH K fc) σ H Q:=by
 rintro σ H Q ⟨Z,Θ,env,C,res,env',C',S,hf,q⟩;unfold wA at hf;split at hf
 ·rename_i x e1 C1 h1;split at hf
  ·rename_i y e2 C2 h2
   refine⟨Z,Θ,env,C,x,e1,C1,S,h1,fun v H1 k1 f1 S1 b1=>⟨Z,Θ,e1,C1,y,e2,C2,S1,h2,fun u H2 k2 f2 S2 b2=>?_⟩⟩
   split at hf
   ·rename_i h3;split at hf
    ·rename_i z e3 C3 h4;split at hf
     ·rename_i b h5;cases hf;refine L Z Θ e2 C2 σ H2 v u x y _ S2 (b1.go S1 k2 f2) b2 h3 _ fun w H3 k3 R=>⟨true,R.2,wj ⟨Z,Θ,e2,C2,z,e3,C',R.1,h4,fun w2 H4 k4 f4 S4 b4=>?_⟩⟩
      refine L' Z Θ e3 C' σ H4 u w2 y z _ S4 ((b2.go S2 k3 (Fz.refl _)).go R.1 k4 f4) b4 h5 Q fun w3 H5 k5 R5=>?_
      have k:=(((k1.trans k2).trans k3).trans k4).trans k5;exact q w3 H5 k (Fz.refl _) ⟨S.go k R5.1.cell,R5.2⟩
     ·cases hf
    ·cases hf
   ·rename_i h3;cases hf;refine L Z Θ e2 C' σ H2 v u x y _ S2 (b1.go S1 k2 f2) b2 h3 _ fun w H3 k3 R=>⟨false,R.2,wg ?_⟩
    have k:=(k1.trans k2).trans k3;exact q _ H3 k (Fz.refl _) ⟨S.go k R.1.cell,rfl⟩
   ·cases hf
  ·cases hf
 ·cases hf
section
variable{X:Cx}{a b c:Expr}{pos:Pos}{r r':R2}{o o':CmpOp}{op op':aj→aj→Option Vl}{fa fb fc:FB}
theorem ajQ(ho:cC X (dZ o) r)(L:fQ X.K r op)(ho':cC X (dZ o') r')(L':fQ X.K r' op')(ha:PE X a (dH X.K fa))(hb:PE X b (dH X.K fb))(hc:PE X c (dH X.K fc))
  (hm:Nz [o,o'] [b,c]=false:=by with_unfolding_all rfl):PE X (.Compare a [o,o'] [b,c] pos) (tE X.K (wA op op' fa fb fc)):=(agR ho ho' ha hb hc hm).weak (X8 L L')
theorem ajR(ho:cC X (dZ o) r)(L:fQ X.K r op)(ho':cC X (dZ o') r')(L':fQ X.K r' op')(ha:PE X a (dH X.K fa))(hb:PE X b (dH X.K fb))(hc:PE X c (dH X.K fc))
  (hm:Nz [o,o'] [b,c]=false:=by with_unfolding_all rfl):PT X (.Compare a [o,o'] [b,c] pos) (eX X.K (fTst (wA op op' fa fb fc))):=(agS ho ho' ha hb hc hm).weak (X7 (X8 L L'))
end
def oU(f g:FE):FE:=fun env C=>match f env C with
 |some (.im (.bool true),_,C')=>g env C'
 |some (.im (.bool false),_,C')=>some (.im (.bool false),env,C')
 |_=>none
def Dz(f:FE):FE:=fun env C=>match f env C with
 |some (.im (.bool b),_,C')=>some (.im (.bool (!b)),env,C')
 |_=>none
def yw(c:FT)(f g:FE):FE:=fun env C=>match c env C with
 |some (true,C')=>f env C'
 |some (false,C')=>g env C'
 |none=>none
def fNeg(f:FB):FE:=fun env C=>match f env C with
 |some (.int i,_,C')=>some (.im (.int (-i)),env,C')
 |_=>none
section
variable{X:Cx}{a b c:Expr}{pos:Pos}{rest:List Expr}
theorem Dq{o}(h:PE X a (tE X.K f)):PE X (.BoolOp o [a] pos) (tE X.K f):=aje h
theorem z8(ha:PE X a (tE X.K f))(hb:PE X (.BoolOp .And (b::rest) pos) (tE X.K g)):PE X (.BoolOp .And (a::b::rest) pos) (tE X.K (oU f g)):=(ajf ha hb).weak fun σ H Q aK=>by
 obtain⟨Z,Θ,env,C,r,env',C',S,hf,q⟩:=aK
 unfold oU at hf;split at hf
 ·rename_i e1 C1 h1
  refine⟨Z,Θ,env,C,_,e1,C1,S,h1,fun v H1 k1 f1 R1=>⟨true,R1.2,wj ⟨Z,Θ,env,C1,r,env',C',S.go k1 R1.1.cell,hf,fun w H2 k2 f2 R2=>q w H2 (k1.trans k2) f2 (R2.from k1)⟩⟩⟩
 ·rename_i e1 C1 h1;cases hf
  exact⟨Z,Θ,env,C,_,e1,C',S,h1,fun v H1 k1 f1 R1=>⟨false,R1.2,wg (q _ H1 k1 (Fz.refl _) ⟨S.go k1 R1.1.cell,rfl⟩)⟩⟩
 ·cases hf
theorem ajS(ha:PE X a (tE X.K f)):PE X (.UnaryOp .Not a pos) (tE X.K (Dz f)):=(ajg ha).weak fun σ H Q aK=>by
 obtain⟨Z,Θ,env,C,r,env',C',S,hf,q⟩:=aK
 unfold Dz at hf;split at hf
 ·rename_i b e1 C1 h1;cases hf
  exact⟨Z,Θ,env,C,_,e1,C',S,h1,fun v H1 k1 f1 R1=>⟨b,R1.2,q _ H1 k1 (Fz.refl _) ⟨S.go k1 R1.1.cell,rfl⟩⟩⟩
 ·cases hf
theorem aaZ(hc:PT X c (eX X.K t))(ha:PE X a (tE X.K f))(hb:PE X b (tE X.K g)):PE X (.IfExp c a b pos) (tE X.K (yw t f g)):=(agO hc ha hb).weak fun σ H Q aK=>by
 obtain⟨Z,Θ,env,C,r,env',C',S,hf,q⟩:=aK
 unfold yw at hf;split at hf
 ·rename_i C1 h1
  exact⟨Z,Θ,env,C,true,C1,S,h1,fun H1 k1 S1=>wj ⟨Z,Θ,env,C1,r,env',C',S1,hf,fun w H2 k2 f2 R2=>q w H2 (k1.trans k2) f2 (R2.from k1)⟩⟩
 ·rename_i C1 h1
  exact⟨Z,Θ,env,C,false,C1,S,h1,fun H1 k1 S1=>wg ⟨Z,Θ,env,C1,r,env',C',S1,hf,fun w H2 k2 f2 R2=>q w H2 (k1.trans k2) f2 (R2.from k1)⟩⟩
 ·cases hf
end
def uF(K:aG)(E:Hp)(Θ:List aa):Vl→V→Prop
 |.im d,v=>RZ E d v
 |.ow _,_=>False
 |.ce n,v=>∃a,v=.ref a∧Θ[n]?=some a
 |.sc ns,v=>∃a,v=.ref a∧bK K E a (ns.map V.int)
inductive pX(K:aG)(E:Hp)(Θ:List aa):List Vl→List V→Prop
 |nil:pX K E Θ [] []
 |cons {x:Vl} {v:V} {xs:List Vl} {vs:List V}:uF K E Θ x v→pX K E Θ xs vs→pX K E Θ (x::xs) (v::vs)
theorem uF.same{K:aG}{E E':Hp}{Θ:List aa}(s:bh E E'){x:Vl}{v:V}(h:uF K E Θ x v):uF K E' Θ x v:=by
 cases x with
 |im d=>exact RZ.same s h
 |ow d=>exact h
 |ce n=>exact h
 |sc ns=>obtain⟨a,e,q⟩:=h;exact⟨a,e,s.seq q⟩
theorem pX.same{K:aG}{E E':Hp}{Θ:List aa}(s:bh E E'){xs:List Vl}{vs:List V}(h:pX K E Θ xs vs):pX K E' Θ xs vs:=by
 induction h with
 |nil=>exact .nil
 |cons a _ ih=>exact .cons (a.same s) ih
inductive wQ(K:aG)(f:FA)(σ:St)(H:Hp)(Q:List V→Hp→Prop):Prop
 |mk (Z Θ:List aa) (env:En) (C:Ce) (xs:List Vl) (env':En) (C':Ce) (S:Sm K Z Θ env C σ H) (hf:f env C=some (xs,env',C')) (q:∀vs H',aQ Θ H H'→Fz env env'→Sm K Z Θ env' C' σ H'→pX K (er (aR Z Θ env' σ) H') Θ xs vs→Q vs H'):wQ K f σ H Q
def aNil:FA:=fun env C=>some ([],env,C)
def aCons(f:FE)(g:FA):FA:=fun env C=>match f env C with
 |some (r,e1,C1)=>match g e1 C1 with
  |some (xs,e2,C2)=>some (still r::xs,e2,C2)
  |none=>none
 |none=>none
def bNil:wO:=fun env C=>some ([],env,C)
def bCons(f:FB)(g:wO):wO:=fun env C=>match f env C with
 |some (d,e1,C1)=>match g e1 C1 with
  |some (ds,e2,C2)=>some (d::ds,e2,C2)
  |none=>none
 |none=>none
theorem Res.arg{K:aG}{Z Θ:List aa}{env:En}{C:Ce}{σ:St}{H H':Hp}{r:Vl}{v:V}(h:Res K Z Θ env C σ H H' r v):Sm K Z Θ env C σ H'∧uF K (er (aR Z Θ env σ) H') Θ (L2.still r) v:=by
 have g:=h.still;cases r with
 |im d=>exact g
 |ow d=>exact g
 |ce n=>exact g
 |sc ns=>exact g
theorem yu.same(s:bh E E')(t:bh T T')(h:yu E T ds vs):yu E' T' ds vs:=by
 induction h with
 |nil=>exact .nil
 |cons a _ ih=>exact .cons (a.same s t) ih
section
variable{X:Cx}{e:Expr}{es:List Expr}{pos:Pos}
theorem aU:PA X [] (wQ X.K aNil):=qH.weak fun σ H Q aK=>by
 obtain⟨Z,Θ,env,C,xs,env',C',S,hf,q⟩:=aK
 cases hf;exact q [] H (aQ.refl _ _) (Fz.refl _) S .nil
theorem aC{f:FE}{g:FA}(h:PE X e (tE X.K f))(hr:PA X es (wQ X.K g))(hs:aZ (e::es) X.env=(false,eval e X.env)::aZ es X.env:=by rfl):PA X (e::es) (wQ X.K (aCons f g)):=(nG h hr hs).weak fun σ H Q aK=>by
 obtain⟨Z,Θ,env,C,xs,env',C',S,hf,q⟩:=aK
 unfold aCons at hf;split at hf
 ·rename_i r e1 C1 h1;split at hf
  ·rename_i ys e2 C2 h2;cases hf
   refine⟨Z,Θ,env,C,r,e1,C1,S,h1,fun v H1 k1 f1 R1=>?_⟩
   obtain⟨S1,a1⟩:=R1.arg
   exact⟨Z,Θ,e1,C1,ys,env',C',S1,h2,fun vs H2 k2 f2 S2 a2=>q _ H2 (k1.trans k2) (f1.trans f2) S2 (.cons (a1.same (Ru S1 k2 f2)) a2)⟩
  ·cases hf
 ·cases hf
theorem eO:PA X [] (uX X.K bNil):=qH.weak fun σ H Q aK=>by
 obtain⟨Z,Θ,env,C,xs,env',C',S,hf,q⟩:=aK
 cases hf;exact q [] H (aQ.refl _ _) (Fz.refl _) S .nil
theorem dg(h:PE X e (dH X.K f))(hr:PA X es (uX X.K g))(hs:aZ (e::es) X.env=(false,eval e X.env)::aZ es X.env:=by rfl):PA X (e::es) (uX X.K (bCons f g)):=(nG h hr hs).weak fun σ H Q aK=>by
 obtain⟨Z,Θ,env,C,xs,env',C',S,hf,q⟩:=aK
 unfold bCons at hf;split at hf
 ·rename_i d e1 C1 h1;split at hf
  ·rename_i ys e2 C2 h2;cases hf
   exact⟨Z,Θ,env,C,d,e1,C1,S,h1,fun v H1 k1 f1 S1 b1=>⟨Z,Θ,e1,C1,ys,env',C',S1,h2,fun vs H2 k2 f2 S2 b2=>q _ H2 (k1.trans k2) (f1.trans f2) S2 (.cons (b1.go S1 k2 f2) b2)⟩⟩
  ·cases hf
 ·cases hf
end
def allIm:List Vl→Option (List aj)
 |[]=>some []
 |.im d::r=>match allIm r with
  |some ds=>some (d::ds)
  |none=>none
 |_=>none
theorem Oz{K:aG}{E:Hp}{Θ:List aa}:∀{xs:List Vl}{ds:List aj}{vs:List V},allIm xs=some ds→pX K E Θ xs vs→cz E ds vs
 |[],ds,vs,h,a=>by cases h;cases a;rfl
 |.im d::r,ds,vs,h,a=>by
  unfold allIm at h;split at h
  ·rename_i t ht;cases h;cases a with
   |cons a1 a2=>exact⟨_,_,rfl,a1,Oz ht a2⟩
  ·cases h
 |.ow _::r,ds,vs,h,a=>by cases h
 |.ce _::r,ds,vs,h,a=>by cases h
 |.sc _::r,ds,vs,h,a=>by cases h
def fLst(g:FA):FE:=fun env C=>match g env C with
 |some (xs,e',C')=>match allIm xs with
  |some ds=>if ds.length≤LIM then some (.ow (.list ds),e',C') else none
  |none=>none
 |none=>none
def fTup(g:FA):FE:=fun env C=>match g env C with
 |some (xs,e',C')=>match allIm xs with
  |some ds=>if ds.length≤LIM then some (.im (.tuple ds),e',C') else none
  |none=>none
 |none=>none
section
variable{X:Cx}{e:Expr}{es:List Expr}{pos:Pos}
theorem jC{g:FA}(h:PA X es (wQ X.K g)):PE X (.List es pos) (tE X.K (fLst g)):=(ajo h).weak fun σ H Q aK=>by
 obtain⟨Z,Θ,env,C,r,env',C',S,hf,q⟩:=aK
 unfold fLst at hf;split at hf
 ·rename_i xs e1 C1 h1;split at hf
  ·rename_i ds hd;split at hf
   ·rename_i hl;cases hf
    refine⟨Z,Θ,env,C,xs,env',C',S,h1,fun vs H1 k1 f1 S1 a1=>?_⟩
    have r:=Oz hd a1
    exact⟨by rw[gU r];exact sy hl,fun p hp=>q _ _ (k1.trans (aQ.upd hp)) f1 ((zR S1 r hp).from k1)⟩
   ·cases hf
  ·cases hf
 ·cases hf
theorem kO{x1}{g:FA}(h:PA X es (wQ X.K g)):PE X (.Tuple es x1 pos) (tE X.K (fTup g)):=(QJ h).weak fun σ H Q aK=>by
 obtain⟨Z,Θ,env,C,r,env',C',S,hf,q⟩:=aK
 unfold fTup at hf;split at hf
 ·rename_i xs e1 C1 h1;split at hf
  ·rename_i ds hd;split at hf
   ·rename_i hl;cases hf
    refine⟨Z,Θ,env,C,xs,env',C',S,h1,fun vs H1 k1 f1 S1 a1=>?_⟩
    have r:=Oz hd a1
    exact⟨by rw[gU r];exact sy hl,fun p hp=>q _ _ (k1.trans (aQ.upd hp)) f1 ((Jc S1 r hp).from k1)⟩
   ·cases hf
  ·cases hf
 ·cases hf
def Dr:FE:=fun env C=>some (.ow (.dict []),env,C)
theorem Yb:PE X (.Dict [] [] pos) (tE X.K Dr):=agW.weak fun σ H Q aK=>by
 obtain⟨Z,Θ,env,C,r,env',C',S,hf,q⟩:=aK
 cases hf;exact fun p hp=>q _ _ (aQ.upd hp) (Fz.refl _) (air (vs:=[]) S (fun _ z=>nomatch z) (.inl ⟨[],rfl,eN⟩) rfl hp)
end
def qm(K:aG)(r:List V→Hp→VK→Prop)(op:List aj→Option Vl):Prop:=
 ∀(Z Θ:List aa)(env:En)(C:Ce)(σ:St)(H:Hp)(xs:List V)(ds:List aj)(res:Vl),Sm K Z Θ env C σ H→JC Z Θ env σ H ds xs→op ds=some res→
  ∀Q:VK,(∀v H',aQ Θ H H'→Res K Z Θ env C σ H H' res v→Q v H')→r xs H Q
def fFun(op:List aj→Option Vl)(g:wO):FE:=fun env C=>match g env C with
 |some (ds,e',C')=>match op ds with
  |some r=>some (r,rst r env e',C')
  |none=>none
 |none=>none
theorem Yc{K:aG}{r:List V→Hp→VK→Prop}{op:List aj→Option Vl}(L:qm K r op){g:wO}:∀σ H Q,tE K (fFun op g) σ H Q→SM r (uX K g) σ H Q:=by
 rintro σ H Q ⟨Z,Θ,env,C,res,env',C',S,hf,q⟩;unfold fFun at hf;split at hf
 ·rename_i ds e1 C1 h1;split at hf
  ·rename_i r0 h2;cases hf
   refine⟨Z,Θ,env,C,ds,e1,C',S,h1,fun vs H1 k1 f1 S1 b1=>L Z Θ e1 C' σ H1 vs ds res S1 b1 h2 Q fun z H2 k2 R=>?_⟩
   exact q z H2 (k1.trans k2) (f1.rst res) ((R.from k1).rst S (k1.trans k2))
  ·cases hf
 ·cases hf
section
variable{X:Cx}{x:Str}{p pos:Pos}{e:Expr}{es:List Expr}{g:wO}{id T:String}{r:List V→Hp→VK→Prop}{op:List aj→Option Vl}
theorem gF(hc:jw X (.builtin id) r)(L:qm X.K r op)(hg:Gl X x)(hm:X.mg x=none)(hv:rR x=some (.builtin id))(ha:PA X (e::es) (uX X.K g))(hn:x≠"__name__":=by decide)(hdb:(x==("__debug__":Str))=false:=by decide)
  (he:aZ (e::es) X.env=(false,eval e X.env)::aZ es X.env:=by rfl)(hpl:(gm pos (aZ es X.env)).any (·.1)=false:=by rfl):PE X (.Call (.Name x p) (e::es) [] pos) (tE X.K (fFun op g)):=(Ia hc hg hm hv ha hn hdb he hpl).weak (Yc L)
theorem zN(hc:jw X (.type T) r)(L:qm X.K r op)(hg:Gl X x)(hm:X.mg x=none)(hv:rR x=some (.type T))(ha:PA X (e::es) (uX X.K g))(hn:x≠"__name__":=by decide)(hdb:(x==("__debug__":Str))=false:=by decide)
  (he:aZ (e::es) X.env=(false,eval e X.env)::aZ es X.env:=by rfl)(hpl:(gm pos (aZ es X.env)).any (·.1)=false:=by rfl):PE X (.Call (.Name x p) (e::es) [] pos) (tE X.K (fFun op g)):=(af1 hc hg hm hv ha hn hdb he hpl).weak (Yc L)
end
abbrev FN:=List Vl→Ce→Option (Vl×Ce)
def spT(K:aG)(f:FN):Sp:=fun vs H Q _=>∃Z Θ C xs r C',Sm K Z Θ [] C [] H∧pX K (er (aR Z Θ [] []) H) Θ xs vs∧f xs C=some (r,C')∧
 ∀v H',aQ Θ H H'→Res K Z Θ [] C' [] H H' r v→Q v H'
def fCal(f:FN)(g:FA):FE:=fun env C=>match g env C with
 |some (xs,e',C1)=>match f xs C1 with
  |some (r,C2)=>some (r,rst r env e',C2)
  |none=>none
 |none=>none
theorem qM(h:∀a,a∈P↔a∈P'):er P H=er P' H:=by
 funext b;unfold er;by_cases hb:b∈P
 ·rw[if_pos hb,if_pos ((h b).mp hb)]
 ·rw[if_neg hb,if_neg (fun z=>hb ((h b).mpr z))]
theorem Qa(a:aa):a∈aR (Z++bD env σ) Θ [] []↔a∈aR Z Θ env σ:=by
 simp only[aR,bD,cR,ju];constructor
 ·rintro((h|h)|h)
  ·exact .inl h
  ·exact .inr (.inr h)
  ·exact .inr (.inl h)
 ·rintro(h|h|h)
  ·exact .inl (.inl h)
  ·exact .inr h
  ·exact .inl (.inr h)
section
variable{K:aG}{Z Θ:List aa}{env:En}{C C':Ce}{σ:St}{H H':Hp}{a:aa}
theorem Sm.yg(S:Sm K Z Θ env C σ H)(ha:H a=none)(k:aQ Θ H H')(h':NT (H' a))(c:nJ Θ C' H'):Sm K (a::Z) Θ env C' σ H':=by
 have sm:bh (er (aR Z Θ env σ) H) (er (aR (a::Z) Θ env σ) H'):=j9 k S.qj fun b m=>by
  rcases bU.mp m with rfl|m
  ·exact .inr ha
  ·exact .inl m
 refine⟨S.len,iR.mpr ⟨fun m=>S.yt a m ha,S.nd⟩,fun b m=>?_,fun i x e=>?_,c⟩
 ·rcases bU.mp m with rfl|m
  ·exact h'
  ·obtain⟨u,e,n⟩:=S.dom b m
   exact⟨u,k.keep _ _ e fun z=>by
    have h:=S.nd;rw[j5] at h;exact h.2.2 b m b (gB _ z) rfl,n⟩
 ·obtain⟨v,e1,r⟩:=S.slot i x e
  refine⟨v,e1,r.same sm fun d b ex ev o' ho=>k.keep _ _ ho ?_⟩
  subst ex ev
  exact(S.mW (lZ.mpr ⟨i,d,e,e1⟩)).2
theorem Sm.bare(S:Sm K Z Θ env C σ H):Sm K (Z++bD env σ) Θ [] C [] H:=by
 refine⟨rfl,?_,fun b m=>?_,fun i x e=>by simp at e,S.cell⟩
 ·have h:=S.nd
  show((Z++bD env σ)++(Θ++[])).Nodup
  rw[ju,kI];have p:(Z++(Θ++bD env σ)).Perm (Z++(bD env σ++Θ)):=acW Z List.perm_append_comm;exact p.nodup h
 ·rcases cR.mp m with m|m
  ·exact S.dom b m
  ·exact S.Kc b (dY _ (dY _ m))
theorem Res.back(S:Sm K Z Θ env C σ H)(k:aQ Θ H H')(h:Res K (Z++bD env σ) Θ [] C' [] H H' r v):Res K Z Θ env C' σ H H' r v:=by
 have e1:er (aR (Z++bD env σ) Θ [] []) H'=er (aR Z Θ env σ) H':=qM Qa;cases r with
 |im d=>
  obtain⟨S',r⟩:=h
  rw[e1] at r
  exact⟨S.go k S'.cell,r⟩
 |ow d=>
  obtain⟨a,rfl,hn,S',r⟩:=h
  have e2:er (aR (a::(Z++bD env σ)) Θ [] []) H'=er (aR (a::Z) Θ env σ) H':=qM fun b=>by
   show b∈a::aR (Z++bD env σ) Θ [] []↔b∈a::aR Z Θ env σ;rw[bU,bU,Qa]
  rw[e2] at r
  exact⟨a,rfl,hn,S.yg hn k (S'.dom a dG) S'.cell,r⟩
 |ce n=>exact⟨S.go k h.1.cell,h.2⟩
 |sc ns=>
  obtain⟨S',a,rfl,q⟩:=h
  rw[e1] at q
  exact⟨S.go k S'.cell,a,rfl,q⟩
end
section
variable{X:Cx}{x:Str}{k:Nat}{ps:List Str}{p pos:Pos}{e:Expr}{es:List Expr}{f:FN}{g:FA}
theorem ahg{K:aG}:∀σ H Q,tE K (fCal f g) σ H Q→Rn (spT K f) [] E0 (wQ K g) σ H Q:=by
 rintro σ H Q ⟨Z,Θ,env,C,res,env',C',S,hf,q⟩;unfold fCal at hf;split at hf
 ·rename_i xs e1 C1 h1;split at hf
  ·rename_i r C2 h2;cases hf
   refine⟨Z,Θ,env,C,xs,e1,C1,S,h1,fun vs H1 k1 f1 S1 a1=>?_⟩
   show spT K f (vs++[]) H1 Q E0;rw[ju];have e2:er (aR (Z++bD e1 σ) Θ [] []) H1=er (aR Z Θ e1 σ) H1:=qM Qa;rw[←e2] at a1
   exact⟨Z++bD e1 σ,Θ,C1,xs,res,C',S1.bare,a1,h2,fun v H2 k2 R=>q v H2 (k1.trans k2) (f1.rst res) (((R.back S1 k2).from k1).rst S (k1.trans k2))⟩
  ·cases hf
 ·cases hf
theorem bG(F:cX X.prog X.w X.K X.mg X.base x k ps (spT X.K f))(hr:gZ k X.A)(hg:Gl X x)(ha:PA X (e::es) (wQ X.K g))(hdb:(x==("__debug__":Str))=false:=by decide)
  (he:aZ (e::es) X.env=(false,eval e X.env)::aZ es X.env:=by rfl)(hpl:(gm pos (aZ es X.env)).any (·.1)=false:=by rfl):PE X (.Call (.Name x p) (e::es) [] pos) (tE X.K (fCal f g)):=(akN F hr hg ha hdb he hpl).weak ahg
end
theorem N5:∀{env:En}{σ:St},(∀(i j:Nat)(d e:aj)(a:aa),env[i]?=some (some (Vl.ow d))→σ[i]?=some (some (V.ref a))→env[j]?=some (some (Vl.ow e))→σ[j]?=some (some (V.ref a))→i=j)→(bD env σ).Nodup
 |[],σ,_=>by cases σ<;>exact lC
 |_::_,[],_=>lC
 |x::en,v::s,h=>by
  rw[bD,j5]
  refine⟨?_,N5 fun i j d e a h1 h2 h3 h4=>?_,fun a ha b hb e=>?_⟩
  ·unfold own1;split
   ·exact iR.mpr ⟨by simp,lC⟩
   ·exact lC
  ·have:=h (i+1) (j+1) d e a (by simpa using h1) (by simpa using h2) (by simpa using h3) (by simpa using h4);omega
  ·subst e;unfold own1 at ha;split at ha
   ·rw[jf] at ha;subst ha
    obtain⟨j,d,h1,h2⟩:=lZ.mp hb
    have:=h 0 (j+1) _ d a rfl rfl (by simpa using h1) (by simpa using h2);omega
   ·simp at ha
theorem get_set{α:Type}{l:List α}{i j:Nat}{x y:α}(h:(l.set i x)[j]?=some y):(j=i∧y=x∧i<l.length)∨(j≠i∧l[j]?=some y):=by
 by_cases e:i=j
 ·subst e;rw[Bm,if_pos rfl] at h;split at h
  ·rename_i hl;cases h;exact .inl ⟨rfl,rfl,hl⟩
  ·cases h
 ·rw[yP e] at h;exact .inr ⟨fun z=>e z.symm,h⟩
theorem Zq{α:Type}{l:List α}{i:Nat}{x:α}(h:i<l.length):(l.set i x)[i]?=some x:=by
 rw[Bm,if_pos rfl,if_pos h]
theorem vL{env:En}{σ:St}{i:Nat}{x:Vl}{v:V}{a:aa}(h:a∈bD (env.set i (some x)) (σ.set i (some v))):a∈bD env σ∨(∃d,x=.ow d)∧v=.ref a:=by
 obtain⟨j,d,h1,h2⟩:=lZ.mp h
 rcases get_set h1 with⟨rfl,e,_⟩|⟨n,h1⟩
 ·rcases get_set h2 with⟨_,e2,_⟩|⟨n,_⟩
  ·cases e;cases e2;exact .inr ⟨⟨d,rfl⟩,rfl⟩
  ·exact absurd rfl n
 ·rcases get_set h2 with⟨e,_,_⟩|⟨_,h2⟩
  ·exact absurd e n
  ·exact .inl (lZ.mpr ⟨j,d,h1,h2⟩)
section
variable{K:aG}{Z Θ:List aa}{env:En}{C:Ce}{σ:St}{H:Hp}{a:aa}{i:Nat}{v:V}
theorem Sm.cZ(S:Sm K Z Θ env C σ H):Z.Nodup∧Θ.Nodup∧(bD env σ).Nodup∧(∀b∈Z,b∉Θ):=by
 have h:=S.nd;rw[j5,j5] at h
 obtain⟨h1,⟨h2,h3,_⟩,h4⟩:=h
 exact⟨h1,h2,h3,fun b m m'=>h4 b m b (gB _ m') rfl⟩
theorem yJ(h1:Z.Nodup)(h2:Θ.Nodup)(h3:O.Nodup)(h4:∀b∈Z,b∉Θ)(h5:∀b∈O,b∉Z∧b∉Θ):(Z++(Θ++O)).Nodup:=by
 rw[j5,j5]
 refine⟨h1,⟨h2,h3,fun b m c m' e=>?_⟩,fun b m c m' e=>?_⟩
 ·subst e;exact(h5 b m').2 m
 ·subst e;rcases cR.mp m' with m'|m'
  ·exact h4 b m m'
  ·exact(h5 b m').1 m
theorem Sm.yx(S:Sm K Z Θ env C σ H){x:Vl}(hx:∀d,x≠.ow d)(r:Ao K (er (aR Z Θ env σ) H) H Θ x v):Sm K Z Θ (env.set i (some x)) C (σ.set i (some v)) H:=by
 have sub:∀b,b∈bD (env.set i (some x)) (σ.set i (some v))→b∈bD env σ:=fun b m=>by
  rcases vL m with m|⟨⟨d,e⟩,_⟩
  ·exact m
  ·exact absurd e (hx d)
 have cZ:=S.cZ;have sm:bh (er (aR Z Θ env σ) H) (er (aR Z Θ (env.set i (some x)) (σ.set i (some v))) H):=sJ fun b m=>by
  rcases cR.mp m with m|m
  ·exact gB _ m
  ·rcases cR.mp m with m|m
   ·exact dY _ (gB _ m)
   ·exact dY _ (dY _ (sub b m))
 refine⟨by rw[vo,vo];exact S.len,?_,S.dom,fun j y e=>?_,S.cell⟩
 ·refine yJ cZ.1 cZ.2.1 (N5 fun p q d e b h1 h2 h3 h4=>?_) cZ.2.2.2 fun b m=>S.mW (sub b m)
  rcases get_set h1 with⟨rfl,e1,_⟩|⟨n1,h1⟩
  ·cases e1;exact absurd rfl (hx d)
  ·rcases get_set h3 with⟨rfl,e1,_⟩|⟨n2,h3⟩
   ·cases e1;exact absurd rfl (hx e)
   ·rcases get_set h2 with⟨e2,_,_⟩|⟨_,h2⟩
    ·exact absurd e2 n1
    ·rcases get_set h4 with⟨e4,_,_⟩|⟨_,h4⟩
     ·exact absurd e4 n2
     ·exact CN cZ.2.2.1 h1 h2 h3 h4
 ·rcases get_set e with⟨rfl,e1,hl⟩|⟨n,e⟩
  ·cases e1
   exact⟨v,Zq (by rw[S.len];exact hl),r.same sm fun d b ex _=>absurd ex (hx d)⟩
  ·obtain⟨u,e1,r1⟩:=S.slot j y e
   exact⟨u,by rw[yP (jQ n)];exact e1,r1.same sm fun _ _ _ _ _ h=>h⟩
theorem Sm.abB(S:Sm K (a::Z) Θ env C σ H){d:aj}(r:jV (er (aR (a::Z) Θ env σ) H) H a d):Sm K Z Θ (env.set i (some (.ow d))) C (σ.set i (some (.ref a))) H:=by
 have sub:∀b,b∈bD (env.set i (some (.ow d))) (σ.set i (some (.ref a)))→b∈bD env σ∨b=a:=fun b m=>by
  rcases vL m with m|⟨_,e⟩
  ·exact .inl m
  ·cases e;exact .inr rfl
 have cZ:=S.cZ;have Fe:=iR.mp cZ.1;have sm:bh (er (aR (a::Z) Θ env σ) H) (er (aR Z Θ (env.set i (some (.ow d))) (σ.set i (some (.ref a)))) H):=sJ fun b m=>by
  rcases cR.mp m with m|m
  ·exact gB _ (dN _ m)
  ·rcases cR.mp m with m|m
   ·exact dY _ (gB _ m)
   ·rcases sub b m with m|rfl
    ·exact dY _ (dY _ m)
    ·exact gB _ dG
 have abC:a∉bD env σ:=fun m=>(S.mW m).1 dG
 refine⟨by rw[vo,vo];exact S.len,?_,fun b m=>S.dom b (dN _ m),fun j y e=>?_,S.cell⟩
 ·refine yJ Fe.2 cZ.2.1 (N5 fun p q d1 e b h1 h2 h3 h4=>?_) (fun b m=>cZ.2.2.2 b (dN _ m)) fun b m=>?_
  ·rcases get_set h1 with⟨rfl,e1,_⟩|⟨n1,h1⟩
   ·rcases get_set h3 with⟨e3,_,_⟩|⟨n2,h3⟩
    ·exact e3.symm
    ·rcases get_set h2 with⟨_,e2,_⟩|⟨n,_⟩
     ·cases e2;rcases get_set h4 with⟨e4,_,_⟩|⟨_,h4⟩
      ·exact e4.symm
      ·exact absurd (lZ.mpr ⟨q,e,h3,h4⟩) abC
     ·exact absurd rfl n
   ·rcases get_set h2 with⟨e2,_,_⟩|⟨_,h2'⟩
    ·exact absurd e2 n1
    ·have mp:=lZ.mpr ⟨p,d1,h1,h2'⟩;rcases get_set h3 with⟨rfl,e3,_⟩|⟨n2,h3⟩
     ·rcases get_set h4 with⟨_,e4,_⟩|⟨n,_⟩
      ·cases e4;exact absurd mp abC
      ·exact absurd rfl n
     ·rcases get_set h4 with⟨e4,_,_⟩|⟨_,h4⟩
      ·exact absurd e4 n2
      ·exact CN cZ.2.2.1 h1 h2' h3 h4
  ·rcases sub b m with m|rfl
   ·obtain⟨p,q⟩:=S.mW m
    exact⟨fun z=>p (dN _ z),q⟩
   ·exact⟨Fe.1,cZ.2.2.2 b dG⟩
 ·rcases get_set e with⟨rfl,e1,hl⟩|⟨n,e⟩
  ·cases e1
   exact⟨_,Zq (by rw[S.len];exact hl),a,rfl,r.same sm fun _ h=>h⟩
  ·obtain⟨u,e1,r1⟩:=S.slot j y e
   exact⟨u,by rw[yP (jQ n)];exact e1,r1.same sm fun _ _ _ _ _ h=>h⟩
theorem Res.set(h:Res K Z Θ env C σ H0 H r v):Sm K Z Θ (env.set i (some r)) C (σ.set i (some v)) H:=by
 cases r with
 |im d=>exact h.1.yx (fun _ e=>nomatch e) h.2
 |ow d=>obtain⟨a,rfl,_,S,r⟩:=h;exact S.abB r
 |ce n=>exact h.1.yx (fun _ e=>nomatch e) h.2
 |sc ns=>exact h.1.yx (fun _ e=>nomatch e) h.2
end
inductive Fl where
 |nx|rt (r:Vl)|bk|ct
abbrev FS:=En→Ce→Option (Fl×En×Ce)
structure jK(Θ Θ':List aa)(H:Hp):Prop where
 ex:∃Δ,Θ'=Θ++Δ∧∀a∈Δ,H a=none
theorem jK.refl(Θ:List aa)(H:Hp):jK Θ Θ H:=⟨[],by rw[ju],fun _ m=>nomatch m⟩
structure dI(K:aG)(Z Θ:List aa)(env:En)(σ:St)(H:Hp)(Θ':List aa)(env':En)(C':Ce)(σ':St)(H':Hp):Prop where
 th:jK Θ Θ' H
 kp:aQ (Θ++bD env σ) H H'
 own:∀a∈bD env' σ',a∈bD env σ∨H a=none
 sm:Sm K Z Θ' env' C' σ' H'
def JF(K:aG)(Z Θ:List aa)(C:Ce)(own:List aa)(H H':Hp):Vl→V→Prop
 |.im d,v=>Sm K Z Θ [] C [] H'∧RZ (er (aR Z Θ [] []) H') d v
 |.ow d,v=>∃a,v=.ref a∧(a∈own∨H a=none)∧Sm K (a::Z) Θ [] C [] H'∧jV (er (aR (a::Z) Θ [] []) H') H' a d
 |.ce n,v=>Sm K Z Θ [] C [] H'∧∃a,v=.ref a∧Θ[n]?=some a
 |.sc ns,v=>Sm K Z Θ [] C [] H'∧∃a,v=.ref a∧bK K (er (aR Z Θ [] []) H') a (ns.map V.int)
structure Tf(K:aG)(Z Θ:List aa)(env:En)(σ:St)(H:Hp)(Θ':List aa)(C':Ce)(r:Vl)(v:V)(H':Hp):Prop where
 th:jK Θ Θ' H
 kp:aQ (Θ++bD env σ) H H'
 ok:JF K Z Θ' C' (bD env σ) H H' r v
def JP(K:aG)(Z Θ:List aa)(env:En)(σ:St)(H:Hp)(env':En)(C':Ce)(D:Ends):Fl→Prop
 |.nx=>∀Θ' σ' H',dI K Z Θ env σ H Θ' env' C' σ' H'→D.nx σ' H'
 |.bk=>∀Θ' σ' H',dI K Z Θ env σ H Θ' env' C' σ' H'→D.bk σ' H'
 |.ct=>∀Θ' σ' H',dI K Z Θ env σ H Θ' env' C' σ' H'→D.ct σ' H'
 |.rt r=>∀Θ' v H',Tf K Z Θ env σ H Θ' C' r v H'→D.rt v H'
inductive tS(K:aG)(f:FS)(D:Ends)(σ:St)(H:Hp):Prop
 |mk (Z Θ:List aa) (env:En) (C:Ce) (fl:Fl) (env':En) (C':Ce) (S:Sm K Z Θ env C σ H) (hf:f env C=some (fl,env',C')) (q:JP K Z Θ env σ H env' C' D fl):tS K f D σ H
section
variable{K:aG}{Z Θ Θ1 Θ2:List aa}{env e1 e2:En}{C C1 C2:Ce}{σ σ1 σ2:St}{H H1 H2:Hp}
theorem jK.trans(h:jK Θ Θ1 H)(k:∀a,H a≠none→H1 a≠none)(g:jK Θ1 Θ2 H1):jK Θ Θ2 H:=by
 obtain⟨Δ,e,n⟩:=h.ex
 obtain⟨Δ',e',n'⟩:=g.ex
 refine⟨Δ++Δ',by rw[e',e,kI],fun a m=>?_⟩
 rcases cR.mp m with m|m
 ·exact n a m
 ·cases h:H a with
  |none=>rfl
  |some o=>exact absurd (n' a m) (k a (by rw[h];exact vh _))
theorem Yd(th:jK Θ Θ1 H)(k1:aQ (Θ++bD env σ) H H1)(ow:∀a∈bD e1 σ1,a∈bD env σ∨H a=none)(k2:aQ (Θ1++bD e1 σ1) H1 H2):aQ (Θ++bD env σ) H H2:=by
 refine⟨fun a o e n=>k2.keep a o (k1.keep a o e n) fun m=>n ?_,fun a e=>k2.dom a (k1.dom a e)⟩
 have hn:H a≠none:=by rw[e];exact vh _
 rcases cR.mp m with m|m
 ·obtain⟨Δ,e',n'⟩:=th.ex
  rw[e'] at m;rcases cR.mp m with m|m
  ·exact gB _ m
  ·exact absurd (n' a m) hn
 ·rcases ow a m with m|m
  ·exact dY _ m
  ·exact absurd m hn
theorem dI.trans(p:dI K Z Θ env σ H Θ1 e1 C1 σ1 H1)(q:dI K Z Θ1 e1 σ1 H1 Θ2 e2 C2 σ2 H2):dI K Z Θ env σ H Θ2 e2 C2 σ2 H2 where
 th:=p.th.trans p.kp.dom q.th
 kp:=Yd p.th p.kp p.own q.kp
 own:=fun a m=>by
  rcases q.own a m with m|m
  ·exact p.own a m
  ·exact .inr (p.kp.none m)
 sm:=q.sm
theorem dI.ret(p:dI K Z Θ env σ H Θ1 e1 C1 σ1 H1)(q:Tf K Z Θ1 e1 σ1 H1 Θ2 C2 r v H2):Tf K Z Θ env σ H Θ2 C2 r v H2 where
 th:=p.th.trans p.kp.dom q.th
 kp:=Yd p.th p.kp p.own q.kp
 ok:=by
  have h:=q.ok;cases r with
  |im d=>exact h
  |ow d=>
   obtain⟨a,e,m,S,r⟩:=h
   refine⟨a,e,?_,S,r⟩
   rcases m with m|m
   ·exact p.own a m
   ·exact .inr (p.kp.none m)
  |ce n=>exact h
  |sc ns=>exact h
theorem JP.trans(p:dI K Z Θ env σ H Θ1 e1 C1 σ1 H1)(h:JP K Z Θ env σ H e2 C2 D fl):JP K Z Θ1 e1 σ1 H1 e2 C2 D fl:=by
 cases fl with
 |nx=>exact fun Θ' σ' H' q=>h Θ' σ' H' (p.trans q)
 |bk=>exact fun Θ' σ' H' q=>h Θ' σ' H' (p.trans q)
 |ct=>exact fun Θ' σ' H' q=>h Θ' σ' H' (p.trans q)
 |rt r=>exact fun Θ' v H' q=>h Θ' v H' (p.ret q)
theorem uw(k:aQ Θ H H1):aQ (Θ++O) H H1:=⟨fun a o e n=>k.keep a o e fun m=>n (gB _ m),k.dom⟩
theorem dI.rE(k:aQ Θ H H1)(f:Fz env e1)(S:Sm K Z Θ e1 C1 σ H1):dI K Z Θ env σ H Θ e1 C1 σ H1:=
 ⟨jK.refl _ _,uw k,fun a m=>.inl (f.own.subset m),S⟩
end
def fNext:FS:=fun env C=>some (.nx,env,C)
def fSeq(f g:FS):FS:=fun env C=>match f env C with
 |some (.nx,e1,C1)=>g e1 C1
 |r=>r
def gK(c:FT)(f g:FS):FS:=fun env C=>match c env C with
 |some (true,C1)=>f env C1
 |some (false,C1)=>g env C1
 |none=>none
def fRet(f:FE):FS:=fun env C=>match f env C with
 |some (r,e1,C1)=>some (.rt r,e1,C1)
 |none=>none
def fRetV(i:Nat):FS:=fun env C=>match env[i]? with
 |some (some x)=>some (.rt x,env,C)
 |_=>none
def fSet(i:Nat)(f:FE):FS:=fun env C=>match f env C with
 |some (r,e1,C1)=>some (.nx,e1.set i (some r),C1)
 |none=>none
section
variable{X:Cx}{st:cU}{rest:List cU}{pos:Pos}
theorem dI.same{K:aG}{Z Θ:List aa}{env:En}{C:Ce}{σ:St}{H:Hp}(S:Sm K Z Θ env C σ H):dI K Z Θ env σ H Θ env C σ H:=dI.rE (aQ.refl _ _) (Fz.refl _) S
theorem jD:iK X [] (tS X.K fNext):=ahV.weak fun D σ H aK=>by
 obtain⟨Z,Θ,env,C,fl,env',C',S,hf,q⟩:=aK
 cases hf;exact q Θ σ H (dI.same S)
theorem bZ(h:PS X st (tS X.K f)):iK X [st] (tS X.K f):=ahW h
theorem ahh{K:aG}{f g:FS}:∀D σ H,tS K (fSeq f g) D σ H→abb (tS K f) (tS K g) D σ H:=by
 rintro D σ H ⟨Z,Θ,env,C,fl,env',C',S,hf,q⟩;unfold fSeq at hf;split at hf
 ·rename_i e1 C1 h1
  exact⟨Z,Θ,env,C,.nx,e1,C1,S,h1,fun Θ1 σ1 H1 p=>⟨Z,Θ1,e1,C1,fl,env',C',p.sm,hf,q.trans p⟩⟩
 ·rename_i hne
  refine⟨Z,Θ,env,C,fl,env',C',S,hf,?_⟩
  cases fl with
  |nx=>exact absurd hf (hne _ _)
  |bk=>exact q
  |ct=>exact q
  |rt r=>exact q
theorem bC(h:PS X st (tS X.K f))(hr:iK X rest (tS X.K g)):iK X (st::rest) (tS X.K (fSeq f g)):=(agP h hr).weak ahh
theorem jH(hc:PT X c (eX X.K t))(ha:iK X a (tS X.K f))(hb:iK X b (tS X.K g)):PS X (.If c a b pos) (tS X.K (gK t f g)):=(akv hc ha hb).weak fun D σ H aK=>by
 obtain⟨Z,Θ,env,C,fl,env',C',S,hf,q⟩:=aK
 unfold gK at hf;split at hf
 ·rename_i C1 h1
  exact⟨Z,Θ,env,C,true,C1,S,h1,fun H1 k1 S1=>wj ⟨Z,Θ,env,C1,fl,env',C',S1,hf,q.trans (dI.rE k1 (Fz.refl _) S1)⟩⟩
 ·rename_i C1 h1
  exact⟨Z,Θ,env,C,false,C1,S,h1,fun H1 k1 S1=>wg ⟨Z,Θ,env,C1,fl,env',C',S1,hf,q.trans (dI.rE k1 (Fz.refl _) S1)⟩⟩
 ·cases hf
theorem Sm.none{K:aG}{Z Θ:List aa}{env:En}{C:Ce}{σ:St}{H:Hp}(S:Sm K Z Θ env C σ H):Sm K Z Θ [] C [] H:=by
 have cZ:=S.cZ
 exact⟨rfl,yJ cZ.1 cZ.2.1 lC cZ.2.2.2 (fun _ m=>nomatch m),S.dom,fun i x e=>by simp at e,S.cell⟩
theorem Cr:bh (er (aR Z Θ env σ) H) (er (aR Z Θ [] []) H):=sJ fun b m=>by
 rcases cR.mp m with m|m
 ·exact gB _ m
 ·rcases cR.mp m with m|m
  ·exact dY _ (gB _ m)
  ·nomatch m
theorem Res.ret{K:aG}{Z Θ:List aa}{env:En}{C:Ce}{σ:St}{H H':Hp}{O:List aa}{r:Vl}{v:V}(h:Res K Z Θ env C σ H H' r v):JF K Z Θ C O H H' r v:=by
 cases r with
 |im d=>exact⟨h.1.none,h.2.same Cr⟩
 |ow d=>obtain⟨a,e,n,S,r⟩:=h;exact⟨a,e,.inr n,S.none,r.same Cr fun _ h=>h⟩
 |ce n=>exact⟨h.1.none,h.2⟩
 |sc ns=>obtain⟨S,a,e,q⟩:=h;exact⟨S.none,a,e,Cr.seq q⟩
theorem gn(h:PE X e (tE X.K f)):PS X (.Return (some e) pos) (tS X.K (fRet f)):=(Z6 h).weak fun D σ H aK=>by
 obtain⟨Z,Θ,env,C,fl,env',C',S,hf,q⟩:=aK
 unfold fRet at hf;split at hf
 ·rename_i r e1 C1 h1;cases hf
  exact⟨Z,Θ,env,C,r,env',C',S,h1,fun v H1 k f R=>q Θ v H1 ⟨jK.refl _ _,uw k,R.ret⟩⟩
 ·cases hf
theorem sG(h:PE X e (qY i)):PS X (.Return (some e) pos) (tS X.K (fRetV i)):=(Z6 h).weak fun D σ H aK=>by
 obtain⟨Z,Θ,env,C,fl,env',C',S,hf,q⟩:=aK
 unfold fRetV at hf;split at hf
 ·rename_i x hx;cases hf
  obtain⟨v,e1,r⟩:=S.slot i x hx
  refine⟨v,e1,q Θ v H ⟨jK.refl _ _,aQ.refl _ _,?_⟩⟩
  cases x with
  |im d=>exact⟨S.none,RZ.same Cr r⟩
  |ow d=>
   obtain⟨a,rfl,r⟩:=r
   have m:a∈bD env σ:=lZ.mpr ⟨i,d,hx,e1⟩;have sm:bh (er (aR Z Θ env σ) H) (er (aR (a::Z) Θ [] []) H):=sJ fun b mb=>by
    rcases cR.mp mb with mb|mb
    ·rcases bU.mp mb with rfl|mb
     ·exact dY _ (dY _ m)
     ·exact gB _ mb
    ·rcases cR.mp mb with mb|mb
     ·exact dY _ (gB _ mb)
     ·nomatch mb
   have cZ:=S.cZ
   refine⟨a,rfl,.inl m,⟨rfl,yJ (iR.mpr ⟨(S.mW m).1,cZ.1⟩) cZ.2.1 lC (fun b mb=>?_) (fun _ m=>nomatch m),fun b mb=>?_,fun i x e=>by simp at e,S.cell⟩,r.same sm fun _ h=>h⟩
   ·rcases bU.mp mb with rfl|mb
    ·exact(S.mW m).2
    ·exact cZ.2.2.2 b mb
   ·rcases bU.mp mb with rfl|mb
    ·exact r.nt
    ·exact S.dom b mb
  |ce n=>exact⟨S.none,r⟩
  |sc ns=>obtain⟨a,e,q⟩:=r;exact⟨S.none,a,e,Cr.seq q⟩
 ·cases hf
theorem OD{K:aG}{i:Nat}{t:TE}{f:FE}(w:∀σ H Q,tE K f σ H Q→t σ H Q):∀D σ H,tS K (fSet i f) D σ H→Am t (vP i) D σ H:=by
 rintro D σ H ⟨Z,Θ,env,C,fl,env',C',S,hf,q⟩;unfold fSet at hf;split at hf
 ·rename_i r e1 C1 h1;cases hf;refine w _ _ _ ⟨Z,Θ,env,C,r,e1,C',S,h1,fun v H1 k f R=>q Θ _ H1 ⟨jK.refl _ _,uw k,fun a m=>?_,R.set⟩⟩;rcases vL m with m|⟨⟨d,e⟩,e2⟩
  ·exact .inl (f.own.subset m)
  ·subst e
   obtain⟨b,e3,n,_⟩:=R
   rw[e2] at e3;cases e3;exact .inr n
 ·cases hf
theorem dW(hN:X.N.Nodup)(hi:X.N[i]?=some x)(hx:Loc X.env.scope x)(he:PE X e (tE X.K f))(hs:uf e (some (.Name x pos')) pos.line X.env=pure false:=by rfl)(hf:X.fn x=true∨X.env.scope.names.lookup x=some .local:=by first|exact .inl rfl|exact .inr rfl|assumption):
  PS X (.Assign [.Name x pos'] e pos) (tS X.K (fSet i f)):=(Z7 hN hi hx he hs hf).weak (OD fun _ _ _ h=>h)
end
abbrev FG:=aj→En→Option En
abbrev Ff:=List aj→En→Option En
def Az(K:aG)(g:TG)(fg:FG):Prop:=∀(Z Θ:List aa)(env:En)(C:Ce)(σ:St)(H:Hp)(v:V)(d:aj)(env':En),Sm K Z Θ env C σ H→RZ (er (aR Z Θ env σ) H) d v→fg d env=some env'→
 ∀Q:St→Hp→Prop,(∀σ',Sm K Z Θ env' C σ' H→(∀a∈bD env' σ',a∈bD env σ)→Q σ' H)→g v σ H Q
def JQ(K:aG)(g:uU)(fg:Ff):Prop:=∀(Z Θ:List aa)(env:En)(C:Ce)(σ:St)(H:Hp)(vs:List V)(ds:List aj)(env':En),Sm K Z Θ env C σ H→cz (er (aR Z Θ env σ) H) ds vs→fg ds env=some env'→
 ∀Q:St→Hp→Prop,(∀σ',Sm K Z Θ env' C σ' H→(∀a∈bD env' σ',a∈bD env σ)→Q σ' H)→g vs σ H Q
def gNm(i:Nat):FG:=fun d env=>some (env.set i (some (.im d)))
def gsNil:Ff:=fun ds env=>match ds with
 |[]=>some env
 |_=>none
def gsCons(g:FG)(u:Ff):Ff:=fun ds env=>match ds with
 |d::r=>match g d env with
  |some e1=>u r e1
  |none=>none
 |[]=>none
def gTp(n:Nat)(u:Ff):FG:=fun d env=>match d with
 |.tuple ds=>if ds.length=n then u ds env else none
 |_=>none
theorem aap(h:∀a∈bD e1 σ1,a∈bD env σ):bh (er (aR Z Θ env σ) H) (er (aR Z Θ e1 σ1) H):=sJ fun b m=>by
 rcases cR.mp m with m|m
 ·exact gB _ m
 ·rcases cR.mp m with m|m
  ·exact dY _ (gB _ m)
  ·exact dY _ (dY _ (h b m))
section
variable{K:aG}
theorem jR:Az K (vP i) (gNm i):=by
 intro Z Θ env C σ H v d env' S r e Q q;cases e;refine q _ (S.yx (fun _ z=>nomatch z) r) fun a m=>?_
 rcases vL m with m|⟨⟨_,z⟩,_⟩
 ·exact m
 ·cases z
theorem Qc:JQ K RP gsNil:=by
 intro Z Θ env C σ H vs ds env' S r e Q q;unfold gsNil at e;split at e
 ·cases e
  exact⟨r,q _ S fun _ m=>m⟩
 ·cases e
theorem uq(h:Az K g fg)(hu:JQ K u fu):JQ K (Rj g u) (gsCons fg fu):=by
 intro Z Θ env C σ H vs ds env' S r e Q q;unfold gsCons at e;split at e
 ·rename_i d r'
  obtain⟨v,ws,rfl,r1,r2⟩:=r
  split at e
  ·rename_i e1 h1
   refine⟨v,ws,rfl,h Z Θ env C σ H v d e1 S r1 h1 _ fun σ1 S1 o1=>?_⟩
   exact hu Z Θ e1 C σ1 H ws r' env' S1 (r2.same (aap o1)) e Q fun σ2 S2 o2=>q σ2 S2 fun a m=>o1 a (o2 a m)
  ·cases e
 ·cases e
theorem QW(hu:JQ K u fu):Az K (RQ K n u) (gTp n fu):=by
 intro Z Θ env C σ H v d env' S r e Q q;unfold gTp at e;split at e
 ·rename_i ds;split at e
  ·rename_i hl
   obtain⟨a,vs,rfl,ha,r⟩:=r
   exact⟨a,vs,rfl,cN.of (ir ha),(gU r).trans hl,hu Z Θ env C σ H vs ds env' S r e Q q⟩
  ·cases e
 ·cases e
end
def fUnp(f:FE)(g:FG):FS:=fun env C=>match f env C with
 |some (r,e1,C1)=>match still r with
  |.im d=>match g d e1 with
   |some e2=>some (.nx,e2,C1)
   |none=>none
  |_=>none
 |none=>none
theorem Res.sX{K:aG}{Z Θ:List aa}{env:En}{C:Ce}{σ:St}{H H':Hp}{r:Vl}{v:V}{d:aj}(h:Res K Z Θ env C σ H H' r v)(e:L2.still r=.im d):Sm K Z Θ env C σ H'∧RZ (er (aR Z Θ env σ) H') d v:=by
 have g:=h.still;rw[e] at g;exact g
section
variable{X:Cx}{pos:Pos}
theorem aaq{tg e:Expr}{f:FE}{g:TG}{fg:FG}(he:PE X e (tE X.K f))(hg:PG X tg g)(L:Az X.K g fg)(hs:xq [tg] e pos.line X.env=pure false:=by rfl)(hw:xr [tg] e X.env=pure none:=by rfl)(h1:(rW [tg] X.env).map (·.2)=[assign tg X.env]:=by rfl):
  PS X (.Assign [tg] e pos) (tS X.K (fUnp f fg)):=(QB he hg hs hw h1).weak fun D σ H aK=>by
 obtain⟨Z,Θ,env,C,fl,env',C',S,hf,q⟩:=aK
 unfold fUnp at hf;split at hf
 ·rename_i r e1 C1 h1;split at hf
  ·rename_i d hd;split at hf
   ·rename_i e2 h2;cases hf
    refine⟨Z,Θ,env,C,r,e1,C',S,h1,fun v H1 k f R=>?_⟩
    obtain⟨S1,r1⟩:=R.sX hd
    exact L Z Θ e1 C' σ H1 v d env' S1 r1 h2 D.nx fun σ' S' o=>q Θ σ' H1 ⟨jK.refl _ _,uw k,fun a m=>.inl (f.own.subset (o a m)),S'⟩
   ·cases hf
  ·cases hf
 ·cases hf
end
inductive mY(K:aG)(E H:Hp)(Θ:List aa):List aa→List Vl→List V→Prop
 |nil:mY K E H Θ [] [] []
 |cons {as:List aa} {x:Vl} {v:V} {xs:List Vl} {vs:List V}:uF K E Θ x v→mY K E H Θ as xs vs→mY K E H Θ as (x::xs) (v::vs)
 |own {as:List aa} {a:aa} {d:aj} {xs:List Vl} {vs:List V}:jV E H a d→mY K E H Θ as xs vs→mY K E H Θ (as++[a]) (.ow d::xs) (.ref a::vs)
theorem mY.same{K:aG}{E E' H:Hp}{Θ as:List aa}{xs:List Vl}{vs:List V}(s:bh E E')(h:mY K E H Θ as xs vs):mY K E' H Θ as xs vs:=by
 induction h with
 |nil=>exact .nil
 |cons a _ ih=>exact .cons (a.same s) ih
 |own r _ ih=>exact .own (r.same s fun _ h=>h) ih
theorem mY.heap{K:aG}{E H H':Hp}{Θ as:List aa}{xs:List Vl}{vs:List V}(s:bh H H')(h:mY K E H Θ as xs vs):mY K E H' Θ as xs vs:=by
 induction h with
 |nil=>exact .nil
 |cons a _ ih=>exact .cons a ih
 |own r _ ih=>exact .own (r.same (bh.refl _) fun o ho=>s _ _ ho) ih
inductive wR(K:aG)(f:FA)(σ:St)(H:Hp)(Q:List V→Hp→Prop):Prop
 |mk (Z Θ:List aa) (env:En) (C:Ce) (xs:List Vl) (env':En) (C':Ce) (S:Sm K Z Θ env C σ H) (hf:f env C=some (xs,env',C')) (q:∀vs as H',aQ Θ H H'→Fz env env'→(∀a∈as,H a=none)→Sm K (as++Z) Θ env' C' σ H'→mY K (er (aR (as++Z) Θ env' σ) H') H' Θ as xs vs→Q vs H'):wR K f σ H Q
def oCons(f:FE)(g:FA):FA:=fun env C=>match f env C with
 |some (r,e1,C1)=>match g e1 C1 with
  |some (xs,e2,C2)=>some (r::xs,e2,C2)
  |none=>none
 |none=>none
section
variable{K:aG}{Z Z' Θ:List aa}{env:En}{C:Ce}{σ:St}{H:Hp}
theorem jh:a∈aR Z Θ env σ↔a∈Z∨a∈Θ∨a∈bD env σ:=by rw[cR,cR]
theorem Sm.perm(S:Sm K Z Θ env C σ H)(p:Z.Perm Z'):Sm K Z' Θ env C σ H:=by
 have e:er (aR Z Θ env σ) H=er (aR Z' Θ env σ) H:=qM fun a=>by rw[jh,jh,p.mem_iff]
 refine⟨S.len,(List.Perm.append_right _ p).nodup S.nd,fun a m=>S.dom a (p.mem_iff.mpr m),fun i x h=>?_,S.cell⟩
 rw[←e];exact S.slot i x h
end
section
variable{X:Cx}{e:Expr}{es:List Expr}{pos:Pos}
theorem qN:PA X [] (wR X.K aNil):=qH.weak fun σ H Q aK=>by
 obtain⟨Z,Θ,env,C,xs,env',C',S,hf,q⟩:=aK
 cases hf;exact q [] [] H (aQ.refl _ _) (Fz.refl _) (fun _ m=>nomatch m) S .nil
theorem jl(h:PE X e (tE X.K f))(hr:PA X es (wR X.K g))(hs:aZ (e::es) X.env=(false,eval e X.env)::aZ es X.env:=by rfl):PA X (e::es) (wR X.K (oCons f g)):=(nG h hr hs).weak fun σ H Q aK=>by
 obtain⟨Z,Θ,env,C,xs,env',C',S,hf,q⟩:=aK
 unfold oCons at hf;split at hf
 ·rename_i r e1 C1 h1;split at hf
  ·rename_i ys e2 C2 h2;cases hf
   refine⟨Z,Θ,env,C,r,e1,C1,S,h1,fun v H1 k1 f1 R1=>?_⟩
   have plain:∀{x:Vl},Sm X.K Z Θ e1 C1 σ H1→uF X.K (er (aR Z Θ e1 σ) H1) Θ x v→r=x→wR X.K g σ H1 fun xs H2=>Q (v::xs) H2:=fun{x} S1 a1 ex=>by
    subst ex
    refine⟨Z,Θ,e1,C1,ys,env',C',S1,h2,fun vs as H2 k2 f2 n2 S2 a2=>q _ as H2 (k1.trans k2) (f1.trans f2) (fun a m=>k1.none (n2 a m)) S2 (.cons (a1.same (j9 k2 S1.qj fun a m=>?_)) a2)⟩
    rcases cR.mp m with m|m
    ·rcases cR.mp m with m|m
     ·exact .inr (n2 a m)
     ·exact .inl (gB _ m)
    ·exact .inl (f2.sub (Z:=Z) a (dY _ m))
   cases r with
   |im d=>exact plain (x:=.im d) R1.1 R1.2 rfl
   |ce n=>exact plain (x:=.ce n) R1.1 R1.2 rfl
   |sc ns=>exact plain (x:=.sc ns) R1.1 R1.2 rfl
   |ow d=>
    obtain⟨a,rfl,hn,S1,r1⟩:=R1
    refine⟨a::Z,Θ,e1,C1,ys,env',C',S1,h2,fun vs as H2 k2 f2 n2 S2 a2=>?_⟩
    have ez:as++a::Z=(as++[a])++Z:=by rw[kI];rfl
    rw[ez] at S2 a2;have na:a∉Θ:=fun m=>(S1.cZ.2.2.2 a dG) m
    refine q _ (as++[a]) H2 (k1.trans k2) (f1.trans f2) (fun b m=>?_) S2 (.own (r1.same (j9 k2 S1.qj fun b m=>?_) fun o ho=>k2.keep _ _ ho na) a2)
    ·rcases cR.mp m with m|m
     ·exact k1.none (n2 b m)
     ·rw[jf.mp m];exact hn
    ·rcases cR.mp m with m|m
     ·rcases cR.mp m with m|m
      ·rcases cR.mp m with m|m
       ·exact .inr (n2 b m)
       ·rw[jf.mp m];exact .inl dG
      ·exact .inl (gB _ (dN _ m))
     ·exact .inl (f2.sub (Z:=a::Z) b (dY _ m))
  ·cases hf
 ·cases hf
end
def setM{α:Type}:List Nat→List α→List (Option α)→List (Option α)
 |i::is,x::xs,e=>setM is xs (e.set i (some x))
 |_,_,e=>e
theorem Qd{K:aG}{Z Θ:List aa}{C:Ce}{H:Hp}{E:Hp}:∀{as:List aa}{xs:List Vl}{vs:List V},mY K E H Θ as xs vs→∀{is:List Nat}{env:En}{σ:St},is.length=xs.length→bh E (er (aR (as++Z) Θ env σ) H)→Sm K (as++Z) Θ env C σ H→
  Sm K Z Θ (setM is xs env) C (setM is vs σ) H∧∀a∈bD (setM is xs env) (setM is vs σ),a∈bD env σ∨a∈as:=by
 intro as xs vs h;induction h with
 |nil=>
  intro is env σ hl _ S;cases is with
  |nil=>exact⟨S,fun a m=>.inl m⟩
  |cons _ _=>cases hl
 |@cons as x v xs vs a1 _ ih=>
  intro is env σ hl sm S;cases is with
  |nil=>cases hl
  |cons i is=>
   have hx:∀d,x≠.ow d:=fun d z=>by subst z;exact a1
   have sl:Ao K (er (aR (as++Z) Θ env σ) H) H Θ x v:=by
    have a2:=a1.same sm;cases x with
    |im d=>exact a2
    |ow d=>exact absurd rfl (hx d)
    |ce n=>exact a2
    |sc ns=>exact a2
   have S1:Sm K (as++Z) Θ (env.set i (some x)) C (σ.set i (some v)) H:=S.yx hx sl;have o1:∀b∈bD (env.set i (some x)) (σ.set i (some v)),b∈bD env σ:=fun b m=>by
    rcases vL m with m|⟨⟨d,z⟩,_⟩
    ·exact m
    ·exact absurd z (hx d)
   obtain⟨S2,o2⟩:=ih (is:=is) (by simpa using hl) (sm.trans (aap o1)) S1
   refine⟨S2,fun b m=>?_⟩
   rcases o2 b m with m|m
   ·exact .inl (o1 b m)
   ·exact .inr m
 |@own as a d xs vs r _ ih=>
  intro is env σ hl sm S;cases is with
  |nil=>cases hl
  |cons i is=>
   have pm:((as++[a])++Z).Perm (a::(as++Z)):=by
    rw[kI];exact List.perm_middle
   have S0:=S.perm pm;have ee:er (aR ((as++[a])++Z) Θ env σ) H=er (aR (a::(as++Z)) Θ env σ) H:=qM fun b=>by rw[jh,jh,pm.mem_iff]
   rw[ee] at sm;have S1:Sm K (as++Z) Θ (env.set i (some (.ow d))) C (σ.set i (some (.ref a))) H:=S0.abB (r.same sm fun _ h=>h);have o1:∀b∈bD (env.set i (some (.ow d))) (σ.set i (some (.ref a))),b∈bD env σ∨b=a:=fun b m=>by
    rcases vL m with m|⟨_,z⟩
    ·exact .inl m
    ·cases z;exact .inr rfl
   obtain⟨S2,o2⟩:=ih (is:=is) (by simpa using hl) (sm.trans (sJ fun b m=>by
    rcases cR.mp m with m|m
    ·exact gB _ (dN _ m)
    ·rcases cR.mp m with m|m
     ·exact dY _ (gB _ m)
     ·rcases o1 b m with m|rfl
      ·exact dY _ (dY _ m)
      ·exact gB _ dG)) S1
   refine⟨S2,fun b m=>?_⟩
   rcases o2 b m with m|m
   ·rcases o1 b m with m|rfl
    ·exact .inl m
    ·exact .inr (dY _ (jf.mpr rfl))
   ·exact .inr (gB _ m)
theorem Jd{K:aG}{E H:Hp}{Θ as:List aa}{xs:List Vl}{vs:List V}(h:mY K E H Θ as xs vs):vs.length=xs.length:=by
 induction h with
 |nil=>rfl
 |cons _ _ ih=>rw[cO,cO,ih]
 |own _ _ ih=>rw[cO,cO,ih]
def fPar(is:List Nat)(g:FA):FS:=fun env C=>match g env C with
 |some (xs,e1,C1)=>if is.length=xs.length∧xs.length≤LIM then some (.nx,setM is xs e1,C1) else none
 |none=>none
def Tg(is:List Nat):uU:=match is with
 |[]=>RP
 |i::r=>Rj (vP i) (Tg r)
theorem Zr:∀{is:List Nat}{vs:List V}{σ:St}{H:Hp}{Q:St→Hp→Prop},is.length=vs.length→Q (setM is vs σ) H→Tg is vs σ H Q
 |[],[],σ,H,Q,_,q=>⟨rfl,q⟩
 |i::is,v::vs,σ,H,Q,h,q=>⟨v,vs,rfl,Zr (by simpa using h) q⟩
 |[],_::_,_,_,_,h,_=>by cases h
 |_::_,[],_,_,_,h,_=>by cases h
section
variable{X:Cx}{pos:Pos}
theorem vO{i j:Nat}{x y:Str}{a b:Expr}{g:FA}{px py pt:Pos}{kt k2 m8}(hc:X.calm=true)(hN:X.N.Nodup)(hi:X.N[i]?=some x)(hj:X.N[j]?=some y)(hij:i≠j)
  (hx:X.env.scope.names.lookup x=some .local)(hy:X.env.scope.names.lookup y=some .local)(ha:PA X [a,b] (wR X.K g))
  (hw:xr [.Tuple [.Name x px,.Name y py] kt pt] (.Tuple [a,b] k2 m8) X.env=pure (some [x,y]))
  (hs:xq [.Tuple [.Name x px,.Name y py] kt pt] (.Tuple [a,b] k2 m8) pos.line X.env=pure false:=by rfl):
  PS X (.Assign [.Tuple [.Name x px,.Name y py] kt pt] (.Tuple [a,b] k2 m8) pos) (tS X.K (fPar [i,j] g)):=(aji hc hN hi hj hij hx hy ha hw hs).weak fun D σ H aK=>by
 obtain⟨Z,Θ,env,C,fl,env',C',S,hf,q⟩:=aK
 unfold fPar at hf;split at hf
 ·rename_i xs e1 C1 h1;split at hf
  ·rename_i hl;cases hf
   refine⟨Z,Θ,env,C,xs,e1,C',S,h1,fun vs as H1 k1 f1 n1 S1 a1=>?_⟩
   have l2:=Jd a1
   obtain⟨S2,o2⟩:=Qd a1 hl.1 (bh.refl _) S1
   have e2:∃v w,vs=[v,w]:=by
    have:vs.length=2:=by rw[l2,←hl.1];rfl
    match vs,this with
    |[v,w],_=>exact⟨v,w,rfl⟩
   obtain⟨v,w,rfl⟩:=e2
   refine⟨v,w,rfl,q Θ _ H1 ⟨jK.refl _ _,uw k1,fun b m=>?_,S2⟩⟩
   rcases o2 b m with m|m
   ·exact .inl (f1.own.subset m)
   ·exact .inr (n1 b m)
  ·cases hf
 ·cases hf
theorem Zt{tg:Expr}{es:List Expr}{g:FA}{is:List Nat}{n:Nat}{x1 pt}(ha:PA X es (wR X.K g))(hg:PG X tg (RQ X.K n (Tg is)))(hn:n=is.length:=by rfl)
  (hs:xq [tg] (.Tuple es x1 pt) pos.line X.env=pure false:=by rfl)(hw:xr [tg] (.Tuple es x1 pt) X.env=pure none:=by rfl)(h1:(rW [tg] X.env).map (·.2)=[assign tg X.env]:=by rfl):
  PS X (.Assign [tg] (.Tuple es x1 pt) pos) (tS X.K (fPar is g)):=(QB (QJ ha) hg hs hw h1).weak fun D σ H aK=>by
 obtain⟨Z,Θ,env,C,fl,env',C',S,hf,q⟩:=aK
 unfold fPar at hf;split at hf
 ·rename_i xs e1 C1 h1;split at hf
  ·rename_i hl;cases hf
   refine⟨Z,Θ,env,C,xs,e1,C',S,h1,fun vs as H1 k1 f1 n1 S1 a1=>⟨by rw[Jd a1];exact sy hl.2,fun p hp=>?_⟩⟩
   have l2:=Jd a1
   refine⟨p,vs,rfl,cN.of eN,by rw[l2,hn,hl.1],Zr (by rw[hl.1,l2]) ?_⟩
   have kp:aQ Θ H1 (upd H1 p (.tup vs)):=aQ.upd hp;have S1':=S1.yf (bh.upd (o:=.tup vs) hp);have a1':mY X.K (er (aR (as++Z) Θ e1 σ) H1) (upd H1 p (.tup vs)) Θ as xs vs:=a1.heap fun b o ho=>by rw[cJ (pL ho hp)];exact ho
   obtain⟨S2,o2⟩:=Qd a1' hl.1 (j9 kp S1.qj fun b m=>.inl m) S1'
   refine q Θ _ _ ⟨jK.refl _ _,uw (k1.trans kp),fun b m=>?_,S2⟩;rcases o2 b m with m|m
   ·exact .inl (f1.own.subset m)
   ·exact .inr (n1 b m)
  ·cases hf
 ·cases hf
end
theorem Ye:∀{env:En}{σ:St}{i:Nat}{d d':aj},env[i]?=some (some (.ow d))→bD (env.set i (some (.ow d'))) σ=bD env σ
 |[],σ,i,d,d',h=>by simp at h
 |x::e,[],i,d,d',h=>by cases i<;>rfl
 |x::e,v::s,0,d,d',h=>by
  simp at h;subst h;show own1 (some (.ow d')) v++bD e s=own1 (some (.ow d)) v++bD e s;rcases v with _|v
  ·rfl
  ·cases v<;>rfl
 |x::e,v::s,i+1,d,d',h=>by
  show own1 x v++bD (e.set i (some (.ow d'))) s=own1 x v++bD e s;rw[Ye (by simpa using h)]
section
variable{K:aG}{Z Θ:List aa}{env:En}{C:Ce}{σ:St}{H:Hp}{a:aa}{i:Nat}{d d':aj}{o:HO}
theorem QX(h:a∈P):er P (upd H a o)=er P H:=by
 funext b;unfold er;by_cases hb:b=a
 ·subst hb;rw[if_pos h,if_pos h]
 ·rw[cJ hb]
theorem Sm.write(S:Sm K Z Θ env C σ H)(e1:env[i]?=some (some (.ow d)))(e2:σ[i]?=some (some (.ref a)))(r:jV (er (aR Z Θ env σ) H) (upd H a o) a d'):dI K Z Θ env σ H Θ (env.set i (some (.ow d'))) C σ (upd H a o):=by
 have m:a∈bD env σ:=lZ.mpr ⟨i,d,e1,e2⟩;have no:=S.mW m;have eo:bD (env.set i (some (.ow d'))) σ=bD env σ:=Ye e1;have mp:a∈aR Z Θ env σ:=dY _ (dY _ m);have ep:aR Z Θ (env.set i (some (.ow d'))) σ=aR Z Θ env σ:=by show _++(_++_)=_;rw[eo]
 refine⟨jK.refl _ _,⟨fun b u hb n=>?_,fun b hb=>?_⟩,fun b mb=>.inl (by rw[eo] at mb;exact mb),⟨by rw[vo];exact S.len,by rw[ep];exact S.nd,fun b mb=>?_,fun j y ej=>?_,⟨S.cell.len,fun n b ns h1 h2=>?_⟩⟩⟩
 ·rw[cJ (fun z=>n (dY _ (by rw[z];exact m)))];exact hb
 ·by_cases z:b=a
  ·subst z;rw[eN];exact vh _
  ·rw[cJ z];exact hb
 ·rw[cJ (fun z=>no.1 (by rw[←z];exact mb))];exact S.dom b mb
 ·rw[ep,QX mp];rcases get_set ej with⟨rfl,ex,hl⟩|⟨n,ej⟩
  ·cases ex
   exact⟨_,e2,a,rfl,r⟩
  ·obtain⟨v,e3,r3⟩:=S.slot j y ej
   refine⟨v,e3,r3.same (bh.refl _) fun d2 b ex ev u hu=>?_⟩
   subst ex ev;rw[cJ]
   ·exact hu
   ·intro z;subst z;exact n (CN S.cZ.2.2.1 ej e3 e1 e2)
 ·rw[cJ (fun z=>no.2 (by rw[←z];exact nZ h1))];exact S.cell.at_ n b ns h1 h2
end
def nM:Option (Option Vl)→Bool
 |some (some (.ow (.list _)))=>true
 |_=>false
def kE(i:Nat)(f:FE):FS:=fun env C=>if nM env[i]? then match f env C with
  |some (r,e1,C1)=>match still r,e1[i]? with
   |.im d,some (some (.ow (.list ds)))=>if ds.length<LIM then some (.nx,e1.set i (some (.ow (.list (ds++[d])))),C1) else none
   |_,_=>none
  |none=>none
 else none
theorem Yg(h:nM x=true):∃ds,x=some (some (.ow (.list ds))):=by
 unfold nM at h;split at h
 ·exact⟨_,rfl⟩
 ·cases h
section
variable{X:Cx}{pos:Pos}
theorem xU(ho:PE X o (qY i))(he:PE X e (tE X.K f))
  (hs0:uf (.Call (.Attribute o "append" apos) [e] [] cpos) none pos.line X.env=pure false:=by rfl)
  (hbase:xu o "append" X.env (eval o X.env)=eval o X.env:=by rfl)
  (hfew:((gm cpos (aZ [e] X.env)).all (fun x=>!x.1)&&(Cp cpos (BR [] X.env)).all (fun x=>x.1.isSome)
   &&decide (([e]:List Expr).length+([]:List pR).length+(if([]:List pR).isEmpty then 0 else 1)<30))=true:=by rfl)
  (hline:(apos.endLine==cpos.line)=true:=by rfl)(hs:aZ [e] X.env=(false,eval e X.env)::aZ [] X.env:=by rfl)(hplain:(gm cpos (aZ [] X.env)).any (·.1)=false:=by rfl):
  PS X (.Expr (.Call (.Attribute o "append" apos) [e] [] cpos) pos) (tS X.K (kE i f)):=
 (YZ (Rq acI adh PySem.F.type_list_append (wI.r Xb) ho (nG he qH hs) hbase hfew hline hs hplain) hs0).weak fun D σ H aK=>by
  obtain⟨Z,Θ,env,C,fl,env',C',S,hf,q⟩:=aK
  unfold kE at hf;split at hf
  ·rename_i h0
   obtain⟨ds0,h0⟩:=Yg h0
   obtain⟨v0,yK,a,rfl,J8,ha0,r0⟩:=S.slot i _ h0
   split at hf
   ·rename_i r e1 C1 h1;split at hf
    ·rename_i d ds hd hi;split at hf
     ·rename_i hl;cases hf
      refine⟨_,yK,.inl ⟨rfl,J8,bK.of ha0⟩,Z,Θ,env,C,r,e1,C',S,h1,fun v H1 k f R=>?_⟩
      obtain⟨S1,r1⟩:=R.sX hd
      obtain⟨v1,ev1,a1,Th,vs,ha1,r2⟩:=S1.slot i _ hi
      subst Th;rw[yK] at ev1;cases ev1
      refine⟨a,vs,v,rfl,rfl,ha1,by rw[gU r2,jg];unfold LIM at hl;omega,?_⟩
      have w:dI X.K Z Θ e1 σ H1 Θ (e1.set i (some (.ow (.list (ds++[d]))))) C' σ (upd H1 a (.lst (vs++[v]))):=S1.write hi yK ⟨_,eN,xP r2 ⟨v,[],rfl,r1,rfl⟩⟩;exact q Θ σ _ ((dI.rE k f S1).trans w)
     ·cases hf
    ·cases hf
   ·cases hf
  ·cases hf
def m7{κ:Type}[DecidableEq κ](f:aj→Option κ)(k:κ)(dk d:aj)(kvs:List (aj×aj)):List (aj×aj):=
 if(kvs.any fun p=>decide (f p.1=some k))=true then kvs.map (fun p=>if f p.1=some k then(p.1,d) else p) else kvs++[(dk,d)]
def putD(kvs:List (aj×aj))(dk d:aj):Option (List (aj×aj)):=match cV dk with
 |some k=>if(cM cV kvs).isSome then some (m7 cV k dk d kvs) else none
 |none=>match sV dk with
  |some ks=>if(cM sV kvs).isSome then some (m7 sV ks dk d kvs) else none
  |none=>none
theorem Zu[DecidableEq κ]:∀{kvs:List (aj×aj)}{ks:List κ}{vs:List V},cM f kvs=some ks→gO E kvs vs→(kvs.any fun p=>decide (f p.1=some k))=((ks.zip vs).any fun kv=>decide (kv.1=k))
 |[],ks,vs,h,r=>by
  cases h
  cases(show vs=[] from r)
  rfl
 |(p,d)::kvs,ks,vs,h,r=>by
  unfold cM at h;split at h
  ·rename_i k' t h1 h2;cases h
   obtain⟨v,w,rfl,q,s⟩:=r
   show(decide (f p=some k)||_)=(decide (k'=k)||_)
   rw[Zu h2 s,h1];congr 1;rw[qw,decide_eq_true_iff,decide_eq_true_iff]
   exact⟨fun e=>fV e,fun e=>by rw[e]⟩
  ·cases h
theorem Zv[DecidableEq κ](hv:RZ E d v):∀{kvs:List (aj×aj)}{ks:List κ}{vs:List V},cM f kvs=some ks→gO E kvs vs→
  ∃vs',cM f (kvs.map fun p=>if f p.1=some k then(p.1,d) else p)=some ks∧gO E (kvs.map fun p=>if f p.1=some k then(p.1,d) else p) vs'∧ks.zip vs'=(ks.zip vs).map fun kv=>if kv.1=k then(kv.1,v) else kv
 |[],ks,vs,h,r=>by
  cases h
  exact⟨[],rfl,rfl,rfl⟩
 |(p,e)::kvs,ks,vs,h,r=>by
  unfold cM at h;split at h
  ·rename_i k' t h1 h2;cases h
   obtain⟨u,w,rfl,q,s⟩:=r
   obtain⟨vs',g1,g2,g3⟩:=Zv (k:=k) hv h2 s
   have h1':f p=some k':=h1;by_cases ek:k'=k
   ·subst ek
    refine⟨v::vs',?_,?_,?_⟩
    ·rw[cg];show cM f ((if f p=some k' then(p,d) else(p,e))::_)=_;rw[if_pos h1'];unfold cM;rw[g1];simp only[h1']
    ·rw[cg];show gO E ((if f p=some k' then(p,d) else(p,e))::_) _;rw[if_pos h1']
     exact⟨v,vs',rfl,hv,g2⟩
    ·show(k',v)::t.zip vs'=(if k'=k' then(k',v) else(k',u))::_
     rw[if_pos rfl,g3];rfl
   ·have ne:¬f p=some k:=fun z=>ek (fV (h1'.symm.trans z))
    refine⟨u::vs',?_,?_,?_⟩
    ·rw[cg];show cM f ((if f p=some k then(p,d) else(p,e))::_)=_;rw[if_neg ne];unfold cM;rw[g1];simp only[h1']
    ·rw[cg];show gO E ((if f p=some k then(p,d) else(p,e))::_) _;rw[if_neg ne]
     exact⟨u,vs',rfl,q,g2⟩
    ·show(k',u)::t.zip vs'=(if k'=k then(k',v) else(k',u))::_
     rw[if_neg ek,g3];rfl
  ·cases h
theorem Yh{κ:Type}{f:aj→Option κ}{k:κ}{E:Hp}{dk d:aj}{v:V}(hk:f dk=some k)(hv:RZ E d v):∀{kvs:List (aj×aj)}{ks:List κ}{vs:List V},cM f kvs=some ks→gO E kvs vs→
  cM f (kvs++[(dk,d)])=some (ks++[k])∧gO E (kvs++[(dk,d)]) (vs++[v])∧(ks++[k]).zip (vs++[v])=ks.zip vs++[(k,v)]
 |[],ks,vs,h,r=>by
  cases h
  cases(show vs=[] from r)
  refine⟨?_,⟨v,[],rfl,hv,rfl⟩,rfl⟩
  show cM f [(dk,d)]=_;unfold cM cM;simp only[hk];rfl
 |(p,e)::kvs,ks,vs,h,r=>by
  unfold cM at h;split at h
  ·rename_i k' t h1 h2;cases h
   obtain⟨u,w,rfl,q,s⟩:=r
   obtain⟨g1,g2,g3⟩:=Yh hk hv h2 s
   refine⟨?_,⟨u,_,rfl,q,g2⟩,?_⟩
   ·show cM f ((p,e)::(kvs++[(dk,d)]))=_;unfold cM;rw[g1];simp only[show f p=some k' from h1];rfl
   ·show(k',u)::(t++[k]).zip (w++[v])=_
    rw[g3];rfl
  ·cases h
theorem Je{κ:Type}[DecidableEq κ]{f:aj→Option κ}{k:κ}{E:Hp}{dk d:aj}{v:V}(hk:f dk=some k)(hv:RZ E d v){kvs:List (aj×aj)}{ks:List κ}{vs:List V}(h:cM f kvs=some ks)(r:gO E kvs vs):
  ∃ks' vs',cM f (m7 f k dk d kvs)=some ks'∧gO E (m7 f k dk d kvs) vs'∧ks'.zip vs'=putK (ks.zip vs) k v:=by
 unfold m7 putK;rw[Zu h r];split
 ·obtain⟨vs',g1,g2,g3⟩:=Zv (k:=k) hv h r
  exact⟨ks,vs',g1,g2,g3⟩
 ·obtain⟨g1,g2,g3⟩:=Yh hk hv h r
  exact⟨_,_,g1,g2,g3⟩
theorem set_dict(hu:X.A.units+1<eU):uK X (fun o i v H Q=>∃a H',o=.ref a∧q9 H a i v H'∧Q H'):=by
 intro pins s σ H o i v ov iv u Q I ro ri rv h
 obtain⟨a,H',rfl,g,q⟩:=h
 cases ro;exact Xd hu I g ri rv fun s' I'=>⟨H',I',q⟩
theorem agr(hu:X.A.units+1<eU):uK X (fun o i v H Q=>∃(a b:aa)(ks:List Key),o=.ref a∧H a=some (.dK [])∧i=.ref b∧H b=some (.tup (ks.map kV))∧Q (upd H a (.dT [(ks,v)]))):=by
 intro pins s σ H o i v ov iv u Q I ro ri rv h
 obtain⟨a,b,ks,rfl,ha,rfl,hb,q⟩:=h
 cases ro;have hb':(upd H a (.dT [])) b=some (.tup (ks.map kV)):=by rw[cJ (Rh hb ha (fun z=>nomatch z))];exact hb
 refine Xd hu (I.Kd ha) (q9.t (kvs:=[]) (k:=ks) (v:=v) eN hb' (by rw[jg];decide)) ri rv fun s' I'=>⟨_,I',?_⟩
 rw[YT];exact q
theorem uK.or(h:uK X t)(h':uK X t'):uK X (fun o i v H Q=>t o i v H Q∨t' o i v H Q):=by
 intro pins s σ H o i v ov iv u Q I ro ri rv q;rcases q with q|q
 ·exact h pins s σ H o i v ov iv u Q I ro ri rv q
 ·exact h' pins s σ H o i v ov iv u Q I ro ri rv q
theorem aiw(hu:X.A.units+1<eU):uK X (fun o i v H Q=>(Rp o i v H Q∨∃a H',o=.ref a∧q9 H a i v H'∧Q H')∨∃(a b:aa)(ks:List Key),o=.ref a∧H a=some (.dK [])∧i=.ref b∧H b=some (.tup (ks.map kV))∧Q (upd H a (.dT [(ks,v)]))):=
 (set_list.or (set_dict hu)).or (agr hu)
def qT:Option (Option Vl)→Bool
 |some (some _)=>true
 |_=>false
theorem aix(h:qT x=true):∃y,x=some (some y):=by
 unfold qT at h;split at h
 ·exact⟨_,rfl⟩
 ·cases h
def putO(i:Nat)(d dk:aj)(e:En)(C:Ce):Option Vl→Option (Fl×En×Ce)
 |some (.ow (.list ds))=>(intD dk).bind fun z=>(m9 ds.length z).bind fun j=>some (.nx,e.set i (some (.ow (.list (ds.set j d)))),C)
 |some (.ow (.dict kvs))=>(putD kvs dk d).bind fun kvs'=>bif decide (kvs.length<LIM) then some (.nx,e.set i (some (.ow (.dict kvs'))),C) else none
 |some (.ce n)=>(intD dk).bind fun z=>(intD d).bind fun y=>(C[n]?).bind fun ns=>(m9 ns.length z).bind fun j=>some (.nx,e,C.set n (ns.set j y))
 |_=>none
def oZ(i:Nat)(fk:FB)(fe:FE):FS:=fun env C=>(fe env C).bind fun p=>(imO (still p.1)).bind fun d=>(fk p.2.1 p.2.2).bind fun k=>bif qT p.2.1[i]? then(k.2.1[i]?).bind (putO i d k.1 k.2.1 k.2.2) else none
def DG(o i v:V)(H:Hp)(Q:Hp→Prop):Prop:=(Rp o i v H Q∨∃a H',o=.ref a∧q9 H a i v H'∧Q H')∨∃(a b:aa)(ks:List Key),o=.ref a∧H a=some (.dK [])∧i=.ref b∧H b=some (.tup (ks.map kV))∧Q (upd H a (.dT [(ks,v)]))
section
variable{K:aG}{Z Θ:List aa}{e2:En}{C2:Ce}{σ:St}{H2:Hp}{i:Nat}{d dk:aj}{v w:V}{a:aa}{R:Hp→Prop}{p:Fl×En×Ce}
theorem ahi(S2:Sm K Z Θ e2 C2 σ H2)(eu:σ[i]?=some (some (.ref a)))(hi:e2[i]?=some (some (.ow (.list ds))))(rt:jV (er (aR Z Θ e2 σ) H2) H2 a (.list ds))(r2:RZ (er (aR Z Θ e2 σ) H2) d v)(b2:fj Z Θ e2 σ H2 dk w)(hf:putO i d dk e2 C2 (some (.ow (.list ds)))=some p):
  p.1=.nx∧((∀Hx,dI K Z Θ e2 σ H2 Θ p.2.1 p.2.2 σ Hx→R Hx)→DG (.ref a) w v H2 R):=by
 obtain⟨z,hz,hf⟩:=iG hf
 obtain⟨j,hj,hf⟩:=iG hf
 cases hf;have hz:=PN hz;subst hz
 obtain⟨vs,ha,r3⟩:=rt
 have b2:w=.int z:=b2;subst b2
 exact⟨rfl,fun q=>.inl (.inl ⟨a,vs,z,j,rfl,rfl,ha,by rw[gU r3];exact hj,q _ (S2.write hi eu ⟨_,eN,Zk r2 j r3⟩)⟩)⟩
theorem Zw(kvs:List (aj×aj)):m7 sV Ti dk d kvs≠[]:=fun z=>by
 unfold m7 at z;split at z
 ·rename_i hz;cases kvs with
  |nil=>cases hz
  |cons _ _=>cases z
 ·cases kvs<;>cases z
theorem ahj{kvs:List (aj×aj)}(S2:Sm K Z Θ e2 C2 σ H2)(eu:σ[i]?=some (some (.ref a)))(hi:e2[i]?=some (some (.ow (.dict kvs))))(rt:jV (er (aR Z Θ e2 σ) H2) H2 a (.dict kvs))(r2:RZ (er (aR Z Θ e2 σ) H2) d v)(b2:fj Z Θ e2 σ H2 dk w)(hf:putO i d dk e2 C2 (some (.ow (.dict kvs)))=some p):
  p.1=.nx∧((∀Hx,dI K Z Θ e2 σ H2 Θ p.2.1 p.2.2 σ Hx→R Hx)→DG (.ref a) w v H2 R):=by
 refine hide fun GG gg=>?_
 obtain⟨kvs',hp,hf⟩:=iG hf
 cases hl:decide (kvs.length<LIM) with
 |false=>rw[hl] at hf;cases hf
 |true=>
 rw[hl] at hf;cases hf;have hl:=of_decide_eq_true hl;have hl':∀{κ:Type}(ks:List κ)(vs:List V),ks.length=kvs.length→(ks.zip vs).length<bM:=fun ks vs e=>by
  rw[Vg,jg,e];unfold LIM at hl;omega
 obtain⟨vs,da,r3⟩:=rt
 unfold putD at hp;split at hp
 ·rename_i k hk;split at hp
  case isFalse=>cases hp
  rename_i hs';cases hp;have wk:w=kV k:=by
   cases dk<;>first|(cases hk;exact b2)|cases hk
  rcases da with⟨ks,g1,ha⟩|⟨ks,⟨ne,g2⟩,ha⟩
  ·obtain⟨ks',vs',g3,g4,g5⟩:=Je hk r2 g1 r3
   subst wk;exact gg ⟨rfl,fun q=>.inl (.inr ⟨a,_,rfl,q9.k (k:=k) (v:=v) ha (hl' ks vs (xK g1)),q _ (S2.write hi eu ⟨vs',.inl ⟨ks',g3,by rw[g5];exact eN⟩,g4⟩)⟩)⟩
  ·obtain⟨alq,g1⟩:=wU.mp hs'
   exact absurd (xM g1 g2) ne
 ·split at hp
  case h_2=>cases hp
  rename_i Ti hks;split at hp
  case isFalse=>cases hp
  rename_i hs';cases hp
  obtain⟨b,hb,rfl⟩:∃b,H2 b=some (.tup (Ti.map kV))∧w=.ref b:=by
   cases dk<;>first|cases hks|skip
   obtain⟨b,ws,rfl,hb,rr⟩:=b2.tup
   rw[vD hks rr] at hb
   exact⟨b,hb,rfl⟩
  rcases da with⟨ks,g1,ha⟩|⟨ks,⟨ne,g1⟩,ha⟩
  ·obtain⟨alq,g2⟩:=wU.mp hs'
   have e0:=xM g1 g2;subst e0;cases g1;have e0:vs=[]:=r3;subst e0
   obtain⟨ks',vs',g3,g4,g5⟩:=Je (kvs:=[]) (vs:=[]) (ks:=[]) hks r2 rfl rfl
   exact gg ⟨rfl,fun q=>.inr ⟨a,b,Ti,rfl,ha,rfl,hb,q _ (S2.write hi eu ⟨vs',.inr ⟨ks',⟨Zw [],g3⟩,by rw[g5];exact eN⟩,g4⟩)⟩⟩
  ·obtain⟨ks',vs',g3,g4,g5⟩:=Je hks r2 g1 r3
   exact gg ⟨rfl,fun q=>.inl (.inr ⟨a,_,rfl,q9.t ha hb (hl' ks vs (xK g1)),q _ (S2.write hi eu ⟨vs',.inr ⟨ks',⟨Zw kvs,g3⟩,by rw[g5];exact eN⟩,g4⟩)⟩)⟩
theorem ahk(S2:Sm K Z Θ e2 C2 σ H2)(hth:Θ[n]?=some a)(r2:RZ (er (aR Z Θ e2 σ) H2) d v)(b2:fj Z Θ e2 σ H2 dk w)(hf:putO i d dk e2 C2 (some (.ce n))=some p):
  p.1=.nx∧((∀Hx,dI K Z Θ e2 σ H2 Θ p.2.1 p.2.2 σ Hx→R Hx)→DG (.ref a) w v H2 R):=by
 refine hide fun GG gg=>?_
 obtain⟨z,hz,hf⟩:=iG hf
 obtain⟨y,hy,hf⟩:=iG hf
 obtain⟨ns,hns,hf⟩:=iG hf
 obtain⟨j,hj,hf⟩:=iG hf
 cases hf;have hz:=PN hz;have hy:=PN hy;subst hz hy;have b2:w=.int z:=b2;have ev:v=.int y:=r2;subst ev b2;have ha:=S2.cell.at_ n a ns hth hns;have am:a∈Θ:=nZ hth;refine gg ⟨rfl,fun q=>.inl (.inl ⟨a,_,z,j,rfl,rfl,ha,by rw[aW];exact hj,q _ ?_⟩)⟩;have kc:aQ Θ H2 (upd H2 a (.lst ((ns.map V.int).set j (.int y)))):=⟨fun b o hb nb=>by rw[cJ (fun zz=>nb (by rw[zz];exact am))];exact hb,fun b hb=>by
  by_cases zz:b=a
  ·subst zz;rw[eN];exact vh _
  ·rw[cJ zz];exact hb⟩
 refine dI.rE kc (Fz.refl _) (S2.go kc ⟨by rw[vo];exact S2.cell.len,fun m b ms h5 h6=>?_⟩);rcases get_set h6 with⟨rfl,e6,_⟩|⟨nm,h6⟩
 ·rw[hth] at h5;cases h5;cases e6;rw[eN,List.map_set]
 ·rw[cJ]
  ·exact S2.cell.at_ m b ms h5 h6
  ·intro zz;subst zz
   obtain⟨l1,l1'⟩:=je.mp h5
   obtain⟨l2,l2'⟩:=je.mp hth
   rcases adB m n with hlt|heq|hgt
   ·exact FZ.mp S2.cZ.2.1 m n l1 l2 hlt (l1'.trans l2'.symm)
   ·exact nm heq
   ·exact FZ.mp S2.cZ.2.1 n m l2 l1 hgt (l2'.trans l1'.symm)
theorem aiy(S2:Sm K Z Θ e2 C2 σ H2)(eu:σ[i]?=some (some u))(hi:e2[i]?=some s)(r2:RZ (er (aR Z Θ e2 σ) H2) d v)(b2:fj Z Θ e2 σ H2 dk w)(hf:putO i d dk e2 C2 s=some p):
  p.1=.nx∧((∀Hx,dI K Z Θ e2 σ H2 Θ p.2.1 p.2.2 σ Hx→R Hx)→DG u w v H2 R):=by
 cases s with
 |none=>cases hf
 |some s=>
 obtain⟨u',eu',sl⟩:=S2.slot i _ hi
 rw[eu] at eu';cases eu';cases s with
 |im _=>cases hf
 |sc _=>cases hf
 |ce n=>
  obtain⟨a,rfl,hth⟩:=sl
  exact ahk S2 hth r2 b2 hf
 |ow x=>
  obtain⟨a,rfl,rt⟩:=sl
  cases x<;>first|exact ahi S2 eu hi rt r2 b2 hf|exact ahj S2 eu hi rt r2 b2 hf|cases hf
end
theorem Ds(hu:X.A.units+1<eU)(ho:PE X o (qY i))(hk:PE X k (dH X.K fk))(he:PE X e (tE X.K fe))
  (ha:∀v,assign (.Subscript o k p) X.env v=(do
   let ov ←pQ [v] (eval o X.env)
   let iv ←pQ [v,ov] (eval k X.env)
   sE p
   pQ [v,ov,iv] (setItem ov iv v)
   release [v,ov,iv] []):=by intro _;rfl)
  (hs:xq [.Subscript o k p] e pos.line X.env=pure false:=by rfl)(hw:xr [.Subscript o k p] e X.env=pure none:=by rfl)(h1:(rW [.Subscript o k p] X.env).map (·.2)=[assign (.Subscript o k p) X.env]:=by rfl):
  PS X (.Assign [.Subscript o k p] e pos) (tS X.K (oZ i fk fe)):=(QB he (ajh (t:=DG) ho hk (aiw hu) ha) hs hw h1).weak fun D σ H aK=>by
 obtain⟨Z,Θ,env,C,fl,env',C',S,hf,q⟩:=aK
 obtain⟨p,h1,hf⟩:=iG hf
 obtain⟨d,hd,hf⟩:=iG hf
 obtain⟨kp,h2,hf⟩:=iG hf
 cases h3:qT p.2.1[i]? with
 |false=>rw[h3] at hf;cases hf
 |true=>
 rw[h3] at hf
 obtain⟨s,hi,hf⟩:=iG hf
 obtain⟨y3,h3⟩:=aix h3
 refine⟨Z,Θ,env,C,p.1,p.2.1,p.2.2,S,h1,fun v H1 k1 f1 R1=>?_⟩
 obtain⟨S1,r1⟩:=R1.sX (Dk hd)
 obtain⟨u,eu,_⟩:=S1.slot i _ h3
 refine⟨u,eu,Z,Θ,p.2.1,p.2.2,kp.1,kp.2.1,kp.2.2,S1,h2,fun w H2 k2 f2 S2 b2=>?_⟩
 obtain⟨e0,go⟩:=aiy (R:=fun Hx=>D.nx σ Hx) S2 eu hi (r1.same (Ru S1 k2 f2)) b2 hf
 have e0:fl=.nx:=e0;subst e0;exact go fun Hx st=>q Θ σ _ ((dI.rE (k1.trans k2) (f1.trans f2) S2).trans st)
end
def intsOf:List aj→Option (List Int)
 |[]=>some []
 |.int i::r=>match intsOf r with
  |some t=>some (i::t)
  |none=>none
 |_=>none
theorem Yi:∀{ds:List aj}{ns:List Int}{vs:List V},intsOf ds=some ns→cz E ds vs→vs=ns.map V.int
 |[],ns,vs,h,r=>by cases h;exact r
 |.int i::ds,ns,vs,h,r=>by
  unfold intsOf at h;split at h
  ·rename_i t ht;cases h
   obtain⟨u,w,rfl,q,s⟩:=r
   rw[Yi ht s];have:u=.int i:=q;rw[this];rfl
  ·cases h
 |.none::_,_,_,h,_=>by cases h
 |.bool _::_,_,_,h,_=>by cases h
 |.str _::_,_,_,h,_=>by cases h
 |.list _::_,_,_,h,_=>by cases h
 |.tuple _::_,_,_,h,_=>by cases h
 |.dict _::_,_,_,h,_=>by cases h
def Ei(i:Nat)(f:FE):FS:=fun env C=>match f env C with
 |some (.ow (.list ds),e1,C1)=>match intsOf ds with
  |some ns=>some (.nx,e1.set i (some (.ce C1.length)),C1++[ns])
  |none=>none
 |_=>none
section
variable{X:Cx}{pos:Pos}
theorem ahl{K:aG}{i:Nat}{f:FE}:∀D σ H,tS K (Ei i f) D σ H→Am (tE K f) (vP i) D σ H:=by
 rintro D σ H ⟨Z,Θ,env,C,fl,env',C',S,hf,q⟩;unfold Ei at hf;split at hf
 ·rename_i ds e1 C1 h1;split at hf
  ·rename_i ns hns;cases hf
   refine⟨Z,Θ,env,C,_,e1,C1,S,h1,fun v H1 k f R=>?_⟩
   obtain⟨a,rfl,hn,S1,vs,ha,r⟩:=R
   have ev:=Yi hns r;subst ev;have cZ:=S1.cZ;have Fe:=iR.mp cZ.1;have cl:=S1.cell.len;have c':nJ (Θ++[a]) (C1++[ns]) H1:=by
    refine⟨by rw[fU,fU,cl];rfl,fun m b ms h5 h6=>?_⟩
    by_cases hm:m<Θ.length
    ·rw[nY hm] at h5;rw[nY (by rw[cl];exact hm)] at h6;exact S1.cell.at_ m b ms h5 h6
    ·rw[nW (by omega)] at h5;rw[nW (by omega)] at h6;rw[cl] at h6;cases hm0:m-Θ.length with
     |zero=>rw[hm0] at h5 h6;cases h5;cases h6;exact ha
     |succ j=>rw[hm0] at h5;simp at h5
   have o1:∀b∈bD (e1.set i (some (.ce C1.length))) (σ.set i (some (.ref a))),b∈bD e1 σ:=fun b m=>by
    rcases vL m with m|⟨⟨_,z⟩,_⟩
    ·exact m
    ·cases z
   have S2:Sm K Z (Θ++[a]) e1 (C1++[ns]) σ H1:=by
    have mm:∀b,b∈aR Z (Θ++[a]) e1 σ↔b∈aR (a::Z) Θ e1 σ:=fun b=>by
     rw[jh,jh,cR,jf,bU];constructor
     ·rintro(h|(h|h)|h)
      ·exact .inl (.inr h)
      ·exact .inr (.inl h)
      ·exact .inl (.inl h)
      ·exact .inr (.inr h)
     ·rintro((h|h)|h|h)
      ·exact .inr (.inl (.inr h))
      ·exact .inl h
      ·exact .inr (.inl (.inl h))
      ·exact .inr (.inr h)
    refine⟨S1.len,yJ Fe.2 ?_ cZ.2.2.1 (fun b m=>?_) fun b m=>?_,fun b m=>S1.dom b (dN _ m),fun j x e=>?_,c'⟩
    ·rw[j5]
     exact⟨cZ.2.1,iR.mpr ⟨by simp,lC⟩,fun b m c m' e=>by
      rw[jf] at m';subst e m';exact cZ.2.2.2 b dG m⟩
    ·intro m';rcases cR.mp m' with m'|m'
     ·exact cZ.2.2.2 b (dN _ m) m'
     ·rw[jf.mp m'] at m;exact Fe.1 m
    ·obtain⟨p1,p2⟩:=S1.mW m
     refine⟨fun z=>p1 (dN _ z),fun m'=>?_⟩
     rcases cR.mp m' with m'|m'
     ·exact p2 m'
     ·rw[jf.mp m'] at p1;exact p1 dG
    ·obtain⟨v,e3,r3⟩:=S1.slot j x e
     rw[qM mm]
     refine⟨v,e3,?_⟩
     cases x with
     |im d=>exact r3
     |ow d=>exact r3
     |ce n=>
      obtain⟨b,e5,e6⟩:=r3
      exact⟨b,e5,by rw[nY (je.mp e6).1];exact e6⟩
     |sc ns=>exact r3
   have S3:Sm K Z (Θ++[a]) (e1.set i (some (.ce C1.length))) (C1++[ns]) (σ.set i (some (.ref a))) H1:=
    S2.yx (fun _ z=>nomatch z) ⟨a,rfl,by rw[cl,nW (bO _),V9];rfl⟩
   exact q (Θ++[a]) _ H1 ⟨⟨[a],rfl,fun b m=>by rw[jf.mp m];exact hn⟩,uw k,fun b m=>.inl (f.own.subset (o1 b m)),S3⟩
  ·cases hf
 ·cases hf
theorem ajT(hN:X.N.Nodup)(hi:X.N[i]?=some x)(hx:Loc X.env.scope x)(he:PE X e (tE X.K f))(hs:uf e (some (.Name x pos')) pos.line X.env=pure false:=by rfl)(hf:X.fn x=true∨X.env.scope.names.lookup x=some .local:=by first|exact .inl rfl|exact .inr rfl|assumption):
  PS X (.Assign [.Name x pos'] e pos) (tS X.K (Ei i f)):=(Z7 hN hi hx he hs hf).weak ahl
def JR(i:Nat)(f:FB):FS:=fun env C=>match env[i]? with
 |some (some (.im (.int x)))=>match f env C with
  |some (.int y,_,C1)=>some (.nx,env.set i (some (.im (.int (x+y)))),C1)
  |_=>none
 |_=>none
theorem ajU(hN:X.N.Nodup)(hi:X.N[i]?=some x)(hx:Loc X.env.scope x)(he:PE X e (dH X.K f))(hf:X.fn x=true∨X.env.scope.names.lookup x=some .local:=by first|exact .inl rfl|exact .inr rfl|assumption):
  PS X (.AugAssign (.Name x pos') .Add e pos) (tS X.K (JR i f)):=(ajj hN hi hx he ajk hf).weak fun D σ H aK=>by
 obtain⟨Z,Θ,env,C,fl,env',C',S,hf,q⟩:=aK
 unfold JR at hf;split at hf
 ·rename_i z h0;split at hf
  ·rename_i y e1 C1 h1;cases hf
   obtain⟨v,ev,r⟩:=S.slot i _ h0
   refine⟨v,ev,Z,Θ,env,C,_,e1,C',S,h1,fun w H1 k f S1 b1=>⟨z,y,r,b1,?_⟩⟩
   have S2:=S.go k S1.cell;refine q Θ _ H1 ⟨jK.refl _ _,uw k,fun a m=>?_,S2.yx (fun _ z=>nomatch z) (rfl:RZ _ (.int (z+y)) _)⟩;rcases vL m with m|⟨⟨_,z⟩,_⟩
   ·exact .inl m
   ·cases z
  ·cases hf
 ·cases hf
end
def jT(c:FT)(body:FS):Nat→FS
 |0=>fun _ _=>none
 |n+1=>fun env C=>match c env C with
  |some (false,C1)=>some (.nx,env,C1)
  |some (true,C1)=>match body env C1 with
   |some (.nx,e2,C2)=>jT c body n e2 C2
   |some (.ct,e2,C2)=>jT c body n e2 C2
   |some (.bk,e2,C2)=>some (.nx,e2,C2)
   |some (.rt r,e2,C2)=>some (.rt r,e2,C2)
   |none=>none
  |none=>none
def DK:Nat:=100000
def uY(c:FT)(body:FS):FS:=jT c body DK
theorem afB{K:aG}{c:FT}{body:FS}{n:Nat}:∀D σ H,tS K (jT c body n) D σ H→Z8 (eX K c) (tS K body) D σ H:=by
 rintro D σ H ⟨Z,Θ,env,C,fl,env',C',S,hf,q⟩
 refine⟨fun m σ1 H1=>∃Θ1 e1 C1,dI K Z Θ env σ H Θ1 e1 C1 σ1 H1∧jT c body m e1 C1=some (fl,env',C'),⟨n,Θ,env,C,dI.same S,hf⟩,?_⟩
 rintro m σ1 H1 ⟨Θ1,e1,C1,p,hf⟩;cases m with
 |zero=>cases hf
 |succ m=>
  unfold jT at hf;split at hf
  ·rename_i C2 h1;cases hf
   exact⟨Z,Θ1,env',C1,false,C',p.sm,h1,fun H2 k2 S2=>wg (q Θ1 σ1 H2 (p.trans (dI.rE k2 (Fz.refl _) S2)))⟩
  ·rename_i C2 h1
   refine⟨Z,Θ1,e1,C1,true,C2,p.sm,h1,fun H2 k2 S2=>wj ⟨fun σ' H'=>∃Θ1 e1 C1,dI K Z Θ env σ H Θ1 e1 C1 σ' H'∧jT c body m e1 C1=some (fl,env',C'),fun σ' H' h=>⟨m,Va m,h⟩,?_⟩⟩
   have p2:=p.trans (dI.rE k2 (Fz.refl _) S2);split at hf
   ·rename_i e3 C3 h2
    exact⟨Z,Θ1,e1,C2,.nx,e3,C3,S2,h2,fun Θ3 σ3 H3 p3=>⟨Θ3,e3,C3,p2.trans p3,hf⟩⟩
   ·rename_i e3 C3 h2
    exact⟨Z,Θ1,e1,C2,.ct,e3,C3,S2,h2,fun Θ3 σ3 H3 p3=>⟨Θ3,e3,C3,p2.trans p3,hf⟩⟩
   ·rename_i e3 C3 h2;cases hf
    exact⟨Z,Θ1,e1,C2,.bk,env',C',S2,h2,fun Θ3 σ3 H3 p3=>q Θ3 σ3 H3 (p2.trans p3)⟩
   ·rename_i r e3 C3 h2;cases hf
    exact⟨Z,Θ1,e1,C2,.rt r,env',C',S2,h2,fun Θ3 v H3 p3=>q Θ3 v H3 (p2.ret p3)⟩
   ·cases hf
  ·cases hf
theorem Ik(hp:Ny (model X.prog X.w) X.A X.env X.xe)(hc:PT X c (eX X.K t))(hb:iK X body (tS X.K f)):PS X (.While c body [] pos) (tS X.K (uY t f)):=(agQ hp hc hb).weak afB
abbrev FI:=En→Ce→Option (List aj×En×Ce)
def wB(P T:List aa)(H:Hp)(J:It)(its:List aj):Prop:=∀(i:Nat)(H2:Hp)(P2:List aa),bh (er P H) (er P2 H2)→bh (er T H) (er T H2)→(∀a∈P2,H2 a≠none)→
 (∀d,its[i]?=some d→J.go i H2∧∀x H3,J.wG i H2 x H3→bh H2 H3∧RZ (er P2 H3) d x)∧(i=its.length→J.stop i H2)
inductive tI(K:aG)(b:Bool)(f:FI)(σ:St)(H:Hp)(R:It→Hp→Prop):Prop
 |mk (Z Θ:List aa) (env:En) (C:Ce) (its:List aj) (env':En) (C':Ce) (S:Sm K Z Θ env C σ H) (hf:f env C=some (its,env',C')) (q:∀J H',aQ Θ H H'→Fz env env'→Sm K Z Θ env' C' σ H'→wB (aR Z Θ env' σ) (if b then Θ else aR Z Θ env' σ) H' J its→R J H'):tI K b f σ H R
theorem PI.weak(h:PI X tg e t)(w:∀σ H Q,t' σ H Q→t σ H Q):PI X tg e t':=fun pins s σ H Q I q=>h pins s σ H Q I (w σ H Q q)
theorem PI.or(h:PI X tg e t)(h':PI X tg e t'):PI X tg e (fun σ H R=>t σ H R∨t' σ H R):=fun pins s σ H R I q=>q.elim (h pins s σ H R I) (h' pins s σ H R I)
section
variable{K:aG}{P T:List aa}{H:Hp}{a:aa}{ds:List aj}{vs:List V}
theorem Qe(ha:er T H a=some (.lst vs))(r:cz (er P H) ds vs):wB P T H (Sv K a) ds:=fun i H2 P2 s1 s2 n=>by
 have h2:bK K H2 a vs:=bK.of (ir (s2 _ _ ha))
 refine⟨fun d hd=>?_,fun hi=>⟨vs,h2,by rw[gU r,hi];exact bO _⟩⟩
 obtain⟨v,ev,rv⟩:=vM r hd
 refine⟨⟨vs,v,h2,ev⟩,fun x H3 y=>?_⟩
 obtain⟨rfl,y⟩:=y
 have:=y vs h2;rw[ev] at this;cases this
 exact⟨bh.refl _,rv.same s1⟩
theorem QZ(ha:er P H a=some (.tup vs))(r:cz (er P H) ds vs):wB P T H (Sw K a) ds:=fun i H2 P2 s1 s2 n=>by
 have h2:cN K H2 a vs:=cN.of (ir (s1 _ _ ha))
 refine⟨fun d hd=>?_,fun hi=>⟨vs,h2,by rw[gU r,hi];exact bO _⟩⟩
 obtain⟨v,ev,rv⟩:=vM r hd
 refine⟨⟨vs,v,h2,ev⟩,fun x H3 y=>?_⟩
 obtain⟨rfl,y⟩:=y
 have:=y vs h2;rw[ev] at this;cases this
 exact⟨bh.refl _,rv.same s1⟩
def chars(z:Str):List aj:=z.cps.toList.map fun c=>.str ⟨#[c]⟩
theorem aar(z:Str):wB P T H (S7 z) (chars z):=fun i H2 P2 s1 s2 n=>by
 refine⟨fun d hd=>?_,fun hi=>?_⟩
 ·unfold chars at hd;rw[gC] at hd;cases hc:z.cps.toList[i]? with
  |none=>rw[hc] at hd;cases hd
  |some c=>
   rw[hc] at hd;cases hd;have hc':z.cps[i]?=some c:=by rw[←acX];exact hc
   have hlt:i<z.cps.size:=by
    obtain⟨h,_⟩:=Array.getElem?_eq_some_iff.mp hc'
    exact h
   refine⟨hlt,fun x H3 y=>?_⟩
   obtain⟨rfl,c',ec,rfl⟩:=y
   rw[hc'] at ec;cases ec
   exact⟨bh.refl _,rfl⟩
 ·show z.cps.size≤i;rw[hi];unfold chars;rw[aW,jM];exact bO _
def iu(lo:Int)(n:Nat):List aj:=(dJ n).map fun(k:Nat)=>.int (lo+(k:Int))
theorem Yj(lo:Int)(n:Nat):wB P T H (Eu lo n) (iu lo n):=fun i H2 P2 s1 s2 nn=>by
 refine⟨fun d hd=>?_,fun hi=>?_⟩
 ·unfold iu at hd;rw[gC] at hd;by_cases hlt:i<n
  ·rw[Us hlt] at hd;cases hd
   refine⟨hlt,fun x H3 y=>?_⟩
   obtain⟨rfl,rfl⟩:=y
   exact⟨bh.refl _,rfl⟩
  ·rw[Gb (by rw[lA];omega)] at hd;cases hd
 ·show n≤i;rw[hi];unfold iu;rw[aW,lA];exact bO _
end
def itD:aj→Option (List aj)
 |.list ds=>some ds
 |.tuple ds=>some ds
 |.str z=>some (chars z)
 |_=>none
def iB(f:FB):FI:=fun env C=>match f env C with
 |some (d,e1,C1)=>match itD d with
  |some its=>some (its,e1,C1)
  |none=>none
 |none=>none
def iV(f:FE):FI:=fun env C=>match f env C with
 |some (r,e1,C1)=>match still r with
  |.im d=>match itD d with
   |some its=>some (its,e1,C1)
   |none=>none
  |_=>none
 |none=>none
def iz(f:FB):FI:=fun env C=>match f env C with
 |some (.int j,_,C1)=>if -(2^62)≤j∧j<2^62 then some (iu 0 j.toNat,env,C1) else none
 |_=>none
section
variable{X:Cx}{tg e:Expr}
theorem R8(h:PE X e (dH X.K f))(hgo:∀i u,w6 tg i u=pure ():=by intro _ _;rfl):PI X tg e (tI X.K true (iB f)):=(((Pn h).or (QC h)).or (aaf h hgo)).weak fun σ H R aK=>by
 obtain⟨Z,Θ,env,C,its,env',C',S,hf,q⟩:=aK
 unfold iB at hf;split at hf
 ·rename_i d e1 C1 h1;split at hf
  ·rename_i ys hi;cases hf;cases d<;>first|cases hi|skip
   ·refine .inr ⟨Z,Θ,env,C,_,env',C',S,h1,fun v H1 k f S1 b=>⟨_,b,q _ H1 k f S1 (aar _)⟩⟩
   ·refine .inl (.inl ⟨Z,Θ,env,C,_,env',C',S,h1,fun v H1 k f S1 b=>?_⟩)
    obtain⟨a,vs,rfl,ha,r⟩:=b
    exact⟨a,rfl,⟨vs,bK.of (ir ha)⟩,q _ H1 k f S1 (Qe ha r)⟩
   ·refine .inl (.inr ⟨Z,Θ,env,C,_,env',C',S,h1,fun v H1 k f S1 b=>?_⟩)
    obtain⟨a,vs,rfl,ha,r⟩:=b
    exact⟨a,rfl,⟨vs,cN.of (ir ha)⟩,q _ H1 k f S1 (QZ ha r)⟩
  ·cases hf
 ·cases hf
theorem Aq(h:PE X e (tE X.K f))(hgo:∀i u,w6 tg i u=pure ():=by intro _ _;rfl):PI X tg e (tI X.K false (iV f)):=(((Pn h).or (QC h)).or (aaf h hgo)).weak fun σ H R aK=>by
 obtain⟨Z,Θ,env,C,its,env',C',S,hf,q⟩:=aK
 unfold iV at hf;split at hf
 ·rename_i r e1 C1 h1;split at hf
  ·rename_i d hd;split at hf
   ·rename_i ys hi;cases hf;cases d<;>first|cases hi|skip
    ·refine .inr ⟨Z,Θ,env,C,_,env',C',S,h1,fun v H1 k f R=>?_⟩
     obtain⟨S1,b⟩:=R.sX hd
     exact⟨_,b,q _ H1 k f S1 (aar _)⟩
    ·refine .inl (.inl ⟨Z,Θ,env,C,_,env',C',S,h1,fun v H1 k f R=>?_⟩)
     obtain⟨S1,a,vs,rfl,ha,r⟩:=R.sX hd
     exact⟨a,rfl,⟨vs,bK.of (ir ha)⟩,q _ H1 k f S1 (Qe ha r)⟩
    ·refine .inl (.inr ⟨Z,Θ,env,C,_,env',C',S,h1,fun v H1 k f R=>?_⟩)
     obtain⟨S1,a,vs,rfl,ha,r⟩:=R.sX hd
     exact⟨a,rfl,⟨vs,cN.of (ir ha)⟩,q _ H1 k f S1 (QZ ha r)⟩
   ·cases hf
  ·cases hf
 ·cases hf
theorem ur(hg:Gl X "range")(hm:X.mg "range"=none)(ha:PE X a (dH X.K f))(hs:aZ [a] X.env=(false,eval a X.env)::aZ [] X.env:=by rfl)(hs':aZ [a] X.env=[(false,eval a X.env)]:=by rfl):PI X tg (.Call (.Name "range" p) [a] [] pos) (tI X.K b (iz f)):=
 (afU hg hm (dg ha eO hs) hs').weak fun σ H R aK=>by
  obtain⟨Z,Θ,env,C,its,env',C',S,hf,q⟩:=aK
  unfold iz at hf;split at hf
  ·rename_i j e1 C1 h1;split at hf
   ·rename_i hj;cases hf
    refine⟨Z,Θ,env,C,[.int j],e1,C',S,by unfold bCons bNil;rw[h1],fun vs H1 k f S1 b1=>?_⟩
    cases b1 with
    |cons b1 b2=>
     cases b2
     exact⟨j,by rw[show _=V.int j from b1],hj.1,hj.2,q _ H1 k (Fz.refl _) (S.go k S1.cell) (Yj 0 j.toNat)⟩
   ·cases hf
  ·cases hf
end
def iH(g:FG)(body:FS):List aj→FS
 |[]=>fun env C=>some (.nx,env,C)
 |d::r=>fun env C=>match g d env with
  |some e1=>match body e1 C with
   |some (.nx,e2,C2)=>iH g body r e2 C2
   |some (.ct,e2,C2)=>iH g body r e2 C2
   |some (.bk,e2,C2)=>some (.nx,e2,C2)
   |some (.rt v,e2,C2)=>some (.rt v,e2,C2)
   |none=>none
  |none=>none
def gw(fi:FI)(g:FG)(body:FS):FS:=fun env C=>match fi env C with
 |some (its,e1,C1)=>iH g body its e1 C1
 |none=>none
theorem dI.er{K:aG}{Z Θ Θ1:List aa}{env e1:En}{C1:Ce}{σ σ1:St}{H H1:Hp}(p:dI K Z Θ env σ H Θ1 e1 C1 σ1 H1):bh (er (aR Z Θ env σ) H) (er (aR Z Θ1 e1 σ1) H1):=fun b o h=>by
 unfold L2.er at h⊢;split at h
 ·cases h
 ·rename_i n;have hb:H b≠none:=by rw[h];exact vh _
  rw[if_neg]
  ·refine p.kp.keep b o h fun m=>n ?_
   rcases cR.mp m with m|m
   ·exact jh.mpr (.inr (.inl m))
   ·exact jh.mpr (.inr (.inr m))
  ·intro m;rcases jh.mp m with m|m|m
   ·exact n (jh.mpr (.inl m))
   ·obtain⟨Δ,e,hn⟩:=p.th.ex
    rw[e] at m;rcases cR.mp m with m|m
    ·exact n (jh.mpr (.inr (.inl m)))
    ·exact hb (hn b m)
   ·rcases p.own b m with m|m
    ·exact n (jh.mpr (.inr (.inr m)))
    ·exact hb m
theorem aiz(s:bh (er P H) (er P2 H2)):bh (er P H) (er P H2):=fun b o h=>by
 have h2:=ir (s b o h);unfold er at h⊢;split at h
 ·cases h
 ·rename_i n;rw[if_neg n];exact h2
theorem ahm{K:aG}{fi:FI}{g:TG}{fg:FG}{body:FS}(L:Az K g fg):∀D σ H,tS K (gw fi fg body) D σ H→abd (tI K false fi) g (tS K body) D σ H:=by
 rintro D σ H ⟨Z,Θ,env,C,fl,env',C',S,hf,q⟩;unfold gw at hf;split at hf
 ·rename_i its e1 C1 h1
  refine⟨Z,Θ,env,C,its,e1,C1,S,h1,fun J H1 k1 f1 S1 it=>?_⟩
  have p1:=dI.rE k1 f1 S1
  refine⟨fun i m σ2 H2=>m=its.length-i∧i≤its.length∧∃Θ2 e2 C2,dI K Z Θ e1 σ H1 Θ2 e2 C2 σ2 H2∧iH fg body (its.drop i) e2 C2=some (fl,env',C'),⟨its.length,rfl,lF _,Θ,e1,C1,dI.same S1,hf⟩,?_⟩
  rintro i m σ2 H2 ⟨rfl,hi,Θ2,e2,C2,p2,hl⟩
  obtain⟨Tj,Tn⟩:=it i H2 (aR Z Θ2 e2 σ2) p2.er (aiz p2.er) p2.sm.yt
  cases hd:its[i]? with
  |none=>
   have hi2:i=its.length:=by
    have:=Ua.mp hd;omega
   rw[hi2,adQ] at hl;cases hl;exact .inl ⟨Tn hi2,q Θ2 σ2 H2 (p1.trans p2)⟩
  |some d=>
   have hlt:i<its.length:=(je.mp hd).1;have ed:its.drop i=d::its.drop (i+1):=by
    rw[acC hlt]
    obtain⟨_,e⟩:=je.mp hd
    rw[e]
   rw[ed] at hl;unfold iH at hl
   obtain⟨go,yl⟩:=Tj d hd
   refine .inr ⟨go,fun σ' H'=>∃Θ2 e2 C2,dI K Z Θ e1 σ H1 Θ2 e2 C2 σ' H'∧iH fg body (its.drop (i+1)) e2 C2=some (fl,env',C'),fun σ' H' h=>⟨its.length-(i+1),by omega,rfl,hlt,h⟩,fun x H3 y=>?_⟩
   obtain⟨s3,r3⟩:=yl x H3 y
   have S3:=p2.sm.yf s3;have p3:=p2.trans (dI.rE (aQ.of s3) (Fz.refl _) S3);split at hl
   ·rename_i e4 h4;refine L Z Θ2 e2 C2 σ2 H3 x d e4 S3 r3 h4 _ fun σ4 S4 o4=>?_
    have p4:dI K Z Θ e1 σ H1 Θ2 e4 C2 σ4 H3:=p3.trans ⟨jK.refl _ _,aQ.refl _ _,fun a m=>.inl (o4 a m),S4⟩;split at hl
    ·rename_i e5 C5 h5
     exact⟨Z,Θ2,e4,C2,.nx,e5,C5,S4,h5,fun Θ5 σ5 H5 p5=>⟨Θ5,e5,C5,p4.trans p5,hl⟩⟩
    ·rename_i e5 C5 h5
     exact⟨Z,Θ2,e4,C2,.ct,e5,C5,S4,h5,fun Θ5 σ5 H5 p5=>⟨Θ5,e5,C5,p4.trans p5,hl⟩⟩
    ·rename_i e5 C5 h5;cases hl
     exact⟨Z,Θ2,e4,C2,.bk,env',C',S4,h5,fun Θ5 σ5 H5 p5=>q Θ5 σ5 H5 (p1.trans (p4.trans p5))⟩
    ·rename_i r e5 C5 h5;cases hl
     exact⟨Z,Θ2,e4,C2,.rt r,env',C',S4,h5,fun Θ5 v H5 p5=>q Θ5 v H5 (p1.ret (p4.ret p5))⟩
    ·cases hl
   ·cases hl
 ·cases hf
theorem pY(hp:Ny (model X.prog X.w) X.A X.env X.xe)(hc:X.calm=true)(hi:PI X tg iter (tI X.K false fi))(hg:PG X tg g)(L:Az X.K g fg)(hb:iK X body (tS X.K f))
  (hs:∀x,tY iter X.env x=pure x:=by intro _;rfl):PS X (.For tg iter body [] pos) (tS X.K (gw fi fg f)):=(ajl hp hc hi hg hb hs).weak (ahm L)
def uZ:fZ→aj→Option (List aj)
 |.one,d=>some [d]
 |.many n,.tuple ds=>if ds.length=n then some ds else none
 |_,_=>none
def frB(js:List Nat)(env:En):En:=js.map fun j=>((env[j]?).join).map still
def dz(ds:List aj):En:=ds.map fun d=>some (.im d)
def jx(T:fZ)(ft:FT)(fe:FE)(fs:En):List aj→Ce→Option (List aj×Ce)
 |[],C=>some ([],C)
 |d::r,C=>match uZ T d with
  |some ts=>match ft (dz ts++fs) C with
   |some (false,C1)=>jx T ft fe fs r C1
   |some (true,C1)=>match fe (dz ts++fs) C1 with
    |some (x,_,C2)=>match still x with
     |.im y=>match jx T ft fe fs r C2 with
      |some (ys,C3)=>some (y::ys,C3)
      |none=>none
     |_=>none
    |none=>none
   |none=>none
  |none=>none
def f9(js:List Nat)(env:En):En:=env.mapIdx fun i x=>if i∈js then x.map still else x
def fLC(fi:FI)(T:fZ)(ft:FT)(fe:FE)(js:List Nat):FE:=fun env C=>match fi env C with
 |some (its,e1,C1)=>match jx T ft fe (frB js e1) its C1 with
  |some (ys,C2)=>if ys.length≤LIM then some (.ow (.list ys),if eZ ys then e1 else f9 js e1,C2) else none
  |none=>none
 |none=>none
theorem aa0:∀{a b:En},a.length=b.length→(∀(i:Nat)(x y:Option Vl),a[i]?=some x→b[i]?=some y→Td x y)→Fz a b
 |[],[],_,_=>trivial
 |x::r,y::t,hl,h=>⟨h 0 x y rfl rfl,aa0 (by simpa using hl) fun i u v h1 h2=>h (i+1) u v (by simpa using h1) (by simpa using h2)⟩
 |[],_::_,hl,_=>by cases hl
 |_::_,[],hl,_=>by cases hl
theorem z9(js:List Nat)(env:En):Fz env (f9 js env):=aa0 (by unfold f9;rw[List.length_mapIdx]) fun i x y h1 h2=>by
 unfold f9 at h2;rw[ac2,h1] at h2;have h2:(if i∈js then Nm still x else x)=y:=fV h2;rw[←h2];split
 ·cases x with
  |none=>exact .inl rfl
  |some x=>
   cases x with
   |ow d=>exact .inr ⟨d,rfl,rfl⟩
   |im d=>exact .inl rfl
   |ce n=>exact .inl rfl
   |sc ns=>exact .inl rfl
 ·exact .inl rfl
theorem aas{js:List Nat}{env:En}{k:Nat}{x:Vl}(h:(frB js env)[k]?=some (some x)):∃j:Nat,js[k]?=some j∧(f9 js env)[j]?=some (some x)∧∀d,x≠.ow d:=by
 unfold frB at h;rw[gC] at h;cases hj:js[k]? with
 |none=>rw[hj] at h;cases h
 |some j=>
  rw[hj] at h;have h':((env[j]?).join).map still=some x:=fV h
  refine⟨j,rfl,?_,?_⟩
  ·unfold f9;rw[ac2];cases hv:env[j]? with
   |none=>rw[hv] at h';cases h'
   |some y=>
    rw[hv] at h';show some (if j∈js then Nm still y else y)=_;rw[if_pos (nZ hj)];exact congrArg some h'
  ·cases hv:(env[j]?).join with
   |none=>rw[hv] at h';cases h'
   |some y=>
    rw[hv] at h';have e:still y=x:=fV h';rw[←e];intro d z;cases y<;>cases z
theorem Aa:∀{env:En}{σ:St},(∀(i:Nat)(d:aj),env[i]?≠some (some (.ow d)))→bD env σ=[]
 |[],σ,_=>by cases σ<;>rfl
 |_::_,[],_=>rfl
 |x::e,v::s,h=>by
  rw[bD,Aa (env:=e) (σ:=s) fun i d z=>h (i+1) d (by simpa using z)];have h0:=h 0;simp at h0;unfold own1;split
  ·rename_i d a;exact absurd rfl (h0 d)
  ·rfl
section
variable{K:aG}{Z Θ:List aa}{env:En}{C C2:Ce}{σ:St}{H H2:Hp}{D:aa}
abbrev jW(D:aa)(Z:List aa)(env:En)(σ:St):List aa:=D::(Z++bD env σ)
theorem nH{js:List Nat}{a:aa}{eB:En}{sB:St}(h:bD eB sB=[]):a∈aR (jW D Z env σ) Θ eB sB↔a=D∨a∈aR Z Θ env σ:=by
 rw[jh,jh,h,bU,cR];constructor
 ·rintro((h|h|h)|h|h)
  ·exact .inl h
  ·exact .inr (.inl h)
  ·exact .inr (.inr (.inr h))
  ·exact .inr (.inr (.inl h))
  ·nomatch h
 ·rintro(h|h|h|h)
  ·exact .inl (.inl h)
  ·exact .inl (.inr (.inl h))
  ·exact .inr (.inl h)
  ·exact .inl (.inr (.inr h))
theorem Jr{js:List Nat}{ts:List aj}:∀(i:Nat)(d:aj),(dz ts++frB js env)[i]?≠some (some (.ow d)):=fun i d z=>by
 by_cases hi:i<(dz ts).length
 ·rw[nY hi] at z;unfold dz at z;rw[gC] at z;cases h:ts[i]? with
  |none=>rw[h] at z;cases z
  |some t=>rw[h] at z;cases z
 ·rw[nW (by omega)] at z
  obtain⟨j,_,_,h⟩:=aas z
  exact h d rfl
theorem Sm.blk{js:List Nat}{ts:List aj}{vs:List V}(S:Sm K Z Θ (f9 js env) C σ H)(hD:H D=mU)(k:aQ Θ H H2)(nt:NT (H2 D))(c:nJ Θ C2 H2)(r:cz (er (aR (jW D Z (f9 js env) σ) Θ [] []) H2) ts vs):
  Sm K (jW D Z (f9 js env) σ) Θ (dz ts++frB js env) C2 (vs.map some++frees js σ) H2:=by
 have no:=Aa (env:=dz ts++frB js env) (σ:=vs.map some++frees js σ) Jr;have cZ:=S.cZ;have lv:=gU r;have Ke:(dz ts).length=ts.length:=by unfold dz;rw[aW]
 have ee:er (aR (jW D Z (f9 js env) σ) Θ (dz ts++frB js env) (vs.map some++frees js σ)) H2=er (aR (jW D Z (f9 js env) σ) Θ [] []) H2:=qM fun a=>by rw[nH (js:=js) no,nH (js:=js) rfl]
 have sm:bh (er (aR Z Θ (f9 js env) σ) H) (er (aR (jW D Z (f9 js env) σ) Θ [] []) H2):=j9 k S.qj fun b m=>by
  rcases(nH (js:=js) rfl).mp m with rfl|m
  ·exact .inr hD
  ·exact .inl m
 refine⟨?_,?_,fun b m=>?_,fun i x e=>?_,c⟩
 ·rw[fU,fU,aW,lv,Ke];unfold frees frB;rw[aW,aW]
 ·show(jW D Z (f9 js env) σ++(Θ++bD (dz ts++frB js env) (vs.map some++frees js σ))).Nodup
  rw[no];refine yJ (iR.mpr ⟨fun m=>?_,?_⟩) cZ.2.1 lC (fun b m m'=>?_) (fun _ m=>nomatch m)
  ·rcases cR.mp m with m|m
   ·exact(S.dom D m).ne hD
   ·exact S.yt D (jh.mpr (.inr (.inr m))) hD
  ·rw[j5]
   exact⟨cZ.1,cZ.2.2.1,fun b m c' m' e=>by subst e;exact(S.mW m').1 m⟩
  ·rcases bU.mp m with rfl|m
   ·exact S.yt b (jh.mpr (.inr (.inl m'))) hD
   ·rcases cR.mp m with m|m
    ·exact cZ.2.2.2 b m m'
    ·exact(S.mW m).2 m'
 ·rcases bU.mp m with rfl|m
  ·exact nt
  ·have:NT (H b)∧b∉Θ:=by
    rcases cR.mp m with m|m
    ·exact⟨S.dom b m,cZ.2.2.2 b m⟩
    ·exact⟨S.Kc b (jh.mpr (.inr (.inr m))),(S.mW m).2⟩
   obtain⟨⟨u,e,n⟩,nb⟩:=this
   exact⟨u,k.keep _ _ e nb,n⟩
 ·rw[ee];by_cases hi:i<ts.length
  ·rw[nY (by rw[Ke];exact hi)] at e;unfold dz at e;rw[gC] at e;cases ht:ts[i]? with
   |none=>rw[ht] at e;cases e
   |some t=>
    rw[ht] at e;cases e
    obtain⟨v,ev,rv⟩:=vM r ht
    exact⟨v,by rw[nY (by rw[aW,lv];exact hi),gC,ev];rfl,rv⟩
  ·rw[nW (by rw[Ke];omega),Ke] at e
   obtain⟨j,hj,hx,nx⟩:=aas e
   obtain⟨v,ev,rv⟩:=S.slot j x hx
   refine⟨v,?_,rv.same sm fun d _ z=>absurd z (nx d)⟩
   rw[nW (by rw[aW,lv];omega),aW,lv];unfold frees;rw[gC,hj];show some ((σ[j]?).join)=_;rw[ev];rfl
end
def fY:FT:=fun _ C=>some (true,C)
theorem ux{X:Cx}:mH X [] (eX X.K fY):=fun pins s σ H Q I aK=>by
 obtain⟨Z,Θ,env,C,b,C',S,hf,q⟩:=aK
 cases hf;exact aic pins s σ H Q I (q H (aQ.refl _ _) S)
theorem CP{X:Cx}{c:Expr}{f:FT}(h:PT X c (eX X.K f)):mH X [c] (eX X.K f):=aid h
theorem akR{K:aG}{T:fZ}{E H:Hp}{d:aj}{x:V}{ts:List aj}(h:uZ T d=some ts)(r:RZ E d x)(s:bh E H):∃vs,wJ K T x H vs∧cz E ts vs:=by
 cases T with
 |one=>cases h;exact⟨[x],rfl,x,[],rfl,r,rfl⟩
 |many n=>
  cases d<;>first|cases h|skip
  rename_i ds;have h:(if ds.length=n then some ds else none)=some ts:=h;split at h
  ·rename_i hl;cases h
   obtain⟨a,vs,rfl,ha,r⟩:=r
   exact⟨vs,⟨a,rfl,cN.of (s _ _ ha),(gU r).trans hl⟩,r⟩
  ·cases h
def sY{α:Type}(T:fZ)(ft:FT)(st:En→α→Ce→Option (α×Ce))(fs:En):List aj→α→Ce→Option (α×Ce)
 |[],a,C=>some (a,C)
 |d::r,a,C=>(uZ T d).bind fun ts=>(ft (dz ts++fs) C).bind fun p=>bif p.1 then(st (dz ts++fs) a p.2).bind fun q=>sY T ft st fs r q.1 q.2 else sY T ft st fs r a p.2
inductive abD{α:Type}(Θ:List aa)(H1:Hp)(n:Nat)(Ob:α→Hp→Prop)(run:Nat→α→Ce→Prop)(i m:Nat)(H2:Hp):Prop
 |mk (a:α) (Ci:Ce) (hm:m=n-i) (hi:i≤n) (ki:aQ Θ H1 H2) (ci:nJ Θ Ci H2) (ob:Ob a H2) (hc:run i a Ci):abD Θ H1 n Ob run i m H2
section
variable{K:aG}{α:Type}{T:fZ}{ft:FT}{st:En→α→Ce→Option (α×Ce)}{js:List Nat}{Z Θ:List aa}{e1:En}{C1 C':Ce}{σ:St}{H1:Hp}{J:It}{its:List aj}{D:aa}{o0:HO}{a0 aE:α}
theorem Q0{Hx Hy:Hp}{u:HO}(hD:H1 D=mU)(kk:aQ Θ H1 Hx):aQ Θ H1 (upd Hx D u):=by
 refine⟨fun a o ha na=>?_,fun a ha=>?_⟩
 ·rw[cJ (pL ha hD)];exact kk.keep _ _ ha na
 ·by_cases z:a=D
  ·subst z;rw[eN];exact vh _
  ·rw[cJ z];exact kk.dom a ha
theorem Il{Hx:Hp}{u:HO}(hD:D∉Θ)(c:nJ Θ C1 Hx):nJ Θ C1 (upd Hx D u):=by
 refine⟨c.len,fun n b ns e2 e3=>?_⟩
 rw[cJ]
 ·exact c.at_ n b ns e2 e3
 ·intro z;subst z;exact hD (nZ e2)
theorem OJ{em:TM}{Ob:α→Hp→Prop}{done:Hp→Prop}(S1:Sm K Z Θ e1 C1 σ H1)(it:wB (aR Z Θ e1 σ) Θ H1 J its)(hD:H1 D=mU)(ob0:Ob a0 (upd H1 D o0))(Ba:∀a Hx Hy,aQ Θ Hx Hy→Ob a Hx→Ob a Hy)(obn:∀a Hx,Ob a Hx→NT (Hx D))
  (hem:∀(ts:List aj)(a:α)(C2:Ce)(p:α×Ce)(vs:List V)(H4:Hp)(Q:Hp→Prop),st (dz ts++frB js e1) a C2=some p→Sm K (jW D Z (f9 js e1) σ) Θ (dz ts++frB js e1) C2 (vs.map some++frees js σ) H4→aQ Θ H1 H4→Ob a H4→(∀H6,aQ Θ H1 H6→nJ Θ p.2 H6→Ob p.1 H6→Q H6)→em (vs.map some++frees js σ) H4 Q)
  (hc:sY T ft st (frB js e1) its a0 C1=some (aE,C'))(hq:∀H2,aQ Θ H1 H2→nJ Θ C' H2→Ob aE H2→done H2):wu K T (eX K ft) em (frees js σ) J (upd H1 D o0) done:=by
 have qg:D∉Θ:=fun m=>(S1.cell.dom D m).ne hD
 have S1f:=S1.fz (z9 js e1)
 refine⟨abD Θ H1 its.length Ob (fun i a Ci=>sY T ft st (frB js e1) (its.drop i) a Ci=some (aE,C')),⟨its.length,⟨a0,C1,rfl,lF _,aQ.upd hD,Il qg S1.cell,ob0,hc⟩⟩,fun i m H2 hh=>?_⟩
 cases hh with
 |mk a Ci hm hi ki ci ob hc=>
 subst hm;have nt:=obn a H2 ob;have smP:bh (er (aR Z Θ e1 σ) H1) (er (aR (jW D Z (f9 js e1) σ) Θ [] []) H2):=j9 ki S1.qj fun b m=>by
  rcases(nH (js:=js) rfl).mp m with rfl|m
  ·exact .inr hD
  ·exact .inl ((z9 js e1).sub b m)
 have alr:∀a∈aR (jW D Z (f9 js e1) σ) Θ [] [],H2 a≠mU:=fun a m=>(S1f.blk hD ki nt ci (show cz _ [] [] from rfl)).yt a ((nH (js:=js) (Aa (env:=dz []++frB js e1) Jr)).mpr ((nH (js:=js) rfl).mp m))
 obtain⟨Tj,Tn⟩:=it i H2 _ smP (aak ki) alr
 cases hd:its[i]? with
 |none=>
  have hi2:i=its.length:=Nat.le_antisymm hi (Ua.mp hd);rw[hi2,adQ] at hc;cases hc;exact .inl ⟨Tn hi2,hq H2 ki ci ob⟩
 |some d=>
  obtain⟨hlt,ed⟩:=je.mp hd
  rw[acC hlt,ed] at hc
  obtain⟨go,yl⟩:=Tj d hd
  refine .inr ⟨go,fun x H3 y=>?_⟩
  obtain⟨s3,r3⟩:=yl x H3 y
  obtain⟨ts,ht,hc⟩:=iG hc
  obtain⟨p,hft,hc⟩:=iG hc
  obtain⟨vs,tv,rvs⟩:=akR (K:=K) ht r3 (Ae _ _)
  refine⟨vs,tv,?_⟩
  have k3:aQ Θ H1 H3:=ki.trans (aQ.of s3);have Tp:=Ba a _ _ (aQ.of s3) ob;have SB:=S1f.blk (js:=js) hD k3 (obn a H3 Tp) ⟨ci.len,fun n b ns e2 e3=>s3 _ _ (ci.at_ n b ns e2 e3)⟩ rvs;have lt:its.length-(i+1)<its.length-i:=by omega
  refine⟨_,Θ,_,Ci,p.1,p.2,SB,hft,fun H4 k4 S4=>?_⟩
  cases hp:p.1 with
  |false=>
   rw[hp] at hc;exact wg ⟨_,lt,⟨a,p.2,rfl,hlt,k3.trans k4,S4.cell,Ba a _ _ k4 Tp,hc⟩⟩
  |true=>
   rw[hp] at hc
   obtain⟨q,hs,hc⟩:=iG hc
   exact wj (hem ts a p.2 q vs H4 _ hs S4 (k3.trans k4) (Ba a _ _ k4 Tp) fun H6 k6 c6 o6=>⟨_,lt,⟨q.1,q.2,rfl,hlt,k6,c6,o6,hc⟩⟩)
end
def R9(fe:FE):En→List aj→Ce→Option (List aj×Ce):=fun env acc C=>(fe env C).bind fun q=>(imO (still q.1)).bind fun y=>bif decide (acc.length<LIM) then some (acc++[y],q.2.2) else none
theorem Qf{T:fZ}{ft:FT}{fe:FE}{fs:En}{C':Ce}:∀{its:List aj}{ys acc:List aj}{C:Ce},jx T ft fe fs its C=some (ys,C')→acc.length+ys.length≤LIM→sY T ft (R9 fe) fs its acc C=some (acc++ys,C')
 |[],ys,acc,C,h,_=>by
  cases h;rw[ju];rfl
 |d::r,ys,acc,C,h,hl=>by
  unfold jx at h;unfold sY;split at h
  case h_2=>cases h
  rename_i ts ht;rw[ht,gQ];split at h
  case h_3=>cases h
  ·rename_i C1 hf;rw[hf,gQ];exact Qf h hl
  ·rename_i C1 hf;rw[hf,gQ];split at h
   case h_2=>cases h
   rename_i x e2 C2 hx;split at h
   case h_2=>cases h
   rename_i y hy;split at h
   case h_2=>cases h
   rename_i zs C3 hz;cases h;rw[cO] at hl
   show(R9 fe (dz ts++fs) acc C1).bind _=_
   unfold R9;rw[hx,gQ,hy,show imO (.im y)=some y from rfl,gQ,decide_eq_true (by omega),show acc++y::zs=(acc++[y])++zs by rw[kI];rfl];exact Qf hz (by rw[fU];show acc.length+1+_≤_;omega)
theorem Zx{K:aG}{fi:FI}{T:fZ}{ft:FT}{fe:FE}{js:List Nat}:∀σ H Q,tE K (fLC fi T ft fe js) σ H Q→SQ K (tI K true fi) T (fun _=>eX K ft) (fun _=>tE K fe) js σ H Q:=by
 rintro σ H Q ⟨Z,Θ,env,C,res,env',C',S,hf,q⟩;unfold fLC at hf;split at hf
 case h_2=>cases hf
 rename_i its e1 C1 h1;split at hf
 case h_2=>cases hf
 rename_i ys C2 h2;split at hf
 case isFalse=>cases hf
 rename_i hl;cases hf
 refine⟨Z,Θ,env,C,its,e1,C1,S,h1,fun J H1 k1 f1 S1 it D hD b=>?_⟩
 have qg:D∉Θ:=fun m=>(S1.cell.dom D m).ne hD
 have Tq:D∈aR (jW D Z (f9 js e1) σ) Θ [] []:=(nH (js:=js) rfl).mpr (.inl rfl);refine OJ (a0:=[]) (Ob:=fun acc Hx=>jV (er (aR (jW D Z (f9 js e1) σ) Θ [] []) Hx) Hx D (.list acc)) S1 it hD ⟨[],eN,rfl⟩ (fun a Hx Hy kk r=>r.same (j9 kk (fun a m=>jh.mpr (.inr (.inl m))) fun a m=>.inl m) fun o h=>kk.keep _ _ h qg)
  (fun a Hx r=>by obtain⟨vs,e,_⟩:=r;exact⟨_,e,fun _ z=>nomatch z⟩) ?_ (Qf (acc:=[]) h2 (by rw[Bs,G4];exact hl)) fun H2 ki ci r=>?_
 ·intro ts acc C2 p vs H4 Q hs S4 k4 r4 hQ
  obtain⟨w,hfe,hs⟩:=iG hs
  obtain⟨yd,rF,hs⟩:=iG hs
  have rF:=Dk rF;cases hlt:decide (acc.length<LIM) with
  |false=>rw[hlt] at hs;cases hs
  |true=>
  rw[hlt] at hs;cases hs
  refine⟨_,Θ,_,C2,w.1,w.2.1,w.2.2,S4,hfe,fun y H5 k5 f5 R5=>?_⟩
  obtain⟨S5,r5⟩:=R5.sX rF
  obtain⟨uP,hD5,rr⟩:=r4.same (j9 k5 (fun a m=>jh.mpr (.inr (.inl m))) fun a m=>.inl m) fun o h=>k5.keep _ _ h qg
  have Tr:bD w.2.1 (vs.map some++frees js σ)=[]:=by
   have:=(Fz.own (σ:=vs.map some++frees js σ) f5)
   rw[Aa Jr] at this;exact adR.mp this
  have e5:er (aR (jW D Z (f9 js e1) σ) Θ w.2.1 (vs.map some++frees js σ)) H5=er (aR (jW D Z (f9 js e1) σ) Θ [] []) H5:=qM fun a=>by rw[nH (js:=js) Tr,nH (js:=js) rfl]
  rw[e5] at r5;have lt:=of_decide_eq_true hlt
  refine⟨uP,hD5,by rw[gU rr,jg];unfold LIM at lt;omega,hQ _ (Q0 (Hy:=H5) hD (k4.trans k5)) (Il qg S5.cell) ⟨_,eN,?_⟩⟩
  rw[QX Tq];exact xP rr ⟨y,[],rfl,r5,rfl⟩
 ·obtain⟨uP,hDi,ri⟩:=r
  refine q _ H2 (k1.trans ki) ?_ ?_
  ·split
   ·exact f1
   ·exact f1.trans (z9 js e1)
  ·refine⟨D,rfl,k1.none hD,?_⟩
   split
   ·rename_i hn;have SD:=S1.yg hD ki ⟨_,hDi,fun _ z=>nomatch z⟩ ci
    exact⟨SD,uP,hDi,ri.jB (fun a vs e=>Dj SD (ir e)) hn⟩
   ·refine⟨(S1.fz (z9 js e1)).yg hD ki ⟨_,hDi,fun _ z=>nomatch z⟩ ci,uP,hDi,?_⟩
    rw[qM (P':=aR (D::Z) Θ (f9 js e1) σ) fun a=>by rw[nH (js:=js) rfl];show _↔a∈D::aR Z Θ (f9 js e1) σ;rw[bU]] at ri;exact ri
section
variable{X:Cx}{NT NF:List Str}{js:List Nat}{elt tg iter:Expr}{ifs:List Expr}{T:fZ}{fi:FI}{ft:FT}{fe:FE}{scope:iY}{pos:Pos}
theorem qU(B:oR X NT NF js scope)(tk:nP tg NT T)(hc:X.calm=true)(hi:PI X tg iter (tI X.K true fi))
  (hin:∀b,mH (X.bk (NT++NF) scope b) ifs (eX X.K ft)∧PE (X.bk (NT++NF) scope b) elt (tE X.K fe))
  (hs:∀x,tY iter X.env x=pure x:=by intro _;rfl):PE X (.ListComp elt [⟨tg,iter,ifs,0⟩] scope pos) (tE X.K (fLC fi T ft fe js)):=(akM B tk hc hi hin hs).weak Zx
theorem ahn{i:Nat}{y:Str}{pos' spos:Pos}(B:oR X NT NF js scope)(tk:nP tg NT T)(hc:X.calm=true)(hi:PI X tg iter (tI X.K true fi))
  (hin:∀b,mH (X.bk (NT++NF) scope b) ifs (eX X.K ft)∧PE (X.bk (NT++NF) scope b) elt (tE X.K fe))
  (hsw:uf (.ListComp elt [⟨tg,iter,ifs,0⟩] scope pos) (some (.Name y pos')) spos.line X.env=pure true)(hN:X.N.Nodup)(hI:X.N[i]?=some y)(hy:X.env.scope.names.lookup y=some .local)
  (hs:∀x,tY iter X.env x=pure x:=by intro _;rfl):PS X (.Assign [.Name y pos'] (.ListComp elt [⟨tg,iter,ifs,0⟩] scope pos) spos) (tS X.K (fSet i (fLC fi T ft fe js))):=(ag0 B tk hc hi hin hsw hN hI hy hs).weak (OD Zx)
end
def Ah(n:Nat):Vl→Bool
 |.ce m=>decide (m<n)
 |_=>true
def fN(k n:Nat)(body:FS):FN:=fun xs C=>if xs.length=k then match body (xs.map some++cP (n-xs.length) none) C with
  |some (.rt r,_,C')=>if Ah C.length r then some (r,C'.take C.length) else none
  |some (.nx,_,C')=>some (.im .none,C'.take C.length)
  |_=>none
 else none
section
variable{K:aG}{Z Θ:List aa}{C:Ce}{H:Hp}{xs:List Vl}{vs:List V}
theorem O1(a:pX K E Θ xs vs):vs.length=xs.length:=by
 induction a with
 |nil=>rfl
 |cons _ _ ih=>rw[cO,cO,ih]
theorem aiA(a:pX K E Θ xs vs):∀{i:Nat}{x:Vl},xs[i]?=some x→∃v,vs[i]?=some v∧uF K E Θ x v:=by
 induction a with
 |nil=>intro i x e;simp at e
 |cons h _ ih=>
  intro i x e;cases i with
  |zero=>simp at e;subst e;exact⟨_,rfl,h⟩
  |succ i=>
   obtain⟨v,e2,h2⟩:=ih (i:=i) (by simpa using e)
   exact⟨v,by simpa using e2,h2⟩
theorem Sm.start(S:Sm K Z Θ [] C [] H)(a:pX K (er (aR Z Θ [] []) H) Θ xs vs):Sm K Z Θ (xs.map some++cP n mU) C (vs.map some++cP n mU) H∧bD (xs.map some++cP n mU) (vs.map some++cP n mU)=[]:=by
 have lv:=O1 a;have at':∀{i:Nat}{x:Vl},(xs.map some++cP n mU)[i]?=some (some x)→∃v,vs[i]?=some v∧uF K (er (aR Z Θ [] []) H) Θ x v∧i<vs.length:=fun{i x} e=>by
  by_cases hi:i<xs.length
  ·rw[nY (by rw[aW];exact hi),gC] at e;cases hx:xs[i]? with
   |none=>rw[hx] at e;cases e
   |some y=>
    rw[hx] at e;cases e
    obtain⟨v,e1,h⟩:=aiA a hx
    exact⟨v,e1,h,by rw[lv];exact hi⟩
  ·rw[nW (by rw[aW];omega)] at e;have:=nZ e;exact nomatch(List.eq_of_mem_replicate this)
 have no:bD (xs.map some++cP n mU) (vs.map some++cP n mU)=[]:=Aa fun i d e=>by
  obtain⟨v,_,h,_⟩:=at' e
  exact h
 refine⟨⟨by simp[lv],?_,S.dom,fun i x e=>?_,S.cell⟩,no⟩
 ·show(Z++(Θ++bD _ _)).Nodup
  rw[no];exact S.nd
 ·obtain⟨v,e1,h,hl⟩:=at' e
  refine⟨v,by rw[nY (by rw[aW];exact hl),gC,e1];rfl,?_⟩
  have ee:er (aR Z Θ (xs.map some++cP n mU) (vs.map some++cP n mU)) H=er (aR Z Θ [] []) H:=by
   show er (Z++(Θ++bD _ _)) H=_;rw[no];rfl
  rw[ee];cases x with
  |im d=>exact h
  |ow d=>exact h.elim
  |ce m=>exact h
  |sc ns=>exact h
theorem Sm.cut(S:Sm K Z (Θ++Δ) [] C [] H):Sm K Z Θ [] (C.take Θ.length) [] H:=by
 have cZ:=S.cZ;have cl:=S.cell.len;rw[fU] at cl
 refine⟨rfl,yJ cZ.1 (j5.mp cZ.2.1).1 lC (fun b m m'=>cZ.2.2.2 b m (gB _ m')) (fun _ m=>nomatch m),S.dom,fun i x e=>by simp at e,⟨by rw[n6];omega,fun n a ns e1 e2=>?_⟩⟩
 have hn:n<Θ.length:=(je.mp e1).1;rw[Uu,if_pos hn] at e2;exact S.cell.at_ n a ns (by rw[nY hn];exact e1) e2
theorem JF.cut(t:jK Θ Θ' H)(ok:Ah Θ.length r=true)(no:O=[])(h:JF K Z Θ' C' O H H' r v):Res K Z Θ [] (C'.take Θ.length) [] H H' r v:=by
 obtain⟨Δ,rfl,hn⟩:=t.ex
 have sm:∀{Y:List aa},bh (er (aR Y (Θ++Δ) [] []) H') (er (aR Y Θ [] []) H'):=fun{Y}=>sJ fun a m=>by
  rcases jh.mp m with m|m|m
  ·exact jh.mpr (.inl m)
  ·exact jh.mpr (.inr (.inl (gB _ m)))
  ·nomatch m
 cases r with
 |im d=>exact⟨h.1.cut,h.2.same sm⟩
 |ow d=>
  obtain⟨a,e,m,S,r⟩:=h
  refine⟨a,e,?_,S.cut,r.same sm fun _ h=>h⟩
  rcases m with m|m
  ·rw[no] at m;nomatch m
  ·exact m
 |ce n=>
  obtain⟨S,a,e,e2⟩:=h
  refine⟨S.cut,a,e,?_⟩
  rw[nY (of_decide_eq_true ok)] at e2;exact e2
 |sc ns=>
  obtain⟨S,a,e,q⟩:=h
  exact⟨S.cut,a,e,sm.seq q⟩
end
section
variable{P:bf}{w:aY}{K:aG}{mg:Str→Option Value}{base:aV}
theorem iI{x qual:Str}{st:cU}{f:aa}{fd:dw}{N ps:List Str}{k:Nat}{body:FS}{k1 k2:Nat}(F:fP K x qual st f fd)(S:gG N ps (cL st))
  (hb:∀(cdv:Value)(A:bY)(outer:List Env)(s:au)(H:Hp)(E:XK),gZ k (A.deeper (envOfC qual (cL st) s.heap.objs.size f cdv))→iK (yr eV P w K mg base N qual (cL st) f cdv A outer s H E).uT (vK st) (tS K body))
  (e1:k1=ps.length:=by rfl)(e2:k2=N.length:=by rfl):di P w K mg base eV (k+1) f fd ps (spT K (fN k1 k2 body)):=by
 subst e1 e2;refine F.ok S (fun vs H Q E h=>?_) (fun cdv A outer s H vs Q E hr h=>⟨_,hb cdv A outer s H E hr,?_⟩)
 ·obtain⟨Z,Θ,C,xs,r,C',S0,a,hf,_⟩:=h
  unfold fN at hf;split at hf
  ·rename_i hl;rw[O1 a,hl]
  ·cases hf
 ·obtain⟨Z,Θ,C,xs,r,C',S0,a,hf,q⟩:=h
  unfold fN at hf;split at hf
  case isFalse=>cases hf
  rename_i hl;have lv:=O1 a
  obtain⟨S1,no⟩:=S0.start (n:=N.length-vs.length) a
  rw[lv] at S1 no;have hs:start N vs=vs.map some++cP (N.length-xs.length) none:=by unfold start;rw[lv]
  rw[hs];have cl:=S0.cell.len;split at hf
  ·rename_i r0 e' C1 hb';split at hf
   ·rename_i hok;cases hf
    refine⟨Z,Θ,_,C,.rt r,e',C1,S1,hb',fun Θ' v H' R=>?_⟩
    have kp:=R.kp;rw[no,ju] at kp;rw[cl] at q hok;exact q v H' kp (R.ok.cut R.th hok no)
   ·cases hf
  ·rename_i e' C1 hb';cases hf
   refine⟨Z,Θ,_,C,.nx,e',C1,S1,hb',fun Θ' σ' H' R=>?_⟩
   have kp:=R.kp;rw[no,ju] at kp
   obtain⟨Δ,e,hn⟩:=R.th.ex
   have S2:=R.sm.none;rw[e] at S2;rw[cl] at q;exact q .non H' kp ⟨S2.cut,rfl⟩
  ·cases hf
theorem ajV(hS:bK K H a (ns.map V.int))(h:f [.sc ns] []=some (.im (.bool true),C')):spT K f [.ref a] H (fun v _=>v=.bl true) E:=by
 refine⟨[],[],[],[.sc ns],_,C',⟨rfl,lC,(fun _ m=>nomatch m),fun i x e=>by simp at e,⟨rfl,fun n b ms e _=>by simp at e⟩⟩,.cons ⟨a,rfl,?_⟩ .nil,h,fun v H' _ R=>R.2⟩
 show bK K (er [] H) a _;rw[Dh];exact hS
end
def vX(i:Nat):FE:=fun env C=>match env[i]? with
 |some (some (.sc ns))=>some (.im (.int ns.length),env,C)
 |_=>none
def Ej(i:Nat)(f:FB):FE:=fun env C=>match env[i]? with
 |some (some (.sc ns))=>match f env C with
  |some (.int k,_,C1)=>match fB ns k with
   |some z=>some (.im (.int z),env,C1)
   |none=>none
  |_=>none
 |_=>none
section
variable{X:Cx}{o k:Expr}{i:Nat}{p pos:Pos}
theorem Zy(ho:PE X o (qY i))(hg:Gl X "len")(hm:X.mg "len"=none)(hv:rR "len"=some (.builtin "len"))
  (he:aZ [o] X.env=(false,eval o X.env)::aZ [] X.env:=by rfl)(hpl:(gm pos (aZ [] X.env)).any (·.1)=false:=by rfl):PE X (.Call (.Name "len" p) [o] [] pos) (tE X.K (vX i)):=
 (Ia V7 hg hm hv (nG ho qH he) (by decide) (by decide) he hpl).weak fun σ H Q aK=>by
  obtain⟨Z,Θ,env,C,r,env',C',S,hf,q⟩:=aK
  unfold vX at hf;split at hf
  ·rename_i ns h0;cases hf
   obtain⟨v,ev,a,rfl,sq⟩:=S.slot i _ h0
   have:=q (.int ns.length) H (aQ.refl _ _) (Fz.refl _) ⟨S,rfl⟩
   exact⟨_,ev,a,_,rfl,.inl ((Ae _ _).seq sq),by rw[aW];exact this⟩
  ·cases hf
theorem ajW(ho:PE X o (qY i))(hk:PE X k (dH X.K f))(hs:IV k):PE X (.Subscript o k pos) (tE X.K (Ej i f)):=(Ro PB ho hk hs).weak fun σ H Q aK=>by
 obtain⟨Z,Θ,env,C,r,env',C',S,hf,q⟩:=aK
 unfold Ej at hf;split at hf
 case h_2=>cases hf
 rename_i ns h0;split at hf
 case h_2=>cases hf
 rename_i z e1 C1 h1;split at hf
 case h_2=>cases hf
 rename_i y hy;cases hf
 obtain⟨v,ev,a,rfl,sq⟩:=S.slot i _ h0
 refine⟨_,ev,Z,Θ,env,C,_,e1,C',S,h1,fun w H1 k1 f1 S1 b1=>?_⟩
 have S2:=S.go k1 S1.cell
 obtain⟨v2,ev2,a2,ea2,sq2⟩:=S2.slot i _ h0
 rw[ev] at ev2;cases ev2;cases ea2
 refine⟨a,_,z,.int y,rfl,b1,(Ae _ _).seq sq2,?_,q _ H1 k1 (Fz.refl _) ⟨S2,rfl⟩⟩
 unfold fB at hy⊢;rw[aW];cases hj:m9 ns.length z with
 |none=>rw[hj] at hy;cases hy
 |some j=>
  rw[hj] at hy
  show(ns.map V.int)[j]?=_
  rw[gC,show ns[j]?=some y from hy];rfl
end
section
variable{K:aG}{X:Cx}
theorem uG(h:JC Z Θ env σ H [d] vs):∃v,vs=[v]∧fj Z Θ env σ H d v:=by
 cases h with
 |cons a b=>cases b;exact⟨_,rfl,a⟩
theorem aa1(h:JC Z Θ env σ H [d,e] vs):∃v w,vs=[v,w]∧fj Z Θ env σ H d v∧fj Z Θ env σ H e w:=by
 cases h with
 |cons a b=>
  cases b with
  |cons b c=>cases c;exact⟨_,_,rfl,a,b⟩
def Ek:aj→Option Nat
 |.list ds=>some ds.length
 |.tuple ds=>some ds.length
 |.str z=>if z.length≤LIM then some z.length else none
 |.dict kvs=>if(cM cV kvs).isSome then some kvs.length else none
 |_=>none
def jy:List aj→Option Vl
 |[d]=>(Ek d).map fun n=>.im (.int n)
 |_=>none
def aa2(K:aG):List V→Hp→VK→Prop:=fun xs H Q=>((∃p ys,xs=[.ref p]∧(bK K H p ys∨cN K H p ys)∧Q (.int ys.length) H)∨∃z,xs=[.str z]∧z.length≤bM∧Q (.int z.length) H)∨∃a kvs,xs=[V.ref a]∧H a=some (.dK kvs)∧Q (.int kvs.length) H
theorem lY:jw X (.builtin "len") (aa2 X.K):=(V7.or aeC).or af7
theorem mC:qm K (aa2 K) jy:=by
 intro Z Θ env C σ H xs ds res S b e Q q;unfold jy at e;split at e
 case h_2=>cases e
 rename_i d
 obtain⟨v,rfl,bb⟩:=uG b
 cases hn:Ek d with
 |none=>rw[hn] at e;cases e
 |some n=>
  rw[hn] at e;cases e;have fin:=q (.int n) H (aQ.refl _ _) (iD S rfl rfl);cases d<;>first|cases hn|skip
  ·rename_i z;simp only[Ek] at hn;split at hn
   ·rename_i hl;cases hn;cases bb.str;exact .inl (.inr ⟨z,rfl,sy hl,fin⟩)
   ·cases hn
  ·obtain⟨a,vs,rfl,ha,r⟩:=bb.lst
   exact .inl (.inl ⟨a,vs,rfl,.inl (bK.of ha),by rw[gU r];exact fin⟩)
  ·obtain⟨a,vs,rfl,ha,r⟩:=bb.tup
   exact .inl (.inl ⟨a,vs,rfl,.inr (cN.of ha),by rw[gU r];exact fin⟩)
  ·rename_i kvs;simp only[Ek] at hn;split at hn
   ·rename_i hs;cases hn
    obtain⟨a,vs,rfl,da,r⟩:=bb.dct
    rcases da with⟨ks,h1,ha⟩|⟨ks,⟨ne,h2⟩,ha⟩
    ·refine .inr ⟨a,_,rfl,ha,?_⟩;rw[Vg,xK h1,Jb r,Nat.min_self];exact fin
    ·obtain⟨ks',h1⟩:=wU.mp hs
     exact absurd (xM h1 h2) ne
   ·cases hn
def DN:List aj→Option Vl
 |[.int i]=>some (.im (.int (if i<0 then -i else i)))
 |_=>none
theorem aat:qm K (fun xs H Q=>∃i,xs=[.int i]∧Q (.int (if i<0 then -i else i)) H) DN:=by
 intro Z Θ env C σ H xs ds res S b e Q q;unfold DN at e;split at e
 case h_2=>cases e
 cases e
 obtain⟨v,rfl,bb⟩:=uG b
 cases bb.int
 exact⟨_,rfl,q _ H (aQ.refl _ _) (iD S rfl rfl)⟩
def sZ:List aj→Option Vl
 |[.int i]=>some (.im (.int i))
 |[.bool k]=>some (.im (.int (if k then 1 else 0)))
 |_=>none
theorem Js:qm K (fun xs H Q=>(∃i,xs=[.int i]∧Q (.int i) H)∨∃k,xs=[.bl k]∧Q (.int (if k then 1 else 0)) H) sZ:=by
 intro Z Θ env C σ H xs ds res S b e Q q;unfold sZ at e;split at e
 case h_3=>cases e
 ·cases e
  obtain⟨v,rfl,bb⟩:=uG b
  cases bb.int;exact .inl ⟨_,rfl,q _ H (aQ.refl _ _) (iD S rfl rfl)⟩
 ·cases e
  obtain⟨v,rfl,bb⟩:=uG b
  cases(show v=.bl _ from bb)
  exact .inr ⟨_,rfl,q _ H (aQ.refl _ _) (iD S rfl rfl)⟩
def Ab:List aj→Option Vl
 |[.int i,.int j]=>some (.im (.int (if j>i then j else i)))
 |_=>none
def sU:List aj→Option Vl
 |[.int i,.int j]=>some (.im (.int (if j<i then j else i)))
 |_=>none
theorem aiB:qm K (fun xs H Q=>∃i j,xs=[.int i,.int j]∧Q (.int (if j>i then j else i)) H) Ab:=by
 intro Z Θ env C σ H xs ds res S b e Q q;unfold Ab at e;split at e
 case h_2=>cases e
 cases e
 obtain⟨v,w,rfl,b1,b2⟩:=aa1 b
 cases b1.int;cases b2.int
 exact⟨_,_,rfl,q _ H (aQ.refl _ _) (iD S rfl rfl)⟩
theorem Jf:qm K (fun xs H Q=>∃i j,xs=[.int i,.int j]∧Q (.int (if j<i then j else i)) H) sU:=by
 intro Z Θ env C σ H xs ds res S b e Q q;unfold sU at e;split at e
 case h_2=>cases e
 cases e
 obtain⟨v,w,rfl,b1,b2⟩:=aa1 b
 cases b1.int;cases b2.int
 exact⟨_,_,rfl,q _ H (aQ.refl _ _) (iD S rfl rfl)⟩
def boolsOf:List aj→Option (List Bool)
 |[]=>some []
 |.bool b::r=>match boolsOf r with
  |some t=>some (b::t)
  |none=>none
 |_=>none
theorem Xk:∀{ds:List aj}{ns:List Bool}{vs:List V},boolsOf ds=some ns→cz E ds vs→vs=ns.map V.bl
 |[],ns,vs,h,r=>by cases h;exact r
 |.bool i::ds,ns,vs,h,r=>by
  unfold boolsOf at h;split at h
  ·rename_i t ht;cases h
   obtain⟨u,w,rfl,q,s⟩:=r
   rw[Xk ht s];have:u=.bl i:=q;rw[this];rfl
  ·cases h
 |.none::_,_,_,h,_=>by cases h
 |.int _::_,_,_,h,_=>by cases h
 |.str _::_,_,_,h,_=>by cases h
 |.list _::_,_,_,h,_=>by cases h
 |.tuple _::_,_,_,h,_=>by cases h
 |.dict _::_,_,_,h,_=>by cases h
def DP:List aj→Option Vl
 |[.list ds]=>(boolsOf ds).map fun bs=>.im (.bool (bs.all id))
 |_=>none
theorem ajX:qm K (fun xs H Q=>∃(p:aa)(bs:List Bool),xs=[.ref p]∧bK K H p (bs.map V.bl)∧Q (.bl (bs.all id)) H) DP:=by
 intro Z Θ env C σ H xs ds res S b e Q q;unfold DP at e;split at e
 case h_2=>cases e
 rename_i ds;cases hb:boolsOf ds with
 |none=>rw[hb] at e;cases e
 |some bs=>
  rw[hb] at e;cases e
  obtain⟨v,rfl,bb⟩:=uG b
  obtain⟨a,vs,rfl,ha,r⟩:=bb.lst
  rw[Xk hb r] at ha
  exact⟨a,bs,rfl,bK.of ha,q _ H (aQ.refl _ _) (iD S rfl rfl)⟩
def CQ:List aj→Option Vl
 |[.list ds]=>some (.im (.tuple ds))
 |[.tuple ds]=>some (.im (.tuple ds))
 |_=>none
theorem Yk:qm K (fun xs H Q=>∃p ys,xs=[.ref p]∧((bK K H p ys∧∀l,H l=none→Q (.ref l) (upd H l (.tup ys)))∨(cN K H p ys∧Q (.ref p) H))) CQ:=by
 intro Z Θ env C σ H xs ds res S b e Q q;unfold CQ at e;split at e
 case h_3=>cases e
 ·cases e
  obtain⟨v,rfl,bb⟩:=uG b
  obtain⟨a,vs,rfl,ha,r⟩:=bb.lst
  exact⟨a,vs,rfl,.inl ⟨bK.of ha,fun l hl=>q _ _ (aQ.upd hl) (Jc S r hl)⟩⟩
 ·cases e
  obtain⟨v,rfl,bb⟩:=uG b
  obtain⟨a,vs,rfl,ha,r⟩:=bb.tup
  exact⟨a,vs,rfl,.inr ⟨cN.of ha,q _ H (aQ.refl _ _) ⟨S,bb⟩⟩⟩
end
def uQ(n:String):aj→Option Bool
 |.none=>some false
 |.bool _=>some (n=="bool"||n=="int")
 |.int _=>some (n=="int")
 |.str _=>some (n=="str")
 |.list _=>some (n=="list")
 |.tuple _=>some (n=="tuple")
 |.dict _=>none
def El(n:String):Bool:=n=="bool"||n=="int"||n=="str"||n=="list"||n=="tuple"
theorem Q3{K:aG}{n:String}{d:aj}{b:Bool}(hn:El n=true)(e:uQ n d=some b):zb K (Fd d) (.type n)=some b:=by
 unfold El at hn;simp only[Bool.or_eq_true,beq_iff_eq] at hn;rcases hn with(((rfl|rfl)|rfl)|rfl)|rfl<;>cases d<;>cases e<;>rfl
theorem Yl(e:uQ n d=some b):∀kvs,d≠.dict kvs:=fun kvs z=>by subst z;cases e
theorem fj.ty{K:aG}{Z Θ:List aa}{env:En}{σ:St}{H:Hp}{d:aj}{v:V}(h:fj Z Θ env σ H d v)(hd:∀kvs,d≠.dict kvs):lO K H v (Fd d):=by
 cases d with
 |none=>exact RX.ty (d:=.none) h
 |bool b=>exact RX.ty (d:=.bool b) h
 |int i=>exact RX.ty (d:=.int i) h
 |str z=>exact RX.ty (d:=.str z) h
 |list ds=>
  obtain⟨a,vs,rfl,ha,r⟩:=h.lst
  exact .lst ha
 |tuple ds=>
  obtain⟨a,vs,rfl,ha,r⟩:=h.tup
  exact .tup ha
 |dict kvs=>exact absurd rfl (hd kvs)
def lV(n:String)(f:FB):FE:=fun env C=>match f env C with
 |some (d,_,C1)=>match uQ n d with
  |some b=>some (.im (.bool b),env,C1)
  |none=>none
 |none=>none
def yh(m n:String)(f:FB):FE:=fun env C=>match f env C with
 |some (d,_,C1)=>match uQ m d,uQ n d with
  |some p,some q=>some (.im (.bool (p||q)),env,C1)
  |_,_=>none
 |none=>none
section
variable{X:Cx}{a t t':Expr}{p pos tp:Pos}{x1:Nat}
theorem qO(hn:El n=true)(ha:PE X a (dH X.K f))(ht:PE X t (tC (.ty n)))(hg:Gl X "isinstance")(hm:X.mg "isinstance"=none)(hv:rR "isinstance"=some (.builtin "isinstance"))
  (he:aZ [a,t] X.env=(false,eval a X.env)::aZ [t] X.env:=by rfl)(he2:aZ [t] X.env=(false,eval t X.env)::aZ [] X.env:=by rfl)(hpl:(gm pos (aZ [t] X.env)).any (·.1)=false:=by rfl):
  PE X (.Call (.Name "isinstance" p) [a,t] [] pos) (tE X.K (lV n f)):=
 (Ia ae0 hg hm hv (nG ha (nG ht qH he2) he) (by decide) (by decide) he hpl).weak fun σ H Q aK=>by
  obtain⟨Z,Θ,env,C,r,env',C',S,hf,q⟩:=aK
  unfold lV at hf;split at hf
  case h_2=>cases hf
  rename_i d e1 C1 h1;split at hf
  case h_2=>cases hf
  rename_i b hb;cases hf
  refine⟨Z,Θ,env,C,d,e1,C',S,h1,fun v H1 k f S1 b1=>⟨v,n,Fd d,b,rfl,b1.ty (Yl hb),Q3 hn hb,q _ H1 k (Fz.refl _) ⟨S.go k S1.cell,rfl⟩⟩⟩
theorem aiC(hm':El m=true)(hn:El n=true)(ha:PE X a (dH X.K f))(ht:PE X t (tC (.ty m)))(ht':PE X t' (tC (.ty n)))(hg:Gl X "isinstance")(hm:X.mg "isinstance"=none)(hv:rR "isinstance"=some (.builtin "isinstance"))
  (he:aZ [a,.Tuple [t,t'] x1 tp] X.env=(false,eval a X.env)::aZ [.Tuple [t,t'] x1 tp] X.env:=by rfl)(he2:aZ [.Tuple [t,t'] x1 tp] X.env=(false,eval (.Tuple [t,t'] x1 tp) X.env)::aZ [] X.env:=by rfl)
  (h3:aZ [t,t'] X.env=(false,eval t X.env)::aZ [t'] X.env:=by rfl)(h4:aZ [t'] X.env=(false,eval t' X.env)::aZ [] X.env:=by rfl)
  (hpl:(gm pos (aZ [.Tuple [t,t'] x1 tp] X.env)).any (·.1)=false:=by rfl):
  PE X (.Call (.Name "isinstance" p) [a,.Tuple [t,t'] x1 tp] [] pos) (tE X.K (yh m n f)):=
 (Ia aeD hg hm hv (nG ha (nG (QJ (nG ht (nG ht' qH h4) h3)) qH he2) he) (by decide) (by decide) he hpl).weak fun σ H Q aK=>by
  obtain⟨Z,Θ,env,C,r,env',C',S,hf,q⟩:=aK
  unfold yh at hf;split at hf
  case h_2=>cases hf
  rename_i d e1 C1 h1;split at hf
  case h_2=>cases hf
  rename_i b b' hb hb';cases hf
  refine⟨Z,Θ,env,C,d,e1,C',S,h1,fun v H1 k f S1 b1=>⟨by show 2≤bM;rw[jg];decide,fun c hc=>?_⟩⟩
  have kc:aQ Θ H1 (upd H1 c (.tup [.ty m,.ty n])):=aQ.upd hc;have s2:=S1.yf (bh.upd (o:=.tup [.ty m,.ty n]) hc);have b2:=b1.go S1 kc (Fz.refl _)
  refine⟨v,c,m,n,Fd d,b,b',rfl,eN,b2.ty (Yl hb),Q3 hm' hb,Q3 hn hb',q _ _ (k.trans kc) (Fz.refl _) ⟨S.go (k.trans kc) s2.cell,rfl⟩⟩
end
def ins{α:Type}(lt:α→α→Bool)(x:α):List α→List α
 |[]=>[x]
 |y::r=>if lt y x then y::ins lt x r else x::y::r
def mZ{α:Type}(lt:α→α→Bool):List α→List α
 |[]=>[]
 |x::r=>ins lt x (mZ lt r)
section
variable{α:Type}{lt:α→α→Bool}
theorem O2(x:α):∀l:List α,(ins lt x l).Perm (x::l)
 |[]=>zc _
 |y::r=>by
  unfold ins;split
  ·exact((O2 x r).cons y).trans (Vx x y r)
  ·exact zc _
theorem rY:∀l:List α,(mZ lt l).Perm l
 |[]=>zc _
 |x::r=>(O2 x _).trans ((rY r).cons x)
structure DQ(lt:α→α→Bool)(P:α→Prop):Prop where
 abt:∀a b,P a→P b→lt a b=true→lt b a=false
 neg:∀a b c,P a→P b→P c→lt a c=true→lt a b=true∨lt b c=true
 tot:∀a b,P a→P b→lt a b=false→lt b a=false→a=b
theorem aau(O:DQ lt P)(hx:P x):∀{l:List α},(∀y∈l,P y)→l.Pairwise (fun a b=>lt b a=false)→(ins lt x l).Pairwise (fun a b=>lt b a=false)
 |[],_,_=>tX.mpr ⟨fun _ m=>(nomatch m),yQ⟩
 |y::r,hp,h=>by
  rw[tX] at h;have py:=hp y dG;unfold ins;split
  ·rename_i hl;rw[tX]
   refine⟨fun z m=>?_,aau O hx (fun z m=>hp z (dN _ m)) h.2⟩
   rcases bU.mp ((O2 x r).mem_iff.mp m) with rfl|m
   ·exact O.abt _ _ py hx hl
   ·exact h.1 z m
  ·rename_i hl;have hl:lt y x=false:=by simpa using hl
   rw[tX,tX]
   refine⟨fun z m=>?_,h.1,h.2⟩
   rcases bU.mp m with rfl|m
   ·exact hl
   ·have pz:=hp z (dN _ m);cases hz:lt z x with
    |false=>rfl
    |true=>
     rcases O.neg z y x pz py hx hz with h1|h1
     ·rw[h.1 z m] at h1;cases h1
     ·rw[hl] at h1;cases h1
theorem O3(O:DQ lt P):∀{l:List α},(∀y∈l,P y)→(mZ lt l).Pairwise (fun a b=>lt b a=false)
 |[],_=>yQ
 |x::r,hp=>aau O (hp x dG) (fun y m=>hp y (dN _ ((rY r).mem_iff.mp m))) (O3 O fun y m=>hp y (dN _ m))
theorem aav(O:DQ lt P):∀{l m:List α},(∀y∈l,P y)→l.Perm m→l.Pairwise (fun a b=>lt b a=false)→m.Pairwise (fun a b=>lt b a=false)→l=m
 |[],m,_,p,_,_=>(List.nil_perm.mp p).symm
 |x::r,[],_,p,_,_=>absurd p.length_eq (by simp)
 |x::r,y::t,hp,p,h1,h2=>by
  have pm:∀z∈y::t,P z:=fun z m=>hp z (p.mem_iff.mpr m)
  rw[tX] at h1 h2;have e:x=y:=by
   have m1:x∈y::t:=p.mem_iff.mp dG;have m2:y∈x::r:=p.mem_iff.mpr dG;rcases bU.mp m1 with e|m1
   ·exact e
   ·rcases bU.mp m2 with e|m2
    ·exact e.symm
    ·exact O.tot x y (hp x dG) (pm y dG) (h2.1 x m1) (h1.1 y m2)
  subst e;rw[aav O (fun z m=>hp z (dN _ m)) ((List.perm_cons x).mp p) h1.2 h2.2]
theorem Zz(O:DQ lt P)(hp:∀y∈l,P y)(p:m.Perm l)(h:m.Pairwise (fun a b=>lt b a=false)):m=mZ lt l:=
 aav O (fun y hy=>hp y (p.mem_iff.mp hy)) (p.trans (rY l).symm) h (O3 O hp)
end
theorem JS:DQ strLt (fun _=>True):=by
 refine⟨fun a b _ _ h=>?_,fun a b c _ _ _ h=>?_,fun a b _ _ h1 h2=>?_⟩
 ·exact aij (a:=.inr a) (b:=.inr b) h
 ·exact ajJ (a:=.inr a) (b:=.inr b) (c:=.inr c) rfl rfl h
 ·exact aeV (ajK (a:=.inr a) (b:=.inr b) rfl h1 h2)
def strsOf:List aj→Option (List Str)
 |[]=>some []
 |.str i::r=>match strsOf r with
  |some t=>some (i::t)
  |none=>none
 |_=>none
theorem Ym:∀{ds:List aj}{ns:List Str}{vs:List V},strsOf ds=some ns→cz E ds vs→vs=ns.map V.str
 |[],ns,vs,h,r=>by cases h;exact r
 |.str i::ds,ns,vs,h,r=>by
  unfold strsOf at h;split at h
  ·rename_i t ht;cases h
   obtain⟨u,w,rfl,q,s⟩:=r
   rw[Ym ht s];have:u=.str i:=q;rw[this];rfl
  ·cases h
 |.none::_,_,_,h,_=>by cases h
 |.bool _::_,_,_,h,_=>by cases h
 |.int _::_,_,_,h,_=>by cases h
 |.list _::_,_,_,h,_=>by cases h
 |.tuple _::_,_,_,h,_=>by cases h
 |.dict _::_,_,_,h,_=>by cases h
def JT:aj→Option (List Bool)
 |.tuple xs=>(keysOf xs).map fun ks=>ks.map bJ
 |_=>none
def jY:Key→aj
 |.inl i=>.int i
 |.inr x=>.str x
def Ai:aj→List Key
 |.tuple xs=>(keysOf xs).getD []
 |_=>[]
def JV(ds:List aj):List aj:=(Eh (ds.map Ai)).map fun k=>.tuple (k.map jY)
theorem aaw:∀{x:Str}{r:List Str},risingS x r=true→(x::r).Pairwise (fun a b=>strLt b a=false)
 |x,[],_=>tX.mpr ⟨fun _ m=>(nomatch m),yQ⟩
 |x,y::r,h=>by
  unfold risingS at h;rw[iQ,UL] at h;have ih:=aaw h.2;have hxy:strLt y x=false:=by
   have:=h.1;unfold strLt;rw[lt_meets];exact this
  rw[tX]
  refine⟨fun z m=>?_,ih⟩
  rcases bU.mp m with rfl|m
  ·exact hxy
  ·rw[tX] at ih;cases hz:strLt z x with
   |false=>rfl
   |true=>
    rcases JS.neg z y x trivial trivial trivial hz with h1|h1
    ·rw[ih.1 z m] at h1;cases h1
    ·rw[hxy] at h1;cases h1
theorem aax(p:ns'.Perm ns)(h:sortedS ns'=true):ns'=mZ strLt ns:=Zz JS (fun _ _=>trivial) p (by
 cases ns' with
 |nil=>exact yQ
 |cons x r=>exact aaw h)
theorem O4:∀{xs:List aj}{ks:List Key},keysOf xs=some ks→xs=ks.map jY
 |[],ks,h=>by cases h;rfl
 |x::xs,ks,h=>by
  unfold keysOf at h;split at h
  ·rename_i k t h1 h2;cases h;rw[O4 h2];have:x=jY k:=by
    cases x<;>first|(cases h1;rfl)|cases h1
   rw[this];rfl
  ·cases h
theorem O5:∀ks:List Key,keysOf (ks.map jY)=some ks
 |[]=>rfl
 |k::ks=>by
  show(match cV (jY k),keysOf (ks.map jY) with|some k,some t=>some (k::t)|_,_=>none)=_
  rw[O5 ks];cases k<;>rfl
theorem ags(h:∀d∈ds,(JT d).isSome=true):(JV ds).Perm ds:=by
 have:=(agh (ds.map Ai)).map fun k=>vC (k.map jY)
 refine this.trans (ad4 ?_);rw[dB]
 refine(wW fun d hd=>?_).trans (MK ds)
 have hs:=h d hd;cases d with
 |tuple xs=>
  show vC (((keysOf xs).getD []).map jY)=.tuple xs;cases hk:keysOf xs with
  |none=>
   have hs:((keysOf xs).map fun ks=>ks.map bJ).isSome=true:=hs;rw[hk] at hs;cases hs
  |some ks=>rw[O4 hk];rfl
 |_=>cases hs
theorem Yn:∀{ds:List aj}{vs:List V},(∀d∈ds,JT d=some sh)→cz E ds vs→∃rows:List Row,vs=rows.map (fun r=>V.ref r.1)∧ds=rows.map (fun r=>.tuple (r.2.map jY))∧∀r∈rows,E r.1=some (.tup (r.2.map kV))∧r.2.map bJ=sh
 |[],vs,_,r=>⟨[],r,rfl,fun _ m=>(nomatch m)⟩
 |d::ds,vs,h,r=>by
  obtain⟨u,w,rfl,q,s⟩:=r
  obtain⟨rows,e1,e2,e3⟩:=Yn (fun d m=>h d (dN _ m)) s
  have hd:=h d dG;cases d<;>first|cases hd|skip
  rename_i xs;have hd:(keysOf xs).map (fun ks=>ks.map bJ)=some sh:=hd;cases hk:keysOf xs with
  |none=>rw[hk] at hd;cases hd
  |some ks=>
   rw[hk] at hd
   obtain⟨a,vs',rfl,ha,rr⟩:=q
   rw[vD hk rr] at ha
   refine⟨(a,ks)::rows,by rw[e1];rfl,by rw[e2,O4 hk];rfl,fun r m=>?_⟩
   rcases bU.mp m with rfl|m
   ·exact⟨ha,fV hd⟩
   ·exact e3 r m
theorem O6:∀{rows:List Row},(∀r∈rows,E r.1=some (.tup (r.2.map kV)))→cz E (rows.map fun r=>.tuple (r.2.map jY)) (rows.map fun r=>V.ref r.1)
 |[],_=>rfl
 |r::rows,h=>by
  refine⟨_,_,rfl,⟨r.1,r.2.map kV,rfl,h r dG,?_⟩,O6 fun r m=>h r (dN _ m)⟩
  generalize r.2=ks;induction ks with
  |nil=>rfl
  |cons k ks ih=>exact⟨_,_,rfl,by cases k<;>rfl,ih⟩
theorem Yo:∀{ds:List aj}{ns:List Str},strsOf ds=some ns→ds=ns.map .str
 |[],ns,h=>by cases h;rfl
 |.str i::ds,ns,h=>by
  unfold strsOf at h;split at h
  ·rename_i t ht;cases h;rw[Yo ht];rfl
  ·cases h
 |.none::_,_,h=>by cases h
 |.bool _::_,_,h=>by cases h
 |.int _::_,_,h=>by cases h
 |.list _::_,_,h=>by cases h
 |.tuple _::_,_,h=>by cases h
 |.dict _::_,_,h=>by cases h
def Im(ds:List aj):Option (List aj):=if ds.length<64 then match strsOf ds with
  |some ns=>some ((mZ strLt (dedup ns)).map .str)
  |none=>none
 else none
section
variable{X:Cx}{l:Expr}{f:FB}{p1 p2 pos1 pos2:Pos}
end
theorem aiD(hu:A.units+1<eU)(I:Inv X pins σ H s)(g:nR H a y o)(ry:RelV y u)(rd:RelV d r)(h:∀w' s',Inv X pins σ H s'→RelV (o.getD d) w'→Q w' s'):
  aM (model X.prog X.w) A (call (.builtin "dict.get") [.ref a,u,r]) Q E s:=by
 rcases g with g|⟨ha,⟨b,ks,rfl,hb⟩,rfl⟩
 ·exact aac hu I g ry rd h
 ·exact aac hu (I.Kd ha) (nR.re ha hb) ry rd fun w' s' I'=>h w' s' (I'.Te ha)
def akS(td ty tx:TE):TE:=fun σ H Q=>td σ H fun x H1=>∃a,x=.ref a∧IsD H1 a∧ty σ H1 fun y H2=>tx σ H2 fun z H3=>∃o,nR H3 a y o∧Q (o.getD z) H3
theorem aiE(hu:X.A.units+1<eU)(ho:PE X o td)(he:PE X e ty)(hf:PE X f tx)(m:M2 X o "get" apos e f cpos):PE X (.Call (.Attribute o "get" apos) [e,f] [] cpos) (akS td ty tx):=by
 intro pins s σ H Q I h;refine adC m.base m.few m.line acJ Uk PySem.F.type_dict_get (bu (ho pins s σ H _ I h) fun u s1 aK=>?_)
 obtain⟨x,H1,I1,rx,a,ex,d,q1⟩:=aK
 subst ex;obtain rfl:u=dM a:=rx
 obtain⟨t1,t2,_⟩:=ajC I1 d
 refine⟨t1,t2,?_⟩
 rw[m.trees];refine acN rfl (ac0 (Gh (bu (he pins s1 σ H1 _ I1 q1) fun iv s2 ⟨y,H2,I2,ry,q2⟩=>
  Gh (bu (hf pins s2 σ H2 _ I2 q2) fun fv s3 ⟨z,H3,I3,rz,ov,g,q3⟩=>KZ ?_))))
 exact aiD hu I3 g ry rz fun w' s4 I4 rw'=>⟨_,H3,I4,rw',q3⟩
def Ar(fd fk:FB)(fx:FE):FE:=fun env C=>match fd env C with
 |some (.dict kvs,e1,C1)=>match fk e1 C1 with
  |some (dk,e2,C2)=>match fx e2 C2 with
   |some (r,e3,C3)=>match mX kvs dk with
    |some (some d)=>some (.im d,rst (.im d) env e3,C3)
    |some none=>some (still r,rst (still r) env e3,C3)
    |none=>none
   |none=>none
  |none=>none
 |_=>none
theorem ajY(hu:X.A.units+1<eU)(ho:PE X o (dH X.K fd))(he:PE X e (dH X.K fk))(hf:PE X f (tE X.K fx))(m:M2 X o "get" apos e f cpos):PE X (.Call (.Attribute o "get" apos) [e,f] [] cpos) (tE X.K (Ar fd fk fx)):=(aiE hu ho he hf m).weak fun σ H Q aK=>by
 obtain⟨Z,Θ,env,C,r,env',C',S,hf,q⟩:=aK
 unfold Ar at hf;split at hf
 case h_2=>cases hf
 rename_i kvs e1 C1 h1;split at hf
 case h_2=>cases hf
 rename_i dk e2 C2 h2;split at hf
 case h_2=>cases hf
 rename_i r0 e3 C3 h3
 refine⟨Z,Θ,env,C,_,e1,C1,S,h1,fun v H1 k1 f1 S1 b1=>?_⟩
 obtain⟨a,vs,rfl,da,rr⟩:=b1.dct
 refine⟨a,rfl,?_,Z,Θ,e1,C1,dk,e2,C2,S1,h2,fun w H2 k2 f2 S2 b2=>⟨Z,Θ,e2,C2,r0,e3,C3,S2,h3,fun z H3 k3 f3 R3=>?_⟩⟩
 ·rcases da with⟨ks,_,h⟩|⟨ks,_,h⟩
  ·exact .inl ⟨_,.inl h⟩
  ·exact .inr ⟨_,.inl h⟩
 have Fg:=(b1.go S1 k2 f2).go S2 k3 f3;have b2':=b2.go S2 k3 f3
 obtain⟨S3,a3⟩:=R3.arg
 have kk:=(k1.trans k2).trans k3;have ff:=(f1.trans f2).trans f3;split at hf
 ·rename_i d hl;cases hf
  obtain⟨a',o',e',g,hq⟩:=Fg.get b2' hl
  cases e';rcases hq with⟨v',rfl,d',e1',r1,_⟩|⟨_,e1'⟩
  ·cases e1'
   exact⟨some v',g,q v' H3 kk (ff.rst _) (Res.rst S kk ⟨S3,r1⟩)⟩
  ·cases e1'
 ·rename_i hl;cases hf
  obtain⟨a',o',e',g,hq⟩:=Fg.get b2' hl
  cases e';rcases hq with⟨v',rfl,d',e1',_⟩|⟨rfl,_⟩
  ·cases e1'
  ·exact⟨none,g,q z H3 kk (ff.rst _) (((R3.still).from (k1.trans k2)).rst S kk)⟩
 ·cases hf
def Jt:aj→aj→Option Vl
 |.str z,.list ds=>match strsOf ds with
  |some ys=>if(ys.map (·.length)).sum+ys.length*z.length≤LIM then some (.im (.str (Txt.join z ys))) else none
  |none=>none
 |_,_=>none
def qW(f g:FB):FE:=aH Jt f g
theorem Qg(ho:PE X o (dH X.K f))(he:PE X e (dH X.K g))
  (hbase:xu o "join" X.env (eval o X.env)=eval o X.env:=by rfl)
  (hfew:((gm cpos (aZ [e] X.env)).all (fun x=>!x.1)&&(Cp cpos (BR [] X.env)).all (fun x=>x.1.isSome)
   &&decide (([e]:List Expr).length+([]:List pR).length+(if([]:List pR).isEmpty then 0 else 1)<30))=true:=by rfl)
  (hline:(apos.endLine==cpos.line)=true:=by rfl)(hs:aZ [e] X.env=(false,eval e X.env)::aZ [] X.env:=by rfl)(hplain:(gm cpos (aZ [] X.env)).any (·.1)=false:=by rfl):
  PE X (.Call (.Attribute o "join" apos) [e] [] cpos) (tE X.K (qW f g)):=
 (Rq PySem.F.plainAttrs_str PySem.F.slot_str_join PySem.F.type_str_join (wI.r aie) ho (nG he qH hs) hbase hfew hline hs hplain).weak fun σ H Q aK=>by
  obtain⟨Z,Θ,env,C,r,env',C',S,hf,q⟩:=aK
  unfold qW aH at hf;split at hf
  case h_2=>cases hf
  rename_i x e1 C1 h1;split at hf
  case h_2=>cases hf
  rename_i y e2 C2 h2;split at hf
  case h_2=>cases hf
  rename_i r0 h3;cases hf
  refine⟨Z,Θ,env,C,x,e1,C1,S,h1,fun v H1 k1 f1 S1 b1=>?_⟩
  unfold Jt at h3;split at h3
  case h_2=>cases h3
  rename_i z ds;split at h3
  case h_2=>cases h3
  rename_i ys hys;split at h3
  case isFalse=>cases h3
  rename_i hl;cases h3;cases b1.str
  refine⟨rfl,Z,Θ,e1,C1,_,e2,C',S1,h2,fun w H2 k2 f2 S2 b2=>?_⟩
  obtain⟨a,vs,rfl,ha,rr⟩:=b2.lst
  rw[Ym hys rr] at ha;have kk:=k1.trans k2
  refine⟨z,a,ys,rfl,rfl,bK.of ha,by unfold LIM at hl;omega,?_⟩
  exact q _ H2 kk ((f1.trans f2).rst _) (Res.rst S kk ⟨S2,rfl⟩)
abbrev FO:=En→Ce→Option (Option Int×Ce)
inductive Fi(K:aG)(f:FO)(σ:St)(H:Hp)(Q:Option Int→Hp→Prop):Prop
 |mk (Z Θ:List aa) (env:En) (C:Ce) (o:Option Int) (C':Ce) (S:Sm K Z Θ env C σ H) (hf:f env C=some (o,C')) (q:∀H',aQ Θ H H'→Sm K Z Θ env C' σ H'→Q o H'):Fi K f σ H Q
def fD:FO:=fun _ C=>some (none,C)
def cQ(f:FB):FO:=fun env C=>match f env C with
 |some (.int i,_,C1)=>some (some i,C1)
 |_=>none
def iJ{α:Type}(xs:List α)(lo hi:Option Int):List α:=(xs.drop (HT.bT xs.length 0 lo)).take (HT.bT xs.length xs.length hi-HT.bT xs.length 0 lo)
def jc(lo hi:Option Int):aj→Option Vl
 |.str z=>if z.length≤LIM then some (.im (.str (Txt.slice z lo hi))) else none
 |.list ds=>some (.ow (.list (iJ ds lo hi)))
 |.tuple ds=>some (.im (.tuple (iJ ds lo hi)))
 |_=>none
def dj(f:FB)(lo hi:FO):FE:=fun env C=>match f env C with
 |some (d,e1,C1)=>match lo e1 C1 with
  |some (l,C2)=>match hi e1 C2 with
   |some (h,C3)=>match jc l h d with
    |some r=>some (r,rst r env e1,C3)
    |none=>none
   |none=>none
  |none=>none
 |none=>none
theorem Qh{E:Hp}{ds:List aj}{vs:List V}{lo hi:Option Int}(r:cz E ds vs):cz E (iJ ds lo hi) (qZ vs lo hi):=by
 unfold iJ qZ;rw[gU r];exact XX _ (X3 _ r)
section
variable{X:Cx}{e:Expr}{lo hi:Option Expr}{pos p2:Pos}
theorem PO.weak(h:PO X o t)(w:∀σ H Q,t' σ H Q→t σ H Q):PO X o t':=fun pins s σ H Q I q=>h pins s σ H Q I (w σ H Q q)
theorem oV:PO X none (Fi X.K fD):=ah2.weak fun σ H Q aK=>by
 obtain⟨Z,Θ,env,C,o,C',S,hf,q⟩:=aK
 cases hf;exact q H (aQ.refl _ _) S
theorem jn(h:PE X e (dH X.K f)):PO X (some e) (Fi X.K (cQ f)):=(ah3 h).weak fun σ H Q aK=>by
 obtain⟨Z,Θ,env,C,o,C',S,hf,q⟩:=aK
 unfold cQ at hf;split at hf
 ·rename_i i e1 C1 h1;cases hf
  exact⟨Z,Θ,env,C,_,e1,C',S,h1,fun v H1 k f S1 b1=>⟨i,b1,q H1 k (S.go k S1.cell)⟩⟩
 ·cases hf
theorem kY{f:FB}{flo fhi:FO}(he:PE X e (dH X.K f))(hl:PO X lo (Fi X.K flo))(hh:PO X hi (Fi X.K fhi)):PE X (.Subscript e (.Slice lo hi none p2) pos) (tE X.K (dj f flo fhi)):=(agV ((ajF.or ah5).or ail) he hl hh).weak fun σ H Q aK=>by
 obtain⟨Z,Θ,env,C,r,env',C',S,hf,q⟩:=aK
 unfold dj at hf;split at hf
 case h_2=>cases hf
 rename_i d e1 C1 h1;split at hf
 case h_2=>cases hf
 rename_i l C2 h2;split at hf
 case h_2=>cases hf
 rename_i h C3 h3;split at hf
 case h_2=>cases hf
 rename_i r0 h4;cases hf
 refine⟨Z,Θ,env,C,d,e1,C1,S,h1,fun v H1 k1 f1 S1 b1=>⟨Z,Θ,e1,C1,l,C2,S1,h2,fun H2 k2 S2=>⟨Z,Θ,e1,C2,h,C',S2,h3,fun H3 k3 S3=>?_⟩⟩⟩
 have kk:=(k1.trans k2).trans k3;have b3:=b1.go S1 (k2.trans k3) (Fz.refl _);have fin:∀{w:V}{H4:Hp},aQ Θ H3 H4→Res X.K Z Θ e1 C' σ H3 H4 r w→Q w H4:=fun{w H4} k4 R=>q w H4 (kk.trans k4) (f1.rst _) ((R.from kk).rst S (kk.trans k4))
 cases d<;>first|cases h4|skip
 ·rename_i z;simp only[jc] at h4;split at h4
  ·rename_i hz;cases h4;cases b3.str;exact .inl (.inl ⟨z,rfl,sy hz,fin (aQ.refl _ _) (iD S3 rfl rfl)⟩)
  ·cases h4
 ·obtain⟨a,vs,rfl,ha,rr⟩:=b3.lst
  exact .inl (.inr ⟨a,vs,rfl,bK.of ha,fun p hp=>fin (aQ.upd hp) (zR S3 (Qh rr) hp)⟩)
 ·rename_i ds;have b3':=b3
  obtain⟨a,vs,rfl,ha,rr⟩:=b3.tup
  refine .inr ⟨a,vs,rfl,cN.of ha,fun ec=>?_,fun p hp=>fin (aQ.upd hp) (Jc S3 (Qh rr) hp)⟩;have rc:=Qh (lo:=l) (hi:=h) rr;rw[ec] at rc;refine fin (aQ.refl _ _) ⟨S3,a,vs,rfl,Dj S3 ha,rc⟩
end
def vY(T:fZ)(ft:FT)(fk fv:FE)(fs:En):List aj→List (aj×aj)→Ce→Option (List (aj×aj)×Ce)
 |[],acc,C=>some (acc,C)
 |d::r,acc,C=>match uZ T d with
  |some ts=>match ft (dz ts++fs) C with
   |some (false,C1)=>vY T ft fk fv fs r acc C1
   |some (true,C1)=>match fk (dz ts++fs) C1 with
    |some (.im k,_,C2)=>match fv (dz ts++fs) C2 with
     |some (x,_,C3)=>match still x,cV k with
      |.im y,some kk=>if acc.length<LIM then vY T ft fk fv fs r (m7 cV kk k y acc) C3 else none
      |_,_=>none
     |none=>none
    |_=>none
   |none=>none
  |none=>none
def yz:List (aj×aj)→Bool
 |[]=>true
 |p::r=>jB p.2&&yz r
def Fj(fi:FI)(T:fZ)(ft:FT)(fk fv:FE)(js:List Nat):FE:=fun env C=>match fi env C with
 |some (its,e1,C1)=>match vY T ft fk fv (frB js e1) its [] C1 with
  |some (kvs,C2)=>some (.ow (.dict kvs),if yz kvs then e1 else f9 js e1,C2)
  |none=>none
 |none=>none
theorem gO.jB(t:∀a vs,H a=some (.tup vs)→H' a=some (.tup vs)):∀{ds:List (aj×aj)}{vs:List V},yz ds=true→gO H ds vs→gO H' ds vs
 |[],_,_,h=>h
 |(k,d)::ds,vs,n,h=>by
  obtain⟨v,r,e,q,w⟩:=h
  have n':L2.jB d=true∧yz ds=true:=by rw[yz,iQ] at n;exact n
  exact⟨v,r,e,RZ.jB t n'.1 q,gO.jB t n'.2 w⟩
def Sd(fk fv:FE):En→List (aj×aj)→Ce→Option (List (aj×aj)×Ce):=fun env acc C=>(fk env C).bind fun p=>(imO p.1).bind fun k=>(fv env p.2.2).bind fun q=>(imO (still q.1)).bind fun y=>(cV k).bind fun kk=>bif decide (acc.length<LIM) then some (m7 cV kk k y acc,q.2.2) else none
theorem Qi:∀{its:List aj}{acc:List (aj×aj)}{C:Ce},vY T ft fk fv fs its acc C=some p→sY T ft (Sd fk fv) fs its acc C=some p
 |[],acc,C,h=>h
 |d::r,acc,C,h=>by
  unfold vY at h;unfold sY;split at h
  case h_2=>cases h
  rename_i ts ht;rw[ht,gQ];split at h
  case h_3=>cases h
  ·rename_i C1 hf;rw[hf,gQ];exact Qi h
  ·rename_i C1 hf;rw[hf,gQ]
   show(Sd fk fv (dz ts++fs) acc C1).bind _=_
   unfold Sd;split at h
   case h_2=>cases h
   rename_i k e2 C2 hk;rw[hk,gQ,show imO (.im k)=some k from rfl,gQ];split at h
   case h_2=>cases h
   rename_i x e3 C3 hx;rw[hx,gQ];split at h
   case h_2=>cases h
   rename_i y kk hy hkk;rw[hy,show imO (.im y)=some y from rfl,gQ,hkk,gQ];split at h
   case isFalse=>cases h
   rename_i hl;rw[decide_eq_true hl];exact Qi h
inductive Kf(P:List aa)(D:aa)(acc:List (aj×aj))(H:Hp):Prop
 |mk (ks:List Key) (vs:List V) (hk:cM cV acc=some ks) (hD:H D=some (.dK (ks.zip vs))) (r:gO (er P H) acc vs):Kf P D acc H
theorem aiF{K:aG}{fi:FI}{T:fZ}{ft:FT}{fk fv:FE}{js:List Nat}:∀σ H Q,tE K (Fj fi T ft fk fv js) σ H Q→tDC K (tI K true fi) T (fun _=>eX K ft) (fun _=>tE K fk) (fun _=>tE K fv) js σ H Q:=by
 rintro σ H Q ⟨Z,Θ,env,C,res,env',C',S,hf,q⟩;unfold Fj at hf;split at hf
 case h_2=>cases hf
 rename_i its e1 C1 h1;split at hf
 case h_2=>cases hf
 rename_i kvs C2 h2;cases hf
 refine⟨Z,Θ,env,C,its,e1,C1,S,h1,fun J H1 k1 f1 S1 it D hD b=>?_⟩
 have qg:D∉Θ:=fun m=>(S1.cell.dom D m).ne hD
 have Tq:D∈aR (jW D Z (f9 js e1) σ) Θ [] []:=(nH (js:=js) rfl).mpr (.inl rfl);have Ba:∀a Hx Hy,aQ Θ Hx Hy→Kf (aR (jW D Z (f9 js e1) σ) Θ [] []) D a Hx→Kf (aR (jW D Z (f9 js e1) σ) Θ [] []) D a Hy:=fun a Hx Hy kk r=>by
  obtain⟨ks,vs,g1,g2,g3⟩:=r
  exact⟨ks,vs,g1,kk.keep _ _ g2 qg,g3.same (j9 kk (fun a m=>jh.mpr (.inr (.inl m))) fun a m=>.inl m)⟩
 refine OJ (a0:=[]) (Ob:=Kf (aR (jW D Z (f9 js e1) σ) Θ [] []) D) S1 it hD ⟨[],[],rfl,eN,rfl⟩ Ba (fun a Hx r=>by obtain⟨ks,vs,_,e,_⟩:=r;exact⟨_,e,fun _ z=>nomatch z⟩) ?_ (Qi h2) fun H2 ki ci r=>?_
 ·intro ts acc C2 p vs H4 Q hs S4 k4 r4 hQ
  obtain⟨w,hfk,hs⟩:=iG hs
  obtain⟨kd,Sg,hs⟩:=iG hs
  obtain⟨w2,hfv,hs⟩:=iG hs
  obtain⟨yd,rF,hs⟩:=iG hs
  obtain⟨kk,hkd,hs⟩:=iG hs
  have Sg:=Dk Sg;have rF:=Dk rF;cases hlt:decide (acc.length<LIM) with
  |false=>rw[hlt] at hs;cases hs
  |true=>
  rw[hlt] at hs;cases hs
  refine⟨_,Θ,_,C2,w.1,w.2.1,w.2.2,S4,hfk,fun y H5 k5 f5 R5=>?_⟩
  rw[Sg] at R5;have S5:=S4.go k5 R5.1.cell
  refine⟨_,Θ,_,w.2.2,w2.1,w2.2.1,w2.2.2,S5,hfv,fun z H6 k6 f6 R6=>?_⟩
  obtain⟨S6,r6⟩:=R6.sX rF
  obtain⟨ks,uP,hks,hD6,r6'⟩:=Ba _ _ _ (k5.trans k6) r4
  have Tr:bD w2.2.1 (vs.map some++frees js σ)=[]:=by
   have:=(Fz.own (σ:=vs.map some++frees js σ) f6)
   rw[Aa Jr] at this;exact adR.mp this
  have e6:er (aR (jW D Z (f9 js e1) σ) Θ w2.2.1 (vs.map some++frees js σ)) H6=er (aR (jW D Z (f9 js e1) σ) Θ [] []) H6:=qM fun a=>by rw[nH (js:=js) Tr,nH (js:=js) rfl]
  rw[e6] at r6
  obtain⟨ks',vs',g3,g4,g5⟩:=Je hkd r6 hks r6'
  have lt:=of_decide_eq_true hlt
  refine⟨ks.zip uP,kk,hD6,aan hkd R5.2,?_,hQ _ (Q0 (Hy:=H6) hD ((k4.trans k5).trans k6)) (Il qg S6.cell) ⟨ks',vs',g3,by rw[g5];exact eN,?_⟩⟩
  ·rw[Vg,jg,xK hks];unfold LIM at lt;omega
  ·rw[QX Tq];exact g4
 ·obtain⟨ks,uP,hks,hDi,ri⟩:=r
  refine q _ H2 (k1.trans ki) ?_ ?_
  ·split
   ·exact f1
   ·exact f1.trans (z9 js e1)
  ·refine⟨D,rfl,k1.none hD,?_⟩
   split
   ·rename_i hn;have SD:=S1.yg hD ki ⟨_,hDi,fun _ z=>nomatch z⟩ ci
    exact⟨SD,uP,.inl ⟨ks,hks,hDi⟩,ri.jB (fun a vs e=>Dj SD (ir e)) hn⟩
   ·refine⟨(S1.fz (z9 js e1)).yg hD ki ⟨_,hDi,fun _ z=>nomatch z⟩ ci,uP,.inl ⟨ks,hks,hDi⟩,?_⟩
    rw[qM (P':=aR (D::Z) Θ (f9 js e1) σ) fun a=>by rw[nH (js:=js) rfl];show _↔a∈D::aR Z Θ (f9 js e1) σ;rw[bU]] at ri;exact ri
section
variable{X:Cx}{NT NF:List Str}{js:List Nat}{kx vx tg iter:Expr}{ifs:List Expr}{T:fZ}{fi:FI}{ft:FT}{fk fv:FE}{scope:iY}{pos:Pos}
theorem aho(B:oR X NT NF js scope)(tk:nP tg NT T)(hc:X.calm=true)(hu:X.A.units+1<eU)(hi:PI X tg iter (tI X.K true fi))
  (hin:∀b,mH (X.bk (NT++NF) scope b) ifs (eX X.K ft)∧PE (X.bk (NT++NF) scope b) kx (tE X.K fk)∧PE (X.bk (NT++NF) scope b) vx (tE X.K fv))
  (hsw:uf (.DictComp kx vx [⟨tg,iter,ifs,0⟩] scope pos) (some (.Name y pos')) spos.line X.env=pure true)(hN:X.N.Nodup)(hI:X.N[i]?=some y)(hy:X.env.scope.names.lookup y=some .local)
  (hs:∀x,tY iter X.env x=pure x:=by intro _;rfl):PS X (.Assign [.Name y pos'] (.DictComp kx vx [⟨tg,iter,ifs,0⟩] scope pos) spos) (tS X.K (fSet i (Fj fi T ft fk fv js))):=(ag3 B tk hc hu hi hin hsw hN hI hy hs).weak (OD aiF)
end
section
variable{X:Cx}
end
def mF:List aj→List aj→List aj
 |x::xs,y::ys=>.tuple [x,y]::mF xs ys
 |_,_=>[]
theorem ZC:∀{xs ys:List aj}{i:Nat}{d:aj},(mF xs ys)[i]?=some d→∃x y,xs[i]?=some x∧ys[i]?=some y∧d=.tuple [x,y]
 |[],_,i,d,h=>by simp[mF] at h
 |_::_,[],i,d,h=>by simp[mF] at h
 |x::xs,y::ys,0,d,h=>by
  simp[mF] at h
  exact⟨x,y,rfl,rfl,h.symm⟩
 |x::xs,y::ys,i+1,d,h=>by
  obtain⟨a,b,h1,h2,h3⟩:=ZC (i:=i) (by simpa[mF] using h)
  exact⟨a,b,by simpa using h1,by simpa using h2,h3⟩
theorem Yp:∀{xs ys:List aj},(mF xs ys).length=min xs.length ys.length
 |[],_=>by simp[mF]
 |_::_,[]=>by simp[mF]
 |x::xs,y::ys=>by simp[mF,Yp,Nat.succ_min_succ]
theorem ajZ{K:aG}{P T:List aa}{H:Hp}{a b:aa}{ds es:List aj}{vs ws:List V}(ha:er T H a=some (.lst vs))(hb:er T H b=some (.lst ws))(r1:cz (er P H) ds vs)(r2:cz (er P H) es ws):wB P T H (S8 K a b) (mF ds es):=fun i H2 P2 s1 s2 n=>by
 have h2:bK K H2 a vs:=bK.of (ir (s2 _ _ ha));have h3:bK K H2 b ws:=bK.of (ir (s2 _ _ hb))
 refine⟨fun d hd=>?_,fun hi=>⟨vs,ws,h2,h3,by rw[hi,Yp,gU r1,gU r2]⟩⟩
 obtain⟨x,y,e1,e2,rfl⟩:=ZC hd
 obtain⟨v,ev,rv⟩:=vM r1 e1
 obtain⟨w,ew,rw'⟩:=vM r2 e2
 refine⟨⟨vs,ws,h2,h3,?_⟩,fun z H3 yl=>?_⟩
 ·have l1:=(je.mp ev).1;have l2:=(je.mp ew).1;omega
 ·obtain⟨p,v',w',hp,rfl,rfl,hh⟩:=yl
  obtain⟨g1,g2⟩:=hh vs ws h2 h3
  rw[ev] at g1;rw[ew] at g2;cases g1;cases g2;have sp:bh H2 (upd H2 p (.tup [v,w])):=bh.upd hp
  refine⟨sp,p,[v,w],rfl,?_,v,[w],rfl,rv.same (s1.trans (PK sp)),w,[],rfl,rw'.same (s1.trans (PK sp)),rfl⟩
  unfold er;rw[if_neg (fun m=>n p m hp),eN]
def Fo(f:wO):FI:=fun env C=>match f env C with
 |some ([.list xs,.list ys],e1,C1)=>some (mF xs ys,e1,C1)
 |_=>none
theorem aj0(hg:Gl X "zip")(hm:X.mg "zip"=none)(ha:PA X [x,y] (uX X.K f))(hs:aZ [x,y] X.env=[(false,eval x X.env),(false,eval y X.env)]:=by rfl)(hs2:aZ [y] X.env=[(false,eval y X.env)]:=by rfl):
  PI X (.Tuple es k ps) (.Call (.Name "zip" p) [x,y] [] pos) (tI X.K true (Fo f)):=(ajI hg hm ha hs hs2).weak fun σ H R aK=>by
 obtain⟨Z,Θ,env,C,its,env',C',S,hf,q⟩:=aK
 unfold Fo at hf;split at hf
 case h_2=>cases hf
 rename_i xs ys e1 C1 h1;cases hf
 refine⟨Z,Θ,env,C,_,env',C',S,h1,fun vs H1 k f S1 b1=>?_⟩
 cases b1 with
 |cons b1 b2=>
  cases b2 with
  |cons b2 b3=>
   cases b3
   obtain⟨a,vs1,rfl,ha,r1⟩:=b1
   obtain⟨b,vs2,rfl,hb,r2⟩:=b2
   exact⟨a,b,vs1,vs2,rfl,bK.of (ir ha),bK.of (ir hb),q _ H1 k f S1 (ajZ ha hb r1 r2)⟩
section
variable{X:Cx}{tg e:Expr}
def itD2:aj→Option (List aj)
 |.list ds=>some ds
 |.tuple ds=>some ds
 |_=>none
def iB2(f:FB):FI:=fun env C=>match f env C with
 |some (d,e1,C1)=>match itD2 d with
  |some its=>some (its,e1,C1)
  |none=>none
 |none=>none
def iV2(f:FE):FI:=fun env C=>match f env C with
 |some (r,e1,C1)=>match still r with
  |.im d=>match itD2 d with
   |some its=>some (its,e1,C1)
   |none=>none
  |_=>none
 |none=>none
theorem DR(h:PE X e (dH X.K f)):PI X tg e (tI X.K true (iB2 f)):=((Pn h).or (QC h)).weak fun σ H R aK=>by
 obtain⟨Z,Θ,env,C,its,env',C',S,hf,q⟩:=aK
 unfold iB2 at hf;split at hf
 ·rename_i d e1 C1 h1;split at hf
  ·rename_i ys hi;cases hf;cases d<;>first|cases hi|skip
   ·refine .inl ⟨Z,Θ,env,C,_,env',C',S,h1,fun v H1 k f S1 b=>?_⟩
    obtain⟨a,vs,rfl,ha,r⟩:=b
    exact⟨a,rfl,⟨vs,bK.of (ir ha)⟩,q _ H1 k f S1 (Qe ha r)⟩
   ·refine .inr ⟨Z,Θ,env,C,_,env',C',S,h1,fun v H1 k f S1 b=>?_⟩
    obtain⟨a,vs,rfl,ha,r⟩:=b
    exact⟨a,rfl,⟨vs,cN.of (ir ha)⟩,q _ H1 k f S1 (QZ ha r)⟩
  ·cases hf
 ·cases hf
end
def Rw:FN:=fun _ _=>none
theorem aiG{P:bf}{w:aY}{K:aG}{mg:Str→Option Value}{base:aV}{f:aa}{fd:dw}{ps:List Str}:di P w K mg base eV 0 f fd ps (spT K Rw):=by
 have no:∀vs H Q E,¬spT K Rw vs H Q E:=fun vs H Q E ⟨_,_,_,_,_,_,_,_,h,_⟩=>nomatch h
 exact⟨fun _ _ _ _ h=>(no _ _ _ _ h).elim,fun _ _ _ _ _ _ _ _ _ _ _ _ _ h=>(no _ _ _ _ h).elim⟩
def rA(i:Nat)(f:FB):FE:=fun env C=>match env[i]? with
 |some (some (.ce n))=>match f env C with
  |some (.int k,_,C1)=>match C1[n]? with
   |some ns=>match fB ns k with
    |some z=>some (.im (.int z),env,C1)
    |none=>none
   |none=>none
  |_=>none
 |_=>none
theorem xV(ho:PE X o (qY i))(hk:PE X k (dH X.K f))(hs:IV k):PE X (.Subscript o k pos) (tE X.K (rA i f)):=(Ro PB ho hk hs).weak fun σ H Q aK=>by
 obtain⟨Z,Θ,env,C,r,env',C',S,hf,q⟩:=aK
 unfold rA at hf;split at hf
 case h_2=>cases hf
 rename_i n h0;split at hf
 case h_2=>cases hf
 rename_i z e1 C1 h1;split at hf
 case h_2=>cases hf
 rename_i ns hns;split at hf
 case h_2=>cases hf
 rename_i y hy;cases hf
 obtain⟨v,ev,a,rfl,hth⟩:=S.slot i _ h0
 refine⟨_,ev,Z,Θ,env,C,_,e1,C',S,h1,fun w H1 k1 f1 S1 b1=>?_⟩
 have S2:=S.go k1 S1.cell;have ha:=S1.cell.at_ n a ns hth hns
 refine⟨a,_,z,.int y,rfl,b1,bK.of ha,?_,q _ H1 k1 (Fz.refl _) ⟨S2,rfl⟩⟩
 unfold fB at hy⊢;rw[aW];cases hj:m9 ns.length z with
 |none=>rw[hj] at hy;cases hy
 |some j=>
  rw[hj] at hy
  show(ns.map V.int)[j]?=_
  rw[gC,show ns[j]?=some y from hy];rfl
def Bx(C:Ce)(b:Nat)(n:Int):Prop:=∃x y z:Int,C[b]?=some [x,y,z]∧0≤x∧0≤y∧y≤3000000000∧0≤z∧z≤n
theorem Bx.mono(h:Bx C b n)(hm:n≤m):Bx C b m:=by
 obtain⟨x,y,z,h1,h2,h3,h4,h5,h6⟩:=h
 exact⟨x,y,z,h1,h2,h3,h4,h5,by omega⟩
theorem aay{C:Ce}{b:Nat}{l l':List Int}(h:C[b]?=some l):(C.set b l')[b]?=some l':=by
 rw[Bm,if_pos rfl,if_pos (je.mp h).1]
theorem Yq{C C':Ce}(h:C'.length=C.length):C'.take C.length=C':=List.take_of_length_le (by omega)
theorem mul_eq(h:(-18446744073709551616<i∧i<18446744073709551616)∨(-18446744073709551616<j∧j<18446744073709551616)):iZ (.int i) (.int j)=some (.im (.int (i*j))):=by
 unfold iZ;exact if_pos h
theorem mod_eq(h:0<j):jG (.int i) (.int j)=some (.im (.int (i%j))):=by
 unfold jG;exact if_pos h
theorem fdiv_eq(h:0<j)(h1:j<1073741824):vN (.int i) (.int j)=some (.im (.int (i / j))):=by
 unfold vN;exact if_pos ⟨h,h1⟩
theorem Yr(I:Nat→En→Ce→Prop):∀{its:List aj}{env:En}{C:Ce}{k:Nat},I k env C→
  (∀i d env C,its[i]?=some d→I (k+i) env C→∃e1 fl env' C',g d env=some e1∧body e1 C=some (fl,env',C')∧(fl=.nx∨fl=.ct)∧I (k+i+1) env' C')→
  ∃env' C',iH g body its env C=some (.nx,env',C')∧I (k+its.length) env' C'
 |[],env,C,k,h,_=>⟨env,C,rfl,h⟩
 |d::r,env,C,k,h,st=>by
  obtain⟨e1,fl,als,C1,h1,h2,h3,h4⟩:=st 0 d env C rfl h
  obtain⟨alu,C2,h5,h6⟩:=Yr I (its:=r) (env:=als) (C:=C1) (k:=k+1) h4 fun i d' env C hd hi=>by
   have:=st (i+1) d' env C (by simpa using hd) (by rw[show k+(i+1)=k+1+i by omega];exact hi);rw[show k+(i+1)+1=k+1+i+1 by omega] at this;exact this
  refine⟨alu,C2,?_,by rw[cO,show k+(r.length+1)=k+1+r.length by omega];exact h6⟩
  unfold iH;rw[h1];simp only;rw[h2];rcases h3 with rfl|rfl<;>exact h5
theorem zK(I:Nat→En→Ce→Prop)(h:I 0 env C)
  (st:∀i d env C,its[i]?=some d→I i env C→∃e1 fl env' C',g d env=some e1∧body e1 C=some (fl,env',C')∧(fl=.nx∨fl=.ct)∧I (i+1) env' C'):
  ∃env' C',iH g body its env C=some (.nx,env',C')∧I its.length env' C':=by
 have:=Yr I (k:=0) h fun i d env C hd hi=>by
  rw[G4] at hi⊢;exact st i d env C hd hi
 rw[G4] at this;exact this
theorem Io(lo:Int)(n:Nat):(iu lo n).length=n:=by unfold iu;rw[aW,lA]
theorem CT{lo:Int}{n i:Nat}{d:aj}(h:(iu lo n)[i]?=some d):d=.int (lo+i)∧i<n:=by
 unfold iu at h;rw[gC] at h;by_cases hi:i<n
 ·rw[Us hi] at h
  exact⟨(fV h).symm,hi⟩
 ·rw[Gb (by rw[lA];omega)] at h;cases h
theorem Xl(I:Nat→Ce→Prop)(R:Nat→aj→Prop):∀{its:List aj}{C:Ce}{k:Nat},I k C→(∀i d C,its[i]?=some d→I (k+i) C→∃ts x e C' y,uZ T d=some ts∧fe (dz ts++fs) C=some (x,e,C')∧still x=.im y∧R (k+i) y∧I (k+i+1) C')→
  ∃ys C',jx T fY fe fs its C=some (ys,C')∧I (k+its.length) C'∧ys.length=its.length∧∀i y,ys[i]?=some y→R (k+i) y
 |[],C,k,h,_=>⟨[],C,rfl,h,rfl,fun i y e=>by simp at e⟩
 |d::r,C,k,h,st=>by
  obtain⟨ts,x,e,C1,y,h1,h2,h3,h4,h5⟩:=st 0 d C rfl h
  obtain⟨ys,C2,h6,h7,h8,h9⟩:=Xl I R (its:=r) (C:=C1) (k:=k+1) h5 fun i d' C hd hi=>by
   have:=st (i+1) d' C (by simpa using hd) (by rw[show k+(i+1)=k+1+i by omega];exact hi);rw[show k+(i+1)+1=k+1+i+1 by omega,show k+(i+1)=k+1+i by omega] at this;exact this
  refine⟨y::ys,C2,?_,by rw[cO,show k+(r.length+1)=k+1+r.length by omega];exact h7,by simp[h8],fun i z hz=>?_⟩
  ·unfold jx;simp only[h1,fY,h2,h3];rw[h6]
  ·cases i with
   |zero=>simp at hz;subst hz;exact h4
   |succ i=>
    have:=h9 i z (by simpa using hz);rw[show k+(i+1)=k+1+i by omega];exact this
theorem aaz(h0:0≤k)(h1:k<xs.length):∃x,fB xs k=some x∧xs[k.toNat]?=some x:=by
 have hk:k.toNat<xs.length:=by omega
 refine⟨xs[k.toNat],?_,jt hk⟩
 unfold fB m9;rw[if_pos h0,if_pos h1];exact jt hk
def Kg(z:Str):Bool:=z.cps.toList.all fun c=>decide (97≤c)&&decide (c≤122)
def nameB(z:Str):Bool:=decide (1≤z.length)&&decide (z.length≤8)&&Kg z
abbrev abc:Str:=fJ "abcdefghijklmnopqrstuvwxyz"
theorem aj1(r0:0≤r)(r1:r<26):fB abc.cps.toList r=some (97+r.toNat):=by
 have h:∀k:Nat,k<26→fB abc.cps.toList (k:Int)=some (97+k):=by decide +kernel
 have:=h r.toNat (by omega)
 rwa [Int.toNat_of_nonneg r0] at this
theorem WR:∀(l:List Nat)(a:Array Nat),((l.map fun c=>(⟨#[c]⟩:Str)).foldl (fun acc p=>acc++(fJ "").cps++p.cps) a).toList=a.toList++l
 |[],a=>by simp
 |c::r,a=>by
  simp only[cg,Br];rw[WR r];have e:(fJ "").cps=#[]:=by decide +kernel
  rw[e];simp
theorem WT:∀(l:List Nat),(Txt.join (fJ "") (l.map fun c=>(⟨#[c]⟩:Str))).cps.toList=l
 |[]=>by decide +kernel
 |c::r=>by
  show(((r.map fun c=>(⟨#[c]⟩:Str))).foldl (fun acc p=>acc++(fJ "").cps++p.cps) #[c]).toList=c::r
  rw[WR r];rfl
theorem ZD:∀ys:List Nat,(ys.map ((fun x:Str=>x.length) ∘ fun c=>(⟨#[c]⟩:Str))).sum=ys.length
 |[]=>rfl
 |c::r=>by
  rw[cg,aeo,ZD r,cO];show 1+r.length=r.length+1;omega
theorem Jg(hc:c∈(Txt.slice z l u).cps.toList):c∈z.cps.toList:=by
 unfold Txt.slice at hc;split at hc
 ·exact hc
 ·have hc':c∈((acv l u 1 z.length).filterMap (z.cps[·]?)):=by simpa using hc
  obtain⟨i,_,e⟩:=KJ.mp hc'
  have:=acY e;simpa using this
def Names(zs:List Str):Prop:=zs.Nodup∧∀z∈zs,nameB z=true
theorem Ip(z:Str)(zs:List Str):inD (.str z) (zs.map .str)=decide (z∈zs):=by
 unfold inD;rw[qw,aeG];simp[adS,rB,toV]
theorem ahp(h:nameB z=true):1≤z.length∧z.length≤8∧∀c∈z.cps.toList,97≤c∧c≤122:=by
 unfold nameB Kg at h;simp only[iQ,decide_eq_true_eq,oh] at h
 exact⟨h.1.1,h.1.2,h.2⟩
def Asc(z:Str):Prop:=∀c∈z.cps.toList,c<128
def nU(n:Nat)(z:Str):Prop:=Asc z∧z.length≤n
theorem nU.mono(h:nU n z)(hm:n≤m):nU m z:=⟨h.1,jP h.2 hm⟩
theorem nU.line(h:nU n z)(hn:n≤100000:=by omega):z.length≤bM:=aif (m:=100000) (jP h.2 hn)
theorem nU.slice(h:nU n z)(l u:Option Int):nU n (Txt.slice z l u):=by
 refine⟨fun c hc=>?_,jP (Txt.slice_le z l u) h.2⟩
 unfold Txt.slice at hc;split at hc
 ·exact h.1 c hc
 ·have hc':c∈((acv l u 1 z.length).filterMap (z.cps[·]?)):=by simpa using hc
  obtain⟨i,_,e⟩:=KJ.mp hc'
  refine h.1 c ?_;have:=acY e;simpa using this
theorem nU.add(h:nU n x)(g:nU m y):nU (n+m) (x++y):=by
 have e:(x++y).cps=x.cps++y.cps:=rfl
 refine⟨fun c hc=>?_,?_⟩
 ·rw[e] at hc;have:c∈x.cps.toList∨c∈y.cps.toList:=by simpa using hc
  exact this.elim (h.1 c) (g.1 c)
 ·show(x++y).cps.size≤_
  rw[e,UT];exact Nat.add_le_add h.2 g.2
theorem nU.name(h:nameB z=true):nU 8 z:=by
 unfold nameB Kg at h;simp only[iQ,decide_eq_true_eq,oh] at h
 exact⟨fun c hc=>by have:=h.2 c hc;omega,h.1.2⟩
def gJ(zs:List Str)(ps:List (Str×Str)):Prop:=∀(i:Nat)(x:Str×Str),ps[i]?=some x→zs[i]?=some x.1∧(x.2=fJ ""∨∃j,j<i∧zs[j]?=some x.2)
theorem gJ.snoc(h:gJ zs ps)(ha:zs[ps.length]?=some a)(hb:b=fJ ""∨∃j,j<ps.length∧zs[j]?=some b):gJ zs (ps++[(a,b)]):=by
 intro i x e;by_cases hi:i<ps.length
 ·rw[nY hi] at e;exact h i x e
 ·rw[nW (by omega)] at e;by_cases h0:i-ps.length=0
  ·rw[h0] at e;cases e;have:i=ps.length:=by omega
   subst this
   exact⟨ha,hb⟩
  ·rw[Gb (by simp;omega)] at e;cases e
def gY(ps:List (Str×Str))(z:Str):Option Str:=(ps.find? fun p=>decide (p.1=z)).map (·.2)
inductive Over(f:Str→Option Str):Str→List Str→Prop
 |stop {z:Str}:f z=none→Over f z []
 |step {z y:Str} {r:List Str}:f z=some y→Over f y r→Over f z (z::r)
structure Tt(e B:Nat)(d:aj):Prop where
 alv:d.showable=true
 deep:d.depth≤e
 len:d.shown.length≤B
theorem Tt.mono(h:Tt e B d)(he:e≤e')(hB:B≤B'):Tt e' B' d:=⟨h.alv,jP h.deep he,jP h.len hB⟩
abbrev qX:=Int×Str×Int×Str×Int×Int
abbrev cB:=Int×Str×Str×Str×Int×Int×Int
abbrev DW:=Int×Str
abbrev JG:=Str×Int×List DW
def tD(r:qX):aj:=.tuple [.int r.1,.str r.2.1,.int r.2.2.1,.str r.2.2.2.1,.int r.2.2.2.2.1,.int r.2.2.2.2.2]
def bI(r:cB):aj:=.tuple [.int r.1,.str r.2.1,.str r.2.2.1,.str r.2.2.2.1,.int r.2.2.2.2.1,.int r.2.2.2.2.2.1,.int r.2.2.2.2.2.2]
def JH(s:DW):aj:=.tuple [.int s.1,.str s.2]
def aj2(ss:List DW):aj:=.tuple (ss.map JH)
def DX(r:JG):aj:=.tuple [.str r.1,.int r.2.1,aj2 r.2.2]
def tG(p:Str×Str):aj:=.tuple [.str p.1,.str p.2]
structure jE where
 ps:List (Str×Str)
 vZ:List qX
 leaves:List cB
 rules:List JG
def gq(h:jE):aj:=.tuple [.tuple (h.ps.map tG),.tuple (h.vZ.map tD),.tuple (h.leaves.map bI),.tuple (h.rules.map DX)]
structure aj3(zs own:List Str)(r:qX):Prop where
 num:0≤r.1∧r.1≤2000
 who:r.2.1∈zs
 rank:1≤r.2.2.1∧r.2.2.1≤9
 part:r.2.2.2.1∈own
 days:0≤r.2.2.2.2.1∧r.2.2.2.2.1≤r.2.2.2.2.2∧r.2.2.2.2.2≤99999
structure zT(zs own:List Str)(r:cB):Prop where
 num:0≤r.1∧r.1≤2000
 giver:r.2.1∈zs
 taker:r.2.2.1∈zs
 ne:r.2.1≠r.2.2.1
 part:r.2.2.2.1∈own
 days:0≤r.2.2.2.2.1∧r.2.2.2.2.1≤r.2.2.2.2.2.1∧r.2.2.2.2.2.1≤99999
 most:0≤r.2.2.2.2.2.2∧r.2.2.2.2.2.2≤1000000000
def aj4(own:List Str)(s:DW):Prop:=1≤s.1∧s.1≤9∧(s.2=fJ ""∨s.2∈own)
structure aj5(own:List Str)(r:JG):Prop where
 part:r.1∈own
 sum:0≤r.2.1∧r.2.1≤1000000000
 many:r.2.2.length≤6
 anu:∀s∈r.2.2,aj4 own s
structure nF(zs:List Str)(ps:List (Str×Str))(h:jE):Prop where
 parts:h.ps.Perm ps
 p8:ps.length≤8
 r20:h.vZ.length≤20
 jZ:h.leaves.length≤16
 u10:h.rules.length≤10
 vZ:∀r∈h.vZ,aj3 zs (ps.map (·.1)) r
 rup:(h.vZ.map (·.1)).Pairwise (·<·)
 leaves:∀r∈h.leaves,zT zs (ps.map (·.1)) r
 lnd:(h.leaves.map (·.1)).Nodup
 rules:∀r∈h.rules,aj5 (ps.map (·.1)) r
 unlike:(h.rules.map fun r=>(r.1,r.2.1)).Nodup
theorem WW(h:nameB z=true):Ms z=true:=by
 unfold Ms;rw[Array.all_eq_true'];intro c hc;have:=(ahp h).2.2 c (by simpa using hc);exact decide_eq_true (by omega)
theorem O7:∀{zs:List Str},(∀z∈zs,Ms z=true)→UW (zs.map cF)=true∧Vh (zs.map cF)=0∧wz (zs.map cF)=true
 |[],_=>⟨by simp[UW],by simp[Vh],rfl⟩
 |z::zs,h=>by
  obtain⟨h1,h2,h3⟩:=O7 fun x hx=>h x (dN _ hx)
  refine⟨by simp[UW,aed,h z dG];simpa using h1,by simp only[cg,Vh,aeH,h2];rfl,?_⟩
  show(true&&wz (zs.map cF))=true
  rw[h3];rfl
theorem ae5{zs:List Str}(h:∀z∈zs,Ms z=true):lX (.list (zs.map cF))=true:=by
 obtain⟨h1,h2,_⟩:=O7 h
 unfold lX;simp only[aed,h1,aeH,h2];decide
theorem aeI:∀{l:List α}{m:List β},m.Perm (l.map f)→∃l':List α,l'.Perm l∧m=l'.map f:=fun{l m} p=>by
 generalize e:l.map f=k at p;induction p generalizing l with
 |nil=>
  cases l with
  |nil=>exact⟨[],zc _,rfl⟩
  |cons _ _=>cases e
 |@cons x m k _ ih=>
  cases l with
  |nil=>cases e
  |cons a l=>
   rw[cg,Vi] at e
   obtain⟨l',p',rfl⟩:=ih e.2
   exact⟨a::l',p'.cons a,by rw[cg,e.1]⟩
 |swap x y m=>
  cases l with
  |nil=>cases e
  |cons a l=>
   cases l with
   |nil=>cases e
   |cons b l=>
    rw[cg,cg,Vi,Vi] at e
    obtain⟨e1,e2,e3⟩:=e
    exact⟨b::a::l,Vx a b l,by rw[cg,cg,e1,e2,e3]⟩
 |trans _ _ ih1 ih2=>
  obtain⟨l2,p2,e2⟩:=ih2 e
  obtain⟨l1,p1,e1⟩:=ih1 e2.symm
  exact⟨l1,p1.trans p2,e1⟩
theorem afC(x:Str×Str)(ps:List (Str×Str))(z:Str):gY (x::ps) z=if x.1=z then some x.2 else gY ps z:=by
 unfold gY;rw[ou];by_cases h:x.1=z
 ·rw[decide_eq_true h,if_pos h];rfl
 ·rw[decide_eq_false h,if_neg h]
theorem ue:∀{ps:List (Str×Str)}{z w:Str},(ps.map (·.1)).Nodup→(gY ps z=some w↔(z,w)∈ps)
 |[],z,w,_=>by simp[gY]
 |x::ps,z,w,h=>by
  rw[cg,iR] at h;rw[afC];by_cases hz:x.1=z
  ·rw[if_pos hz,bU];constructor
   ·intro e;left;rw[←hz,←fV e]
   ·rintro(e|e)
    ·rw[←e]
    ·exact absurd (fK.mpr ⟨(z,w),e,hz.symm⟩) h.1
  ·rw[if_neg hz,ue h.2,bU];constructor
   ·exact .inr
   ·rintro(e|e)
    ·exact absurd (by rw[←e]) hz
    ·exact e
theorem afD(p:ps'.Perm ps)(h:(ps.map (·.1)).Nodup)(z:Str):gY ps' z=gY ps z:=by
 have h':(ps'.map (·.1)).Nodup:=(p.map (·.1)).nodup_iff.mpr h;cases e:gY ps z with
 |some w=>exact(ue h').mpr (p.mem_iff.mpr ((ue h).mp e))
 |none=>
  cases e':gY ps' z with
  |none=>rfl
  |some w=>
   have:=(ue h).mpr (p.mem_iff.mp ((ue h').mp e'));rw[e] at this;cases this
theorem Np(h:gJ zs ps):ps.map (·.1)=zs.take ps.length:=by
 apply adD;intro i;rw[gC,Uu];cases e:ps[i]? with
 |none=>
  rw[if_neg (by have:=Ua.mp e;omega)];rfl
 |some x=>
  rw[if_pos (je.mp e).1,(h i x e).1];rfl
theorem BX(hN:Names zs)(h:gJ zs ps):(ps.map (·.1)).Nodup:=by
 rw[Np h];exact hN.1.sublist (Gn _ _)
theorem aeJ:nameB (fJ "")=false:=by decide +kernel
theorem WX(hN:Names zs)(h:gJ zs ps)(hz:z∈ps.map (·.1)):nameB z=true:=by
 rw[Np h] at hz;exact hN.2 z (vd hz)
theorem WY(hN:Names zs)(h:gJ zs ps):gY ps (fJ "")=none:=by
 cases e:gY ps (fJ "") with
 |none=>rfl
 |some w=>
  have:=(ue (BX hN h)).mp e;have:=WX hN h (fK.mpr ⟨_,this,rfl⟩);rw[aeJ] at this;cases this
def u5(f:Str→Option Str):Nat→Str→List Str
 |0,_=>[]
 |n+1,z=>match f z with
  |none=>[]
  |some y=>z::u5 f n y
def up(ps:List (Str×Str))(z:Str):List Str:=u5 (gY ps) (ps.length+1) z
theorem O8(h:f z=none):∀n,u5 f n z=[]
 |0=>rfl
 |n+1=>by unfold u5;rw[h]
theorem Ys(h:f z=some y)(n:Nat):u5 f (n+1) z=z::u5 f n y:=by
 rw[u5,h]
theorem ZF:∀n z,(u5 f n z).length≤n
 |0,_=>bO 0
 |n+1,z=>by
  cases h:f z with
  |none=>rw[O8 h];exact lF _
  |some y=>
   rw[Ys h,cO];exact adT (ZF n y)
theorem ZG(hN:Names zs)(hP:gJ zs ps):∀(n i:Nat),i<n→∀x,ps[i]?=some x→Over (gY ps) x.1 (u5 (gY ps) n x.1)
 |0,_,h,_,_=>absurd h (yZ _)
 |n+1,i,h,x,hx=>by
  have e:gY ps x.1=some x.2:=(ue (BX hN hP)).mpr (nZ hx);rw[Ys e];refine .step e ?_
  rcases(hP i x hx).2 with h2|⟨j,hj,h2⟩
  ·rw[h2,O8 (WY hN hP)];exact .stop (WY hN hP)
  ·have hi:=(je.mp hx).1;have hjl:j<ps.length:=by omega
   have g:=hP j ps[j] (jt hjl);have e2:ps[j].1=x.2:=by
    have:=g.1;rw[h2] at this
    exact(fV this).symm
   rw[←e2];exact ZG hN hP n j (by omega) ps[j] (jt hjl)
theorem Qj(hN:Names zs)(hP:gJ zs ps)(z:Str):Over (gY ps) z (up ps z):=by
 unfold up;cases e:gY ps z with
 |none=>
  rw[O8 e];exact .stop e
 |some w=>
  obtain⟨i,hi,hx⟩:=vg ((ue (BX hN hP)).mp e)
  have:=ZG hN hP (ps.length+1) i (by omega) _ (jt hi);rw[hx] at this;exact this
theorem Q4(ps:List (Str×Str))(z:Str):(up ps z).length≤ps.length+1:=ZF _ _
def aP(l:List (Str×aj)):List (aj×aj):=l.map fun p=>(.str p.1,p.2)
theorem Cu:∀l:List (Str×aj),cM cV (aP l)=some (l.map fun p=>.inr p.1)
 |[]=>rfl
 |p::l=>by
  rw[show aP (p::l)=(.str p.1,p.2)::aP l from rfl];unfold cM;rw[Cu l];simp only[cV];rfl
theorem zU(x z:Str):(cV (.str x)=some (.inr z))↔x=z:=by
 simp[cV]
theorem Xm(z:Str):∀l:List (Str×aj),pZ cV (.inr z) (aP l)=(l.find? fun p=>decide (p.1=z)).map (·.2)
 |[]=>rfl
 |p::l=>by
  show(if cV (.str p.1)=some (.inr z) then some p.2 else pZ cV (.inr z) (aP l))=_
  rw[ou];by_cases h:p.1=z
  ·rw[if_pos ((zU _ _).mpr h),decide_eq_true h];rfl
  ·rw[if_neg (fun e=>h ((zU _ _).mp e)),decide_eq_false h,Xm z l]
theorem N6(l:List (Str×aj))(z:Str):mX (aP l) (.str z)=some ((l.find? fun p=>decide (p.1=z)).map (·.2)):=by
 show(if(cM cV (aP l)).isSome then some (pZ cV (.inr z) (aP l)) else none)=_
 rw[Cu,Xm];rfl
theorem Yt(h:z∉l.map (·.1)):m7 cV (.inr z) (.str z) d (aP l)=aP (l++[(z,d)]):=by
 unfold m7;rw[if_neg,aP,aP,gR]
 ·rfl
 ·rw[U8,adn];intro p hp
  obtain⟨q,hq,rfl⟩:=fK.mp hp
  have:¬(cV (.str q.1)=some (.inr z)):=fun e=>h (fK.mpr ⟨q,hq,(zU _ _).mp e⟩)
  simpa using this
theorem O9(h:z∉l.map (·.1)):putD (aP l) (.str z) d=some (aP (l++[(z,d)])):=by
 show(if(cM cV (aP l)).isSome then some (m7 cV (.inr z) (.str z) d (aP l)) else none)=_
 rw[Cu,Yt h];rfl
theorem ahq(ps:List (Str×Str))(g:Str×Str→α)(z:Str):((ps.map fun p=>(p.1,g p)).find? fun p=>decide (p.1=z)).map (·.2)=(ps.find? fun p=>decide (p.1=z)).map g:=by
 rw[Vy,Bu];rfl
theorem qz(D:α→aj)(p:α→Bool)(g:α→aj):∀{l:List α},(∀a∈l,∃ts,uZ T (D a)=some ts∧ft (dz ts++fs) C=some (p a,C)∧(p a=true→∃x e,fe (dz ts++fs) C=some (x,e,C)∧still x=.im (g a)))→
  jx T ft fe fs (l.map D) C=some ((l.filter p).map g,C)
 |[],_=>rfl
 |d::r,h=>by
  obtain⟨ts,h1,h2,h3⟩:=h d dG
  have ih:=qz D p g (l:=r) fun d m=>h d (dN _ m)
  rw[cg];unfold jx;simp only[h1];rw[h2];cases hp:p d with
  |true=>
   obtain⟨x,e,h4,h5⟩:=h3 hp
   simp only[h4,h5,ih,K7,hp,if_true,cg]
  |false=>
   simp only[ih,K7,hp];rfl
section
variable{prog:bf}{w:aY}{A:bY}{E:Value→au→Prop}{R:qI→au→Prop}{s:au}
theorem agt(h:Q (.ref s.heap.objs.size) {s with heap:=s.heap.push (qb w)}):aM (model prog w) A (newSet (.type "set")) Q E s:=by
 unfold newSet WN
 obtain⟨h0,g0,d0,t0,o0⟩:=s
 refine aD (aD (K8 (aX ?_)));dsimp only;simp only[newObj];exact aD (wpAny_alloc (aX h))
theorem agu{elt target iter:Expr}{ifs:List Expr}{rest:List Comprehension}{scope:iY}{pos:Pos}{it acc:Value}{env:Env}(h0:j8 (model prog w) A (.compLoop (.SetComp elt (⟨target,iter,ifs,0⟩::rest) scope pos) 0 it acc env) R s)
  (h:aM (model prog w) A (Dd it) (fun it' s'=>j8 (model prog w) A (.compLoop (.SetComp elt (⟨target,iter,ifs,0⟩::rest) scope pos) 0 it' acc env) R s') (notedBy (model prog w) A env fun x s'=>R (.error x) s') s):
  j8 (model prog w) A (.compStart (.SetComp elt (⟨target,iter,ifs,0⟩::rest) scope pos) 0 it acc env) R s:=by
 refine codeAny_of_tree (show aM _ A ((compStart (.SetComp elt (⟨target,iter,ifs,0⟩::rest) scope pos) 0 it acc env).onRaise (fun x=>do noteFrame x env;sE theWindowsPlace)) _ _ s from wpAny_notedAt ?_);unfold compStart
 refine(show aM _ A (ask >>= _) _ _ s from aD (K8 (wpAny_ite ?_)))
 split
 ·first
   |exact aD (aX (aX ⟨rfl,h0⟩))
   |exact aX ⟨rfl,h0⟩
 ·first
   |exact aD (xG (aD (uc (aD (nD h (fun it' s' h'=>aX ⟨rfl,h'⟩) fun _ _ x=>x)))))
   |exact aD (xG (show aM _ _ (sE iter.pos >>= _) _ _ s from aD (uc (aD (nD h (fun it' s' h'=>aX ⟨rfl,h'⟩) fun _ _ x=>x)))))
variable{T:Type}[DecidableEq T]{knd:xm prog w T}
theorem ae6(hk:knd.is k key=true)(hsc:key.scannable=true)(hS:m6 knd s.heap a ks)(room:ks.length+1<pN)
  (h:∀h',zu a s.heap h'→m6 knd h' a (kj ks k)→Q .none {s with heap:=h',toks:=s.toks+1}):aM (model prog w) A (call (.builtin "set.add") [.ref a,key]) Q E s:=by
 refine qu F.slot_set_add hS.ty F.entry_set_add ?_ (F.args_set_add_2 _ _);unfold kJ.«set.add» amR;simp only[adU,bind_assoc];unfold anj setAdd;refine aD (aX ?_)
 try dsimp only
 refine aD (aX ?_)
 try dsimp only
 refine aD (mQ (aD (knd.pyHash hk ?_)));refine aim (knd:=knd) (s:={s with toks:=s.toks+1}) hk hsc hS room fun _ h' hsb hS'=>?_
 exact(show aM _ _ (ret pJ) _ _ _ from aX ⟨_,rfl,h h' hsb hS'⟩)
end
theorem aeK(elt gens scope pos):eval (.SetComp elt gens scope pos) env=VM (.SetComp elt gens scope pos) scope env (firstIterPos gens pos) (newSet (.type "set")) (firstAsync gens) (firstIter gens env):=rfl
section
variable{P:bf}{w:aY}{T0:Type}[DecidableEq T0](knd:xm P w T0)(mk:T0→V)
abbrev SO(a:aa)(ks:List T0):HO:=.ext fun h=>m6 knd h a ks
def Rx(D:aa)(te:TE):TM:=fun σ H Q=>te σ H fun y H1=>∃ks k,H1 D=some (SO knd D ks)∧y=mk k∧ks.length+1<pN∧Q (upd H1 D (SO knd D (kj ks k)))
theorem aa3(x:m6 knd h a ks):eY P w H h a (SO knd a ks):=
 ⟨x,let ⟨o,_,_,_,e,_⟩:=x;⟨o,e⟩,fun _ _ y e=>y.at e⟩
def tSC(K:aG)(wi:TI)(T:fZ)(ts:Bk→TT)(te:Bk→TE)(js:List Nat):TE:=fun σ H Q=>wi σ H fun J H1=>∀D,H1 D=none→∀b,wu K T (ts b) (Rx knd mk D (te b)) (frees js σ) J (upd H1 D (SO knd D [])) (Q (.ref D))
end
section
variable{X:Cx}{T0:Type}[DecidableEq T0]{knd:xm X.prog X.w T0}{mk:T0→V}{NT NF:List Str}{js:List Nat}{elt tg iter:Expr}{ifs:List Expr}{T:fZ}{wi:TI}{ts:Bk→TT}{te:Bk→TE}{scope:iY}{pos:Pos}
theorem aj6(hk:∀k v,RelV (mk k) v→knd.is k v=true∧v.scannable=true)(he:PE X elt t):PM X (do let v ←eval elt X.env;sE elt.pos;let _ ←call (.builtin "set.add") [.ref D,v]) (Rx knd mk D t):=by
 intro pins s σ H Q I h;refine aD (bu (he pins s σ H _ I h) fun v s1 aK=>?_)
 obtain⟨y,H1,I1,r1,ks,k,hD,ey,hz,q⟩:=aK
 subst ey
 obtain⟨hS,_,_⟩:=I1.hok D _ hD
 obtain⟨k1,k2⟩:=hk _ _ r1
 refine aD (uc (aD (ae6 k1 k2 hS hz fun h' same hS'=>?_)));refine aX ⟨_,?_,q⟩;exact xO I1 (by rw[hD];exact lG) same (let ⟨o,_,_,_,e,_⟩:=hS';⟨o,e⟩) (aa3 knd hS')
theorem aj7{pins:List (aa×Obj)}{σ:St}{s2:au}{H2:Hp}{cl:List (Str×aa)}{it:aa}{fp:List aa}{tn:Nat→aV→Prop}{J:It}{Q:Hp→Prop}{RR:Value→aa→qI→au→Prop}{E:Value→au→Prop}
  (hk:∀k v,RelV (mk k) v→knd.is k v=true∧v.scannable=true)(B:oR X NT NF js scope)(tk:nP tg NT T)(hc:X.calm=true)
  (hin:∀b,mH (X.bk (NT++NF) scope b) ifs (ts b)∧PE (X.bk (NT++NF) scope b) elt (te b))
  (q2:∀n c,cl.lookup n=some c→X.env.cells.lookup n=some c)(q3:∀y∈scope.names,y.2=.free→∃c,cl.lookup y.1=some c)
  (I2:Inv X pins σ H2 s2)(TT:Turn X.prog X.w X.K tg J fp it tn)(st2:tn 0 s2.heap)(f2:∀b∈fp,jz X pins H2 b)
  (q:∀b,wu X.K T (ts b) (Rx knd mk s2.heap.objs.size (te b)) (frees js σ) J (upd H2 s2.heap.objs.size (SO knd s2.heap.objs.size [])) Q)
  (hR:∀C H' s' m,Inv X pins σ H' s'→jz X pins H' C→s'.heap.Ns C m→Q H'→RR (.ref s2.heap.objs.size) C (.ok .next) s'):
  aM (model X.prog X.w) X.A (newSet (.type "set")) (fun acc s₃=>aM (model X.prog X.w) X.A (Vt scope X.env.globals cl [] X.env.qual none .none (some X.env)) (fun cenv s₄=>
   j8 (model X.prog X.w) X.A (.compStart (.SetComp elt [⟨tg,iter,ifs,0⟩] scope pos) 0 (.ref it) acc {cenv with scope:=relabel scope X.env}) (RR acc cenv.locals) s₄) E s₃) E s2:=by
 refine agt ?_;have hD:H2 s2.heap.objs.size=none:=I2.hok.fresh (bO _);have I3:Inv X pins σ (upd H2 s2.heap.objs.size (SO knd s2.heap.objs.size [])) {s2 with heap:=s2.heap.push (qb X.w)}:=
  I2.laid (t':=s2.toks) (fun b o e=>cD _ e) (bO _) (aa3 knd (ajM (ie _ rfl)))
 have hsz:(s2.heap.push (qb X.w)).objs.size=s2.heap.objs.size+1:=xj ..;refine Ul B.cell (by intro y hy;simp at hy) (fun h₁ hns₁ hsb₁=>?_) B.kind;have tQ:∀b∈fp,b<s2.heap.objs.size:=fun b hb=>by
  obtain⟨o,e,_⟩:=TT.obj 0 _ st2 b hb
  exact bW e
 have f3:∀b∈fp,jz X pins (upd H2 s2.heap.objs.size (SO knd s2.heap.objs.size [])) b:=fun b hb=>⟨by rw[cJ (dO (tQ b hb))];exact(f2 b hb).1,(f2 b hb).2⟩
 have keep:∀b o,(s2.heap.push (qb X.w)).get? b=some o→h₁.get? b=some o:=fun b o e=>hsb₁.extBut b o (dO (bW e)) (cD _ e)
 have wK:∀b∈fp,b<(s2.heap.push (qb X.w)).objs.size:=fun b hb=>by have:=tQ b hb;rw[hsz];exact wX this
 have I4:=I3.blk (s1:={s2 with heap:=h₁,toks:=s2.toks+([]:List (Str×Value)).length}) B q2 q3 f3 wK hns₁ keep rfl I2.bare;have wL:tn 0 h₁:=TT.keep 0 _ _ st2 fun b _ o e=>keep b o (cD _ e)
 obtain⟨i1,i2⟩:=hin ⟨cl,(s2.heap.push (qb X.w)).objs.size,{s2 with heap:=s2.heap.push (qb X.w)},upd H2 s2.heap.objs.size (SO knd s2.heap.objs.size []),fp⟩
 have loop:j8 (model X.prog X.w) X.A (.compLoop (.SetComp elt [⟨tg,iter,ifs,0⟩] scope pos) 0 (.ref it) (.ref s2.heap.objs.size) (Oj scope cl (s2.heap.push (qb X.w)).objs.size X.env))
   (RR (.ref s2.heap.objs.size) (s2.heap.push (qb X.w)).objs.size) {s2 with heap:=h₁,toks:=s2.toks+([]:List (Str×Value)).length}:=by
  refine Ol (X:=X.blk (NT++NF) scope cl (s2.heap.push (qb X.w)).objs.size {s2 with heap:=s2.heap.push (qb X.w)} (upd H2 s2.heap.objs.size (SO knd s2.heap.objs.size [])) fp)
   (T:=T) (fs:=frees js σ) (done:=Q) rfl (af9 elt tg iter ifs scope pos _ _ _) rfl rfl rfl tk rfl B.nd hc (fun x hx=>Um (B.tg x hx)) i1 (aj6 (X:=X.bk (NT++NF) scope _) (knd:=knd) hk i2) TT (fun b hb=>?_) I4 wL (q _) fun H' s' σ' J' qd=>?_
  ·exact⟨(f3 b hb).1,dO (wK b hb),fun hb2=>by
    rcases bU.mp (I3.zY b hb2) with z|z
    ·exact(f3 b hb).2.1 z
    ·exact(f3 b hb).2.2.1 z,.inl hb,fun x c e=>(f3 b hb).2.2.2.2.1 x c (q2 x c e),fun p hp=>(nomatch(show p∈([]:List (aa×Obj)) from hp))⟩
  ·obtain⟨m,hn,_⟩:=J'.loc
   exact hR _ H' s' m (I3.Rt f3 J') (I3.uL (bO _) J'.free) hn qd
 exact agu loop (TT.self _ 0 _ _ _ wL loop)
theorem akT(hk:∀k v,RelV (mk k) v→knd.is k v=true∧v.scannable=true)(B:oR X NT NF js scope)(tk:nP tg NT T)(hc:X.calm=true)(hi:PI X tg iter wi)
  (hin:∀b,mH (X.bk (NT++NF) scope b) ifs (ts b)∧PE (X.bk (NT++NF) scope b) elt (te b))
  (hs:∀x,tY iter X.env x=pure x:=by intro _;rfl):PE X (.SetComp elt [⟨tg,iter,ifs,0⟩] scope pos) (tSC knd mk X.K wi T ts te js):=by
 intro pins s σ H Q I h
 obtain⟨cl,hclos,q2,q3⟩:=Hz (env:=X.env) (scope:=scope) fun y hy e=>I.ok.has y.1 (B.free y hy e)
 rw[aeK];refine Kz (use:=none) rfl hs hclos B.kind B.names (bu (hi pins s σ H _ I h) fun v s1 h1=>bu h1 fun itv s2 aK=>?_)
 obtain⟨it,fp,tn,J,H2,e,I2,TT,st2,f2,q⟩:=aK
 subst e;refine aj7 (Q:=fun H'=>Q (.ref s2.heap.objs.size) H') (RR:=fun acc C=>Om (model X.prog X.w) X.A X.xe none (EP X pins σ Q) acc C) hk B tk hc hin q2 q3 I2 TT st2 f2 (q _ (I2.hok.fresh (bO _))) fun C H' s' m I' fC hn qd=>?_
 refine⟨m,hn,fun h' sb=>⟨.ref s2.heap.objs.size,H',?_,rfl,qd⟩⟩
 exact I'.turned (t':=s'.toks) (fun b o hb e=>(sb.2 b hb).trans e) fC.1 fC.2.1 fC.2.2.2.1 fC.2.2.2.2.1 fC.2.2.2.2.2
end
def aaA{P:bf}{w:aY}(t:TE):TE:=fun σ H Q=>t σ H fun x H2=>∃D ks,x=.ref D∧H2 D=some (SO (GK P w) D ks)∧ks.length<64∧∀(D':aa)(ns':List Str),H2 D'=none→ns'.Perm ks→sortedS ns'=true→Q (.ref D') (upd H2 D' (.lst (ns'.map V.str)))
theorem ahr(hc:X.calm=true)(hl:PE X e t)(g1:Gl X "sorted")(m1:X.mg "sorted"=none)
  (he:aZ [e] X.env=(false,eval e X.env)::aZ [] X.env:=by rfl)(hpl:(gm pos1 (aZ [] X.env)).any (·.1)=false:=by rfl):PE X (.Call (.Name "sorted" p1) [e] [] pos1) (aaA (P:=X.prog) (w:=X.w) t):=by
 intro pins s σ H Q I h;refine Gi (uz I g1 m1 (u:=.builtin "sorted") rfl (T6 ?_ he hpl));rw[he];show aM _ _ (spliced ((false,eval e X.env)::gm pos1 (aZ [] X.env))) _ _ s;refine Gh (bu (hl pins s σ H _ I h) fun v s1 ⟨y,H1,I1,r1,D,ks,ey,hD,h64,q⟩=>KZ ?_);subst ey;cases r1
 obtain⟨⟨o,es,ep,t,ho,ex,hd,⟨ks',ek,pk⟩,hb,hf,tb⟩,_,_⟩:=I1.hok D _ hD
 obtain⟨e1,e2⟩:=ahd ek
 have few:es.size<64:=by
  rw[←jM,ek.len,pk.length_eq];omega
 refine afz (Ok:=fun out=>∃ns',StrsAre out ns'∧ns'.Perm ks∧sortedS ns'=true) (I1.ok.hd hc) ⟨o,ho,ex,hd,hf,tb⟩ few (fun us pm B s2 a n P E' ho' hp=>?_) fun D h' d tk c out ok ge kk gD=>?_
 ·have hS:StrsAre us (us.map strOf):=strsAre_map us fun v hv=>e2 v (pm.mem_iff.mp hv)
  refine list_sort_treeK strKind_oneLt ho' hS.keysOf (fun v1 v2 rest e=>keyKind_strs (by rw[←e];exact hS)) (by rw[pm.length_eq,aW,jM];exact few) fun st hp1 hp2=>?_
  obtain⟨ss',b1,b2,b3⟩:=sorted_out_str hS hp1 hp2
  exact hp _ ⟨ss',b1,b2.trans ((pm.map strOf).trans (by rw[e1];exact pk)),b3⟩
 ·obtain⟨ns',a1,a2,a3⟩:=ok
  have hz:ns'.length≤bM:=by
   rw[a2.length_eq,jg];omega
  exact⟨.ref D,_,(I1.laid (o:=.lst (ns'.map V.str)) (t':=tk) kk ge ⟨by rw[aW];exact hz,out.toList,c,NB a1,by simpa[seqObj] using gD⟩).drew d,rfl,q D ns' (I1.hok.fresh ge) a2 a3⟩
def Fp(fi:FI)(T:fZ)(ft:FT)(fe:FE)(js:List Nat):FE:=fun env C=>match fi env C with
 |some (its,e1,C1)=>match jx T ft fe (frB js e1) its C1 with
  |some (ys,C2)=>match Im ys with
   |some l=>some (.ow (.list l),env,C2)
   |none=>none
  |none=>none
 |none=>none
def Sh(fe:FE):En→List Str→Ce→Option (List Str×Ce):=fun env acc C=>(fe env C).bind fun q=>(imO (still q.1)).bind fun y=>(strD y).bind fun z=>bif decide (acc.length<64) then some (acc++[z],q.2.2) else none
theorem Qk:∀{its:List aj}{ys acc:List Str}{C:Ce},jx T ft fe fs its C=some (ys.map .str,C')→acc.length+ys.length≤64→sY T ft (Sh fe) fs its acc C=some (acc++ys,C')
 |[],ys,acc,C,h,_=>by
  cases ys with
  |cons _ _=>cases h
  |nil=>
  cases h;rw[ju];rfl
 |d::r,ys,acc,C,h,hl=>by
  unfold jx at h;unfold sY;split at h
  case h_2=>cases h
  rename_i ts ht;rw[ht,gQ];split at h
  case h_3=>cases h
  ·rename_i C1 hf;rw[hf,gQ];exact Qk h hl
  ·rename_i C1 hf;rw[hf,gQ];split at h
   case h_2=>cases h
   rename_i x e2 C2 hx;split at h
   case h_2=>cases h
   rename_i y hy;split at h
   case h_2=>cases h
   rename_i zs C3 hz;cases ys with
   |nil=>cases h
   |cons w ys=>
   injection h with h
   injection h with h1 h2
   injection h1 with h1 h3
   subst h1 h2 h3;rw[cO] at hl
   show(Sh fe (dz ts++fs) acc C1).bind _=_
   unfold Sh;rw[hx,gQ,hy,show imO (.im (.str w))=some (.str w) from rfl,gQ,show strD (.str w)=some w from rfl,gQ,decide_eq_true (by omega),show acc++w::ys=(acc++[w])++ys by rw[kI];rfl];exact Qk hz (by rw[fU];show acc.length+1+_≤_;omega)
theorem aiH{P:bf}{w:aY}{K:aG}{fi:FI}{T:fZ}{ft:FT}{fe:FE}{js:List Nat}:∀σ H Q,tE K (Fp fi T ft fe js) σ H Q→aaA (P:=P) (w:=w) (tSC (GK P w) V.str K (tI K true fi) T (fun _=>eX K ft) (fun _=>tE K fe) js) σ H Q:=by
 rintro σ H Q ⟨Z,Θ,env,C,res,env',C',S,hf,q⟩;unfold Fp at hf;split at hf
 case h_2=>cases hf
 rename_i its e1 C1 h1;split at hf
 case h_2=>cases hf
 rename_i ys C2 h2;split at hf
 case h_2=>cases hf
 rename_i l hs;cases hf;unfold Im at hs;split at hs
 case isFalse=>cases hs
 rename_i hl;split at hs
 case h_2=>cases hs
 rename_i ns hns;cases hs;have hys:=Yo hns;subst hys;rw[aW] at hl
 refine⟨Z,Θ,env,C,its,e1,C1,S,h1,fun J H1 k1 f1 S1 it D hD b=>?_⟩
 have qg:D∉Θ:=fun m=>(S1.cell.dom D m).ne hD
 refine OJ (a0:=[]) (Ob:=fun acc Hx=>Hx D=some (SO (GK P w) D (dedup acc))) S1 it hD eN (fun a Hx Hy kk r=>kk.keep _ _ r qg) (fun a Hx r=>⟨_,r,fun _ z=>nomatch z⟩) ?_ (Qk (acc:=[]) h2 (by rw[Bs];omega)) fun H2 ki ci r=>?_
 ·intro ts acc C2 p vs H4 Q hs S4 k4 r4 hQ
  obtain⟨w,hfe,hs⟩:=iG hs
  obtain⟨yd,rF,hs⟩:=iG hs
  obtain⟨z,hz,hs⟩:=iG hs
  have rF:=Dk rF;have hz:=ais hz;subst hz;cases hlt:decide (acc.length<64) with
  |false=>rw[hlt] at hs;cases hs
  |true=>
  rw[hlt] at hs;cases hs
  refine⟨_,Θ,_,C2,w.1,w.2.1,w.2.2,S4,hfe,fun y H5 k5 f5 R5=>?_⟩
  obtain⟨S5,r5⟩:=R5.sX rF
  have lt:=of_decide_eq_true hlt;have ld:=Xg acc
  exact⟨dedup acc,z,k5.keep _ _ r4 qg,r5,by unfold pN;omega,hQ _ (Q0 (Hy:=H5) hD (k4.trans k5)) (Il qg S5.cell) (by rw[afu];exact eN)⟩
 ·have kk:=k1.trans ki;have ld:=Xg ns
  refine⟨D,dedup ns,rfl,r,by omega,fun D' ns' hn p hp=>?_⟩
  rw[aax p hp];exact q _ _ (kk.trans (aQ.upd hn)) (Fz.refl _) ((zR (S.go kk ci) (X4 _) hn).from kk)
theorem akU{X:Cx}{NT NF:List Str}{js:List Nat}{elt tg iter:Expr}{ifs:List Expr}{T:fZ}{fi:FI}{ft:FT}{fe:FE}{scope:iY}{pos p1 pos1:Pos}(B:oR X NT NF js scope)(tk:nP tg NT T)(hc:X.calm=true)(g1:Gl X "sorted")(m1:X.mg "sorted"=none)(hi:PI X tg iter (tI X.K true fi))
  (hin:∀b,mH (X.bk (NT++NF) scope b) ifs (eX X.K ft)∧PE (X.bk (NT++NF) scope b) elt (tE X.K fe))
  (hs:∀x,tY iter X.env x=pure x:=by intro _;rfl)
  (he:aZ [.SetComp elt [⟨tg,iter,ifs,0⟩] scope pos] X.env=(false,eval (.SetComp elt [⟨tg,iter,ifs,0⟩] scope pos) X.env)::aZ [] X.env:=by rfl)(hpl:(gm pos1 (aZ [] X.env)).any (·.1)=false:=by rfl):
  PE X (.Call (.Name "sorted" p1) [.SetComp elt [⟨tg,iter,ifs,0⟩] scope pos] [] pos1) (tE X.K (Fp fi T ft fe js)):=
 (ahr hc (akT (knd:=GK X.prog X.w) (mk:=V.str) (fun k v r=>by obtain⟨t,rfl⟩:=r;exact⟨PySem.strKind_is _ _ _ _,rfl⟩) B tk hc hi hin hs) g1 m1 he hpl).weak aiH
section
variable{X:Cx}{tg:Expr}
def Em(f g:FB):FI:=fun env C=>match bCons f (bCons g bNil) env C with
 |some ([.int i,.int j],_,C1)=>if -(2^62)≤i∧i<2^62∧-(2^62)≤j∧j<2^62 then some (iu i (j-i).toNat,env,C1) else none
 |_=>none
theorem agv(hg:Gl X "range")(hm:X.mg "range"=none)(ha:PA X [a,b] (uX X.K (bCons f (bCons g bNil))))(hs:aZ [a,b] X.env=[(false,eval a X.env),(false,eval b X.env)]:=by rfl)(hs2:aZ [b] X.env=[(false,eval b X.env)]:=by rfl):PI X tg (.Call (.Name "range" p) [a,b] [] pos) (tI X.K bb (Em f g)):=
 (afV hg hm ha hs hs2).weak fun σ H R aK=>by
  obtain⟨Z,Θ,env,C,its,env',C',S,hf,q⟩:=aK
  unfold Em at hf;split at hf
  ·rename_i i j e1 C1 h1;split at hf
   ·rename_i hj;cases hf
    refine⟨Z,Θ,env,C,[.int i,.int j],e1,C',S,h1,fun vs H1 k f S1 b1=>?_⟩
    cases b1 with
    |cons b1 b2=>
     cases b2 with
     |cons b2 b3=>
      cases b3
      exact⟨i,j,by rw[show _=V.int i from b1,show _=V.int j from b2],hj,q _ H1 k (Fz.refl _) (S.go k S1.cell) (Yj i (j-i).toNat)⟩
   ·cases hf
  ·cases hf
end
theorem a_t0(x:α)(r:List α):fB (x::r) 0=some x:=vJ (j:=0) rfl
theorem a_t1(a x:α)(r:List α):fB (a::x::r) 1=some x:=vJ (j:=1) rfl
theorem a_t2(a b x:α)(r:List α):fB (a::b::x::r) 2=some x:=vJ (j:=2) rfl
theorem a_t3(a b c x:α)(r:List α):fB (a::b::c::x::r) 3=some x:=vJ (j:=3) rfl
theorem a_t4(a b c d x:α)(r:List α):fB (a::b::c::d::x::r) 4=some x:=vJ (j:=4) rfl
theorem a_t5(a b c d e x:α)(r:List α):fB (a::b::c::d::e::x::r) 5=some x:=vJ (j:=5) rfl
theorem a_t6(a b c d e f x:α)(r:List α):fB (a::b::c::d::e::f::x::r) 6=some x:=vJ (j:=6) rfl
theorem e_bin(op:aj→aj→Option Vl)(fa fb:FB)(env:En)(C:Ce):aH op fa fb env C=(fa env C).bind fun p=>(fb p.2.1 p.2.2).bind fun q=>(op p.1 q.1).bind fun r=>some (r,rst r env q.2.1,q.2.2):=by
 unfold aH;rcases h:fa env C with _|⟨x,e1,C1⟩
 ·rfl
 ·rcases h2:fb e1 C1 with _|⟨y,e2,C2⟩
  ·simp only[gQ,h2];rfl
  ·simp only[gQ,h2];cases op x y<;>rfl
theorem e_dat(f:FE)(env:En)(C:Ce):ao f env C=(f env C).bind fun p=>(dat p.1).map fun d=>(d,p.2.1,p.2.2):=by
 unfold ao;rcases h:f env C with _|⟨x,e1,C1⟩<;>rfl
theorem e_bv(i:Nat)(env:En)(C:Ce):az i env C=(env[i]?).bind fun o=>o.bind fun x=>(dat x).map fun d=>(d,env,C):=by
 unfold az;rcases env[i]? with _|(_|x)<;>rfl
theorem e_and(f g:FT)(env:En)(C:Ce):kW f g env C=(f env C).bind fun p=>if p.1 then g env p.2 else some (false,p.2):=by
 unfold kW;rcases h:f env C with _|⟨_|_,D⟩<;>rfl
theorem e_or(f g:FT)(env:En)(C:Ce):rm f g env C=(f env C).bind fun p=>if p.1 then some (true,p.2) else g env p.2:=by
 unfold rm;rcases h:f env C with _|⟨_|_,D⟩<;>rfl
theorem e_not(f:FT)(env:En)(C:Ce):uE f env C=(f env C).map fun p=>(!p.1,p.2):=by
 unfold uE;rcases h:f env C with _|⟨b,D⟩<;>rfl
theorem e_if(c:FT)(f g:FS)(env:En)(C:Ce):gK c f g env C=(c env C).bind fun p=>if p.1 then f env p.2 else g env p.2:=by
 unfold gK;rcases h:c env C with _|⟨_|_,D⟩<;>rfl
theorem e_ifv(c:FT)(f g:FE)(env:En)(C:Ce):yw c f g env C=(c env C).bind fun p=>if p.1 then f env p.2 else g env p.2:=by
 unfold yw;rcases h:c env C with _|⟨_|_,D⟩<;>rfl
theorem aa4(op op':aj→aj→Option Vl)(fa fb fc:FB)(h1:fa env C=some (x,e1,C1))(h2:fb e1 C1=some (y,e2,C2))(h3:op x y=some (.im (.bool a)))(h4:fc e2 C2=some (z,e3,C2))(h5:op' y z=some (.im (.bool b))):wA op op' fa fb fc env C=some (.im (.bool (a&&b)),env,C2):=by
 unfold wA;simp only[h1,h2,h3];cases a with
 |false=>rfl
 |true=>simp only[h4,h5];rfl
theorem r_ow(d:aj)(e f:En):rst (.ow d) e f=f:=rfl
theorem r_bool(b:Bool)(e f:En):rst (.im (.bool b)) e f=e:=rfl
theorem r_int(i:Int)(e f:En):rst (.im (.int i)) e f=e:=rfl
theorem r_str(z:Str)(e f:En):rst (.im (.str z)) e f=e:=rfl
theorem r_tl(l r:List aj)(e f:En):rst (.im (.tuple (.list l::r))) e f=f:=rfl
theorem add_int(i j:Int):bN (.int i) (.int j)=some (.im (.int (i+j))):=rfl
theorem sub_int(i j:Int):vV (.int i) (.int j)=some (.im (.int (i-j))):=rfl
theorem le_int(i j:Int):oY (.int i) (.int j)=some (.im (.bool (decide (i≤j)))):=rfl
theorem lt_int(i j:Int):uN (.int i) (.int j)=some (.im (.bool (decide (i<j)))):=rfl
theorem ge_int(i j:Int):JN (.int i) (.int j)=some (.im (.bool (decide (j≤i)))):=rfl
theorem gt_int(i j:Int):uO (.int i) (.int j)=some (.im (.bool (decide (j<i)))):=rfl
theorem eq_int(i j:Int):lU (.int i) (.int j)=some (.im (.bool (i==j))):=rfl
theorem eq_bool(a b:Bool):lU (.bool a) (.bool b)=some (.im (.bool (a==b))):=rfl
theorem ne_bool(a b:Bool):qe (.bool a) (.bool b)=some (.im (.bool (!(a==b)))):=rfl
theorem ne_int(i j:Int):qe (.int i) (.int j)=some (.im (.bool (!(i==j)))):=rfl
theorem len_l(ds:List aj):jy [.list ds]=some (.im (.int ds.length)):=rfl
theorem len_t(ds:List aj):jy [.tuple ds]=some (.im (.int ds.length)):=rfl
theorem ix_t(ds:List aj)(i:Int):bw (.tuple ds) (.int i)=(fB ds i).map .im:=rfl
theorem ix_l(ds:List aj)(i:Int):bw (.list ds) (.int i)=(fB ds i).map .im:=rfl
theorem add_l(h:xs.length+ys.length≤1000000):bN (.list xs) (.list ys)=some (.ow (.list (xs++ys))):=if_pos h
theorem Aj(h:xs.length+ys.length≤1000000):bN (.tuple xs) (.tuple ys)=some (.im (.tuple (xs++ys))):=by
 unfold bN;cases xs with
 |nil=>rfl
 |cons x xs=>exact if_pos h
theorem tH{ds:List aj}{i:Nat}{d:aj}(h:ds[i]?=some d):bw (.tuple ds) (.int i)=some (.im d):=by
 simp only[bw,tR,vJ h,j6]
theorem h_ix0(h:jE):bw (gq h) (.int 0)=some (.im (.tuple (h.ps.map tG))):=tH (i:=0) rfl
theorem h_ix1(h:jE):bw (gq h) (.int 1)=some (.im (.tuple (h.vZ.map tD))):=tH (i:=1) rfl
theorem h_ix2(h:jE):bw (gq h) (.int 2)=some (.im (.tuple (h.leaves.map bI))):=tH (i:=2) rfl
theorem h_ix3(h:jE):bw (gq h) (.int 3)=some (.im (.tuple (h.rules.map DX))):=tH (i:=3) rfl
theorem k_ix0(r:qX):bw (tD r) (.int 0)=some (.im (.int r.1)):=tH (i:=0) rfl
theorem k_ix1(r:qX):bw (tD r) (.int 1)=some (.im (.str r.2.1)):=tH (i:=1) rfl
theorem k_ix2(r:qX):bw (tD r) (.int 2)=some (.im (.int r.2.2.1)):=tH (i:=2) rfl
theorem k_ix3(r:qX):bw (tD r) (.int 3)=some (.im (.str r.2.2.2.1)):=tH (i:=3) rfl
theorem k_ix4(r:qX):bw (tD r) (.int 4)=some (.im (.int r.2.2.2.2.1)):=tH (i:=4) rfl
theorem k_ix5(r:qX):bw (tD r) (.int 5)=some (.im (.int r.2.2.2.2.2)):=tH (i:=5) rfl
theorem wC(h0:-1000000≤m)(h1:m≤1000000)(a b:α):(if -(2^62)≤m∧m<2^62 then a else b)=a:=if_pos (by omega)
theorem gh(en:En)(hk:xs.length=k)(he:xs.map some++cP (n-xs.length) none=en)(h:(body en C).map (fun p=>(p.1,p.2.2))=some (.rt r,C1))(hr:Ah C.length r=true)(hC:C1.length=C.length):fN k n body xs C=some (r,C1):=by
 unfold fN;rw[if_pos hk,he];cases hb:body en C with
 |none=>rw[hb] at h;cases h
 |some p=>
  rw[hb] at h
  obtain⟨fl,e1,C2⟩:=p
  have h:(fl,C2)=(Fl.rt r,C1):=fV h;injection h with h1 h2
  subst h1 h2;simp only[hr,if_true,Yq hC]
theorem letters(k:Int)(h0:0≤k)(h1:k<26):tR (.str abc) (.int k)=some (.str ⟨#[97+k.toNat]⟩):=by
 have e:=aj1 h0 h1;have hl:abc.length≤LIM:=by decide +kernel
 simp only[tR];rw[if_pos hl,e];rfl
theorem Cd:∀zs:List Str,strsOf (zs.map cF)=some zs
 |[]=>rfl
 |z::zs=>by
  show(match strsOf (zs.map cF) with|some t=>some (z::t)|none=>none)=_
  rw[Cd zs]
theorem noLs_strs:∀zs:List Str,eZ (zs.map cF)=true
 |[]=>rfl
 |z::zs=>by
  show(true&&eZ (zs.map cF))=true
  rw[noLs_strs zs];rfl
theorem Nq:∀cs:List Nat,eZ (cs.map fun c=>cF ⟨#[c]⟩)=true
 |[]=>rfl
 |c::cs=>by
  show(true&&eZ (cs.map fun c=>cF ⟨#[c]⟩))=true
  rw[Nq cs];rfl
theorem Wd:∀cs:List Nat,strsOf (cs.map fun c=>cF ⟨#[c]⟩)=some (cs.map fun c=>(⟨#[c]⟩:Str))
 |[]=>rfl
 |c::cs=>by
  show(match strsOf (cs.map fun c=>cF ⟨#[c]⟩) with|some t=>some (_::t)|none=>none)=_
  rw[Wd cs];rfl
theorem agw:(fJ "").length=0:=by decide +kernel
theorem ne_nil(zs:List Str)(hz:∀z∈zs,nameB z=true):qe (.list (zs.map .str)) (.list [])=some (.im (.bool (!zs.isEmpty))):=by
 have s1:lX (.list (zs.map cF))=true:=ae5 fun z m=>WW (hz z m)
 have n1:rD (.list (zs.map cF))=true:=(O7 fun z m=>WW (hz z m)).2.2;have e:yI (.list (zs.map .str)) (.list [])=some zs.isEmpty:=by
  show(if rD (.list (zs.map cF))&&rD (.list [])&&(lX (.list (zs.map cF))&&lX (.list [])) then some (HB (.list (zs.map .str)) (.list [])) else none)=_
  rw[n1,s1];cases zs<;>rfl
 simp only[qe,e,j6]
abbrev hEn(b:Nat)(zs:List Str)(ps:List (Str×Str))(own:List Str)(rk:List qX)(lv:List cB)(ru:List (aj×aj))(v7 v8 v9 v10 v11 bQ j0 j4 gj gH gb gf:Option Vl):En:=
 [some (.ce b),some (.im (.list (zs.map .str))),some (.ow (.list (ps.map tG))),some (.ow (.list (own.map .str))),some (.ow (.list (rk.map tD))),some (.ow (.list (lv.map bI))),some (.ow (.dict ru)),v7,v8,v9,v10,v11,bQ,j0,j4,gj,gH,gb,gf]
theorem rst_same(r:Vl)(e:En):rst r e e=e:=by
 cases r<;>simp[rst]
theorem aiI{ns:List Int}{i:Nat}{d:aj}(h:(ns.map pM)[i]?=some d):∃x,d=.int x∧ns[i]?=some x∧x∈ns∧i<ns.length:=by
 rw[gC] at h;cases hx:ns[i]? with
 |none=>rw[hx] at h;cases h
 |some x=>
  rw[hx] at h
  exact⟨x,(fV h).symm,rfl,nZ hx,(je.mp hx).1⟩
theorem take_snoc{ns:List Int}{i:Nat}{x:Int}(h:ns[i]?=some x):ns.take (i+1)=ns.take i++[x]:=by
 rw[List.take_add_one,h];rfl
theorem Xn:∀ss:List DW,eZ (ss.map JH)=true
 |[]=>rfl
 |s::ss=>by
  show(true&&eZ (ss.map JH))=true
  rw[Xn ss];rfl
theorem Xo:∀rs:List JG,eZ (rs.map DX)=true
 |[]=>rfl
 |r::rs=>by
  show((true&&(true&&(eZ (r.2.2.map JH)&&true)))&&eZ (rs.map DX))=true
  rw[Xo rs,Xn];rfl
theorem DY(hk:xs.length=k)(he:xs.map some++cP (n-xs.length) none=en)(h:body en C=some (.rt r,e1,C1))(hr:Ah C.length r=true)(hC:C1.length=C.length):fN k n body xs C=some (r,C1):=by
 unfold fN;rw[if_pos hk,he,h];simp only[hr,if_true,Yq hC]
theorem N7:∀zs:List Str,(zs.map cF).all jF=true
 |[]=>rfl
 |z::zs=>by
  rw[cg,LR,N7 zs];rfl
theorem in_strs(z:Str)(zs:List Str):jo (.str z) (.list (zs.map .str))=some (.im (.bool (decide (z∈zs)))):=by
 have:inB (.str z) (.list (zs.map .str))=some (inD (.str z) (zs.map .str)):=if_pos (by rw[N7];rfl);unfold jo;rw[this,Ip];rfl
theorem eq_strs(x z:Str):lU (.str x) (.str z)=some (.im (.bool (decide (x=z)))):=by
 have:(x==z)=decide (x=z):=by rw[qw];simp
 show some (Vl.im (.bool (x==z)))=_;rw[this]
theorem ne_strs(x z:Str):qe (.str x) (.str z)=some (.im (.bool (!decide (x=z)))):=by
 have:(x==z)=decide (x=z):=by rw[qw];simp
 show some (Vl.im (.bool (!(x==z))))=_;rw[this]
def bz(q:List (Str×Str)):List (Str×aj):=q.map fun p=>(p.1,.str p.2)
theorem Yu:∀q,yz (aP (bz q))=true
 |[]=>rfl
 |x::q=>by
  show(true&&yz (aP (bz q)))=true
  rw[Yu q];rfl
theorem Ir(q:List (Str×Str))(z:Str):mX (aP (bz q)) (.str z)=some ((gY q z).map .str):=by
 rw[N6];unfold bz gY;rw[ahq,Bu];rfl
theorem noLs_ints:∀l:List Int,eZ (l.map pM)=true
 |[]=>rfl
 |x::l=>by
  show(true&&eZ (l.map pM))=true
  rw[noLs_ints l];rfl
theorem W0:∀(n:Nat),DP [.list (cP n (.bool true))]=some (.im (.bool true))∧eZ (cP n (.bool true))=true:=by
 intro n;have h:boolsOf (cP n (.bool true))=some (cP n true)∧eZ (cP n (.bool true))=true:=by
  induction n with
  |zero=>exact⟨rfl,rfl⟩
  |succ n ih=>
   rw[rN,rN]
   refine⟨?_,?_⟩
   ·unfold boolsOf;rw[ih.1]
   ·show(true&&eZ (cP n (.bool true)))=true
    rw[ih.2];rfl
 refine⟨?_,h.2⟩
 unfold DP;simp only[h.1,j6];congr 3;rw[oh];intro b hb
 exact(List.mem_replicate.mp hb).2
theorem pO{zs:List Str}{k:Int}(h0:0≤k)(h1:k<zs.length):∃z,z∈zs∧zs[k.toNat]?=some z∧fB (zs.map cF) k=some (.str z):=by
 obtain⟨x,e1,e2⟩:=aaz (xs:=zs.map cF) h0 (by rw[aW];exact h1)
 rw[gC] at e2;cases hz:zs[k.toNat]? with
 |none=>rw[hz] at e2;cases e2
 |some z=>
  rw[hz] at e2;cases e2
  exact⟨z,nZ hz,rfl,e1⟩
theorem aj8{α:Type}{f:α→aj}{l:List α}{i:Nat}{d:aj}(h:(l.map f)[i]?=some d):∃x,l[i]?=some x∧d=f x:=by
 rw[gC] at h;cases hx:l[i]? with
 |none=>rw[hx] at h;cases h
 |some x=>rw[hx] at h;exact⟨x,rfl,(fV h).symm⟩
def Bf(L:Nat)(C:Ce)(b k:Nat):Prop:=C.length=L∧∃x y z:Int,C[b]?=some [x,y,z]∧0≤x∧0≤y∧y≤3000000000∧0≤z∧z+k≤900000
theorem Bf.mono(h:Bf L C b k)(hj:j≤k):Bf L C b j:=by
 obtain⟨l,x,y,z,h1,h2,h3,h4,h5,h6⟩:=h
 exact⟨l,x,y,z,h1,h2,h3,h4,h5,by omega⟩
theorem Bf.dec(h:Bf L C b (k+1)):Bf L C b k:=h.mono (BW k)
theorem Bf.eq(h:Bf L C b k)(h':Bf L C' b' k'):C'.length=C.length:=h'.1.trans h.1.symm
inductive HE(b:Nat)(zs:List Str)(ps:List (Str×Str))(own:List Str)(rk:List qX)(lv:List cB)(ru:List (aj×aj)):En→Prop
 |mk (v7 v8 v9 v10 v11 bQ j0 j4 gj gH gb gf:Option Vl):HE b zs ps own rk lv ru (hEn b zs ps own rk lv ru v7 v8 v9 v10 v11 bQ j0 j4 gj gH gb gf)
theorem Ry(a c:Nat)(h:i<n):a+c*(n-i)=a+c*(n-(i+1))+c:=by
 rw[show n-i=(n-(i+1))+1 by omega,Nat.mul_add,Nat.mul_one,Nat.add_assoc]
theorem aj9(a:Nat)(h:i<n):a+(n-i)=a+(n-(i+1))+1:=by omega
section
variable{prog:bf}{w:aY}{A:bY}{E:Value→au→Prop}{s:au}
end
section
variable{prog:bf}{w:aY}{A:bY}{E:Value→au→Prop}{s:au}{z TI TO i1 i2 l1 l2:aa}{f1 f2:List aa}{n:Nat}{P1 P2:Nat→Value→Prop}{S1 S2:Nat→aV→Prop}
end
def Ju:aj→aj→Option Vl
 |.list xs,.int n=>if 0≤n∧n≤1000∧xs.length≤1000 then some (.ow (.list (cP n.toNat xs).flatten)) else none
 |a,b=>iZ a b
def aa5:R2:=fun x y H Q=>(rI Eg fun i j=>.int (i*j)) x y H Q∨abn x y H Q
theorem aiJ:cC X (mV .Mult) aa5:=oK.or ajz
theorem ZJ(h:cz H ds vs):∀n,cz H (cP n ds).flatten (cP n vs).flatten
 |0=>rfl
 |n+1=>by
  rw[rN,rN,Bh,Bh];exact xP h (ZJ h n)
theorem aiK{K:aG}:fQ K aa5 Ju:=by
 intro Z Θ env C σ H x y dx dy res S bx cY e Q q;unfold Ju at e;split at e
 ·rename_i xs n;split at e
  case isFalse=>cases e
  rename_i hn;cases e
  obtain⟨a,vs,rfl,ha,r1⟩:=bx.lst
  cases cY.int;have l1:=gU r1;refine .inr ⟨a,n,vs,rfl,rfl,ha,by omega,by omega,?_,fun p hp=>q _ _ (aQ.upd hp) (zR S (ZJ r1 _) hp)⟩;rw[jg,l1];have:xs.length*n.toNat≤1000*1000:=Nat.mul_le_mul hn.2.2 (by omega);omega
 ·exact .inl (oM Z Θ env C σ H x y dx dy res S bx cY e Q q)
section
variable{X:Cx}
end
def Ak(fk:FB)(fv:FE):FE:=fun env C=>match fk env C with
 |some (dk,e1,C1)=>match fv e1 C1 with
  |some (r,e2,C2)=>match cV dk with
   |some _=>match still r with
    |.im d=>some (.ow (.dict [(dk,d)]),e2,C2)
    |_=>none
   |none=>none
  |none=>none
 |none=>none
theorem Yv(hk:PE X k (dH X.K fk))(hv:PE X v (tE X.K fv)):PE X (.Dict [some k] [v] pos) (tE X.K (Ak fk fv)):=
 (ah9 (agX hk hv ah8) rfl rfl (fun z=>nomatch z) (wV rfl)).weak fun σ H Q aK=>by
 obtain⟨Z,Θ,env,C,r,env',C',S,hf,q⟩:=aK
 unfold Ak at hf;split at hf
 case h_2=>cases hf
 rename_i dk e1 C1 h1;split at hf
 case h_2=>cases hf
 rename_i rv e2 C2 h2;split at hf
 case h_2=>cases hf
 rename_i kk hkk;split at hf
 case h_2=>cases hf
 rename_i d hs;cases hf;intro p hp
 refine⟨p::Z,Θ,env,C,dk,e1,C1,S.push hp _ (fun _ z=>nomatch z),h1,fun x H1 k1 f1 S1 bx=>?_⟩
 refine⟨p::Z,Θ,e1,C1,rv,env',C',S1,h2,fun y H2 k2 f2 r2=>?_⟩
 have R:=r2.still;rw[hs] at R
 obtain⟨S2,rz⟩:=R
 have ex:x=kV kk:=by
  cases dk<;>first|(cases hkk;exact bx)|cases hkk
 have rC:aQ Θ H H2:=((aQ.upd hp).trans k1).trans k2;have np:p∉Θ:=fun m=>by
  have:=(iR.mp S2.nd).1;exact this (dY _ (gB _ m))
 have e2p:H2 p=some (.dK []):=(k1.trans k2).keep _ _ eN np
 refine⟨e2p,[(kk,y)],by rw[ex];rfl,wV rfl,?_⟩
 have kf:aQ Θ H (upd H2 p (.dK [(kk,y)])):=⟨fun a o ha na=>by
  rw[cJ (pL ha hp)];exact rC.keep _ _ ha na,fun a ha=>by
  by_cases z:a=p
  ·exact absurd (z▸hp) ha
  ·rw[cJ z];exact rC.2 a ha⟩
 have c2:nJ Θ C' (upd H2 p (.dK [(kk,y)])):=⟨S2.cell.len,fun n b ns h3 h4=>by
  have:=S2.cell.at_ n b ns h3 h4;rw[cJ (show b≠p from fun z=>np (by rw[←z];exact nZ h3))];exact this⟩
 refine q _ _ kf (f1.trans f2) ⟨p,rfl,hp,(S.fz (f1.trans f2)).yg hp kf ⟨_,eN,fun _ z=>nomatch z⟩ c2,[y],.inl ⟨[kk],?_,eN⟩,y,[],rfl,?_,rfl⟩
 ·unfold cM;rw[hkk];rfl
 ·refine rz.same fun a u e=>?_
  unfold er at e⊢;split at e
  ·cases e
  ·rename_i n;rw[if_neg n,cJ (show a≠p from fun z=>n (by rw[z];exact dG))];exact e
def JW(i:Nat)(f:FB):FS:=fun env C=>if nM env[i]? then match f env C with
  |some (.list ys,e1,C1)=>match e1[i]? with
   |some (some (.ow (.list ds)))=>if ds.length+ys.length≤LIM then some (.nx,e1.set i (some (.ow (.list (ds++ys)))),C1) else none
   |_=>none
  |_=>none
 else none
theorem aka(ho:PE X o (qY i))(he:PE X e (dH X.K f))
  (hs0:uf (.Call (.Attribute o "extend" apos) [e] [] cpos) none pos.line X.env=pure false:=by rfl)
  (hbase:xu o "extend" X.env (eval o X.env)=eval o X.env:=by rfl)
  (hfew:((gm cpos (aZ [e] X.env)).all (fun x=>!x.1)&&(Cp cpos (BR [] X.env)).all (fun x=>x.1.isSome)
   &&decide (([e]:List Expr).length+([]:List pR).length+(if([]:List pR).isEmpty then 0 else 1)<30))=true:=by rfl)
  (hline:(apos.endLine==cpos.line)=true:=by rfl)(hs:aZ [e] X.env=(false,eval e X.env)::aZ [] X.env:=by rfl)(hplain:(gm cpos (aZ [] X.env)).any (·.1)=false:=by rfl):
  PS X (.Expr (.Call (.Attribute o "extend" apos) [e] [] cpos) pos) (tS X.K (JW i f)):=
 (YZ (Rq acI adi PySem.F.type_list_extend (wI.r af3) ho (nG he qH hs) hbase hfew hline hs hplain) hs0).weak fun D σ H aK=>by
  obtain⟨Z,Θ,env,C,fl,env',C',S,hf,q⟩:=aK
  unfold JW at hf;split at hf
  ·rename_i h0
   obtain⟨ds0,h0⟩:=Yg h0
   obtain⟨v0,yK,a,rfl,J8,ha0,r0⟩:=S.slot i _ h0
   split at hf
   ·rename_i ys e1 C1 h1;split at hf
    ·rename_i ds hi;split at hf
     ·rename_i hl;cases hf
      refine⟨_,yK,.inl ⟨rfl,J8,bK.of ha0⟩,Z,Θ,env,C,.list ys,e1,C',S,h1,fun v H1 k f S1 bo=>?_⟩
      obtain⟨b,ws,rfl,hb,r1⟩:=bo
      obtain⟨v1,ev1,a1,Th,vs,ha1,r2⟩:=S1.slot i _ hi
      subst Th;rw[yK] at ev1;cases ev1
      refine⟨a,b,vs,ws,rfl,rfl,ha1,ir hb,by rw[gU r2,gU r1,jg];unfold LIM at hl;omega,?_⟩
      have w:dI X.K Z Θ e1 σ H1 Θ (e1.set i (some (.ow (.list (ds++ys))))) C' σ (upd H1 a (.lst (vs++ws))):=S1.write hi yK ⟨_,eN,xP r2 r1⟩;exact q Θ σ _ ((dI.rE k f S1).trans w)
     ·cases hf
    ·cases hf
   ·cases hf
  ·cases hf
section
variable{prog:bf}{w:aY}{A:bY}{E:Value→au→Prop}{s:au}{R:qI→au→Prop}{I S:aa}{fp wr:List aa}{n:Nat}{Pv:Nat→Value→Prop}{St:Nat→aV→Prop}{bt:Nat→Nat→Bool}{HK:aV→Prop}
theorem aiL(W:Walks prog w A.in1 I fp wr n Pv St)(cmp:∀(i j:Nat)(vi vj:Value)(s:au)(Q:Value→au→Prop)(E:Value→au→Prop),HK s.heap→Pv i vi→Pv j vj→Q (.bool (bt i j)) s→aM (model prog w) A.in1 (BV .Lt vi vj) Q E s)
  (hk:∀h h',HK h→(∀b o,b∉wr→b≠S→h.get? b=some o→h'.get? b=some o)→HK h')(out:S∉fp):∀(m j:Nat)(s:au)(vb:Value)(c:Nat),n-(j+1)=m→j+1≤n→St (j+1) s.heap→HK s.heap→Pv (lJ bt j) vb→s.heap.get? S=some (akO vb c)→
  (∀v h' tk,Pv (lJ bt (n-1)) v→(∀b o,b∉wr→b≠S→s.heap.get? b=some o→h'.get? b=some o)→R (.ok (.ret v)) {s with heap:=h',toks:=tk})→j8 (model prog w) A (.builtin "min.loop" ⟨[.ref I,.none,.ref S],[]⟩) R s:=by
 have JX:S∉wr:=fun z=>out (W.sub _ z)
 have nm:(toString "min"++toString ".loop":String)="min.loop":=by decide
 intro m;induction m with
 |zero=>
  intro j s vb c hm hj st kp pb hS hR;have last:j+1=n:=by omega
  refine vp Uj ?_;rw[u9 yM _];show aM _ A.in1 (seqItems? (.ref S) >>= _) _ _ s;refine aD (Gy hS rfl ?_);show aM _ A.in1 (tryCatch (oJ (.ref I)) _ >>= _) _ _ s;refine aD (Lp (W.done s _ _ (last▸st) fun h' tk kk=>?_));have g:=kk S _ JX hS;show aM _ A.in1 (NQ S (fun _=>#[]) >>= _) _ _ _;refine aD (Gv g rfl (aD (MN (aX ?_))));exact hR vb _ tk (by rw[←last];exact pb) fun b o hb hbS e=>(rM _ _ (jQ hbS)).trans (kk b o hb e)
 |succ m ih=>
  intro j s vb c hm hj st kp pb hS hR;have lt:j+1<n:=by omega
  refine vp Uj ?_;rw[u9 yM _];show aM _ A.in1 (seqItems? (.ref S) >>= _) _ _ s;refine aD (Gy hS rfl ?_);show aM _ A.in1 (tryCatch (oJ (.ref I)) _ >>= _) _ _ s;refine aD (Lp (W.item (j+1) s _ _ lt st fun v h' tk pv st' kk=>?_));have g:=kk S _ JX hS;have Fq:HK h':=hk _ _ kp fun b o hb _ e=>kk b o hb e
  show aM _ A.in1 (tryCatch (pQ [v,v] (BV .Lt v vb >>= _)) _ >>= _) _ _ _;refine aD (Lp (mQ (aD (cmp (j+1) (lJ bt j) v vb _ _ _ Fq pv pb ?_))));refine aD (mQ (vm (aD (MN (aX ?_)))));cases hb:bt (j+1) (lJ bt j) with
  |true=>
   simp only[if_true];refine aD (Gv g rfl (aD (MN ?_)));rw[nm];refine aX ⟨ud yM _,ih (j+1) _ v _ (by omega) lt (W.frame _ _ _ st' fun b hbf o e=>(rM _ _ fun z:S=b=>out (z▸hbf)).trans e) (hk _ _ Fq fun b o _ hbS e=>(rM _ _ (jQ hbS)).trans e) (by simp only[lJ,hb,if_true];exact pv) (yN _ g rfl) fun v' h2 tk2 Ft rC=>?_⟩;exact hR v' h2 tk2 Ft fun b o hb' hbS e=>rC b o hb' hbS ((rM _ _ (jQ hbS)).trans (kk b o hb' e))
  |false=>
   simp only[pF,if_false];refine aD (MN ?_);rw[nm];refine aX ⟨ud yM _,ih (j+1) _ vb c (by omega) lt st' Fq (by simp only[lJ,hb,pF,if_false];exact pb) g fun v' h2 tk2 Ft rC=>?_⟩;exact hR v' h2 tk2 Ft fun b o hb' hbS e=>rC b o hb' hbS (kk b o hb' e)
theorem aiM(W:Walks prog w A.in1 I fp wr n Pv St)(cmp:∀(i j:Nat)(vi vj:Value)(s:au)(Q:Value→au→Prop)(E:Value→au→Prop),HK s.heap→Pv i vi→Pv j vj→Q (.bool (bt i j)) s→aM (model prog w) A.in1 (BV .Lt vi vj) Q E s)
  (hk:∀h h',HK h→(∀b o,b∉wr→b≠S→h.get? b=some o→h'.get? b=some o)→HK h')(out:S∉fp)(pos:0<n)(st:St 0 s.heap)(kp:HK s.heap)(hS:s.heap.get? S=some {cls:=.type "list",dict:=none,data:=.seq #[] c,slots:=#[]})
  (hR:∀v h' tk,Pv (lJ bt (n-1)) v→(∀b o,b∉wr→b≠S→s.heap.get? b=some o→h'.get? b=some o)→R (.ok (.ret v)) {s with heap:=h',toks:=tk}):j8 (model prog w) A (.builtin "min.loop" ⟨[.ref I,.none,.ref S],[]⟩) R s:=by
 have JX:S∉wr:=fun z=>out (W.sub _ z)
 have nm:(toString "min"++toString ".loop":String)="min.loop":=by decide
 refine vp Uj ?_;rw[u9 yM _];show aM _ A.in1 (seqItems? (.ref S) >>= _) _ _ s;refine aD (Gy hS rfl ?_);show aM _ A.in1 (tryCatch (oJ (.ref I)) _ >>= _) _ _ s;refine aD (Lp (W.item 0 s _ _ pos st fun v h' tk pv st' kk=>?_));have g:=kk S _ JX hS;have Fq:HK h':=hk _ _ kp fun b o hb _ e=>kk b o hb e
 show aM _ A.in1 (NQ S (fun _=>#[v,v]) >>= _) _ _ _;refine aD (Gv g rfl ?_);rw[nm];refine aX ⟨ud yM _,aiL W cmp hk out _ 0 _ v _ rfl pos (W.frame _ _ _ st' fun b hbf o e=>(rM _ _ fun z:S=b=>out (z▸hbf)).trans e) (hk _ _ Fq fun b o _ hbS e=>(rM _ _ (jQ hbS)).trans e) pv (yN _ g rfl) fun v' h2 tk2 Ft rC=>?_⟩;exact hR v' h2 tk2 Ft fun b o hb' hbS e=>rC b o hb' hbS ((rM _ _ (jQ hbS)).trans (kk b o hb' e))
theorem aiN(hh:A.handled=none)(hl:s.heap.IsList l items)(pos:0<items.size)
  (cmp:∀(i j:Nat)(vi vj:Value)(s':au)(Q:Value→au→Prop)(E:Value→au→Prop),(∀b o,s.heap.get? b=some o→s'.heap.get? b=some o)→items[i]?=some vi→items[j]?=some vj→Q (.bool (bt i j)) s'→aM (model prog w) A.in1 (BV .Lt vi vj) Q E s')
  (h:∀(v:Value)(h':aV)(tk:Nat),items[lJ bt (items.size-1)]?=some v→(∀b o,s.heap.get? b=some o→h'.get? b=some o)→Q v {s with heap:=h',toks:=tk}):aM (model prog w) A (call (.builtin "min") [.ref l]) Q E s:=by
 have nm:(toString "min"++toString ".loop":String)="min.loop":=by decide
 have ltl:l<s.heap.objs.size:=by obtain⟨o,ho,_⟩:=hl;exact bW ho
 refine aeF PySem.F.kind_min PySem.F.plain_min PySem.F.entry_min (PySem.F.args_min1 _) ?_;show aM _ A.in1 (acw "min" ["key","default"] 0 ⟨[],[]⟩ >>= _) _ _ s;refine aD (wpAny_of_eq (show acw "min" ["key","default"] 0 ⟨[],[]⟩=pure [none,none] from rfl) ?_);refine aD (aX ?_);refine aD (Uy hl (aD (mK ?_)));rw[nm];have wM:(s.heap.push {cls:=.type "list_iterator",data:=.fields #[.ref l,.int 0 0]}).objs.size=s.heap.objs.size+1:=xj ..;have W:=afm (prog:=prog) (w:=w) (A:=A.in1) (by simp[hh]) s.heap.objs.size l (dO ltl) items;refine aX ⟨ud yM _,?_⟩;show j8 (model prog w) A (.builtin "min.loop" ⟨[.ref s.heap.objs.size,.none,.ref (s.heap.push {cls:=.type "list_iterator",data:=.fields #[.ref l,.int 0 0]}).objs.size],[]⟩) _ {s with heap:=(s.heap.push {cls:=.type "list_iterator",data:=.fields #[.ref l,.int 0 0]}).push {cls:=.type "list",data:=.seq #[]}};have ol:∀b o,s.heap.get? b=some o→b∉[s.heap.objs.size]:=fun b o e=>by
  simp only[bU,jN,or_false];exact dO (bW e)
 have ol2:∀b o,s.heap.get? b=some o→b≠(s.heap.push {cls:=.type "list_iterator",data:=.fields #[.ref l,.int 0 0]}).objs.size:=fun b o e=>by
  rw[wM];exact dO (wX (bW e))
 refine aiM (HK:=fun h=>∀b o,s.heap.get? b=some o→h.get? b=some o) W cmp (fun h h' k kk b o e=>kk b o (ol b o e) (ol2 b o e) (k b o e)) ?_ pos ⟨⟨_,cD _ (ie _ rfl),rfl,rfl⟩,(hl.push _).push _⟩ (fun b o e=>cD _ (cD _ e)) (ie _ rfl) fun v h' tk hv kk=>?_
 ·rw[wM];simp only[bU,jN,or_false,not_or]
  exact⟨zx (Va _),zx (wX ltl)⟩
 ·exact h v h' tk hv fun b o e=>kk b o (ol b o e) (ol2 b o e) (cD _ (cD _ e))
end
section
variable{X:Cx}
theorem aep(hc:X.calm=true)(hu:X.A.units+1<eU):jw X (.builtin "min") (fun xs H Q=>∃(p:aa)(rows:List Row)(sh:List Bool),xs=[.ref p]∧bK X.K H p (rows.map fun r=>V.ref r.1)∧0<rows.length∧(∀r∈rows,H r.1=some (.tup (r.2.map kV))∧r.2.map bJ=sh)∧
  ∀r,rows[lJ (lK rows) (rows.length-1)]?=some r→Q (.ref r.1) H):=by
 intro pins s σ H xs us Q I r h
 obtain⟨p,rows,sh,rfl,hp,pos,ha,q⟩:=h
 obtain⟨u,rfl,ru⟩:=vals1 r
 cases ru
 obtain⟨its,r',pl,hz⟩:=I.list hp
 have ei:its=rows.map fun r=>dM r.1:=by
  clear pos ha q pl hz hp;induction rows generalizing its with
  |nil=>cases r';rfl
  |cons a rows ih=>
   cases r' with
   |cons h t=>
    cases h;rw[ih _ t];rfl
 subst ei;have tu:∀r∈rows,TupAt s.heap r∧r.2.map bJ=sh:=fun r hr=>by
  obtain⟨_,its,v,t⟩:=(show eY X.prog X.w H s.heap r.1 (.tup (r.2.map kV)) from I.hok r.1 _ (ha r hr).1)
  exact⟨⟨its,v,t⟩,(ha r hr).2⟩
 refine aiN (bt:=lK rows) (I.ok.hd hc) pl.isList (by simpa using pos) (fun i j vi vj s' Q E k hi hj q=>?_) fun v h' tk hv k=>?_
 ·have hi':(rows.map fun r=>dM r.1)[i]?=some vi:=by simpa using hi
  have hj':(rows.map fun r=>dM r.1)[j]?=some vj:=by simpa using hj
  rw[gC] at hi' hj';cases ri:rows[i]? with
  |none=>rw[ri] at hi';cases hi'
  |some a=>
   cases rj:rows[j]? with
   |none=>rw[rj] at hj';cases hj'
   |some b=>
    rw[ri] at hi';rw[rj] at hj';cases hi';cases hj'
    obtain⟨⟨its,v,t⟩,sa⟩:=tu a (nZ ri)
    obtain⟨⟨its2,v2,t2⟩,sb⟩:=tu b (nZ rj)
    have ta:=(TupAt.keep (r:=a) ⟨its,v,t⟩ k)
    have tb:=(TupAt.keep (r:=b) ⟨its2,v2,t2⟩ k)
    obtain⟨its,v,t⟩:=ta
    obtain⟨its2,v2,t2⟩:=tb
    refine WK t t2 (by simpa using v) (by simpa using v2) (sa.trans sb.symm) hu ?_;have e:lK rows i j=dF a.2 b.2:=by
     unfold lK uB;simp[ri,rj]
    rw[←e];exact q
 ·have hv':(rows.map fun r=>dM r.1)[lJ (lK rows) (rows.length-1)]?=some v:=by simpa using hv
  rw[gC] at hv';cases rv:rows[lJ (lK rows) (rows.length-1)]? with
  |none=>rw[rv] at hv';cases hv'
  |some a=>
   rw[rv] at hv';cases hv'
   exact⟨.ref a.1,H,I.kept (t':=tk) k,rfl,q a rv⟩
end
def Tu(K:aG)(a:aa):It:=⟨fun i H=>∃xs,bK K H a xs∧i<xs.length,
 fun i H v H'=>∃p x,H p=none∧v=.ref p∧H'=upd H p (.tup [.int i,x])∧∀xs,bK K H a xs→xs[i]?=some x,
 fun i H=>∃xs,bK K H a xs∧i=xs.length⟩
theorem agx{P:bf}{w:aY}{K:aG}{es:List Expr}{k:Nat}{ps:Pos}{a z j:aa}(hzj:z≠j):
  Turn P w K (.Tuple es k ps) (Tu K a) [z,j] z (fun i h=>(∃old,IsEnum h z j i old)∧h.IsListIter j a i) where
 mem:=by simp
 obj:=fun i h st c hc=>by
  obtain⟨⟨_,h1⟩,⟨o4,e4,_,d4⟩⟩:=st
  simp only[bU,jN,or_false] at hc;rcases hc with rfl|rfl
  ·exact⟨_,h1,fun v q=>by cases q⟩
  ·exact⟨_,e4,fun v q=>by rw[d4] at q;cases q⟩
 keep:=fun i h h' st kk=>by
  obtain⟨⟨old,h1⟩,⟨o4,e4,r4⟩⟩:=st
  exact⟨⟨old,kk z (by simp) _ h1⟩,⟨o4,kk j (by simp) _ e4,r4⟩⟩
 item:=by
  intro X hP hw hK hc i pins s σ H E I hf st hg;subst hP hw hK
  obtain⟨xs,ha,hi⟩:=hg
  obtain⟨its,r1,p1,_⟩:=I.list ha
  obtain⟨⟨old,s1⟩,s2⟩:=st
  have ex:xs[i]?=some (xs.getD i .non):=by simp[qC,hi]
  obtain⟨u,hu,q1⟩:=r1.get ex
  have hx:its.toArray[i]?=some u:=by simpa using hu
  refine wpAny_pyNext_enum_item s1 s2 p1.isList hx hzj fun h' a1 a2 a3 a4 kk=>⟨_,rfl,wpAny_letOwnedTupleGo_enum a1 fun h2 z2 m2=>?_⟩
  have ltz:z<s.heap.objs.size:=bW s1;have Ez:H s.heap.objs.size=none:=I.hok.fresh (bO _);have kT:h2.get? s.heap.objs.size=some {cls:=.type "tuple",data:=.seq #[.int i s.toks,u]}:=m2.extBut _ _ (zx ltz) a3
  refine⟨.ref s.heap.objs.size,upd H s.heap.objs.size (.tup [.int i,xs.getD i .non]),Inv.CJ (s:=s) (h':=h2) (t':=s.toks+1) (ch:=[z,j]) I (fun c o hc e=>?_) hf (bh.upd Ez) (fun c o e n=>?_) (fun c v e=>?_),rfl,⟨_,_,Ez,rfl,rfl,fun xs' h1=>?_⟩,⟨⟨_,z2⟩,a2.extBut m2.extBut (jQ hzj)⟩,fun c hc=>?_⟩
  ·simp only[bU,jN,or_false,not_or] at hc;exact m2.extBut _ _ hc.1 (kk c o hc.1 hc.2 e)
  ·rw[cJ (dO (bW e))];exact n
  ·by_cases EY:c=s.heap.objs.size
   ·subst EY;rw[eN] at e;cases e;exact .inr ⟨by show 2≤bM;decide,[.int i s.toks,u],.cons ⟨_,rfl⟩ (.cons q1 .nil),_,kT,rfl,_,rfl⟩
   ·rw[cJ EY] at e;exact .inl e
  ·rw[I.HY h1 ha];exact ex
  ·rw[cJ]
   ·exact(hf c hc).1
   ·simp only[bU,jN,or_false] at hc
    obtain⟨o4,e4,_⟩:=s2
    rcases hc with rfl|rfl
    ·exact dO ltz
    ·exact dO (bW e4)
 done:=by
  intro X hP hw hK hc i pins s σ H E I hf st hg;subst hP hw hK
  obtain⟨xs,ha,hi⟩:=hg
  obtain⟨its,r1,p1,_⟩:=I.list ha
  obtain⟨⟨old,s1⟩,s2⟩:=st
  have l1:=r1.length;refine wpAny_pyNext_enum_end (I.ok.hd hc) s1 s2 p1.isList (by simp;omega) fun h' kk=>⟨rfl,I.CJ (t':=s.toks) (ch:=[z,j]) (fun c o hc e=>?_) hf (bh.refl H) (fun _ _ _ n=>n) fun _ _ e=>.inl e⟩
  simp only[bU,jN,or_false,not_or] at hc;exact kk _ _ hc.2 e
 self:=fun _ _ _ _ _ st h=>by
  obtain⟨⟨_,h1⟩,_⟩:=st
  exact adE h1 h
def alw(K:aG)(t:TA):TI:=fun σ H R=>t σ H fun vs H1=>∃a xs,vs=[.ref a]∧bK K H1 a xs∧R (Tu K a) H1
theorem akb{X:Cx}{es:List Expr}{k:Nat}{ps:Pos}{x:Expr}{t:TA}{p pos:Pos}(hg:Gl X "enumerate")(hm:X.mg "enumerate"=none)(ha:PA X [x] t)(hs:aZ [x] X.env=[(false,eval x X.env)]:=by rfl)(hs2:aZ ([]:List Expr) X.env=[]:=by rfl):
  PI X (.Tuple es k ps) (.Call (.Name "enumerate" p) [x] [] pos) (alw X.K t):=by
 intro pins s σ H R I h;refine Call_ (uz I hg hm amP (FW (bu (ha pos pins s σ H _ I h) fun us s1 aK=>?_) (by rw[hs,hs2]) (by rw[hs2];rfl)))
 obtain⟨vs,H1,I1,r1,a,xs,e,h1,q⟩:=aK
 subst e
 obtain⟨u,rfl,r⟩:=vals1 r1
 cases r
 obtain⟨its,v1,p1,_⟩:=I1.list h1
 refine call_enumerate_list p1.isList fun h' g1 g2 _ kk=>adE g1 ?_
 have I2:Inv X pins σ H1 {s1 with heap:=h'}:=I1.kept (t':=s1.toks) kk
 refine⟨s1.heap.objs.size+1,[s1.heap.objs.size+1,s1.heap.objs.size],_,_,H1,rfl,I2,agx (Nat.succ_ne_self _),⟨⟨_,g1⟩,g2⟩,fun c hc=>?_,q⟩
 refine I1.uL ?_ (I1.hok.fresh ?_)
 all_goals
  simp only[bU,jN,or_false] at hc;rcases hc with rfl|rfl<;>omega
def yj(ds:List aj):List aj:=ds.zipIdx.map fun p=>.tuple [.int (p.2:Nat),p.1]
theorem Yw{ds:List aj}{i:Nat}{d:aj}(h:(yj ds)[i]?=some d):∃x,ds[i]?=some x∧d=.tuple [.int i,x]:=by
 unfold yj at h;rw[gC,List.getElem?_zipIdx] at h;cases hx:ds[i]? with
 |none=>rw[hx] at h;cases h
 |some x=>
  rw[hx] at h
  refine⟨x,rfl,?_⟩
  have:=fV h;rw[←this,G4]
theorem Xp(ds:List aj):(yj ds).length=ds.length:=by
 unfold yj;rw[aW,List.length_zipIdx]
theorem aiO{K:aG}{P:List aa}{H:Hp}{a:aa}{ds:List aj}{vs:List V}(ha:er P H a=some (.lst vs))(r:cz (er P H) ds vs):wB P P H (Tu K a) (yj ds):=fun i H2 P2 s1 s2 n=>by
 have h2:bK K H2 a vs:=bK.of (ir (s1 _ _ ha));have l1:=gU r
 refine⟨fun d hd=>?_,fun hi=>⟨vs,h2,by rw[hi,Xp];exact l1.symm⟩⟩
 obtain⟨x,e1,rfl⟩:=Yw hd
 obtain⟨v,ev,rv⟩:=vM r e1
 refine⟨⟨vs,h2,(je.mp ev).1⟩,fun y H3 yl=>?_⟩
 obtain⟨p,v',hp,rfl,rfl,hh⟩:=yl
 have g1:=hh vs h2;rw[ev] at g1;cases g1;have sp:bh H2 (upd H2 p (.tup [.int i,v])):=bh.upd hp
 refine⟨sp,p,[.int i,v],rfl,?_,.int i,[v],rfl,rfl,v,[],rfl,rv.same (s1.trans (PK sp)),rfl⟩
 unfold er;rw[if_neg (fun m=>n p m hp),eN]
def Kh(f:FE):FI:=fun env C=>match f env C with
 |some (r,e1,C1)=>match still r with
  |.im (.list ds)=>some (yj ds,e1,C1)
  |_=>none
 |none=>none
theorem aiP(hg:Gl X "enumerate")(hm:X.mg "enumerate"=none)(ha:PE X x (tE X.K f))(hs:aZ [x] X.env=(false,eval x X.env)::aZ [] X.env:=by rfl)(hs1:aZ [x] X.env=[(false,eval x X.env)]:=by rfl)(hs2:aZ ([]:List Expr) X.env=[]:=by rfl):
  PI X (.Tuple es k ps) (.Call (.Name "enumerate" p) [x] [] pos) (tI X.K false (Kh f)):=(akb hg hm (nG ha qH hs) hs1 hs2).weak fun σ H R aK=>by
 obtain⟨Z,Θ,env,C,its,env',C',S,hf,q⟩:=aK
 unfold Kh at hf;split at hf
 case h_2=>cases hf
 rename_i r e1 C1 h1;split at hf
 case h_2=>cases hf
 rename_i ds hd;cases hf
 refine⟨Z,Θ,env,C,_,env',C',S,h1,fun v H1 k f R=>?_⟩
 obtain⟨S1,a,vs,rfl,ha,r⟩:=R.sX hd
 exact⟨a,vs,rfl,bK.of (ir ha),q _ H1 k f S1 (aiO ha r)⟩
theorem Xq(h:(jk P w).is k u=true):RelV (kV k) u:=by
 rcases rT h with⟨i,t,rfl,rfl⟩|⟨x,t,rfl,rfl⟩<;>exact⟨t,rfl⟩
section
variable{prog:bf}{w:aY}{A:bY}{E:Value→au→Prop}{s:au}{r d:aa}{kvs:List (Key×Value)}{ep:Nat}{b c:Bool}{Q:Value→au→Prop}
def lM(as:List aa)(cu:List (Key×Key)):List Row:=as.zipWith (fun a p=>(a,[p.1,p.2])) cu
theorem adV(hh:A.handled=none)(hv:s.heap.IsItemsView r d)(hm:s.heap.DictAt (jk prog w) d kvs ep)(h64:cu.length<64)(hne:0<cu.length)(hk:kvs.map (·.1)=cu.map (·.1))(hx:Vals (cu.map fun p=>kV p.2) (kvs.map (·.2)))(hty:∀p∈cu,bJ p.1=b∧bJ p.2=c)
  (h:∀(as:List aa)(p:List Nat)(D:aa)(h':aV)(n tk:Nat),as.length=cu.length→as.Pairwise (·<·)→(∀a∈as,s.heap.objs.size≤a∧a≠D)→(∀r∈lM as cu,TupAt h' r)→p.Perm (dJ (lM as cu).length)→p=tK ((lM as cu).map (·.2))→s.heap.objs.size≤D→(∀b o,s.heap.get? b=some o→h'.get? b=some o)→
   h'.get? D=some (seqObj "list" ((p.map fun i=>(lM as cu).getD i (0,[])).map fun r=>dM r.1).toArray n)→Q (.ref D) {s with heap:=h',toks:=tk}):
  aM (model prog w) A (call (.builtin "sorted") [.ref r]) Q E s:=by
 have hlk:kvs.length=cu.length:=by have:=congrArg pI hk;simpa using this
 refine T9 kind_sorted plain_sorted entry_sorted (args_sorted1 _) ?_;unfold kJ.«sorted»;refine aD (m:=WQ "sorted" 1 1 _) (aX (aD (kdx_collect (A:=A.in1) (by simp[hh]) hv hm (by rw[jg];omega) fun h1 tk as kk hlen G=>?_)));have hla:as.length=cu.length:=by omega
 have hlr:(lM as cu).length=cu.length:=by unfold lM;rw[List.length_zipWith];omega
 have tu:∀r∈lM as cu,TupAt h1 r∧r.2.map bJ=b::[c]:=fun r hr=>by
  obtain⟨j,hj,rfl⟩:=vg hr
  rw[hlr] at hj;have ea:as[j]?=some as[j]:=jt (by omega);have ek:cu[j]?=some cu[j]:=jt hj
  obtain⟨key,k,x,e1,e2,e3⟩:=G.pairs j _ ea
  have er:(lM as cu)[j]'(by omega)=(as[j],[cu[j].1,cu[j].2]):=by simp[lM]
  rw[er];have kk1:k=cu[j].1:=by
   have:=congrArg (·[j]?) hk;simp only[gC,e1,ek,j6] at this;exact fV this
  have kx:RelV (kV cu[j].2) x:=by
   have q1:(cu.map fun p=>kV p.2)[j]?=some (kV cu[j].2):=by rw[gC,ek];rfl
   obtain⟨u,g1,g2⟩:=hx.get q1
   rw[gC,e1] at g1;cases g1;exact g2
  refine⟨⟨[key,x],.cons (kk1▸Xq e2) (.cons kx .nil),_,e3,rfl,_,rfl⟩,?_⟩
  have:=hty cu[j] (wZ hj)
  show[bJ cu[j].1,bJ cu[j].2]=_
  rw[this.1,this.2]
 have eu:as.map dM=(lM as cu).map fun r=>dM r.1:=by
  refine yU (by rw[aW,aW];omega) fun i h1 h2=>?_
  rw[adW,adW];simp[lM]
 rw[eu];have hsz:s.heap.objs.size≤h1.objs.size:=by
  have m:as[0]'(by omega)∈as:=wZ _;exact vB (G3 (G.above _ m) (G.there m))
 generalize hR:lM as cu=rows at *;refine aD (Mf ?_ (by rw[aW,jg];omega));have hoL:(h1.push (seqObj "list" (rows.map fun r=>dM r.1).toArray 0)).get? h1.objs.size=some (seqObj "list" (rows.map fun r=>dM r.1).toArray 0):=ie _ rfl;have up:∀s':au,Kp h1.objs.size (h1.push (seqObj "list" (rows.map fun r=>dM r.1).toArray 0)) s'.heap→∀b o,h1.get? b=some o→s'.heap.get? b=some o:=fun s' k b o e=>k b o (dO (bW e)) (cD _ e)
 refine aD (mQ (qu slot_list_sort ⟨_,hoL,rfl⟩ entry_list_sort (afp (κ:=tuples' true) (lt:=lK rows) (Rl:=fun p=>p=tK (rows.map (·.2))) (vs:=rows.map fun r=>dM r.1) (s:={s with heap:=h1.push (seqObj "list" (rows.map fun r=>dM r.1).toArray 0),toks:=tk}) hoL (by rw[aW];omega) (fun h2=>agi (by rw[aW]) h2) (fun h2=>afr (by rw[aW]) h2)
  (fun h2 s' k Q' q'=>agd (fun r hr=>⟨(tu r hr).1.keep (up s' k),(tu r hr).2⟩) (by rw[aW] at h2;omega) Q' q') (fun h2 s' k i j hi hj C q'=>ag7 (sh:=b::[c]) (fun r hr=>⟨(tu r hr).1.keep (up s' k),(tu r hr).2⟩) (by simpa using hi) (by simpa using hj) C q') fun p h' n hp hrl k e=>⟨_,rfl,?_⟩) (args_list_sort _)))
 rw[aW] at hp;rw[agf hp] at e;have kh:=up {s with heap:=h'} k;subst hR;exact aX ⟨_,rfl,h as p h1.objs.size h' n tk hla G.rise (fun a ha=>⟨vB (G.above a ha),dO (G.there ha)⟩) (fun r hr=>(tu r hr).1.keep kh) hp hrl hsz (fun b o e=>kh b o (kk b o e)) e⟩
end
def layR(H:Hp)(rows:List Row):Hp:=fun a=>match rows.find? (fun r=>decide (r.1=a)) with
 |some r=>some (.tup (r.2.map kV))
 |none=>H a
theorem ahs(h:∀r∈rows,r.1≠a):layR H rows a=H a:=by
 unfold layR;rw[Uv.mpr fun r hr=>by rw[decide_eq_false (h r hr)];exact gP]
theorem ZK:∀{rows:List Row},(rows.map (·.1)).Nodup→∀r∈rows,layR H rows r.1=some (.tup (r.2.map kV))
 |q::rows,nd,r,hr=>by
  rw[cg,iR] at nd;unfold layR;rcases bU.mp hr with rfl|hr
  ·rw[List.find?_cons_of_pos (by simp)]
  ·have ne:¬decide (q.1=r.1)=true:=fun e=>nd.1 (fK.mpr ⟨r,hr,(of_decide_eq_true e).symm⟩)
   rw[List.find?_cons_of_neg (p:=fun r1:Row=>decide (r1.1=r.1)) ne];exact ZK nd.2 r hr
theorem agy(h:layR H rows a=some u):H a=some u∨∃r∈rows,r.1=a∧u=.tup (r.2.map kV):=by
 unfold layR at h;cases hf:rows.find? (fun r=>decide (r.1=a)) with
 |none=>rw[hf] at h;exact .inl h
 |some r=>
  rw[hf] at h;exact .inr ⟨r,List.mem_of_find?_eq_some hf,of_decide_eq_true (List.find?_some (p:=fun r:Row=>decide (r.1=a)) hf),(fV h).symm⟩
theorem Yx:∀{cu:List (Key×Key)}{vs:List (Key×Value)},KV (cu.map fun p=>(p.1,kV p.2)) vs→vs.map (·.1)=cu.map (·.1)∧Vals (cu.map fun p=>kV p.2) (vs.map (·.2))
 |[],vs,h=>by cases h;exact⟨rfl,.nil⟩
 |p::cu,vs,h=>by
  cases h with
  |cons h t=>
   obtain⟨a,b⟩:=Yx t
   exact⟨by rw[cg,cg,a,←h.1],.cons h.2 b⟩
def aiQ(td:TE):TE:=fun σ H Q=>td σ H fun x H1=>∃(d:aa)(cu:List (Key×Key))(b c:Bool),x=.ref d∧H1 d=some (.dK (cu.map fun p=>(p.1,kV p.2)))∧cu.length<64∧0<cu.length∧(∀p∈cu,bJ p.1=b∧bJ p.2=c)∧
 ∀(l:aa)(rows:List Row)(H2:Hp),bh H1 H2→H1 l=none→H2 l=some (.lst (rows.map fun r=>V.ref r.1))→rows.map (·.2)=Eh (cu.map fun p=>[p.1,p.2])→(∀r∈rows,H2 r.1=some (.tup (r.2.map kV)))→Q (.ref l) H2
theorem agz(hc:X.calm=true)(ho:PE X o td)(g1:Gl X "sorted")(m1:X.mg "sorted"=none)
  (he:aZ [.Call (.Attribute o "items" apos) [] [] cpos] X.env=(false,eval (.Call (.Attribute o "items" apos) [] [] cpos) X.env)::aZ [] X.env:=by rfl)(hpl:(gm pos1 (aZ [] X.env)).any (·.1)=false:=by rfl)
  (hbase:xu o "items" X.env (eval o X.env)=eval o X.env:=by rfl)(hline:(apos.endLine==cpos.line)=true:=by rfl):
  PE X (.Call (.Name "sorted" p1) [.Call (.Attribute o "items" apos) [] [] cpos] [] pos1) (aiQ td):=by
 intro pins s σ H Q I h;refine Gi (uz I g1 m1 (u:=.builtin "sorted") rfl ?_);refine T6 ?_ he hpl;rw[he];show aM _ _ (spliced ((false,eval (.Call (.Attribute o "items" apos) [] [] cpos) X.env)::gm pos1 (aZ [] X.env))) _ _ s;refine Gh (adC (T:="dict") (id:="dict.items") hbase rfl hline acJ acK PySem.F.type_dict_items (bu (ho pins s σ H _ I h) fun u s1 aK=>?_))
 obtain⟨x,H1,I1,rx,d,cu,b,c,ex,hd,h64,hne,hty,q⟩:=aK
 subst ex;obtain rfl:u=dM d:=rx
 obtain⟨z,lo,vs,rel,dd⟩:=JB I1.hok hd
 obtain⟨hk,hx⟩:=Yx rel
 refine⟨dd.typeIs,dd.mapOf.noDict,?_⟩
 show aM _ _ (callWith cpos (.builtin "dict.items") [.ref d] [] []) _ _ s1;refine method_meetsIn acK PySem.F.entry_dict_items rfl (amS ⟨rfl,dd.typeIs,PySem.F.args_dict_items_1 _,_,meets_dict_items (jk X.prog X.w) d lo,⟨vs,dd⟩,KZ ?_⟩)
 obtain⟨od,es,ep,hod,hdr⟩:=dd
 have sz:(s1.heap.push {cls:=.type "dict_items",data:=.fields #[.ref d]}).objs.size=s1.heap.objs.size+1:=xj ..;refine adV (I1.ok.hd hc) (d:=d) ⟨_,ie _ rfl,rfl,rfl⟩ (ep:=ep) ⟨od,es,cD _ hod,hdr⟩ h64 hne hk hx hty fun as p D h' n tk hla hup hfr tu hp hrl hD kk e=>?_
 have nda:as.Nodup:=hup.imp fun h=>dO h
 obtain⟨rows,hR⟩:∃rows,rows=lM as cu:=⟨_,rfl⟩
 rw[←hR] at tu hp hrl e;have r1:rows.map (·.1)=as:=by
  rw[hR];refine yU (by simp[lM,hla]) fun i h1 h2=>?_
  simp[lM]
 have r2:rows.map (·.2)=cu.map fun p=>[p.1,p.2]:=by
  rw[hR];refine yU (by simp[lM,hla]) fun i h1 h2=>?_
  simp[lM]
 have ra:∀r∈rows,s1.heap.objs.size≤r.1∧r.1≠D:=fun r hr=>by
  have m:r.1∈as:=by rw[←r1];exact fK.mpr ⟨r,hr,rfl⟩
  have:=hfr _ m;rw[sz] at this
  exact⟨by omega,this.2⟩
 rw[sz] at hD;have hnD:H1 D=none:=I1.hok.fresh (by omega);have old:∀a,a<s1.heap.objs.size→upd (layR H1 rows) D (.lst ((p.map fun i=>rows.getD i (0,[])).map fun r=>V.ref r.1)) a=H1 a:=fun a ha=>by
  rw[cJ (show a≠D by omega),ahs fun r hr z=>by have:=(ra r hr).1;rw[z] at this;omega]
 have hin:∀r∈rows,upd (layR H1 rows) D (.lst ((p.map fun i=>rows.getD i (0,[])).map fun r=>V.ref r.1)) r.1=some (.tup (r.2.map kV)):=fun r hr=>by
  rw[cJ (ra r hr).2];exact ZK (by rw[r1];exact nda) r hr
 have sm:bh H1 (upd (layR H1 rows) D (.lst ((p.map fun i=>rows.getD i (0,[])).map fun r=>V.ref r.1))):=fun a u ha=>by
  have lt:a<s1.heap.objs.size:=by
   rcases Nat.lt_or_ge a s1.heap.objs.size with h|h
   ·exact h
   ·rw[I1.hok.fresh h] at ha;cases ha
  rw[old a lt];exact ha
 refine⟨.ref D,_,Inv.CJ (s:=s1) (h':=h') (t':=tk) (ch:=[]) I1 (fun a o _ q=>kk a o (cD _ q)) (fun _ m=>nomatch m) sm (fun a o q n=>by rw[old a (bW q)];exact n) (fun a u ha=>?_),rfl,q D (p.map fun i=>rows.getD i (0,[])) _ sm hnD eN ((aik hp hrl).trans (by rw[r2])) fun r hr=>hin r ((age hp).mem_iff.mp hr)⟩
 by_cases hz:a=D
 ·subst hz;rw[eN] at ha;cases ha;refine .inr ⟨?_,_,n,Xf _,by simpa[seqObj] using e⟩;rw[aW,aW,hp.length_eq,lA,jg];have:=congrArg pI r2;rw[aW,aW] at this;omega
 ·rw[cJ hz] at ha;rcases agy ha with h|⟨r,hr,rfl,rfl⟩
  ·exact .inl h
  ·obtain⟨its,v,t⟩:=tu r hr
   refine .inr ⟨?_,its,v,t⟩;have m:r.2∈cu.map fun p=>[p.1,p.2]:=by rw[←r2];exact fK.mpr ⟨r,hr,rfl⟩
   obtain⟨pp,_,e2⟩:=fK.mp m
   rw[←e2,jg];show 2≤_;omega
def Eo:List (aj×aj)→Option (List (Key×Key))
 |[]=>some []
 |p::r=>(cV p.1).bind fun k=>(cV p.2).bind fun v=>(Eo r).map fun t=>(k,v)::t
theorem Yy:∀{kvs:List (aj×aj)}{cu:List (Key×Key)}{ks:List Key}{vs:List V},Eo kvs=some cu→cM cV kvs=some ks→gO E kvs vs→ks.zip vs=cu.map (fun p=>(p.1,kV p.2))∧kvs.map (fun p=>vC [p.1,p.2])=cu.map (fun p=>.tuple [jY p.1,jY p.2])
 |[],cu,ks,vs,h,h1,_=>by cases h;cases h1;exact⟨rfl,rfl⟩
 |p::r,cu,ks,vs,h,h1,h2=>by
  obtain⟨k,e1,h⟩:=rK.mp h
  obtain⟨v,e2,h⟩:=rK.mp h
  obtain⟨t,e3,h⟩:=Ga.mp h
  subst h;unfold cM at h1;rw[e1] at h1;cases ha:cM cV r with
  |none=>rw[ha] at h1;cases h1
  |some t1=>
   rw[ha] at h1;cases h1
   obtain⟨u,w,rfl,q,h2⟩:=h2
   obtain⟨a,b⟩:=Yy e3 ha h2
   obtain⟨p1,p2⟩:=p
   have hv:u=kV v:=aan e2 q;have d1:p1=jY k:=by cases p1<;>first|(cases e1;rfl)|cases e1
   have d2:p2=jY v:=by cases p2<;>first|(cases e2;rfl)|cases e2
   refine⟨?_,?_⟩
   ·rw[Gk,cg,a,hv]
   ·rw[cg,cg,b,d1,d2]
def Q5(kvs:List (aj×aj)):Option (List aj):=(Eo kvs).bind fun cu=>cu.head?.bind fun p=>if cu.length<64∧∀q∈cu,bJ q.1=bJ p.1∧bJ q.2=bJ p.2 then some (JV (kvs.map fun p=>.tuple [p.1,p.2])) else none
def Rz:aj→Option (List (aj×aj))
 |.dict kvs=>some kvs
 |_=>none
theorem aht(h:Rz d=some kvs):d=.dict kvs:=by
 cases d<;>first|(cases h;rfl)|cases h
def Ql(f:FB):FE:=fun env C=>(f env C).bind fun p=>(Rz p.1).bind fun kvs=>(Q5 kvs).map fun l=>(.ow (.list l),env,p.2.2)
theorem agA(hc:X.calm=true)(ho:PE X o (dH X.K f))(g1:Gl X "sorted")(m1:X.mg "sorted"=none)
  (he:aZ [.Call (.Attribute o "items" apos) [] [] cpos] X.env=(false,eval (.Call (.Attribute o "items" apos) [] [] cpos) X.env)::aZ [] X.env:=by rfl)(hpl:(gm pos1 (aZ [] X.env)).any (·.1)=false:=by rfl)
  (hbase:xu o "items" X.env (eval o X.env)=eval o X.env:=by rfl)(hline:(apos.endLine==cpos.line)=true:=by rfl):
  PE X (.Call (.Name "sorted" p1) [.Call (.Attribute o "items" apos) [] [] cpos] [] pos1) (tE X.K (Ql f)):=(agz hc ho g1 m1 he hpl hbase hline).weak fun σ H Q aK=>by
 obtain⟨Z,Θ,env,C,r,env',C',S,hf,q⟩:=aK
 refine hide fun GG gg=>?_
 obtain⟨⟨d,e1,C1⟩,h1,hf⟩:=rK.mp hf
 obtain⟨kvs,hd,hf⟩:=rK.mp hf
 obtain⟨l,hl,hf⟩:=Ga.mp hf
 obtain⟨cu,hk,hl⟩:=rK.mp hl
 obtain⟨p,hp,hl⟩:=rK.mp hl
 split at hl
 case isFalse=>cases hl
 rename_i hall;cases hl;cases hf;cases aht hd;have pos:0<cu.length:=by
  cases cu with
  |nil=>cases hp
  |cons _ _=>exact G5 _
 refine gg ⟨Z,Θ,env,C,.dict kvs,e1,C1,S,h1,fun v H1 k f S1 b1=>?_⟩;refine hide fun G2 g2=>?_
 obtain⟨a,vs,rfl,da,rr⟩:=b1.dct
 rcases da with⟨ks,a1,a2⟩|⟨ks,⟨ne,a1⟩,a2⟩
 ·obtain⟨e2,e3⟩:=Yy hk a1 rr
  rw[e2] at a2;refine g2 ⟨a,cu,bJ p.1,bJ p.2,rfl,a2,hall.1,pos,hall.2,fun l rows H2 sm hn hl hr hin=>?_⟩;have kp:aQ Θ H H2:=k.trans (aQ.of sm);have SD:=S.yg (k.none hn) kp ⟨_,hl,fun _ z=>nomatch z⟩ ⟨S1.cell.len,fun n b ns e2 e3=>sm _ _ (S1.cell.at_ n b ns e2 e3)⟩;have es:(rows.map fun r=>vC (r.2.map jY))=JV (kvs.map fun p=>.tuple [p.1,p.2]):=by
   unfold JV;rw[e3,dB];have:(cu.map (Ai ∘ fun p=>vC [jY p.1,jY p.2]))=cu.map fun p=>[p.1,p.2]:=by
    refine wW fun q _=>?_
    show(keysOf ([q.1,q.2].map jY)).getD []=[q.1,q.2]
    rw[O5];rfl
   rw[this,←hr,dB];rfl
  refine q _ H2 kp (Fz.refl _) ⟨l,rfl,k.none hn,SD,_,hl,?_⟩;rw[←es];exact O6 fun r m=>Dj SD (hin r m)
 ·exfalso;cases kvs with
  |nil=>exact ne rfl
  |cons q r=>
   obtain⟨k',e1,_⟩:=rK.mp hk
   unfold cM at a1;split at a1
   ·rename_i g1 _;exact aao e1 g1
   ·cases a1
def Ea(ks:List (List Key)):Nat:=lJ (fun i j=>dF (ks.getD i (ks.headD [])) (ks.getD j (ks.headD []))) (ks.length-1)
theorem afE(rows:List Row):lJ (lK rows) (rows.length-1)=Ea (rows.map (·.2)):=by
 have e:lK rows=fun i j=>dF ((rows.map (·.2)).getD i ((rows.map (·.2)).headD [])) ((rows.map (·.2)).getD j ((rows.map (·.2)).headD [])):=by
  funext i j;rw[lK,Ii,Ii]
 unfold Ea;rw[e,aW]
def Q6(ds:List aj):Option Vl:=ds.head?.bind fun d0=>(JT d0).bind fun sh=>if ∀d∈ds,JT d=some sh then(ds[Ea (ds.map Ai)]?).map .im else none
def Jv:List aj→Option Vl
 |[.list ds]=>Q6 ds
 |_=>none
theorem aiR{K:aG}:qm K (fun xs H Q=>∃(p:aa)(rows:List Row)(sh:List Bool),xs=[.ref p]∧bK K H p (rows.map fun r=>V.ref r.1)∧0<rows.length∧(∀r∈rows,H r.1=some (.tup (r.2.map kV))∧r.2.map bJ=sh)∧
  ∀r,rows[lJ (lK rows) (rows.length-1)]?=some r→Q (.ref r.1) H) Jv:=by
 intro Z Θ env C σ H xs ds res S b e Q q;refine hide fun GG gg=>?_
 unfold Jv at e;split at e
 case h_2=>cases e
 rename_i ds
 obtain⟨d0,h0,e⟩:=rK.mp e
 obtain⟨sh,_,e⟩:=rK.mp e
 split at e
 case isFalse=>cases e
 rename_i hall
 obtain⟨d,hd,rfl⟩:=Ga.mp e
 obtain⟨v,rfl,bb⟩:=uG b
 obtain⟨a,vs,rfl,ha,r⟩:=bb.lst
 obtain⟨rows,rfl,e2,e3⟩:=Yn hall r
 have ek:ds.map Ai=rows.map (·.2):=by
  rw[e2,dB];refine wW fun r _=>?_
  show(keysOf (r.2.map jY)).getD []=r.2
  rw[O5];rfl
 rw[ek,←afE] at hd;refine gg ⟨a,rows,sh,rfl,bK.of ha,?_,fun r m=>⟨ir (e3 r m).1,(e3 r m).2⟩,fun r hr=>?_⟩
 ·cases rows with
  |nil=>rw[e2] at h0;cases h0
  |cons _ _=>exact G5 _
 ·have m:=nZ hr;have hd':d=.tuple (r.2.map jY):=by
   rw[e2,gC,hr] at hd
   exact(fV hd).symm
  obtain⟨u,t,e4,q4,_⟩:=O6 (E:=er (aR Z Θ env σ) H) (rows:=[r]) fun x hx=>by rw[jf.mp hx];exact(e3 r m).1
  cases e4;refine q _ H (aQ.refl _ _) ⟨S,?_⟩;rw[hd'];exact q4
def Bl(L:Nat)(C:Ce)(b k:Nat):Prop:=C.length=L∧∃x y z:Int,C[b]?=some [x,y,z]∧0≤x∧0≤z∧z+k≤900000
theorem Bl.mono(h:Bl L C b k)(hj:j≤k):Bl L C b j:=by
 obtain⟨l,x,y,z,h1,h2,h5,h6⟩:=h
 exact⟨l,x,y,z,h1,h2,h5,by omega⟩
theorem Bl.dec(h:Bl L C b (k+1)):Bl L C b k:=h.mono (BW k)
theorem Bl.eq(h:Bl L C b k)(h':Bl L C' b' k'):C'.length=C.length:=h'.1.trans h.1.symm
theorem akc(C:Ce)(h0:0≤x):Bl (C.length+1) (C++[[x,y,0]]) C.length 800000:=by
 refine⟨by simp,x,y,0,?_,h0,zA _,by omega⟩
 rw[nW (bO _),V9];rfl
theorem Pa{n s u f i j:Int}(hu:s*u%n=1)(n0:0<n)(hi:0≤i)(hj:0≤j)(hi':i<n)(hj':j<n)(e:(f+s*i)%n=(f+s*j)%n):i=j:=by
 have h1:(f+s*i-(f+s*j))%n=0:=acp.mp e
 obtain⟨d,hd⟩:=Int.dvd_of_emod_eq_zero h1
 have hq:s*u=n*(s*u / n)+1:=by
  have:=Int.mul_ediv_add_emod (s*u) n;rw[hu] at this;exact this.symm
 generalize s*u / n=q at hq;have key:i-j=n*(u*d-q*(i-j)):=by grind
 have h2:(i-j)%n=0:=Int.emod_eq_zero_of_dvd ⟨_,key⟩;have h3:i%n=j%n:=acp.mpr h2;rw[K4 hi hi',K4 hj hj'] at h3;exact h3
def Eb(s:Int):Prop:=(0<s∧s≤675)∧(∃u,s*u%676=1)∧∃u,s*u%26=1
theorem step_at(h0:0≤k)(h1:k<6):∃s,fB [pM 1,.int 3,.int 5,.int 7,.int 25,.int 675] k=some (.int s)∧Eb s:=by
 have hk:k=0∨k=1∨k=2∨k=3∨k=4∨k=5:=by omega
 rcases hk with rfl|rfl|rfl|rfl|rfl|rfl
 ·exact⟨1,rfl,by decide,⟨1,by decide⟩,⟨1,by decide⟩⟩
 ·exact⟨3,rfl,by decide,⟨451,by decide⟩,⟨9,by decide⟩⟩
 ·exact⟨5,rfl,by decide,⟨541,by decide⟩,⟨21,by decide⟩⟩
 ·exact⟨7,rfl,by decide,⟨483,by decide⟩,⟨15,by decide⟩⟩
 ·exact⟨25,rfl,by decide,⟨649,by decide⟩,⟨25,by decide⟩⟩
 ·exact⟨675,rfl,by decide,⟨675,by decide⟩,⟨25,by decide⟩⟩
theorem Qm(e:z.cps.toList=l)(h1:1≤l.length)(h2:l.length≤8)(h3:∀c∈l,97≤c∧c≤122):nameB z=true:=by
 have e2:z.length=l.length:=by rw[←e];show z.cps.size=_;simp
 unfold nameB Kg;rw[e,e2];simp only[iQ,decide_eq_true_eq,oh]
 exact⟨⟨h1,h2⟩,h3⟩
theorem Lg(h:∀i j,i<n→j<n→f i=f j→i=j):((dJ n).map f).Nodup:=by
 rw[T7,List.pairwise_map];refine ank (R:=(·<·)) (fun{a b} ha hb hab e=>?_) KD;have:=h a b (pH.mp ha) (pH.mp hb) e;omega
def n1(f s:Int)(k:Nat):Str:=⟨#[97+((f+s*k)%26).toNat]⟩
theorem ahu{f s:Int}{n:Nat}(hs:Eb s)(hn:n≤26):Names ((dJ n).map (n1 f s)):=by
 refine⟨Lg fun i j hi hj e=>?_,fun z hz=>?_⟩
 ·obtain⟨_,_,u,hu⟩:=hs
  have e1:97+((f+s*i)%26).toNat=97+((f+s*j)%26).toNat:=by
   have:=congrArg (fun z:Str=>z.cps.toList) e;simpa[n1] using this
  have a1:0≤(f+s*i)%26:=mL _ (by decide);have a2:0≤(f+s*j)%26:=mL _ (by decide);have:=Pa (n:=26) (f:=f) (i:=i) (j:=j) hu (by decide) (by omega) (by omega) (by omega) (by omega) (by omega);omega
 ·obtain⟨k,_,rfl⟩:=fK.mp hz
  have a1:0≤(f+s*k)%26:=mL _ (by decide);have a2:(f+s*k)%26<26:=rO _ (by decide);refine Qm (l:=[97+((f+s*k)%26).toNat]) rfl (bO _) (by show 1≤8;decide) fun c hc=>?_
  rw[jf.mp hc];omega
def v2(f s:Int)(k:Nat):Int:=(f+s*k)%676
def two(v:Int):Str:=(⟨#[97+(v / 26).toNat]⟩:Str)++(⟨#[97+(v%26).toNat]⟩:Str)
def n2(hd tl:Str)(f s:Int)(q:Nat→Int)(k:Nat):Str:=hd++two (v2 f s k)++Txt.slice tl none (some (q k))
theorem Yz(hd tl:Str)(f s:Int)(q:Nat→Int)(k:Nat):(n2 hd tl f s q k).cps.toList=hd.cps.toList++([97+(v2 f s k / 26).toNat,97+(v2 f s k%26).toNat]++(Txt.slice tl none (some (q k))).cps.toList):=by
 show((hd.cps++(#[97+(v2 f s k / 26).toNat]++#[97+(v2 f s k%26).toNat]))++(Txt.slice tl none (some (q k))).cps).toList=_
 simp
theorem ahv{hd tl:Str}{f s:Int}{q:Nat→Int}{n:Nat}(hs:Eb s)(hn:n≤36)(hh:hd.length≤3)(ht:tl.length≤3)(ch:∀c∈hd.cps.toList,97≤c∧c≤122)(ct:∀c∈tl.cps.toList,97≤c∧c≤122):Names ((dJ n).map (n2 hd tl f s q)):=by
 have b:∀k:Nat,0≤v2 f s k∧v2 f s k<676:=fun k=>⟨mL _ (by decide),rO _ (by decide)⟩
 refine⟨Lg fun i j hi hj e=>?_,fun z hz=>?_⟩
 ·obtain⟨_,⟨u,hu⟩,_⟩:=hs
  have e1:=congrArg (fun z:Str=>z.cps.toList) e;simp only[Yz] at e1;have e2:=List.append_cancel_left e1;rw[jO,jO,iT,jO,jO,iT] at e2;injection e2 with e3 e4
  injection e4 with e5 _
  have b1:=b i;have b2:=b j;have ev:v2 f s i=v2 f s j:=by omega
  have:=Pa (n:=676) (f:=f) (i:=i) (j:=j) hu (by decide) (by omega) (by omega) (by omega) (by omega) ev;omega
 ·obtain⟨k,_,rfl⟩:=fK.mp hz
  have bk:=b k;have l1:hd.cps.toList.length=hd.length:=by show _=hd.cps.size;simp
  have l2:(Txt.slice tl none (some (q k))).cps.toList.length=(Txt.slice tl none (some (q k))).length:=by show _=(Txt.slice tl none (some (q k))).cps.size;simp
  have l3:=PyProof.Txt.length_slice_le tl none (some (q k));refine Qm (Yz hd tl f s q k) (by rw[fU,fU];show 1≤_+(2+_);omega) (by rw[fU,fU,l1,l2];show _+(2+_)≤8;omega) fun c hc=>?_
  rcases cR.mp hc with hc|hc
  ·exact ch c hc
  ·rcases cR.mp hc with hc|hc
   ·simp only[bU,jN,or_false] at hc;rcases hc with rfl|rfl<;>omega
   ·exact ct c (Jg hc)
def lN(f:Int):List Nat:=(dJ 8).map fun(k:Nat)=>97+((f+5*(k:Int))%26).toNat
def sl(z:Str)(n k:Nat):Str:=Txt.slice z (some (k:Int)) (some ((k:Int)+(n:Int)))
def sb(z:Str)(n:Nat):List Str:=(dJ (8-n)).map (sl z (n+1))
def subs(z:Str)(m:Nat):List Str:=(dJ m).flatMap (sb z)
theorem Pb(hz:z.length=8)(h:k+n≤8):(sl z n k).cps.toList=(z.cps.toList.drop k).take n:=by
 have:=eq_of_beq (slice_closesL (x:=z) (i:=(k:Int)) (j:=(k:Int)+(n:Int)) (by omega) (by omega) (by omega));unfold sl;rw[this]
 show((z.cps.toList.drop (k:Int).toNat).take ((k:Int)+(n:Int)-(k:Int)).toNat)=_
 rw[show((k:Int)+(n:Int)-(k:Int)).toNat=n by omega,Bg]
theorem ZL{f:Int}{k:Nat}(h:k<8):(lN f)[k]?=some (97+((f+5*(k:Int))%26).toNat):=by
 unfold lN;rw[gC,Us h];rfl
theorem aiS(f:Int):∀c∈lN f,97≤c∧c≤122:=fun c hc=>by
 obtain⟨k,_,rfl⟩:=fK.mp hc
 have a1:0≤(f+5*(k:Int))%26:=mL _ (by decide);have a2:(f+5*(k:Int))%26<26:=rO _ (by decide);omega
theorem Q7(hz:z.cps.toList=lN f)(hx:x∈sb z n):∃k,k<8-n∧x=sl z (n+1) k∧x.cps.toList=((lN f).drop k).take (n+1)∧x.cps.toList.length=n+1:=by
 obtain⟨k,hk,rfl⟩:=fK.mp hx
 have hk:=pH.mp hk;have hl:z.length=8:=by
  have:=congrArg pI hz;rw[show z.cps.toList.length=z.length by show _=z.cps.size;simp] at this;rw[this];simp[lN]
 have e:=Pb (z:=z) (n:=n+1) (k:=k) hl (by omega);rw[hz] at e
 refine⟨k,hk,rfl,e,?_⟩
 rw[e,n6,Bp,show(lN f).length=8 by simp[lN]];omega
theorem afF{z:Str}{f:Int}(hz:z.cps.toList=lN f):Names (subs z 8):=by
 refine⟨?_,fun x hx=>?_⟩
 ·unfold subs;rw[T7,List.pairwise_flatMap]
  refine⟨fun n hn=>?_,?_⟩
  ·have hn:=pH.mp hn;rw[←T7];refine Lg fun i j hi hj e=>?_
   have hl:z.length=8:=by
    have:=congrArg pI hz;rw[show z.cps.toList.length=z.length by show _=z.cps.size;simp] at this;rw[this];simp[lN]
   have e1:=congrArg (fun z:Str=>z.cps.toList[0]?) e;simp only[Pb (z:=z) (n:=n+1) (k:=i) hl (by omega),Pb (z:=z) (n:=n+1) (k:=j) hl (by omega),hz] at e1;rw[Ub (G5 n),Ub (G5 n),adl,adl,Wa,Wa,ZL (by omega),ZL (by omega)] at e1;have e2:=fV e1;have a1:0≤(f+5*(i:Int))%26:=mL _ (by decide);have a2:0≤(f+5*(j:Int))%26:=mL _ (by decide);have:=Pa (n:=26) (s:=5) (u:=21) (f:=f) (i:=i) (j:=j) (by decide) (by decide) (by omega) (by omega) (by omega) (by omega) (by omega);omega
  ·refine anr (R:=(·<·)) (fun{a b} hab x hx y hy e=>?_) KD
   obtain⟨_,_,_,_,l1⟩:=Q7 hz hx
   obtain⟨_,_,_,_,l2⟩:=Q7 hz hy
   rw[e] at l1;omega
 ·obtain⟨n,hn,hx⟩:=List.mem_flatMap.mp hx
  have hn:=pH.mp hn
  obtain⟨k,hk,_,e,hl⟩:=Q7 hz hx
  refine Qm rfl (by omega) (by omega) fun c hc=>?_
  rw[e] at hc;exact aiS f c (Gd (vd hc))
theorem YB(z:Str):(subs z 8).length=36:=by
 unfold subs sb;simp only[ac8,aW,lA];rfl
end L2
namespace L2
section
variable{β:Type}[DecidableEq β]{ws:List (Int×β×β)}{s:β}
inductive iC(ws:List (Int×β×β)):β→List Int→β→Prop
 |nil (p:β):iC ws p [] p
 |cons {n:Int} {p q s:β} {r:List Int}:(n,p,q)∈ws→iC ws q r s→iC ws p (n::r) s
def fG(st:List (β×Int))(p:β):Option Int:=(st.find? fun x=>decide (x.1=p)).map (·.2)
theorem pP{st:List (β×Int)}{p:β}:fG st p=none↔p∉st.map (·.1):=by
 unfold fG;rw[acR,Uv];simp only[fK,not_exists,not_and,decide_eq_true_eq]
theorem Jh(st:List (β×Int))(new:List β)(k:Int)(p:β):fG (st++new.map fun g=>(g,k)) p=if p∈st.map (·.1) then fG st p else if p∈new then some k else none:=by
 unfold fG;rw[List.find?_append];by_cases h:p∈st.map (·.1)
 ·rw[if_pos h]
  obtain⟨x,hx,rfl⟩:=fK.mp h
  cases e:st.find? fun y=>decide (y.1=x.1) with
  |none=>exact absurd (decide_eq_true rfl) (Uv.mp e x hx)
  |some y=>rfl
 ·rw[if_neg h,(acR.mp (pP.mpr h):st.find? _=none),Option.none_or];induction new with
  |nil=>rfl
  |cons g new ih=>
   rw[cg,ou];by_cases e:g=p
   ·subst e;rw[decide_eq_true rfl,if_pos dG];rfl
   ·rw[decide_eq_false e,ih];have:p∈g::new↔p∈new:=by rw[bU];exact⟨fun z=>z.resolve_left fun z=>e z.symm,.inr⟩
    simp only[this]
structure rG(ws:List (Int×β×β))(s:β)(st:List (β×Int))(new:List β)(k:Nat):Prop where
 sound:∀p d,fG st p=some d→d≤k∧∃r,iC ws p r s∧(r.length:Int)=d
 whole:∀p r,iC ws p r s→r.length≤k→∃d,fG st p=some d∧d≤r.length
 last:∀p,p∈new↔fG st p=some (k:Int)
 nd:(st.map (·.1)).Nodup
 sub:∀p∈st.map (·.1),p=s∨p∈ws.map (·.2.1)
 low:∀p d,fG st p=some d→d+1≤st.length
theorem rG.init(ws:List (Int×β×β))(s:β):rG ws s [(s,0)] [s] 0 where
 sound p d h:=by
  unfold fG at h;rw[ou] at h;by_cases e:s=p
  ·subst e;rw[decide_eq_true rfl] at h;cases h
   exact⟨zA _,[],.nil _,rfl⟩
  ·rw[decide_eq_false e] at h;cases h
 whole p r h l:=by
  cases h with
  |nil=>exact⟨0,by unfold fG;rw[ou,decide_eq_true rfl];rfl,zA _⟩
  |cons _ _=>exact absurd l (ac3 _)
 last p:=by
  unfold fG;rw[ou,jf];by_cases e:s=p
  ·subst e;rw[decide_eq_true rfl]
   exact⟨fun _=>rfl,fun _=>rfl⟩
  ·rw[decide_eq_false e]
   exact⟨fun z=>absurd z.symm e,fun z=>nomatch z⟩
 nd:=by simp
 sub p hp:=.inl (jf.mp hp)
 low p d h:=by
  unfold fG at h;rw[ou] at h;by_cases e:s=p
  ·rw[decide_eq_true e] at h;cases h;exact zA _
  ·rw[decide_eq_false e] at h;cases h
theorem rG.step{st:List (β×Int)}{new new':List β}{k:Nat}(B:rG ws s st new k)(hn:new'.Nodup)(hm:∀g,g∈new'↔∃w∈ws,w.2.2∈new∧w.2.1∉st.map (·.1)∧w.2.1=g):rG ws s (st++new'.map fun g=>(g,(k:Int)+1)) new' (k+1) where
 sound p d h:=by
  rw[Jh] at h;split at h
  ·obtain⟨h1,h2⟩:=B.sound p d h
   exact⟨by omega,h2⟩
  ·split at h
   ·rename_i m;cases h
    refine⟨by omega,?_⟩
    obtain⟨w,m1,m2,m3,rfl⟩:=(hm p).mp m
    obtain⟨_,r,h3,h4⟩:=B.sound _ _ ((B.last _).mp m2)
    exact⟨w.1::r,.cons (p:=w.2.1) (q:=w.2.2) m1 h3,by rw[cO];omega⟩
   ·cases h
 whole p r h l:=by
  rw[Jh];by_cases hp:p∈st.map (·.1)
  ·rw[if_pos hp];cases e:fG st p with
   |none=>exact absurd hp (pP.mp e)
   |some d=>
    refine⟨d,rfl,?_⟩
    by_cases l':r.length≤k
    ·obtain⟨d',e',h'⟩:=B.whole p r h l'
     rw[e] at e';cases e';exact h'
    ·have:=(B.sound p d e).1;omega
  ·rw[if_neg hp];cases h with
   |nil=>
    obtain⟨d,e,_⟩:=B.whole s [] (.nil s) (lF _)
    rw[pP.mpr hp] at e;cases e
   |cons hw hr=>
    rename_i n q r;rw[cO] at l⊢
    obtain⟨d,e,hd⟩:=B.whole q r hr (by omega)
    obtain⟨hk,r2,hr2,l2⟩:=B.sound q d e
    by_cases hdk:d=k
    ·subst hdk;have m:p∈new':=(hm p).mpr ⟨_,hw,(B.last q).mpr e,hp,rfl⟩;rw[if_pos m]
     exact⟨_,rfl,by omega⟩
    ·obtain⟨d',e',_⟩:=B.whole p (n::r2) (.cons hw hr2) (by rw[cO];omega)
     rw[pP.mpr hp] at e';cases e'
 last p:=by
  rw[Jh];constructor
  ·intro m
   obtain⟨w,m1,m2,m3,rfl⟩:=(hm p).mp m
   rw[if_neg m3,if_pos m];rfl
  ·intro e;split at e
   ·have:=(B.sound p _ e).1;omega
   ·split at e
    ·rename_i m;exact m
    ·cases e
 nd:=by
  rw[gR,dB,show((fun x:β×Int=>x.1) ∘ fun g=>(g,(k:Int)+1))=id from rfl,MK];refine j5.mpr ⟨B.nd,hn,fun a ha b hb e=>?_⟩;subst e
  obtain⟨w,_,_,m3,rfl⟩:=(hm a).mp hb
  exact m3 ha
 sub p hp:=by
  rw[gR,dB,show((fun x:β×Int=>x.1) ∘ fun g=>(g,(k:Int)+1))=id from rfl,MK] at hp;rcases cR.mp hp with hp|hp
  ·exact B.sub p hp
  ·obtain⟨w,m1,_,_,rfl⟩:=(hm p).mp hp
   exact .inr (fK.mpr ⟨w,m1,rfl⟩)
 low p d h:=by
  rw[Jh] at h;rw[fU,aW];split at h
  ·have:=B.low p d h;omega
  ·split at h
   ·rename_i m;cases h
    obtain⟨w,m1,m2,m3,rfl⟩:=(hm p).mp m
    have:=B.low _ _ ((B.last _).mp m2);have:=acS m;omega
   ·cases h
theorem len_sub:∀{l m:List β},l.Nodup→(∀x∈l,x∈m)→l.length≤m.length
 |[],_,_,_=>lF _
 |a::l,m,hn,h=>by
  have ha:=h a dG;have:=len_sub (m:=m.erase a) (iR.mp hn).2 fun x hx=>(ac4 (show x≠a from fun z=>(iR.mp hn).1 (z▸hx))).mpr (h x (dN _ hx))
  rw[List.length_erase_of_mem ha] at this;have:=acS ha;rw[cO];omega
theorem rG.few{st:List (β×Int)}{new:List β}{k:Nat}(B:rG ws s st new k):st.length≤ws.length+1:=by
 have h:(st.map (·.1)).length≤(s::ws.map (·.2.1)).length:=by
  refine len_sub B.nd fun p hp=>?_
  rcases B.sub p hp with rfl|h
  ·exact dG
  ·exact dN _ h
 simpa using h
structure pB(ws:List (Int×β×β))(s:β)(st:List (β×Int)):Prop where
 sound:∀p d,fG st p=some d→∃r,iC ws p r s∧(r.length:Int)=d
 whole:∀p r,iC ws p r s→∃d,fG st p=some d∧d≤r.length
 few:∀p d,fG st p=some d→d≤ws.length
 nd:(st.map (·.1)).Nodup
theorem rG.done{st:List (β×Int)}{k:Nat}(B:rG ws s st [] k):pB ws s st where
 sound p d h:=(B.sound p d h).2
 nd:=B.nd
 few p d h:=by
  have:=B.low p d h;have:=B.few;omega
 whole p r h:=by
  induction h with
  |nil p=>exact B.whole p [] (.nil p) (lF _)
  |cons hw hr ih=>
   rename_i n p q s' r
   obtain⟨d,e,hd⟩:=ih B
   obtain⟨hk,r2,hr2,l2⟩:=B.sound q d e
   have:d≠k:=fun z=>by
    subst z;exact nomatch(B.last q).mpr e
   obtain⟨d',e',h'⟩:=B.whole p (n::r2) (.cons hw hr2) (by rw[cO];omega)
   refine⟨d',e',?_⟩
   rw[cO] at h'⊢;omega
theorem pB.self{st:List (β×Int)}(B:pB ws s st):fG st s=some 0:=by
 obtain⟨d,e,h⟩:=B.whole s [] (.nil s)
 obtain⟨r,_,l⟩:=B.sound s d e
 rw[e];simp only[Bs] at h;congr 1;omega
theorem pB.iff{st:List (β×Int)}(B:pB ws s st)(p:β):p∈st.map (·.1)↔∃r,iC ws p r s:=by
 constructor
 ·intro h;cases e:fG st p with
  |none=>exact absurd h (pP.mp e)
  |some d=>
   obtain⟨r,h,_⟩:=B.sound p d e
   exact⟨r,h⟩
 ·rintro⟨r,h⟩
  obtain⟨d,e,_⟩:=B.whole p r h
  apply acD;intro n;rw[pP.mpr n] at e;cases e
def Bb(ws:List (Int×β×β))(a b:β):Prop:=∃r,iC ws a r b
theorem iC.snoc{a b c:β}{n:Int}{r:List Int}(h:iC ws a r b)(hw:(n,b,c)∈ws):iC ws a (r++[n]) c:=by
 induction h with
 |nil p=>exact .cons hw (.nil _)
 |cons h1 _ ih=>exact .cons h1 (ih hw)
def nO(w:Int×β×β):Int×β×β:=(w.1,w.2.2,w.2.1)
theorem Iu{n:Int}{a b:β}:(n,a,b)∈ws.map nO↔(n,b,a)∈ws:=by
 rw[fK];constructor
 ·rintro⟨w,h,e⟩
  injection e with e1 e2
  injection e2 with e2 e3
  subst e1 e2 e3;exact h
 ·exact fun h=>⟨_,h,rfl⟩
theorem iC.turn{a b:β}{r:List Int}(h:iC (ws.map nO) a r b):iC ws b r.reverse a:=by
 induction h with
 |nil p=>exact .nil p
 |cons h1 _ ih=>
  rw[K1];exact ih.snoc (Iu.mp h1)
theorem iC.Jw{a b:β}{r:List Int}(h:iC ws a r b):iC (ws.map nO) b r.reverse a:=by
 induction h with
 |nil p=>exact .nil p
 |cons h1 _ ih=>
  rw[K1];exact ih.snoc (Iu.mpr h1)
theorem pB.YC{st:List (β×Int)}(B:pB (ws.map nO) s st){p:β}(h:Bb ws s p):∃r,iC ws s r p∧r.length≤ws.length:=by
 obtain⟨r,h⟩:=h
 obtain⟨d,e,_⟩:=B.whole p _ h.Jw
 obtain⟨r',h',l⟩:=B.sound p d e
 have:=B.few p d e;rw[aW] at this
 exact⟨_,h'.turn,by rw[List.length_reverse];omega⟩
theorem pB.keys{st:List (β×Int)}(B:pB (ws.map nO) s st)(p:β):p∈st.map (·.1)↔Bb ws s p:=by
 rw[B.iff p]
 exact⟨fun⟨r,h⟩=>⟨_,h.turn⟩,fun⟨r,h⟩=>⟨_,h.Jw⟩⟩
theorem Xr:∀{l m:List β},l.Nodup→m.Nodup→(∀x,x∈l↔x∈m)→l.Perm m
 |[],m,_,_,h=>by
  cases m with
  |nil=>exact .refl _
  |cons x _=>exact absurd ((h x).mpr dG) jN
 |a::l,m,hl,hm,h=>by
  have ha:=(h a).mp dG
  refine((Xr (m:=m.erase a) (iR.mp hl).2 (hm.erase a) fun x=>?_).cons a).trans (List.perm_cons_erase ha).symm
  constructor
  ·intro hx;have ne:x≠a:=fun z=>(iR.mp hl).1 (z▸hx)
   exact(ac4 ne).mpr ((h x).mp (dN _ hx))
  ·intro hx;have hx':=(h x).mpr (List.mem_of_mem_erase hx);rcases bU.mp hx' with rfl|hx'
   ·exact absurd hx (List.Nodup.not_mem_erase hm)
   ·exact hx'
def lexLe:List Int→List Int→Prop
 |[],_=>True
 |_::_,[]=>False
 |a::r,b::q=>a<b∨(a=b∧lexLe r q)
theorem W2:∀{r q:List Int},r.length=q.length→lexLe r q→lexLe q r→r=q
 |[],[],_,_,_=>rfl
 |a::r,b::q,l,h,h'=>by
  have e:a=b:=by rcases h with h|h<;>rcases h' with h'|h'<;>omega
  subst e;rw[W2 (G6 l) (h.resolve_left (by omega)).2 (h'.resolve_left (by omega)).2]
def m5(ws:List (Int×β×β))(p s:β)(r:List Int):Prop:=iC ws p r s∧∀r',iC ws p r' s→r.length<r'.length∨(r.length=r'.length∧lexLe r r')
theorem m5.unique{p:β}{r r':List Int}(h:m5 ws p s r)(h':m5 ws p s r'):r=r':=by
 rcases h.2 r' h'.1 with l|⟨l,a⟩
 ·rcases h'.2 r h.1 with l'|⟨l',_⟩<;>omega
 ·rcases h'.2 r h.1 with l'|⟨_,b⟩
  ·omega
  ·exact W2 l a b
theorem m5.self(ws:List (Int×β×β))(s:β):m5 ws s s []:=⟨.nil s,fun r' _=>by
 cases r' with
 |nil=>exact .inr ⟨rfl,trivial⟩
 |cons _ _=>exact .inl (G5 _)⟩
theorem m5.go{p q:β}{n d:Int}{r:List Int}{st:List (β×Int)}(hU:∀w∈ws,∀w'∈ws,w.1=w'.1→w=w')(B:pB ws s st)(hp:fG st p=some d)(hw:(n,p,q)∈ws)(hq:∃e,fG st q=some e∧e<d)(hmin:∀n' q' e,(n',p,q')∈ws→fG st q'=some e→e<d→n≤n')(hr:m5 ws q s r):m5 ws p s (n::r):=by
 obtain⟨e,hq,hlt⟩:=hq
 obtain⟨r1,hr1,l1⟩:=B.sound q e hq
 have hle:r.length≤r1.length:=by rcases hr.2 r1 hr1 with h|h<;>omega
 refine⟨.cons hw hr.1,fun r' h'=>?_⟩
 obtain⟨d',e',hd'⟩:=B.whole p r' h'
 rw[hp] at e';cases e';rw[cO];cases h' with
 |nil=>
  simp only[Bs] at hd';omega
 |cons hw' hr'=>
  rename_i n' q' r';rw[cO] at hd'⊢
  obtain⟨e2,h2,l2⟩:=B.whole q' r' hr'
  by_cases hl:r.length<r'.length
  ·exact .inl (by omega)
  ·refine .inr ⟨by omega,?_⟩;have hn:=hmin n' q' e2 hw' h2 (by omega);by_cases hnn:n<n'
   ·exact .inl hnn
   ·have:n=n':=by omega
    subst this;have:=hU _ hw _ hw' rfl;cases this;refine .inr ⟨rfl,?_⟩;rcases hr.2 r' hr' with h|h
    ·omega
    ·exact h.2
end
end L2
namespace L2
open PySem PySem.Spec PyProof.Rows PySem.W
def akV(i j k:Nat)(ta:TA):TS:=fun D σ H=>ta σ H fun vs H1=>vs.length=3∧(∀v w z,vs=[v,w,z]→D.nx (((σ.set i (some v)).set j (some w)).set k (some z)) H1)
section
variable{X:Cx}{pos:Pos}
theorem aiT{kt k2 m8}(hc:X.calm=true)(hN:X.N.Nodup)(hi:X.N[i]?=some x)(hj:X.N[j]?=some y)(hk:X.N[k]?=some z)(hij:i≠j)(hik:i≠k)(hjk:j≠k)
  (hx:X.env.scope.names.lookup x=some .local)(hy:X.env.scope.names.lookup y=some .local)(hz:X.env.scope.names.lookup z=some .local)(ha:PA X [a,b,c] ta)
  (hw:xr [.Tuple [.Name x px,.Name y py,.Name z pz] kt pt] (.Tuple [a,b,c] k2 m8) X.env=pure (some [x,y,z]))
  (hs:xq [.Tuple [.Name x px,.Name y py,.Name z pz] kt pt] (.Tuple [a,b,c] k2 m8) pos.line X.env=pure false:=by rfl):
  PS X (.Assign [.Tuple [.Name x px,.Name y py,.Name z pz] kt pt] (.Tuple [a,b,c] k2 m8) pos) (akV i j k ta):=by
 intro pins s σ H D I h;rw[exec_Assign_arm];refine aD (uc ?_);rw[hs];refine aD (aX ?_);rw[if_neg (by decide)];refine aD (Tuple_ (bu (ha _ pins s σ H _ I h) fun us s1 aK=>?_))
 obtain⟨vs,H1,I1,r1,l1,q1⟩:=aK
 cases r1 with
 |nil=>cases l1
 |cons rv r1=>
 cases r1 with
 |nil=>cases l1
 |cons rw' r1=>
 cases r1 with
 |nil=>cases l1
 |cons rz r1=>
 cases r1 with
 |cons _ _=>cases l1
 |nil=>
 rename_i v u1 w u2 zz u3;refine mK ?_ (by show 3≤bM;decide);have I2:Inv X pins σ H1 {s1 with heap:=s1.heap.push {cls:=.type "tuple",data:=.seq [u1,u2,u3].toArray}}:=I1.kept (t':=s1.toks) fun b o e=>cD _ e
 rw[hw];refine aD (aX ?_);show aM (model X.prog X.w) X.A (do rule "assign.swapped-stores";let items ←unpackItems (.ref s1.heap.objs.size) 3 none;Bw [fun v=>uh X.env z v,fun v=>uh X.env y v,fun v=>uh X.env x v] items.reverse;pure Nx) _ _ _;refine aD (xG (aD (unpackItems_tuple (items:=#[u1,u2,u3]) (I.ok.hd hc) (IsTup.new s1.heap _) fun h' hx'=>?_)));have I3:=I2.kept (h':=h') (t':=s1.toks) fun b o e=>hx' b o (dO (bW e)) e
 show aM _ _ (Bw [fun v=>uh X.env z v,fun v=>uh X.env y v,fun v=>uh X.env x v] [u3,u2,u1] >>= fun _=>pure Nx) _ _ _;refine aD (assignInOrder_cons (Gw (sr I3 hN hk (.inl hz) rz (fun s2 I4=>?_) (.inr hz))));refine assignInOrder_cons (Gw (sr I4 hN hj (.inl hy) rw' (fun s3 I5=>?_) (.inr hy)));refine assignInOrder_cons (Gw (sr I5 hN hi (.inl hx) rv (fun s4 I6=>assignInOrder_nil (aX ?_)) (.inr hx)));rw[LQ _ _ (jQ hij),LQ _ _ (jQ hik),LQ _ _ (jQ hjk)] at I6
 exact⟨_,H1,I6,q1 _ _ _ rfl⟩
theorem aiU{kt k2 m8}(hc:X.calm=true)(hN:X.N.Nodup)(hi:X.N[i]?=some x)(hj:X.N[j]?=some y)(hk:X.N[k]?=some z)(hij:i≠j)(hik:i≠k)(hjk:j≠k)
  (hx:X.env.scope.names.lookup x=some .local)(hy:X.env.scope.names.lookup y=some .local)(hz:X.env.scope.names.lookup z=some .local)(ha:PA X [a,b,c] (wR X.K g))
  (hw:xr [.Tuple [.Name x px,.Name y py,.Name z pz] kt pt] (.Tuple [a,b,c] k2 m8) X.env=pure (some [x,y,z]))
  (hs:xq [.Tuple [.Name x px,.Name y py,.Name z pz] kt pt] (.Tuple [a,b,c] k2 m8) pos.line X.env=pure false:=by rfl):
  PS X (.Assign [.Tuple [.Name x px,.Name y py,.Name z pz] kt pt] (.Tuple [a,b,c] k2 m8) pos) (tS X.K (fPar [i,j,k] g)):=(aiT hc hN hi hj hk hij hik hjk hx hy hz ha hw hs).weak fun D σ H aK=>by
 obtain⟨Z,Θ,env,C,fl,env',C',S,hf,q⟩:=aK
 unfold fPar at hf;split at hf
 case h_2=>cases hf
 rename_i xs e1 C1 h1;split at hf
 case isFalse=>cases hf
 rename_i hl;cases hf
 refine⟨Z,Θ,env,C,xs,e1,C',S,h1,fun vs as H1 k1 f1 n1 S1 a1=>⟨by rw[Jd a1,←hl.1];rfl,fun v w zz e=>?_⟩⟩
 obtain⟨S2,o2⟩:=Qd a1 hl.1 (bh.refl _) S1
 subst e;refine q Θ _ H1 ⟨jK.refl _ _,uw k1,fun b m=>?_,S2⟩;rcases o2 b m with m|m
 ·exact .inl (f1.own.subset m)
 ·exact .inr (n1 b m)
end
theorem ahw(rel:KV kvs vs):∀{us:List Value},us.length=vs.length→(∀(i:Nat)(v:Value),us[i]?=some v→∃k x,vs[i]?=some (k,x)∧(jk P w).is k v=true)→Vals (kvs.map fun kv=>kV kv.1) us:=by
 induction rel with
 |nil=>
  intro us h2 h3;cases us with
  |nil=>exact .nil
  |cons _ _=>cases h2
 |@cons p w ps ws hp _ ih=>
  intro us h2 h3;cases us with
  |nil=>cases h2
  |cons u us=>
   refine .cons ?_ (ih (G6 h2) fun i v e=>h3 (i+1) v e)
   obtain⟨k,x,e1,e2⟩:=h3 0 u rfl
   have ek:k=p.1:=by rw[hp.1];exact congrArg Prod.fst (fV e1.symm)
   subst ek;exact Xq e2
section
variable{X:Cx}
theorem Gz(hc:X.calm=true):jw X (.builtin "sorted") (fun xs H Q=>∃(d:aa)(kvs:List (Key×V))(ns:List Str),xs=[.ref d]∧H d=some (.dK kvs)∧kvs.map (·.1)=ns.map .inr∧ns.length<64∧∀(l:aa)(ns':List Str),H l=none→ns'.Perm ns→sortedS ns'=true→Q (.ref l) (upd H l (.lst (ns'.map V.str)))):=by
 intro pins s σ H xs us Q I r h
 obtain⟨d,kvs,ns,rfl,hd,hns,few,q⟩:=h
 obtain⟨u,rfl,ru⟩:=vals1 r
 cases ru
 obtain⟨z,lo,vs,rel,dd⟩:=I.hok d _ hd
 obtain⟨ep,da⟩:=dd.dictAt
 have lv:vs.length=kvs.length:=(Paired.length rel).symm;have ln:kvs.length=ns.length:=by have:=congrArg pI hns;simpa using this
 refine T9 kind_sorted plain_sorted entry_sorted (args_sorted1 _) ?_;unfold kJ.«sorted»;refine aD (m:=WQ "sorted" 1 1 _) (aX (aD (ae2 (A:=X.A.in1) (kdl_dict (knd:=jk X.prog X.w) (ep:=ep) lo) (I.ok.hd hc) da (by rw[lv];exact z) fun h1 tk acc hsz kk hacc=>?_)));have hV:=ahw (P:=X.prog) (w:=X.w) rel (us:=acc.toList) (by rw[jM];exact hacc.1) fun i v e=>hacc.2 i v (by rw[←acX];exact e)
 have hV:Vals (ns.map V.str) acc.toList:=by
  rw[show ns.map V.str=(ns.map ji).map kV by rw[dB];rfl,←hns,dB];exact hV
 have hS:StrsAre acc.toList ns:=Ng hV;have lu:acc.toList.length=ns.length:=by rw[←hV.length,aW]
 refine aD (Mf ?_ (by rw[jg];omega));have gL:(h1.push (seqObj "list" acc.toList.toArray 0)).get? h1.objs.size=some (seqObj "list" acc.toList.toArray 0):=ie _ rfl;refine aD (mQ (qu slot_list_sort ⟨_,gL,rfl⟩ entry_list_sort (list_sort_treeK strKind_oneLt gL hS.keysOf (fun v1 v2 rest e=>keyKind_strs (by rw[←e];exact hS)) (by omega) fun st hp1 hp2=>⟨_,rfl,?_⟩) (args_list_sort _)))
 obtain⟨ns',b1,b2,b3⟩:=sorted_out_str hS hp1 hp2
 obtain⟨c,gD⟩:=sortedHeap_at (out:=(arrOf st).map (·.2)) gL
 have kb:∀b o,s.heap.get? b=some o→(sortedHeap (h1.push (seqObj "list" acc.toList.toArray 0)) h1.objs.size acc.toList ((arrOf st).map (·.2))).get? b=some o:=fun b o e=>by
  have lb:b<h1.objs.size:=bW (kk b o e);rw[sortedHeap_old (dO lb) (by rw[xj];exact wX lb)];exact cD _ (kk b o e)
 exact aX ⟨_,rfl,.ref h1.objs.size,_,I.laid (o:=.lst (ns'.map V.str)) (t':=tk) kb hsz ⟨by rw[aW,b2.length_eq,jg];omega,((arrOf st).map (·.2)).toList,c,NB b1,by rw[Array.toArray_toList];exact gD⟩,rfl,q _ ns' (I.hok.fresh hsz) b2 b3⟩
def uy:List aj→Option Vl
 |[.dict kvs]=>(strsOf (kvs.map (·.1))).bind fun ns=>bif decide (ns.length<64) then some (.ow (.list ((mZ strLt ns).map .str))) else none
 |_=>none
theorem Xu:∀{kvs:List (aj×aj)}{ns:List Str},strsOf (kvs.map (·.1))=some ns→cM cV kvs=some (ns.map .inr)
 |[],ns,h=>by cases h;rfl
 |(.str z,v)::kvs,ns,h=>by
  obtain⟨ns',h1,rfl⟩:∃ns',strsOf (kvs.map (·.1))=some ns'∧ns=z::ns':=by
   have h:(strsOf (cF z::kvs.map (·.1)))=some ns:=h;unfold strsOf at h;cases e:strsOf (kvs.map (·.1)) with
   |none=>rw[e] at h;cases h
   |some t=>rw[e] at h;cases h;exact⟨t,rfl,rfl⟩
  show cM cV ((.str z,v)::kvs)=_;unfold cM;rw[Xu h1];rfl
 |(.none,v)::kvs,ns,h=>by cases h
 |(.bool _,v)::kvs,ns,h=>by cases h
 |(.int _,v)::kvs,ns,h=>by cases h
 |(.list _,v)::kvs,ns,h=>by cases h
 |(.tuple _,v)::kvs,ns,h=>by cases h
 |(.dict _,v)::kvs,ns,h=>by cases h
theorem Iv{K:aG}:qm K (fun xs H Q=>∃(d:aa)(kvs:List (Key×V))(ns:List Str),xs=[.ref d]∧H d=some (.dK kvs)∧kvs.map (·.1)=ns.map .inr∧ns.length<64∧∀(l:aa)(ns':List Str),H l=none→ns'.Perm ns→sortedS ns'=true→Q (.ref l) (upd H l (.lst (ns'.map V.str)))) uy:=by
 intro Z Θ env C σ H xs ds res S b e Q q;refine hide fun GG gg=>?_
 unfold uy at e;split at e
 case h_2=>cases e
 rename_i kvs
 obtain⟨ns,hns,e⟩:=iG e
 cases hl:decide (ns.length<64) with
 |false=>rw[hl] at e;cases e
 |true=>
 rw[hl] at e;cases e;have hl:=of_decide_eq_true hl
 obtain⟨v,rfl,bb⟩:=uG b
 obtain⟨a,vs,rfl,da,r⟩:=bb.dct
 have hk:=Xu hns;rcases da with⟨ks,h1,ha⟩|⟨ks,⟨ne,h2⟩,ha⟩
 ·rw[hk] at h1;cases h1;have lz:vs.length=(ns.map (ji:Str→Key)).length:=by rw[Jb r,xK hk]
  refine gg ⟨a,_,ns,rfl,ha,by rw[List.map_fst_zip (by omega)],hl,fun l ns' hn p hp=>?_⟩;rw[aax p hp];exact q _ _ (aQ.upd hn) (zR S (X4 _) hn)
 ·exact absurd (xM hk h2) ne
end
section
variable{X:Cx}{l de:Expr}{tl td:TE}{p pos kp:Pos}
end
inductive fX(K:aG)(x:Str)(st:cU):Prop
 |mk {f:aa} {oc:Value} {od an:Option aa} {osl:Array (Option Value)} {kV doc pm cdv ct:Value} (a:mR K gk x=some (some (.ref f))) (l:K.lookup f=some ⟨oc,od,.func (xx x x (zQ st) (vK st) (cL st) .none kV doc pm an cdv ct),osl⟩) (c:Lj K cdv x=true) (k:vq K (.ref f)=true):fX K x st
abbrev Q8(x:Str)(st:cU)(ps:List Str):Prop:=∀(kV doc pm:Value)(an:Option aa)(cdv ct:Value)(us:List Value),us.length=ps.length→bindArgs (xx x x (zQ st) (vK st) (cL st) .none kV doc pm an cdv ct) ⟨us,[]⟩=pure (ps.zip us)
section
variable{P:bf}{w:aY}{K:aG}{mg:Str→Option Value}{base h:aV}{x:Str}{st:cU}{k:Nat}{ps:List Str}{sp:Sp}
theorem fX.has(d:fX K x st)(X:K.In h)(G:h.Ns gk mg)(o:∀f fd,fP K x x st f fd→di P w K mg base eV k f fd ps sp)(hb:Q8 x st ps):cX P w K mg base x k ps sp:=by
 obtain⟨a,l,c,kp⟩:=d
 have F:=QM l c kp
 exact⟨_,_,VN X G a,kp,F.binds hb,o _ _ F⟩
theorem fX.alx(d:fX K x st)(X:K.In h)(G:h.Ns gk mg)(o:∀f fd,mg x=some (.ref f)→vq K (.ref f)=true→Binds K fd ps []→fP K x x st f fd→cX P w K mg base x k ps sp)(hb:Q8 x st ps):cX P w K mg base x k ps sp:=by
 obtain⟨a,l,c,kp⟩:=d
 have F:=QM l c kp;exact o _ _ (VN X G a) kp (F.binds hb) F
theorem fX.law{y:Str}{fa:aa}(d:fX K x st)(X:K.In h)(G:h.Ns gk mg)(hfa:mg x=some (.ref fa))(o:∀base f fd,fP K x x st f fd→di P w K mg base eV k f fd [y] sp)(hb:Q8 x st [y]):
  ∃fd:dw,(∀(s:au)(v:Value),xN s fd ⟨[v],[]⟩ [(y,v)])∧∀base:aV,K.In base→base.Ns gk mg→di P w K mg base eV k fa fd [y] sp:=by
 obtain⟨a,l,c,kp⟩:=d
 have e:=hfa.symm.trans (VN X G a);cases e
 exact⟨_,fun s v=>.of_eq (hb _ _ _ _ _ _ [v] rfl),fun base _ _=>o base _ _ (QM l c kp)⟩
theorem iM{B:List Value→Prop}(h:B []):∀us:List Value,us.length=0→B us
 |[],_=>h
theorem bV{n:Nat}{B:List Value→Prop}(h:∀a,∀us:List Value,us.length=n→B (a::us)):∀us:List Value,us.length=n+1→B us
 |a::us,e=>h a us (G6 e)
end
section
open PySem.SeqAt
open PySem.AutoSeq1 (wpAny_loadPart')
open PySem.MeetsSeq PySem.MeetsSeq2 PySem.MeetsSeq3
theorem ZM{xs:Array Value}{i:Nat}(h:xs.toList.drop i=x::r):xs[i]?=some x∧xs.toList.drop (i+1)=r:=by
 have h1:xs.toList[i]?=some x:=by
  have:=congrArg (·[0]?) h;simpa using this
 refine⟨by simpa using h1,?_⟩
 rw[←List.tail_drop,h,List.tail_cons]
theorem ZP(l b:aa)(items items2:Array Value)(n n2:Nat)(dd dd2:Option aa)(sl sl2:Array (Option Value))(hsz:items.size=items2.size):
  ∀(ns ms:List Key)(i:Nat),Vals (ns.map kV) (items.toList.drop i)→Vals (ms.map kV) (items2.toList.drop i)→ns.map bJ=ms.map bJ→Meets (kJ.«list.__eq__.loop» ⟨[.ref l,.ref b,jm i,jm 0],[]⟩)
   (fun _ R s=>s.heap.get? l=some {cls:=.type "list",dict:=dd,data:=.seq items n,slots:=sl}∧s.heap.get? b=some {cls:=.type "list",dict:=dd2,data:=.seq items2 n2,slots:=sl2}∧R (.ok (.ret (.bool (dF ns ms)))) s)
 |[],[],i,h1,h2,_=>fun prog w A R s h=>by
  obtain⟨hp,g,d,tk,os⟩:=s;obtain⟨hl,hb,h⟩:=h
  have z1:=h1.length;rw[Bp,jM] at z1;have z1:0=items.size-i:=z1;have i1:items[((i:Nat):Int).toNat]?=none:=by simp;omega
  have i2:items2[((i:Nat):Int).toNat]?=none:=by simp;omega
  wp_walk using oA hl,oA hb;rw[i1,i2];wp_walk using oA hl,oA hb;show R (.ok (.ret (.bool (decide (items.size<items2.size))))) _;rw[decide_eq_false (by omega)];exact h
 |a::ns,c::ms,i,h1,h2,ht=>fun prog w A R s h=>by
  obtain⟨hp,g,d,tk,os⟩:=s;obtain⟨hl,hb,h⟩:=h
  generalize e1:items.toList.drop i=xs at h1;generalize e2:items2.toList.drop i=ys at h2;cases h1 with
  |cons r1 t1=>
   cases h2 with
   |cons r2 t2=>
    obtain⟨i1,d1⟩:=ZM e1
    obtain⟨i2,d2⟩:=ZM e2
    have k1:bJ a=bJ c:=(zg ht).1;have hc:((i:Int)+1)=((i+1:Nat):Int):=rfl;unfold dF at h;wp_walk using oA hl,oA hb;rw[Bg,i1,i2];refine aD (Ot A.in1 ⟨hp,g,d,tk,os⟩ r1 r2 k1 prog w _ _ ?_);by_cases hac:a=c
    ·rw[if_pos hac] at h;rw[decide_eq_true hac];wp_walk;rw[hc]
     refine⟨ud plain_eq_loop _,vp entry_eq_loop ?_⟩
     rw[u9 plain_eq_loop _];exact ZP l b items items2 n n2 dd dd2 sl sl2 hsz ns ms (i+1) (by rw[d1];exact t1) (by rw[d2];exact t2) (zg ht).2 prog w A R _ ⟨hl,hb,h⟩
    ·rw[if_neg hac] at h;rw[decide_eq_false hac];have rc:=Ih A.in1 ⟨hp,g,d,tk,os⟩ r1 r2 k1 prog w;wp_walk using oA hl,oA hb;rw[i1,i2];wp_walk using rc;simpa using h
theorem aiV(l b:aa)(items items2:Array Value)(n n2:Nat)(dd dd2:Option aa)(sl sl2:Array (Option Value))(hsz:items.size=items2.size)(ns ms:List Key)(h1:Vals (ns.map kV) items.toList)(h2:Vals (ms.map kV) items2.toList)(ht:ns.map bJ=ms.map bJ):
  Meets (kJ.«list.__lt__» ⟨[.ref l,.ref b],[]⟩)
   (fun _ R s=>s.heap.get? l=some {cls:=.type "list",dict:=dd,data:=.seq items n,slots:=sl}∧s.heap.get? b=some {cls:=.type "list",dict:=dd2,data:=.seq items2 n2,slots:=sl2}∧R (.ok (.ret (.bool (dF ns ms)))) s):=by
 intro prog w A R s h
 obtain⟨hp,g,d,tk,os⟩:=s;obtain⟨hl,hb,h⟩:=h
 have f3:=AutoSeq1.sub_list_list;wp_walk using oA hl,oA hb
 refine⟨ud plain_eq_loop _,vp entry_eq_loop ?_⟩
 rw[u9 plain_eq_loop _];exact ZP l b items items2 n n2 dd dd2 sl sl2 hsz ns ms 0 h1 h2 ht prog w A R _ ⟨hl,hb,h⟩
def abE(A:bY)(s:au)(x y:Value)(r:Bool):Prop:=∀(prog:bf)(w:aY)(E Q:Value→au→Prop),Q (.bool r) s→aM (model prog w) A (BV .Lt x y) Q E s
theorem afG(hl:s.heap.IsList l items)(hb:s.heap.IsList b items2)(h1:Vals (ns.map kV) items.toList)(h2:Vals (ms.map kV) items2.toList)(ht:ns.map bJ=ms.map bJ)(hu:A.units<eU):abE A s (.ref l) (.ref b) (dF ns ms):=fun prog w E Q h=>by
 obtain⟨⟨cls,dd,data,sl⟩,ho,hc,n,hd⟩:=id hl
 obtain⟨⟨cls2,dd2,data2,sl2⟩,ho2,hc2,n2,hd2⟩:=id hb
 simp only at hc hd hc2 hd2;subst hc hd hc2 hd2;have z1:ns.length=items.size:=by have:=h1.length;simpa using this
 have z2:ms.length=items2.size:=by have:=h2.length;simpa using this
 have z3:ns.length=ms.length:=by have:=congrArg pI ht;simpa using this
 exact Ui (op:=.Lt) ⟨_,ho,rfl⟩ ⟨_,ho2,rfl⟩ PySem.F.slot_list_lt PySem.F.entry_list_lt (PySem.F.args_list_lt_2 _ _) (aiV l b items items2 n n2 dd dd2 sl sl2 (by omega) ns ms h1 h2 ht)
  ⟨ho,ho2,show pK (dF ns ms)≠Uo∧Q (.bool (dF ns ms)) s from⟨(fun x=>nomatch x),h⟩⟩ hu
inductive uH(A:bY)(s:au):List Value→List Value→Bool→Prop
 |nil:uH A s [] [] false
 |eq:EqAt A s x y true→uH A s xs ys r→uH A s (x::xs) (y::ys) r
 |ne:EqAt A s x y false→abE A s x y r→xs.length=ys.length→uH A s (x::xs) (y::ys) r
theorem uH.len(h:uH A s xs ys r):xs.length=ys.length:=by
 induction h with
 |nil=>rfl
 |eq _ _ ih=>rw[cO,cO,ih]
 |ne _ _ e=>rw[cO,cO,e]
theorem ahx(l b:aa)(items items2:Array Value)(n n2:Nat)(dd dd2:Option aa)(sl sl2:Array (Option Value))(r:Bool):
  Meets (kJ.«tuple.__lt__» ⟨[.ref l,.ref b],[]⟩)
   (fun A R s=>s.heap.get? l=some {cls:=.type "tuple",dict:=dd,data:=.seq items n,slots:=sl}∧s.heap.get? b=some {cls:=.type "tuple",dict:=dd2,data:=.seq items2 n2,slots:=sl2}∧uH A.in1 s items.toList items2.toList r∧R (.ok (.ret (.bool r))) s):=
 .of_wp fun prog w A R s h=>by
  obtain⟨hp,g,d,tk,os⟩:=s;obtain⟨hl,hb,hr,h⟩:=h
  have f2:=acE;have z0:=hr.len;rw[jM,jM] at z0;wp_walk using oA hl,oA hb,adO _ (fun rest b s'=>b.1=none∧s'=⟨hp,g,d,tk,os⟩∧∃vs ws,rest=vs.zip ws∧uH A.in1 ⟨hp,g,d,tk,os⟩ vs ws r) _
  case turn=>
   rintro⟨y,x⟩ rest b s' ⟨hb',rfl,vs,ws,hz,hr⟩
   cases hr with
   |nil=>cases hz
   |eq e t=>
    rw[Gk] at hz;cases hz;refine aD (e prog w _ _ ?_);wp_walk
    exact⟨rfl,rfl,_,_,rfl,t⟩
   |ne e c _=>
    rw[Gk] at hz;cases hz;refine aD (e prog w _ _ ?_);have c:=c prog w;wp_walk using c
    exact⟨_,rfl,by simpa using h⟩
  case fin=>
   rintro⟨b1,b2⟩ s' ⟨hb',rfl,vs,ws,hz,hr⟩
   simp only at hb';subst hb';cases hr with
   |nil=>
    wp_walk
    exact⟨_,rfl,by simpa[acq,z0] using h⟩
   |eq=>cases hz
   |ne=>cases hz
  case h=>exact⟨rfl,rfl,_,_,rfl,hr⟩
end
theorem Pg:∀{ns:List Key}{xs:List Value}{j:Nat}{v:Value},Vals (ns.map kV) xs→xs[j]?=some v→∃x,ns[j]?=some x∧RelV (kV x) v
 |[],_,j,v,.nil,h=>by cases h
 |n::ns,_::xs,0,v,.cons r _,h=>⟨n,rfl,by cases h;exact r⟩
 |n::ns,_::xs,j+1,v,.cons _ t,h=>Pg (ns:=ns) t (by simpa using h)
theorem agB{ns ms:List Key}(hl:s.heap.IsList l items)(hb:s.heap.IsList b items2)(h1:Vals (ns.map kV) items.toList)(h2:Vals (ms.map kV) items2.toList)(ht:ns.map bJ=ms.map bJ)(hs:l=b→ns=ms)(hu:A.units<eU):Hw A s (.ref l) (.ref b) (decide (ns=ms)):=by
 by_cases e:l=b
 ·subst e;rw[decide_eq_true (hs rfl)];exact adY _
 ·have z1:ns.length=items.size:=by have:=h1.length;simpa using this
  have z2:ms.length=items2.size:=by have:=h2.length;simpa using this
  have z3:ns.length=ms.length:=by have:=congrArg pI ht;simpa using this
  have key:∀j (a1:j<items.size)(a2:j<items2.size),∃x y,ns[j]?=some x∧ms[j]?=some y∧Hw A.in1 s items[j] items2[j] (decide (x=y)):=fun j a1 a2=>by
   obtain⟨x,e1,r1⟩:=Pg h1 (j:=j) (v:=items[j]) (by simp[a1])
   obtain⟨y,e2,r2⟩:=Pg h2 (j:=j) (v:=items2[j]) (by simp[a2])
   refine⟨x,y,e1,e2,Ot _ _ r1 r2 ?_⟩
   have:=congrArg (·[j]?) ht;simpa[e1,e2] using this
  refine SeqAt.EqAt.of_refs e ?_;have:=SeqAt.RcAt.lists (e:=fun j=>decide (ns[j]?=ms[j]?)) hl hb (by omega) hu (fun j a1 a2=>by
   obtain⟨x,y,e1,e2,h⟩:=key j a1 a2
   rw[e1,e2];simpa using h)
  have eq:(dJ items.size).all (fun j=>decide (ns[j]?=ms[j]?))=decide (ns=ms):=by
   rw[qw,oh,decide_eq_true_iff]
   refine⟨fun h=>adD fun i=>?_,fun h j _=>by rw[h];exact decide_eq_true rfl⟩
   by_cases hi:i<items.size
   ·exact of_decide_eq_true (h i (pH.mpr hi))
   ·rw[Gb (by omega),Gb (by omega)]
  rw[←eq];exact this
theorem aaB:∀ks:List Key,dF ks ks=false
 |[]=>by unfold dF;rfl
 |k::ks=>by
  unfold dF;rw[if_pos rfl];exact aaB ks
def abF:R2:=fun x y H Q=>∃a b i j l m ks js,x=.ref a∧y=.ref b∧H a=some (.tup [.int i,.ref l])∧H b=some (.tup [.int j,.ref m])∧H l=some (.lst (ks.map kV))∧H m=some (.lst (js.map kV))∧(i=j→ks.map bJ=js.map bJ)∧Q (.bl (if i=j then dF ks js else decide (i<j))) H
theorem akd{X:Cx}(hu:X.A.units+1<eU):cC X (dZ .Lt) abF:=by
 intro pins s σ H x y v u Q I rx ry h
 obtain⟨a,b,i,j,l,m,ks,js,rfl,rfl,ha,hb,hl,hm,ht,q⟩:=h
 cases rx;cases ry
 obtain⟨i1,r1,p1,_⟩:=I.tuple (cN.of (K:=X.K) ha)
 obtain⟨i2,r2,p2,_⟩:=I.tuple (cN.of (K:=X.K) hb)
 obtain⟨i3,r3,p3,_⟩:=I.list (bK.of (K:=X.K) hl)
 obtain⟨i4,r4,p4,_⟩:=I.list (bK.of (K:=X.K) hm)
 obtain⟨w1,w2,e1,x1,x2⟩:=r1.two
 obtain⟨w3,w4,e2,x3,x4⟩:=r2.two
 obtain⟨t1,rfl⟩:=x1
 obtain⟨t3,rfl⟩:=x3
 cases x2;cases x4;have row:uH X.A.in1 s i1 i2 (if i=j then dF ks js else decide (i<j)):=by
  rw[e1,e2];have q1:=adg (A:=X.A.in1) (s:=s) i t1 j t3;by_cases h:i=j
  ·rw[beq_iff_eq.mpr h] at q1;rw[if_pos h];refine .eq q1 ?_;have q2:=agB (A:=X.A.in1) p3.isList p4.isList r3 r4 (ht h) (fun e=>by
    subst e;have:=fV (hl.symm.trans hm);injection this with this
    exact Y7 this) hu
   by_cases k:ks=js
   ·rw[decide_eq_true k] at q2;rw[k,aaB];exact .eq q2 .nil
   ·rw[decide_eq_false k] at q2;exact .ne q2 (afG p3.isList p4.isList r3 r4 (ht h) hu) rfl
  ·rw[beq_eq_false_iff_ne.mpr h] at q1;rw[if_neg h];exact .ne q1 (fun prog w E Q q=>Ih (a:=.inl i) (b:=.inl j) X.A.in1 s ⟨t1,rfl⟩ ⟨t3,rfl⟩ rfl prog w E Q q) rfl
 obtain⟨⟨cls,dd,data,sl⟩,ho,hc,n,hd⟩:=id p1
 obtain⟨⟨cls2,dd2,data2,sl2⟩,ho2,hc2,n2,hd2⟩:=id p2
 simp only at hc hd hc2 hd2;subst hc hd hc2 hd2;exact Ui (op:=.Lt) ⟨_,ho,rfl⟩ ⟨_,ho2,rfl⟩ acU acP (acG _ _) (ahx a b i1.toArray i2.toArray n n2 dd dd2 sl sl2 _)
  ⟨ho,ho2,row,show pK _≠Uo∧_ from⟨(fun x=>nomatch x),fL I q rfl⟩⟩ (by omega)
def Ec:aj→aj→Option Vl
 |.tuple [.int a,.list xs],.tuple [.int b,.list ys]=>(keysOf xs).bind fun ks=>(keysOf ys).bind fun js=>if a=b→ks.map bJ=js.map bJ then some (.im (.bool (if a=b then dF ks js else decide (a<b)))) else none
 |_,_=>none
theorem aa6(h:er P H a=some o):H a=some o:=by
 unfold er at h;split at h
 ·cases h
 ·exact h
theorem ake{K:aG}:fQ K abF Ec:=by
 intro Z Θ env C σ H x y dx dy res S bx cY e Q q;unfold Ec at e;split at e
 ·obtain⟨ks,h1,e⟩:=rK.mp e
  obtain⟨js,h2,e⟩:=rK.mp e
  split at e
  ·rename_i ht;cases e
   obtain⟨a,vs,rfl,ha,v1,_,rfl,z1,_,_,rfl,⟨l,ls,rfl,hl,r1⟩,rfl⟩:=bx.tup
   obtain⟨b,ws,rfl,hb,v2,_,rfl,z2,_,_,rfl,⟨m,ms,rfl,hm,r2⟩,rfl⟩:=cY.tup
   cases(show v1=.int _ from z1)
   cases(show v2=.int _ from z2)
   rw[vD h1 r1] at hl;rw[vD h2 r2] at hm
   exact⟨a,b,_,_,l,m,ks,js,rfl,rfl,ha,hb,aa6 hl,aa6 hm,ht,q _ _ (aQ.refl _ _) (iD S rfl rfl)⟩
  ·cases e
 ·cases e
end L2
namespace Tv
open PySem L2
def top(i:Nat):cU:=PySem.Challenge.pw_rankseals_k16_sides_kept_out.main.body.getD i (.Pass ⟨0,0,0,0⟩)
abbrev G7:cU:=top 1
theorem GP:gG (["house","part","outer","over"]:List Str) (["house","part"]:List Str) (cL G7):=⟨rfl,rfl,rfl,by decide +kernel,rfl,by decide +kernel,by decide +kernel⟩
abbrev Ph:cU:=top 3
theorem agC:gG (["house","paper","holder","signer","day"]:List Str) (["house","paper","holder","signer","day"]:List Str) (cL Ph):=⟨rfl,rfl,rfl,by decide +kernel,rfl,by decide +kernel,by decide +kernel⟩
abbrev G8:cU:=top 4
theorem VP:gG (["house","paper","holder","day","turned"]:List Str) (["house","paper","holder","day"]:List Str) (cL G8):=⟨rfl,rfl,rfl,by decide +kernel,rfl,by decide +kernel,by decide +kernel⟩
abbrev N8:cU:=top 5
theorem afH:gG (["paper","person"]:List Str) (["paper","person"]:List Str) (cL N8):=⟨rfl,rfl,rfl,by decide +kernel,rfl,by decide +kernel,by decide +kernel⟩
abbrev HW:cU:=top 6
theorem W3:gG (["house","paper","day","over"]:List Str) (["house","paper","day"]:List Str) (cL HW):=⟨rfl,rfl,rfl,by decide +kernel,rfl,by decide +kernel,by decide +kernel⟩
abbrev MP:cU:=top 7
theorem BL:gG (["ways","holder","signer","steps","row","number"]:List Str) (["ways","holder","signer"]:List Str) (cL MP):=⟨rfl,rfl,rfl,by decide +kernel,rfl,by decide +kernel,by decide +kernel⟩
abbrev G9:cU:=top 8
theorem aeq:gG (["ways","steps","person"]:List Str) (["ways","steps","person"]:List Str) (cL G9):=⟨rfl,rfl,rfl,by decide +kernel,rfl,by decide +kernel,by decide +kernel⟩
abbrev HD:cU:=top 9
theorem xF:gG (["ways","signer","steps","newest","many","person"]:List Str) (["ways","signer"]:List Str) (cL HD):=⟨rfl,rfl,rfl,by decide +kernel,rfl,by decide +kernel,by decide +kernel⟩
abbrev Q9:cU:=top 11
theorem ZQ:gG (["_law_cell","_law_k","_law_m"]:List Str) (["_law_cell","_law_k"]:List Str) (cL Q9):=⟨rfl,rfl,rfl,by decide +kernel,rfl,by decide +kernel,by decide +kernel⟩
abbrev Mh:cU:=top 12
theorem Vz:gG (["_law_script","_law_k","_law_cell"]:List Str) (["_law_script","_law_k"]:List Str) (cL Mh):=⟨rfl,rfl,rfl,by decide +kernel,rfl,by decide +kernel,by decide +kernel⟩
abbrev Qn:cU:=top 13
theorem YD:gG (["_law_left","_law_many","_law_digit"]:List Str) (["_law_left","_law_many"]:List Str) (cL Qn):=⟨rfl,rfl,rfl,by decide +kernel,rfl,by decide +kernel,by decide +kernel⟩
abbrev CV:cU:=top 14
theorem ahy:gG (["_law_found","_law_due"]:List Str) (["_law_found","_law_due"]:List Str) (cL CV):=⟨rfl,rfl,rfl,by decide +kernel,rfl,by decide +kernel,by decide +kernel⟩
abbrev vA:cU:=top 15
theorem oE:gG (["_law_left","_law_many","_law_letters","_law_head","_law_tail","_law_first","_law_by","_law_stem","_law_found","_law_size","_law_k","_law_value","_law_two"]:List Str) (["_law_left","_law_many"]:List Str) (cL vA):=⟨rfl,rfl,rfl,by decide +kernel,rfl,by decide +kernel,by decide +kernel⟩
abbrev MT:cU:=top 16
theorem We:gG (["_law_left","_law_first"]:List Str) (["_law_left"]:List Str) (cL MT):=⟨rfl,rfl,rfl,by decide +kernel,rfl,by decide +kernel,by decide +kernel⟩
abbrev M3:cU:=top 17
theorem aeL:gG (["_law_left"]:List Str) (["_law_left"]:List Str) (cL M3):=⟨rfl,rfl,rfl,by decide +kernel,rfl,by decide +kernel,by decide +kernel⟩
abbrev Mi:cU:=top 18
theorem GC:gG (["_law_left","_law_names","_law_found","_law_k","_law_name"]:List Str) (["_law_left","_law_names"]:List Str) (cL Mi):=⟨rfl,rfl,rfl,by decide +kernel,rfl,by decide +kernel,by decide +kernel⟩
abbrev Mj:cU:=top 19
theorem Lq:gG (["_law_parts","_law_part","_law_found"]:List Str) (["_law_parts","_law_part"]:List Str) (cL Mj):=⟨rfl,rfl,rfl,by decide +kernel,rfl,by decide +kernel,by decide +kernel⟩
abbrev Oa:cU:=top 20
theorem HF:gG (["_law_left","_law_many","_law_found","_law_last","_law_k"]:List Str) (["_law_left","_law_many"]:List Str) (cL Oa):=⟨rfl,rfl,rfl,by decide +kernel,rfl,by decide +kernel,by decide +kernel⟩
abbrev Lr:cU:=top 21
theorem tZ:gG (["_law_left","_law_parts","_law_people","_law_many","_law_paper","_law_day","_law_found","_law_over","_law_number","_law_at","_law_to","_law_part","_law_days","_law_most"]:List Str) (["_law_left","_law_parts","_law_people","_law_many","_law_paper","_law_day"]:List Str) (cL Lr):=⟨rfl,rfl,rfl,by decide +kernel,rfl,by decide +kernel,by decide +kernel⟩
abbrev M4:cU:=top 22
theorem aeM:gG (["_law_parts","_law_leaves"]:List Str) (["_law_parts","_law_leaves"]:List Str) (cL M4):=⟨rfl,rfl,rfl,by decide +kernel,rfl,by decide +kernel,by decide +kernel⟩
abbrev Qo:cU:=top 23
theorem uv:gG (["_law_left","_law_most","_law_names","_law_parts","_law_people","_law_some","_law_sides","_law_part","_law_paper","_law_day"]:List Str) (["_law_left","_law_most"]:List Str) (cL Qo):=⟨rfl,rfl,rfl,by decide +kernel,rfl,by decide +kernel,by decide +kernel⟩
abbrev Qp:cU:=top 24
theorem ahz:gG (["_law_parts","_law_paper","_law_day","_law_leave"]:List Str) (["_law_parts","_law_paper","_law_day","_law_leave"]:List Str) (cL Qp):=⟨rfl,rfl,rfl,by decide +kernel,rfl,by decide +kernel,by decide +kernel⟩
abbrev Hl:cU:=top 25
theorem BP:gG (["_law_parts","_law_leaves","_law_paper","_law_holder","_law_day","_law_steps","_law_best","_law_turn","_law_leave","_law_row","_law_old"]:List Str) (["_law_parts","_law_leaves","_law_paper","_law_holder","_law_day"]:List Str) (cL Hl):=⟨rfl,rfl,rfl,by decide +kernel,rfl,by decide +kernel,by decide +kernel⟩
abbrev Bv:cU:=top 26
theorem lB:gG (["_law_left","_law_parts","_law_people","_law_leaves","_law_paper","_law_day","_law_strangers","_law_plain","_law_some","_law_both","_law_house","_law_without","_law_leave","_law_other","_law_holder","_law_due","_law_signer","_law_found","_law_row"]:List Str) (["_law_left"]:List Str) (cL Bv):=⟨rfl,rfl,rfl,by decide +kernel,rfl,by decide +kernel,by decide +kernel⟩
abbrev RB:cU:=top 27
theorem Ra:gG (["_law_script","_law_k","_law_left"]:List Str) (["_law_script"]:List Str) (cL RB):=⟨rfl,rfl,rfl,by decide +kernel,rfl,by decide +kernel,by decide +kernel⟩
structure Txt(K:aG)(mg:Str→Option Value):Prop where
 JK:mg "abs"=none
 RC:mg "all"=none
 Dt:mg "bool"=none
 M5:mg "enumerate"=none
 ym:mg "int"=none
 nC:mg "isinstance"=none
 jU:mg "len"=none
 Du:mg "list"=none
 RG:mg "max"=none
 yo:mg "min"=none
 pU:mg "range"=none
 vG:mg "sorted"=none
 Ed:mg "str"=none
 xR:mg "tuple"=none
 RJ:mg "zip"=none
@[reducible] def Vj:FT:=(fTst (aH jo (az 1) (az 2)))
@[reducible] def Vk:FS:=(fSeq (kE 3 (fVar 1)) (fSet 1 (aH bw (az 2) (az 1))))
@[reducible] def Lh:FE:=(fVar 0)
@[reducible] def Li:FE:=(fVar 1)
@[reducible] def Mt:FS:=(fSeq (fSet 2 (Fj (iB2 (ao (aH bw (az 0) (ao (fCst (.int 0)))))) (.many 2) fY Lh Li [])) (fSeq (fSet 3 (fLst aNil)) (fSeq (uY Vj Vk) (fRetV 3))))
def Hf:FN:=fN 2 4 Mt
@[reducible] def Oc:FS:=(fRet (aH jo (az 1) (ao (dj (az 0) (cQ (ao (fCst (.int 2)))) (cQ (ao (fCst (.int 4))))))))
def rZ:FN:=fN 2 2 Oc
@[reducible] def Mu:FT:=(kW (fTst (aH jo (az 3) (az 7))) (kW (fTst (wA oY oY (az 4) (az 8) (az 5))) (kW (fTst (aH oY (ao (aH bw (az 9) (ao (fCst (.int 1))))) (az 6))) (kW (uE (fTru (ao (fCal rZ (aCons (fVar 9) (aCons (fVar 1) aNil)))))) (uE (fTru (ao (fCal rZ (aCons (fVar 9) (aCons (fVar 2) aNil))))))))))
@[reducible] def Mv:FE:=(fTup (aCons (fVar 0) (aCons (fVar 1) (aCons (fVar 2) aNil))))
@[reducible] def Od:FS:=(fSeq (fSet 3 (fCal Hf (aCons (fVar 0) (aCons (aH bw (az 1) (ao (fCst (.int 0)))) aNil)))) (fRet (fLC (iB2 (ao (aH bw (az 0) (ao (fCst (.int 2)))))) (.many 7) Mu Mv [3,2,1])))
def xJ:FN:=fN 3 4 Od
@[reducible] def VR:FS:=(oZ 2 (az 5) (fVar 4))
@[reducible] def V0:FT:=(kW (fTst (aH jo (az 2) (az 3))) (fTst (aH mj (az 1) (az 4))))
@[reducible] def V1:FE:=(fVar 1)
@[reducible] def V2:FT:=(fTru (az 3))
@[reducible] def V3:FS:=(fSeq (JR 4 (ao (fCst (.int 1)))) (fSeq (fSet 3 (Fp (iB2 (az 0)) (.many 3) V0 V1 [3,2])) (gw (iV (fVar 3)) (gNm 5) VR)))
@[reducible] def Nr:FS:=(fSeq (fSet 2 (Ak (az 1) (fCst (.int 0)))) (fSeq (fSet 3 (fLst (aCons (fVar 1) aNil))) (fSeq (fSet 4 (fCst (.int 0))) (fSeq (uY V2 V3) (fRetV 2)))))
def zH:FN:=fN 2 6 Nr
@[reducible] def Vm:FT:=(kW (fTst (aH lU (az 1) (az 3))) (kW (fTst (aH jo (az 2) (az 4))) (fTst (aH uN (ao (aH bw (az 4) (az 2))) (ao (aH bw (az 4) (az 3)))))))
@[reducible] def Vn:FE:=(fTup (aCons (fVar 0) (aCons (fVar 2) aNil)))
@[reducible] def Mw:FS:=(fRet (fFun Jv (bCons (ao (fLC (iB2 (az 0)) (.many 3) Vm Vn [2,1])) bNil)))
def Hg:FN:=fN 3 3 Mw
@[reducible] def VB:FT:=(fTst (aH qe (az 1) (az 2)))
@[reducible] def VD:FS:=(fSeq (fUnp (fCal Hg (aCons (fVar 0) (aCons (fVar 3) (aCons (fVar 1) aNil)))) (gTp 2 (gsCons (gNm 5) (gsCons (gNm 1) gsNil)))) (kE 4 (fVar 5)))
@[reducible] def Ho:FS:=(fSeq (fSet 3 (fCal zH (aCons (fVar 0) (aCons (fVar 2) aNil)))) (fSeq (gK (fTst (aH mj (az 1) (az 3))) (fRet (fCst .none)) fNext) (fSeq (fSet 4 (fLst aNil)) (fSeq (uY VB VD) (fRetV 4)))))
def Hq:FN:=fN 3 6 Ho
@[reducible] def Cv:FS:=(fSeq (gK (rm (fTru (ao (fCal rZ (aCons (fVar 1) (aCons (fVar 2) aNil))))) (fTru (ao (fCal rZ (aCons (fVar 1) (aCons (fVar 3) aNil)))))) (fRet (fCst .none)) fNext) (fRet (fCal Hq (aCons (fCal xJ (aCons (fVar 0) (aCons (fVar 1) (aCons (fVar 4) aNil)))) (aCons (fVar 2) (aCons (fVar 3) aNil))))))
def Cw:FN:=fN 5 5 Cv
@[reducible] def Vo:FE:=(fTup (aCons (fVar 0) (aCons (fVar 2) (aCons (fVar 1) aNil))))
@[reducible] def Hh:FS:=(fSeq (gK (fTru (ao (fCal rZ (aCons (fVar 1) (aCons (fVar 2) aNil))))) (fRet (fLst aNil)) fNext) (fSeq (fSet 4 (fLC (iB2 (ao (fCal xJ (aCons (fVar 0) (aCons (fVar 1) (aCons (fVar 3) aNil)))))) (.many 3) fY Vo [])) (fRet (fFun uy (bCons (ao (fCal zH (aCons (fVar 4) (aCons (fVar 2) aNil)))) bNil)))))
def Hi:FN:=fN 4 5 Hh
@[reducible] def Rb:FS:=(fSeq (fSet 2 (aH jG (ao (aH iZ (ao (aH bN (ao (aH bN (ao (aH jG (az 0) (ao (fCst (.int 2147483629))))) (ao (aH iZ (ao (aH iZ (az 1) (az 1))) (ao (fCst (.int 7919))))))) (ao (fCst (.int 11))))) (ao (fCst (.int 48271))))) (ao (fCst (.int 2147483647))))) (fRet (aH jG (ao (aH iZ (az 2) (az 2))) (ao (fCst (.int 1999999973))))))
def Dv:FN:=fN 2 3 Rb
@[reducible] def Ml:FS:=(fSeq (fSet 2 (yw (fTst (aH uN (az 1) (ao (vX 0)))) (Ej 0 (az 1)) (fCst (.int 0)))) (fRet (fLst (aCons (aH bw (ao (fLst (aCons (fCst (.int 0)) (aCons (fFun DN (bCons (az 2) bNil)) aNil)))) (ao (fFun sZ (bCons (ao (aH JN (ao (fFun DN (bCons (az 2) bNil))) (ao (aH vW (ao (fCst (.int 10))) (ao (fCst (.int 18))))))) bNil)))) (aCons (aH bN (az 2) (ao (aH iZ (ao (fCst (.int 1000003))) (az 1)))) (aCons (fCst (.int 0)) aNil))))))
def GQ:FN:=fN 2 3 Ml
@[reducible] def Ji:FS:=(fSeq (oZ 0 (ao (fCst (.int 2))) (aH bN (ao (rA 0 (ao (fCst (.int 2))))) (ao (fCst (.int 1))))) (fSeq (gK (fTst (aH uO (ao (rA 0 (ao (fCst (.int 0))))) (ao (fCst (.int 0))))) (fSeq (fSet 2 (aH jG (ao (rA 0 (ao (fCst (.int 0))))) (az 1))) (fSeq (oZ 0 (ao (fCst (.int 0))) (aH vN (ao (rA 0 (ao (fCst (.int 0))))) (az 1))) (fRetV 2))) fNext) (fRet (aH jG (ao (aH vN (ao (fCal Dv (aCons (fCal Dv (aCons (rA 0 (ao (fCst (.int 1)))) (aCons (rA 0 (ao (fCst (.int 2)))) aNil))) (aCons (aH bN (ao (rA 0 (ao (fCst (.int 2))))) (ao (fCst (.int 64)))) aNil)))) (ao (fCst (.int 64))))) (az 1)))))
def bR:FN:=fN 2 3 Ji
@[reducible] def Nt(Qq:FN):FE:=(fCal Qq (aCons (fVar 0) (aCons (fVar 1) aNil)))
@[reducible] def zV(Qq:FN):FS:=(fSeq (gK (fTru (ao (yh "list" "tuple" (az 1)))) (fSeq (gK (rm (fTst (aH qe (ao (lV "list" (az 0))) (ao (lV "list" (az 1))))) (fTst (aH qe (ao (lV "tuple" (az 0))) (ao (lV "tuple" (az 1)))))) (fRet (fCst (.bool false))) fNext) (fRet (oU (aH lU (ao (fFun jy (bCons (az 0) bNil))) (ao (fFun jy (bCons (az 1) bNil)))) (fFun DP (bCons (ao (fLC (Fo (bCons (az 0) (bCons (az 1) bNil))) (.many 2) fY (Nt Qq) [])) bNil))))) fNext) (fSeq (gK (rm (fTst (aH uD (az 1) (ao (fCst .none)))) (fTru (ao (lV "str" (az 1))))) (fRet (oU (aH lU (az 0) (az 1)) (aH lU (ao (lV "str" (az 0))) (ao (lV "str" (az 1)))))) fNext) (fSeq (gK (fTru (ao (lV "bool" (az 1)))) (fRet (oU (lV "bool" (az 0)) (aH lU (az 0) (az 1)))) fNext) (fRet (oU (lV "int" (az 0)) (oU (Dz (lV "bool" (az 0))) (aH lU (az 0) (az 1))))))))
def mq:Nat→FN
 |0=>Rw
 |n+1=>fN 2 2 (zV (mq n))
@[reducible] def yV:FS:=(fSeq (fSet 11 (aH jG (ao (aH bN (az 5) (ao (aH iZ (az 6) (az 10))))) (ao (fCst (.int 676))))) (fSeq (fSet 12 (aH bN (ao (aH bw (az 2) (ao (aH vN (az 11) (ao (fCst (.int 26))))))) (ao (aH bw (az 2) (ao (aH jG (az 11) (ao (fCst (.int 26))))))))) (kE 8 (aH bN (ao (aH bN (az 3) (az 12))) (ao (dj (az 4) fD (cQ (ao (aH jG (ao (aH bN (ao (aH iZ (az 10) (az 10))) (az 5))) (ao (fCst (.int 4))))))))))))
@[reducible] def Gs:FE:=(aH bw (az 1) (ao (aH jG (ao (aH bN (az 2) (ao (aH iZ (az 3) (az 0))))) (ao (fCst (.int 26))))))
@[reducible] def K9:FE:=(dj (az 1) (cQ (az 0)) (cQ (ao (aH bN (az 0) (az 2)))))
@[reducible] def yW:FS:=(JW 8 (ao (fLC (iz (ao (aH vV (ao (fCst (.int 9))) (az 9)))) .one fY K9 [7,9])))
@[reducible] def Gu:FE:=(aH bw (az 1) (ao (aH jG (ao (aH bN (az 2) (ao (aH iZ (ao (fCst (.int 5))) (az 0))))) (ao (fCst (.int 26))))))
@[reducible] def La:FE:=(aH bw (az 1) (ao (fCal bR (aCons (fVar 2) (aCons (fCst (.int 26)) aNil)))))
@[reducible] def Lb:FE:=(aH bw (az 1) (ao (fCal bR (aCons (fVar 2) (aCons (fCst (.int 26)) aNil)))))
@[reducible] def BK:FS:=(fSeq (fSet 2 (fCst (.str (fJ "abcdefghijklmnopqrstuvwxyz")))) (fSeq (fSet 3 (qW (ao (fCst (.str (fJ "")))) (ao (fLC (iz (ao (fCal bR (aCons (fVar 0) (aCons (fCst (.int 4)) aNil))))) .one fY Lb [2,0])))) (fSeq (fSet 4 (qW (ao (fCst (.str (fJ "")))) (ao (fLC (iz (ao (fCal bR (aCons (fVar 0) (aCons (fCst (.int 4)) aNil))))) .one fY La [2,0])))) (fSeq (fPar [5,6] (oCons (fCal bR (aCons (fVar 0) (aCons (fCst (.int 676)) aNil))) (oCons (aH bw (ao (fLst (aCons (fCst (.int 1)) (aCons (fCst (.int 3)) (aCons (fCst (.int 5)) (aCons (fCst (.int 7)) (aCons (fCst (.int 25)) (aCons (fCst (.int 675)) aNil)))))))) (ao (fCal bR (aCons (fVar 0) (aCons (fCst (.int 6)) aNil))))) aNil))) (fSeq (gK (fTst (aH lU (ao (fCal bR (aCons (fVar 0) (aCons (fCst (.int 4)) aNil)))) (ao (fCst (.int 0))))) (fSeq (fPar [7,8] (oCons (qW (ao (fCst (.str (fJ "")))) (ao (fLC (iz (ao (fCst (.int 8)))) .one fY Gu [2,5]))) (oCons (fLst aNil) aNil))) (fSeq (gw (Em (ao (fCst (.int 1))) (ao (fCst (.int 9)))) (gNm 9) yW) (fRet (dj (az 8) fD (cQ (az 1)))))) fNext) (fSeq (gK (kW (fTst (aH uN (az 1) (ao (fCst (.int 27))))) (fTst (aH lU (ao (fCal bR (aCons (fVar 0) (aCons (fCst (.int 3)) aNil)))) (ao (fCst (.int 0)))))) (fRet (fLC (iz (az 1)) .one fY Gs [2,5,6])) fNext) (fSeq (fSet 8 (fLst aNil)) (fSeq (gw (iz (az 1)) (gNm 10) yV) (fRetV 8)))))))))
def zj:FN:=fN 2 13 BK
@[reducible] def M6:FS:=(fSeq (fSet 1 (aH bw (ao (fLst (aCons (fCal bR (aCons (fVar 0) (aCons (fCst (.int 9)) aNil))) (aCons (fCal bR (aCons (fVar 0) (aCons (fCst (.int 9)) aNil))) (aCons (aH vV (ao (fCst (.int 99990))) (ao (fCal bR (aCons (fVar 0) (aCons (fCst (.int 9)) aNil))))) aNil))))) (ao (fCal bR (aCons (fVar 0) (aCons (fCst (.int 3)) aNil)))))) (fRet (fTup (aCons (fVar 1) (aCons (fFun sU (bCons (ao (fCst (.int 99999))) (bCons (ao (aH bN (az 1) (ao (aH bw (ao (fLst (aCons (fCst (.int 0)) (aCons (fCal bR (aCons (fVar 0) (aCons (fCst (.int 12)) aNil))) (aCons (fCst (.int 99999)) aNil))))) (ao (fCal bR (aCons (fVar 0) (aCons (fCst (.int 3)) aNil)))))))) bNil))) aNil)))))
def zB:FN:=fN 1 2 M6
@[reducible] def M7:FS:=(fRet (aH bw (ao (fLst (aCons (fCal bR (aCons (fVar 0) (aCons (fCst (.int 4)) aNil))) (aCons (aH bN (ao (fCst (.int 100))) (ao (fCal bR (aCons (fVar 0) (aCons (fCst (.int 4)) aNil))))) (aCons (aH vV (ao (aH vW (ao (fCst (.int 10))) (ao (fCst (.int 9))))) (ao (fCal bR (aCons (fVar 0) (aCons (fCst (.int 3)) aNil))))) aNil))))) (ao (fCal bR (aCons (fVar 0) (aCons (fCst (.int 3)) aNil))))))
def zE:FN:=fN 1 1 M7
@[reducible] def Bq:FS:=(oZ 2 (az 4) (aH bw (ao (aH bN (ao (fLst (aCons (fCst (.str (fJ ""))) aNil))) (ao (dj (az 1) fD (cQ (az 3)))))) (ao (yw (fTst (aH uO (ao (fCal bR (aCons (fVar 0) (aCons (fCst (.int 4)) aNil)))) (ao (fCst (.int 0))))) (fCal bR (aCons (fVar 0) (aCons (aH bN (az 3) (ao (fCst (.int 1)))) aNil))) (fCst (.int 0))))))
@[reducible] def Mm:FS:=(fSeq (fSet 2 Dr) (fSeq (gw (Kh (fVar 1)) (gTp 2 (gsCons (gNm 3) (gsCons (gNm 4) gsNil))) Bq) (fRetV 2)))
def GR:FN:=fN 2 5 Mm
@[reducible] def Vb:FT:=(fTst (aH jo (az 1) (az 0)))
@[reducible] def Vc:FS:=(fSeq (kE 2 (fVar 1)) (fSet 1 (aH bw (az 0) (az 1))))
@[reducible] def Mp:FS:=(fSeq (fSet 2 (fLst aNil)) (fSeq (uY Vb Vc) (fRetV 2)))
def zm:FN:=fN 2 3 Mp
@[reducible] def Mx:FS:=(fSeq (kE 2 (fVar 3)) (fSet 3 (aH bN (ao (aH bN (az 3) (ao (fCst (.int 1))))) (ao (aH iZ (ao (fCal bR (aCons (fVar 0) (aCons (fCst (.int 2)) aNil)))) (ao (fCal bR (aCons (fVar 0) (aCons (fCst (.int 3)) aNil)))))))))
@[reducible] def Oe:FS:=(fSeq (fPar [2,3] (oCons (fLst aNil) (oCons (fCal bR (aCons (fVar 0) (aCons (fCst (.int 3)) aNil))) aNil))) (fSeq (gw (iz (az 1)) (gNm 4) Mx) (fRetV 2)))
def HX:FN:=fN 2 5 Oe
@[reducible] def wY:FS:=(fSeq (fSet 9 (fCal bR (aCons (fVar 0) (aCons (fFun jy (bCons (az 2) bNil)) aNil)))) (fSeq (fSet 10 (aH jG (ao (aH bN (ao (aH bN (az 9) (ao (fCst (.int 1))))) (ao (aH iZ (ao (fCal bR (aCons (fVar 0) (aCons (aH vV (ao (fFun jy (bCons (az 2) bNil))) (ao (fCst (.int 1)))) aNil)))) (ao (fCal bR (aCons (fVar 0) (aCons (fCst (.int 2)) aNil)))))))) (ao (fFun jy (bCons (az 2) bNil))))) (fSeq (fPar [11,12,13] (oCons (aH bw (ao (fFun uy (bCons (az 1) bNil))) (ao (fCal bR (aCons (fVar 0) (aCons (fFun jy (bCons (az 1) bNil)) aNil))))) (oCons (fCal zB (aCons (fVar 0) aNil)) (oCons (fCal zE (aCons (fVar 0) aNil)) aNil)))) (fSeq (gK (kW (fTst (aH uO (ao (fCal bR (aCons (fVar 0) (aCons (fCst (.int 3)) aNil)))) (ao (fCst (.int 0))))) (fTst (aH qe (az 7) (ao (fLst aNil))))) (fSeq (fSet 11 (aH bw (az 7) (ao (fCal bR (aCons (fVar 0) (aCons (fFun jy (bCons (az 7) bNil)) aNil)))))) (fSeq (fSet 12 (fTup (aCons (fFun Ab (bCons (ao (fCst (.int 0))) (bCons (ao (aH vV (az 5) (ao (fCal bR (aCons (fVar 0) (aCons (fCst (.int 2)) aNil)))))) bNil))) (aCons (fFun sU (bCons (ao (fCst (.int 99999))) (bCons (ao (aH bN (az 5) (ao (fCal bR (aCons (fVar 0) (aCons (fCst (.int 2)) aNil)))))) bNil))) aNil)))) (fSet 13 (fFun sU (bCons (ao (aH vW (ao (fCst (.int 10))) (ao (fCst (.int 9))))) (bCons (ao (aH bN (ao (aH bw (az 4) (ao (fCst (.int 1))))) (ao (fCal bR (aCons (fVar 0) (aCons (fCst (.int 2)) aNil)))))) bNil)))))) fNext) (kE 6 (aH bN (ao (aH bN (ao (fTup (aCons (fVar 8) (aCons (aH bw (az 2) (az 9)) (aCons (aH bw (az 2) (az 10)) (aCons (fVar 11) aNil)))))) (az 12))) (ao (fTup (aCons (fVar 13) aNil)))))))))
@[reducible] def Ls:FS:=(fSeq (fPar [6,7] (oCons (fLst aNil) (oCons (fCal zm (aCons (fVar 1) (aCons (aH bw (az 4) (ao (fCst (.int 0)))) aNil))) aNil))) (fSeq (gw (iV (fCal HX (aCons (fVar 0) (aCons (aH iZ (az 3) (ao (fFun sZ (bCons (ao (aH uO (ao (fFun jy (bCons (az 2) bNil))) (ao (fCst (.int 1))))) bNil)))) aNil)))) (gNm 8) wY) (fRetV 6)))
def GD:FN:=fN 6 14 Ls
@[reducible] def M8:FS:=(fRet (fTup (aCons (fFun CQ (bCons (ao (Ql (az 0))) bNil)) (aCons (fTup aNil) (aCons (fFun CQ (bCons (az 1) bNil)) (aCons (fTup aNil) aNil))))))
def BZ:FN:=fN 2 2 M8
@[reducible] def Qs:FS:=(fSeq (fSet 2 (fCal zj (aCons (fVar 0) (aCons (fCst (.int 24)) aNil)))) (fSeq (fSet 3 (fCal GR (aCons (fVar 0) (aCons (dj (az 2) fD (cQ (ao (aH bN (ao (fCst (.int 1))) (ao (fCal bR (aCons (fVar 0) (aCons (fCst (.int 8)) aNil)))))))) aNil)))) (fSeq (fSet 4 (dj (az 2) (cQ (ao (fCst (.int 2)))) (cQ (ao (aH bN (ao (aH bN (ao (fCst (.int 2))) (ao (fCst (.int 2))))) (ao (fCal bR (aCons (fVar 0) (aCons (aH bw (ao (fLst (aCons (fCst (.int 4)) (aCons (fCst (.int 9)) (aCons (fCst (.int 16)) aNil))))) (ao (fCal bR (aCons (fVar 0) (aCons (fCst (.int 3)) aNil))))) aNil))))))))) (fSeq (fSet 5 (aH bN (az 4) (ao (dj (az 2) (cQ (ao (fCst (.int 18)))) (cQ (ao (fCst (.int 20)))))))) (fSeq (fSet 6 (fTup (aCons (aH bw (az 5) (ao (fCal bR (aCons (fVar 0) (aCons (fFun jy (bCons (az 5) bNil)) aNil))))) (aCons (aH bw (az 5) (ao (fCal bR (aCons (fVar 0) (aCons (fFun jy (bCons (az 5) bNil)) aNil))))) aNil)))) (fSeq (gK (fTst (aH uO (ao (fCal bR (aCons (fVar 0) (aCons (fCst (.int 3)) aNil)))) (ao (fCst (.int 0))))) (fSet 6 (fTup (aCons (aH bw (az 2) (ao (fCst (.int 20)))) (aCons (aH bw (az 2) (ao (aH bN (ao (fCst (.int 20))) (ao (fCal bR (aCons (fVar 0) (aCons (fCst (.int 2)) aNil))))))) aNil)))) fNext) (fSeq (fSet 7 (aH bw (ao (aH bN (ao (fFun uy (bCons (az 3) bNil))) (ao (dj (az 2) (cQ (ao (fCst (.int 22)))) (cQ (ao (fCst (.int 23)))))))) (ao (fCal bR (aCons (fVar 0) (aCons (aH bN (ao (fFun jy (bCons (az 3) bNil))) (ao (fFun sZ (bCons (ao (aH lU (ao (fCal bR (aCons (fVar 0) (aCons (fCst (.int 9)) aNil)))) (ao (fCst (.int 0))))) bNil)))) aNil)))))) (fSeq (fPar [8,9] (oCons (aH bN (ao (fTup (aCons (fVar 7) (aCons (fCal zE (aCons (fVar 0) aNil)) aNil)))) (az 6)) (oCons (aH bw (ao (fCal zB (aCons (fVar 0) aNil))) (ao (fCal bR (aCons (fVar 0) (aCons (fCst (.int 2)) aNil))))) aNil))) (fRet (fTup (aCons (fVar 3) (aCons (fVar 4) (aCons (fCal GD (aCons (fVar 0) (aCons (fVar 3) (aCons (fVar 4) (aCons (fCal bR (aCons (fVar 0) (aCons (aH bN (az 1) (ao (fCst (.int 1)))) aNil))) (aCons (fVar 8) (aCons (fVar 9) aNil))))))) (aCons (fVar 8) (aCons (fVar 9) aNil)))))))))))))))
def Jj:FN:=fN 2 10 Qs
@[reducible] def zW:FS:=(fSeq (gK (rm (fTst (aH jo (ao (aH bw (az 3) (ao (fCst (.int 1))))) (ao (dj (az 1) (cQ (ao (fCst (.int 2)))) fD)))) (rm (fTst (aH jo (ao (aH bw (az 3) (ao (fCst (.int 2))))) (ao (dj (az 1) (cQ (ao (fCst (.int 2)))) fD)))) (fTst (aH mj (ao (aH bw (az 3) (ao (fCst (.int 3))))) (ao (fCal zm (aCons (fVar 0) (aCons (aH bw (az 1) (ao (fCst (.int 0)))) aNil)))))))) (fRet (fCst (.bool false))) fNext) (fRet (oU (wA oY oY (ao (aH bw (az 3) (ao (fCst (.int 4))))) (az 2) (ao (aH bw (az 3) (ao (fCst (.int 5)))))) (aH oY (ao (aH bw (az 1) (ao (fCst (.int 1))))) (ao (aH bw (az 3) (ao (fCst (.int 6)))))))))
def Jk:FN:=fN 4 4 zW
@[reducible] def Lw:FS:=(gK (fTst (aH jo (ao (aH bw (az 8) (ao (fCst (.int 1))))) (az 6))) (fSeq (fPar [9,10] (oCons (aH bN (ao (aH bw (az 6) (ao (aH bw (az 8) (ao (fCst (.int 1))))))) (ao (fLst (aCons (aH bw (az 8) (ao (fCst (.int 0)))) aNil)))) (oCons (Ar (az 6) (ao (aH bw (az 8) (ao (fCst (.int 2))))) (fCst .none)) aNil))) (gK (rm (fTst (aH uD (az 10) (ao (fCst .none)))) (fTst (aH Ec (ao (fTup (aCons (fFun jy (bCons (az 9) bNil)) (aCons (fVar 9) aNil)))) (ao (fTup (aCons (fFun jy (bCons (az 10) bNil)) (aCons (fVar 10) aNil))))))) (oZ 6 (ao (aH bw (az 8) (ao (fCst (.int 2))))) (fVar 9)) fNext)) fNext)
@[reducible] def VF:FS:=(gw (iV (fVar 5)) (gNm 8) Lw)
@[reducible] def Lx:FT:=(fTru (ao (fCal Jk (aCons (fVar 1) (aCons (fVar 2) (aCons (fVar 3) (aCons (fVar 0) aNil)))))))
@[reducible] def Ly:FE:=(fVar 0)
@[reducible] def Hr:FS:=(fSeq (gK (fTst (aH jo (az 3) (ao (dj (az 2) (cQ (ao (fCst (.int 2)))) fD)))) (fRet Dr) fNext) (fSeq (fPar [5,6] (oCons (fLC (iB (az 1)) .one Lx Ly [0,2,4]) (oCons (Ak (az 3) (fLst aNil)) aNil))) (fSeq (gw (iz (ao (fFun jy (bCons (az 5) bNil)))) (gNm 7) VF) (fRetV 6))))
def Hs:FN:=fN 5 11 Hr
@[reducible] def K5:FS:=(fSeq (fPar [17,18] (oCons (fCal Cw (aCons (fVar 10) (aCons (aH bN (ao (dj (az 4) fD (cQ (ao (fCst (.int 2)))))) (az 9)) (aCons (fVar 14) (aCons (fVar 16) (aCons (fVar 5) aNil)))))) (oCons (fCst .none) aNil))) (fSeq (gK (kW (fTst (aH mj (az 14) (az 9))) (fTst (aH mj (az 16) (az 9)))) (fSet 18 (fCal Cw (aCons (fVar 13) (aCons (fVar 7) (aCons (fVar 14) (aCons (fVar 16) (aCons (fVar 5) aNil))))))) fNext) (gK (uE (fTru (ao (fCal (mq 3) (aCons (fVar 17) (aCons (fVar 18) aNil)))))) (fRet (fCst (.bool false))) fNext)))
@[reducible] def K6:FS:=(fSeq (fSet 15 (aH Ju (ao (fFun uy (bCons (ao (fCal Hs (aCons (fVar 1) (aCons (fVar 11) (aCons (fVar 7) (aCons (fVar 14) (aCons (fVar 5) aNil))))))) bNil))) (ao (fFun sZ (bCons (ao (aH mj (az 14) (az 9))) bNil))))) (fSeq (gK (uE (fTru (ao (fCal (mq 3) (aCons (fCal Hi (aCons (fVar 10) (aCons (aH bN (ao (dj (az 4) fD (cQ (ao (fCst (.int 2)))))) (az 9)) (aCons (fVar 14) (aCons (fVar 5) aNil))))) (aCons (fVar 15) aNil)))))) (fRet (fCst (.bool false))) fNext) (gw (iV (dj (az 2) fD (cQ (ao (fCst (.int 7)))))) (gNm 16) K5)))
@[reducible] def Gq:FS:=(gK (kW (fTst (aH mj (ao (aH bw (az 12) (ao (fCst (.int 1))))) (az 9))) (fTst (aH mj (ao (aH bw (az 12) (ao (fCst (.int 2))))) (az 9)))) (kE 11 (fVar 12)) fNext)
@[reducible] def U0:FE:=(aH bw (az 0) (ao (fCst (.int 1))))
@[reducible] def U3:FT:=(fTst (aH mj (az 0) (az 1)))
@[reducible] def U4:FE:=(fVar 0)
@[reducible] def Lz:FS:=(fSeq (fUnp (fCal Jj (aCons (fVar 0) (aCons (fCst (.int 16)) aNil))) (gTp 5 (gsCons (gNm 1) (gsCons (gNm 2) (gsCons (gNm 3) (gsCons (gNm 4) (gsCons (gNm 5) gsNil))))))) (fSeq (fSet 6 (dj (ao (fLC (iB (ao (fCal zj (aCons (fVar 0) (aCons (fCst (.int 26)) aNil))))) .one U3 U4 [2])) fD (cQ (ao (fCst (.int 2)))))) (fSeq (fPar [7,8] (oCons (aH bN (ao (dj (az 4) fD (cQ (ao (fCst (.int 2)))))) (ao (fTup (aCons (aH bw (az 6) (ao (fCst (.int 0)))) (aCons (aH bw (az 6) (ao (fCst (.int 1)))) aNil))))) (oCons (aH bN (az 2) (ao (fLC (iB (az 3)) .one fY U0 []))) aNil))) (fSeq (fSet 9 (fTup (aCons (aH bw (az 8) (ao (fCal bR (aCons (fVar 0) (aCons (fFun jy (bCons (az 8) bNil)) aNil))))) (aCons (aH bw (az 8) (ao (fCal bR (aCons (fVar 0) (aCons (fFun jy (bCons (az 8) bNil)) aNil))))) aNil)))) (fSeq (fPar [10,11] (oCons (fCal BZ (aCons (fVar 1) (aCons (fVar 3) aNil))) (oCons (fLst aNil) aNil))) (fSeq (gw (iV (fVar 3)) (gNm 12) Gq) (fSeq (fSet 13 (fCal BZ (aCons (fVar 1) (aCons (fVar 11) aNil)))) (fSeq (gw (iV (dj (az 2) fD (cQ (ao (fCst (.int 7)))))) (gNm 14) K6) (fRet (fCst (.bool true)))))))))))
def GF:FN:=fN 1 19 Lz
@[reducible] def Pj:FS:=(fSeq (Ei 2 (fCal GQ (aCons (fVar 0) (aCons (fVar 1) aNil)))) (gK (uE (fTru (ao (fCal GF (aCons (fVar 2) aNil))))) (fRet (fCst (.bool false))) fNext))
@[reducible] def RK:FS:=(fSeq (gw (iz (ao (aH bN (ao (fCst (.int 1))) (ao (fFun sU (bCons (ao (fCst (.int 5))) (bCons (ao (vX 0)) bNil))))))) (gNm 1) Pj) (fRet (fCst (.bool true))))
def Al:FN:=fN 1 3 RK
theorem aer{P:bf}{w:aY}{K:aG}{mg:Str→Option Value}{base:aV}{f:aa}{fd:dw}(F:fP K "parts_over" "parts_over" G7 f fd)(T:Txt K mg):di P w K mg base eV 1 f fd (["house","part"]:List Str) (spT K Hf):=
 iI (body:=Mt) F GP fun cdv A outer s H E hr=>(bC (aho (i:=2) (T:=(.many 2)) (NT:=(["name","within"]:List Str)) (NF:=([]:List Str)) (js:=[]) (nQ.ok (N0:=(["house","part","outer","over"]:List Str)) (lq:=cL G7) (by decide +kernel) rfl rfl) (⟨_,_,_,rfl,(.cons ⟨_,rfl⟩ (.cons ⟨_,rfl⟩ .nil)),rfl⟩) rfl hr.bH (DR (aq (cH (cG hr.bH) cI (aJ (pv 0)) (aq (aL aN)) (fun _ _=>rfl)))) (fun b=>⟨ux,(aO (pv 0)),(aO (pv 1))⟩) (by rfl) GP.nd rfl rfl) (bC (dW (i:=3) GP.nd rfl (cA rfl) (jC aU)) (bC (Ik mO (fM (sO hr.bH) sW (aJ (pv 1)) (aJ (pv 2)) (by with_unfolding_all rfl)) (bC (xU (pv 3) (aO (pv 1))) (bZ (dW (i:=1) GP.nd rfl (cA rfl) (cH (cG hr.bH) cI (aJ (pv 2)) (aJ (pv 1)) (fun _ _=>rfl)))))) (bZ (sG (pv 3))))))
theorem afI{P:bf}{w:aY}{K:aG}{mg:Str→Option Value}{base:aV}{f:aa}{fd:dw}(F:fP K "is_side" "is_side" N8 f fd)(T:Txt K mg):di P w K mg base eV 1 f fd (["paper","person"]:List Str) (spT K rZ):=
 iI (body:=Oc) F afH fun cdv A outer s H E hr=>(bZ (gn (qJ (sO hr.bH) sW (aJ (pv 1)) (aq (kY (aJ (pv 0)) (jn (aq (aL aN))) (jn (aq (aL aN))))) (by with_unfolding_all rfl))))
theorem afJ{P:bf}{w:aY}{K:aG}{mg:Str→Option Value}{base:aV}{f:aa}{fd:dw}(F:fP K "ways_on" "ways_on" HW f fd)(T:Txt K mg)(My:cX P w K mg base "parts_over" 1 (["house","part"]:List Str) (spT K Hf))(qD:cX P w K mg base "is_side" 1 (["paper","person"]:List Str) (spT K rZ)):di P w K mg base eV 2 f fd (["house","paper","day"]:List Str) (spT K xJ):=
 iI (body:=Od) F W3 fun cdv A outer s H E hr=>(bC (dW (i:=3) W3.nd rfl (pW rfl) (bG My (hr.mono (by decide)) rfl (aC (aO (pv 0)) (aC (cH (cG hr.bH) cI (aJ (pv 1)) (aq (aL aN)) (fun _ _=>rfl)) aU)))) (bZ (gn (qU (T:=(.many 7)) (NT:=(["number","giver","taker","part","first","last","most"]:List Str)) (NF:=(["over","day","paper"]:List Str)) (js:=[3,2,1]) (nQ.ok (N0:=(["house","paper","day","over"]:List Str)) (lq:=cL HW) (by decide +kernel) rfl rfl) (⟨_,_,_,rfl,(.cons ⟨_,rfl⟩ (.cons ⟨_,rfl⟩ (.cons ⟨_,rfl⟩ (.cons ⟨_,rfl⟩ (.cons ⟨_,rfl⟩ (.cons ⟨_,rfl⟩ (.cons ⟨_,rfl⟩ .nil))))))),rfl⟩) rfl (DR (aq (cH (cG hr.bH) cI (aJ (pv 0)) (aq (aL aN)) (fun _ _=>rfl)))) (fun b=>⟨(CP (PW.pt (qL (fM (sO hr.bH) sW (aJ (pv 3)) (aJ (pv 7)) (by with_unfolding_all rfl)) (qL (ajR z7 Af z7 Af (aJ (pv 4)) (aJ (pv 8)) (aJ (pv 5))) (qL (fM z7 Af (aq (cH (cG hr.bH) cI (aJ (pv 9)) (aq (aL aN)) (fun _ _=>rfl))) (aJ (pv 6)) (gW _)) (qL (Dm (oN (aq (bG qD (hr.mono (by decide)) rfl (aC (aO (pv 9)) (aC (aO (pv 1)) aU)))))) (xQ (Dm (oN (aq (bG qD (hr.mono (by decide)) rfl (aC (aO (pv 9)) (aC (aO (pv 2)) aU))))))))))))),(kO (aC (aO (pv 0)) (aC (aO (pv 1)) (aC (aO (pv 2)) aU))))⟩)))))
theorem ae7{P:bf}{w:aY}{K:aG}{mg:Str→Option Value}{base:aV}{f:aa}{fd:dw}(F:fP K "steps_to" "steps_to" HD f fd)(T:Txt K mg):di P w K mg base eV 1 f fd (["ways","signer"]:List Str) (spT K zH):=
 iI (body:=Nr) F xF fun cdv A outer s H E hr=>(bC (dW (i:=2) xF.nd rfl (pW rfl) (Yv (aJ (pv 1)) (aL aN))) (bC (dW (i:=3) xF.nd rfl (pW rfl) (jC (aC (aO (pv 1)) aU))) (bC (dW (i:=4) xF.nd rfl (cA rfl) (aL aN)) (bC (Ik mO (oN (aJ (pv 3))) (bC (ajU (i:=4) xF.nd rfl (cA rfl) (aq (aL aN))) (bC (dW (i:=3) xF.nd rfl (pW rfl) (akU (T:=(.many 3)) (NT:=(["number","giver","taker"]:List Str)) (NF:=(["newest","steps"]:List Str)) (js:=[3,2]) (nQ.ok (N0:=(["ways","signer","steps","newest","many","person"]:List Str)) (lq:=cL HD) (by decide +kernel) rfl rfl) (⟨_,_,_,rfl,(.cons ⟨_,rfl⟩ (.cons ⟨_,rfl⟩ (.cons ⟨_,rfl⟩ .nil))),rfl⟩) rfl rfl T.vG (DR (aJ (pv 0))) (fun b=>⟨(CP (PW.pt (qL (fM (sO hr.bH) sW (aJ (pv 2)) (aJ (pv 3)) (by with_unfolding_all rfl)) (xQ (fM (ug hr.bH) uo (aJ (pv 1)) (aJ (pv 4)) (by with_unfolding_all rfl)))))),(aO (pv 1))⟩))) (bZ (pY mO rfl (Aq (aO (pv 3))) (iW (i:=5) xF.nd rfl (cA rfl)) jR (bZ (Ds hr.bH (pv 2) (aJ (pv 5)) (aO (pv 4))))))))) (bZ (sG (pv 2)))))))
theorem aes{P:bf}{w:aY}{K:aG}{mg:Str→Option Value}{base:aV}{f:aa}{fd:dw}(F:fP K "nearer_way" "nearer_way" G9 f fd)(T:Txt K mg):di P w K mg base eV 1 f fd (["ways","steps","person"]:List Str) (spT K Hg):=
 iI (body:=Mw) F aeq fun cdv A outer s H E hr=>(bZ (gn (gF (aep rfl hr.bH) aiR rfl T.yo (by decide +kernel) (dg (aq (qU (T:=(.many 3)) (NT:=(["number","giver","taker"]:List Str)) (NF:=(["person","steps"]:List Str)) (js:=[2,1]) (nQ.ok (N0:=(["ways","steps","person"]:List Str)) (lq:=cL G9) (by decide +kernel) rfl rfl) (⟨_,_,_,rfl,(.cons ⟨_,rfl⟩ (.cons ⟨_,rfl⟩ (.cons ⟨_,rfl⟩ .nil))),rfl⟩) rfl (DR (aJ (pv 0))) (fun b=>⟨(CP (PW.pt (qL (fM (uA hr.units) uC (aJ (pv 1)) (aJ (pv 3)) (gW _)) (qL (fM (sO hr.bH) sW (aJ (pv 2)) (aJ (pv 4)) (by with_unfolding_all rfl)) (xQ (fM (Ni hr.QH) Rv (aq (cH (cG hr.bH) cI (aJ (pv 4)) (aJ (pv 2)) (fun _ _=>rfl))) (aq (cH (cG hr.bH) cI (aJ (pv 4)) (aJ (pv 3)) (fun _ _=>rfl))) (gW _))))))),(kO (aC (aO (pv 0)) (aC (aO (pv 2)) aU)))⟩))) eO))))
theorem aeN{P:bf}{w:aY}{K:aG}{mg:Str→Option Value}{base:aV}{f:aa}{fd:dw}(F:fP K "first_row" "first_row" MP f fd)(T:Txt K mg)(zJ:cX P w K mg base "steps_to" 1 (["ways","signer"]:List Str) (spT K zH))(Mz:cX P w K mg base "nearer_way" 1 (["ways","steps","person"]:List Str) (spT K Hg)):di P w K mg base eV 2 f fd (["ways","holder","signer"]:List Str) (spT K Hq):=
 iI (body:=Ho) F BL fun cdv A outer s H E hr=>(bC (dW (i:=3) BL.nd rfl (cA rfl) (bG zJ (hr.mono (by decide)) rfl (aC (aO (pv 0)) (aC (aO (pv 2)) aU)))) (bC (jH (fM (ug hr.bH) uo (aJ (pv 1)) (aJ (pv 3)) (by with_unfolding_all rfl)) (bZ (gn (aL zZ))) jD) (bC (dW (i:=4) BL.nd rfl (cA rfl) (jC aU)) (bC (Ik mO (fM (Jq hr.units) JD (aJ (pv 1)) (aJ (pv 2)) (gW _)) (bC (aaq (bG Mz (hr.mono (by decide)) rfl (aC (aO (pv 0)) (aC (aO (pv 3)) (aC (aO (pv 1)) aU)))) (Dc rfl (oG (iW (i:=5) BL.nd rfl (cA rfl)) (oG (iW (i:=1) BL.nd rfl (cA rfl)) Cy))) (QW (uq jR (uq jR Qc)))) (bZ (xU (pv 4) (aO (pv 5)))))) (bZ (sG (pv 4)))))))
theorem agD{P:bf}{w:aY}{K:aG}{mg:Str→Option Value}{base:aV}{f:aa}{fd:dw}(F:fP K "row_of" "row_of" Ph f fd)(T:Txt K mg)(qD:cX P w K mg base "is_side" 1 (["paper","person"]:List Str) (spT K rZ))(zL:cX P w K mg base "ways_on" 2 (["house","paper","day"]:List Str) (spT K xJ))(M9:cX P w K mg base "first_row" 2 (["ways","holder","signer"]:List Str) (spT K Hq)):di P w K mg base eV 3 f fd (["house","paper","holder","signer","day"]:List Str) (spT K Cw):=
 iI (body:=Cv) F agC fun cdv A outer s H E hr=>(bC (jH (PW.pt (Ag (oN (aq (bG qD (hr.mono (by decide)) rfl (aC (aO (pv 1)) (aC (aO (pv 2)) aU))))) (Dp (oN (aq (bG qD (hr.mono (by decide)) rfl (aC (aO (pv 1)) (aC (aO (pv 3)) aU)))))))) (bZ (gn (aL zZ))) jD) (bZ (gn (bG M9 (hr.mono (by decide)) rfl (aC (bG zL (hr.mono (by decide)) rfl (aC (aO (pv 0)) (aC (aO (pv 1)) (aC (aO (pv 4)) aU)))) (aC (aO (pv 2)) (aC (aO (pv 3)) aU)))))))
theorem aet{P:bf}{w:aY}{K:aG}{mg:Str→Option Value}{base:aV}{f:aa}{fd:dw}(F:fP K "signers_of" "signers_of" G8 f fd)(T:Txt K mg)(qD:cX P w K mg base "is_side" 1 (["paper","person"]:List Str) (spT K rZ))(zL:cX P w K mg base "ways_on" 2 (["house","paper","day"]:List Str) (spT K xJ))(zJ:cX P w K mg base "steps_to" 1 (["ways","signer"]:List Str) (spT K zH)):di P w K mg base eV 3 f fd (["house","paper","holder","day"]:List Str) (spT K Hi):=
 iI (body:=Hh) F VP fun cdv A outer s H E hr=>(bC (jH (oN (aq (bG qD (hr.mono (by decide)) rfl (aC (aO (pv 1)) (aC (aO (pv 2)) aU))))) (bZ (gn (jC aU))) jD) (bC (ahn (i:=4) (T:=(.many 3)) (NT:=(["number","giver","taker"]:List Str)) (NF:=([]:List Str)) (js:=[]) (nQ.ok (N0:=(["house","paper","holder","day","turned"]:List Str)) (lq:=cL G8) (by decide +kernel) rfl rfl) (⟨_,_,_,rfl,(.cons ⟨_,rfl⟩ (.cons ⟨_,rfl⟩ (.cons ⟨_,rfl⟩ .nil))),rfl⟩) rfl (DR (aq (bG zL (hr.mono (by decide)) rfl (aC (aO (pv 0)) (aC (aO (pv 1)) (aC (aO (pv 3)) aU)))))) (fun b=>⟨ux,(kO (aC (aO (pv 0)) (aC (aO (pv 2)) (aC (aO (pv 1)) aU))))⟩) (by rfl) VP.nd rfl rfl) (bZ (gn (gF (Gz rfl) Iv rfl T.vG (by decide +kernel) (dg (aq (bG zJ (hr.mono (by decide)) rfl (aC (aO (pv 4)) (aC (aO (pv 2)) aU)))) eO))))))
theorem aiW{P:bf}{w:aY}{K:aG}{mg:Str→Option Value}{base:aV}{f:aa}{fd:dw}(F:fP K "_law_mix" "_law_mix" Q9 f fd)(T:Txt K mg):di P w K mg base eV 1 f fd (["_law_cell","_law_k"]:List Str) (spT K Dv):=
 iI (body:=Rb) F ZQ fun cdv A outer s H E hr=>(bC (dW (i:=2) ZQ.nd rfl (cA rfl) (bL qG qK (aq (bL oK oM (aq (bL dR dU (aq (bL dR dU (aq (bL qG qK (aJ (pv 0)) (aq (aL aN)))) (aq (bL oK oM (aq (bL oK oM (aJ (pv 1)) (aJ (pv 1)))) (aq (aL aN)))))) (aq (aL aN)))) (aq (aL aN)))) (aq (aL aN)))) (bZ (gn (bL qG qK (aq (bL oK oM (aJ (pv 2)) (aJ (pv 2)))) (aq (aL aN))))))
theorem aee{P:bf}{w:aY}{K:aG}{mg:Str→Option Value}{base:aV}{f:aa}{fd:dw}(F:fP K "_law_drawn_from" "_law_drawn_from" Mh f fd)(T:Txt K mg):di P w K mg base eV 1 f fd (["_law_script","_law_k"]:List Str) (spT K GQ):=
 iI (body:=Ml) F Vz fun cdv A outer s H E hr=>(bC (dW (i:=2) Vz.nd rfl (cA rfl) (aaZ (fM (Ni hr.QH) Rv (aJ (pv 1)) (aq (Zy (pv 0) rfl T.jU (by decide +kernel))) (gW _)) (ajW (pv 0) (aJ (pv 1)) (fun _ _=>rfl)) (aL aN))) (bZ (gn (jC (aC (cH (cG hr.bH) cI (aq (jC (aC (aL aN) (aC (gF XD aat rfl T.JK (by decide +kernel) (dg (aJ (pv 2)) eO)) aU)))) (aq (zN HQ Js rfl T.ym (by decide +kernel) (dg (aq (qJ akE akP (aq (gF XD aat rfl T.JK (by decide +kernel) (dg (aJ (pv 2)) eO))) (aq (bL QD QV (aq (aL aN)) (aq (aL aN)))) (gW _))) eO))) (fun _ _=>rfl)) (aC (bL dR dU (aJ (pv 2)) (aq (bL oK oM (aq (aL aN)) (aJ (pv 1))))) (aC (aL aN) aU)))))))
theorem ahA{P:bf}{w:aY}{K:aG}{mg:Str→Option Value}{base:aV}{f:aa}{fd:dw}(F:fP K "_law_pick" "_law_pick" Qn f fd)(T:Txt K mg)(Jx:cX P w K mg base "_law_mix" 1 (["_law_cell","_law_k"]:List Str) (spT K Dv)):di P w K mg base eV 2 f fd (["_law_left","_law_many"]:List Str) (spT K bR):=
 iI (body:=Ji) F YD fun cdv A outer s H E hr=>(bC (Ds hr.bH (pv 0) (aq (aL aN)) (bL dR dU (aq (xV (pv 0) (aq (aL aN)) (fun _ _=>rfl))) (aq (aL aN)))) (bC (jH (fM Dw Dy (aq (xV (pv 0) (aq (aL aN)) (fun _ _=>rfl))) (aq (aL aN)) (gW _)) (bC (dW (i:=2) YD.nd rfl (cA rfl) (bL qG qK (aq (xV (pv 0) (aq (aL aN)) (fun _ _=>rfl))) (aJ (pv 1)))) (bC (Ds hr.bH (pv 0) (aq (aL aN)) (bL Pq P0 (aq (xV (pv 0) (aq (aL aN)) (fun _ _=>rfl))) (aJ (pv 1)))) (bZ (sG (pv 2))))) jD) (bZ (gn (bL qG qK (aq (bL Pq P0 (aq (bG Jx (hr.mono (by decide)) rfl (aC (bG Jx (hr.mono (by decide)) rfl (aC (xV (pv 0) (aq (aL aN)) (fun _ _=>rfl)) (aC (xV (pv 0) (aq (aL aN)) (fun _ _=>rfl)) aU))) (aC (bL dR dU (aq (xV (pv 0) (aq (aL aN)) (fun _ _=>rfl))) (aq (aL aN))) aU)))) (aq (aL aN)))) (aJ (pv 1)))))))
theorem ahB{P:bf}{w:aY}{K:aG}{mg:Str→Option Value}{base:aV}{f:aa}{fd:dw}(n:Nat)(F:fP K "_law_same" "_law_same" CV f fd)(T:Txt K mg)(zX:cX P w K mg base "_law_same" n (["_law_found","_law_due"]:List Str) (spT K (mq n))):di P w K mg base eV (n+1) f fd (["_law_found","_law_due"]:List Str) (spT K (mq (n+1))):=
 iI (body:=zV (mq n)) F ahy fun cdv A outer s H E hr=>(bC (jH (oN (aq (aiC (by decide) (by decide) (aJ (pv 1)) (oH (v:=.ty "list") rfl T.Du (by decide +kernel) rfl) (oH (v:=.ty "tuple") rfl T.xR (by decide +kernel) rfl) rfl T.nC (by decide +kernel)))) (bC (jH (PW.pt (Ag (fM (Jq hr.units) JD (aq (qO (by decide) (aJ (pv 0)) (oH (v:=.ty "list") rfl T.Du (by decide +kernel) rfl) rfl T.nC (by decide +kernel))) (aq (qO (by decide) (aJ (pv 1)) (oH (v:=.ty "list") rfl T.Du (by decide +kernel) rfl) rfl T.nC (by decide +kernel))) (gW _)) (Dp (fM (Jq hr.units) JD (aq (qO (by decide) (aJ (pv 0)) (oH (v:=.ty "tuple") rfl T.xR (by decide +kernel) rfl) rfl T.nC (by decide +kernel))) (aq (qO (by decide) (aJ (pv 1)) (oH (v:=.ty "tuple") rfl T.xR (by decide +kernel) rfl) rfl T.nC (by decide +kernel))) (gW _))))) (bZ (gn (aL xY))) jD) (bZ (gn (z8 (qJ (uA hr.units) uC (aq (gF lY mC rfl T.jU (by decide +kernel) (dg (aJ (pv 0)) eO))) (aq (gF lY mC rfl T.jU (by decide +kernel) (dg (aJ (pv 1)) eO))) (gW _)) (Dq (gF (ag2 rfl) ajX rfl T.RC (by decide +kernel) (dg (aq (qU (T:=(.many 2)) (NT:=(["_law_one","_law_other"]:List Str)) (NF:=([]:List Str)) (js:=[]) (nQ.ok (N0:=(["_law_found","_law_due"]:List Str)) (lq:=cL CV) (by decide +kernel) rfl rfl) (⟨_,_,_,rfl,(.cons ⟨_,rfl⟩ (.cons ⟨_,rfl⟩ .nil)),rfl⟩) rfl (aj0 rfl T.RJ (dg (aJ (pv 0)) (dg (aJ (pv 1)) eO))) (fun b=>⟨ux,(bG zX hr rfl (aC (aO (pv 0)) (aC (aO (pv 1)) aU)))⟩))) eO))))))) jD) (bC (jH (PW.pt (Ag (fM Z9 aam (aJ (pv 1)) (aq (aL zZ)) (gW _)) (Dp (oN (aq (qO (by decide) (aJ (pv 1)) (oH (v:=.ty "str") rfl T.Ed (by decide +kernel) rfl) rfl T.nC (by decide +kernel))))))) (bZ (gn (z8 (qJ (uA hr.units) uC (aJ (pv 0)) (aJ (pv 1)) (gW _)) (Dq (qJ (uA hr.units) uC (aq (qO (by decide) (aJ (pv 0)) (oH (v:=.ty "str") rfl T.Ed (by decide +kernel) rfl) rfl T.nC (by decide +kernel))) (aq (qO (by decide) (aJ (pv 1)) (oH (v:=.ty "str") rfl T.Ed (by decide +kernel) rfl) rfl T.nC (by decide +kernel))) (gW _)))))) jD) (bC (jH (oN (aq (qO (by decide) (aJ (pv 1)) (oH (v:=.ty "bool") rfl T.Dt (by decide +kernel) rfl) rfl T.nC (by decide +kernel)))) (bZ (gn (z8 (qO (by decide) (aJ (pv 0)) (oH (v:=.ty "bool") rfl T.Dt (by decide +kernel) rfl) rfl T.nC (by decide +kernel)) (Dq (qJ (uA hr.units) uC (aJ (pv 0)) (aJ (pv 1)) (gW _)))))) jD) (bZ (gn (z8 (qO (by decide) (aJ (pv 0)) (oH (v:=.ty "int") rfl T.ym (by decide +kernel) rfl) rfl T.nC (by decide +kernel)) (z8 (ajS (qO (by decide) (aJ (pv 0)) (oH (v:=.ty "bool") rfl T.Dt (by decide +kernel) rfl) rfl T.nC (by decide +kernel))) (Dq (qJ (uA hr.units) uC (aJ (pv 0)) (aJ (pv 1)) (gW _))))))))))
theorem Xv{P:bf}{w:aY}{K:aG}{mg:Str→Option Value}{base:aV}{f:aa}{fd:dw}(hm:mg "_law_same"=some (.ref f))(hk:vq K (.ref f)=true)(hb:Binds K fd (["_law_found","_law_due"]:List Str) [])(F:fP K "_law_same" "_law_same" CV f fd)(T:Txt K mg):
  ∀n,cX P w K mg base "_law_same" n (["_law_found","_law_due"]:List Str) (spT K (mq n))
 |0=>⟨f,fd,hm,hk,hb,aiG⟩
 |n+1=>⟨f,fd,hm,hk,hb,ahB n F T (Xv hm hk hb F T n)⟩
theorem aef{P:bf}{w:aY}{K:aG}{mg:Str→Option Value}{base:aV}{f:aa}{fd:dw}(F:fP K "_law_some_names" "_law_some_names" vA f fd)(T:Txt K mg)(cj:cX P w K mg base "_law_pick" 2 (["_law_left","_law_many"]:List Str) (spT K bR)):di P w K mg base eV 3 f fd (["_law_left","_law_many"]:List Str) (spT K zj):=
 iI (body:=BK) F oE fun cdv A outer s H E hr=>(bC (dW (i:=2) oE.nd rfl (pW rfl) (aL CZ)) (bC (dW (i:=3) oE.nd rfl (cA rfl) (Qg (aq (aL CZ)) (aq (qU (T:=.one) (NT:=(["_law_turn"]:List Str)) (NF:=(["_law_letters","_law_left"]:List Str)) (js:=[2,0]) (nQ.ok (N0:=(["_law_left","_law_many","_law_letters","_law_head","_law_tail","_law_first","_law_by","_law_stem","_law_found","_law_size","_law_k","_law_value","_law_two"]:List Str)) (lq:=cL vA) (by decide +kernel) rfl rfl) (⟨_,⟨_,rfl⟩,rfl⟩) rfl (ur rfl T.pU (aq (bG cj (hr.mono (by decide)) rfl (aC (aO (pv 0)) (aC (aL aN) aU))))) (fun b=>⟨ux,(cH (cG hr.bH) cI (aJ (pv 1)) (aq (bG cj (hr.mono (by decide)) rfl (aC (aO (pv 2)) (aC (aL aN) aU)))) (fun _ _=>rfl))⟩))))) (bC (dW (i:=4) oE.nd rfl (cA rfl) (Qg (aq (aL CZ)) (aq (qU (T:=.one) (NT:=(["_law_turn"]:List Str)) (NF:=(["_law_letters","_law_left"]:List Str)) (js:=[2,0]) (nQ.ok (N0:=(["_law_left","_law_many","_law_letters","_law_head","_law_tail","_law_first","_law_by","_law_stem","_law_found","_law_size","_law_k","_law_value","_law_two"]:List Str)) (lq:=cL vA) (by decide +kernel) rfl rfl) (⟨_,⟨_,rfl⟩,rfl⟩) rfl (ur rfl T.pU (aq (bG cj (hr.mono (by decide)) rfl (aC (aO (pv 0)) (aC (aL aN) aU))))) (fun b=>⟨ux,(cH (cG hr.bH) cI (aJ (pv 1)) (aq (bG cj (hr.mono (by decide)) rfl (aC (aO (pv 2)) (aC (aL aN) aU)))) (fun _ _=>rfl))⟩))))) (bC (Zt (is:=[5,6]) (jl (bG cj (hr.mono (by decide)) rfl (aC (aO (pv 0)) (aC (aL aN) aU))) (jl (cH (cG hr.bH) cI (aq (jC (aC (aL aN) (aC (aL aN) (aC (aL aN) (aC (aL aN) (aC (aL aN) (aC (aL aN) aU)))))))) (aq (bG cj (hr.mono (by decide)) rfl (aC (aO (pv 0)) (aC (aL aN) aU)))) (fun _ _=>rfl)) qN)) (Dc rfl (oG (iW (i:=5) oE.nd rfl (pW rfl)) (oG (iW (i:=6) oE.nd rfl (pW rfl)) Cy)))) (bC (jH (fM (uA hr.units) uC (aq (bG cj (hr.mono (by decide)) rfl (aC (aO (pv 0)) (aC (aL aN) aU)))) (aq (aL aN)) (gW _)) (bC (Zt (is:=[7,8]) (jl (Qg (aq (aL CZ)) (aq (qU (T:=.one) (NT:=(["_law_k"]:List Str)) (NF:=(["_law_letters","_law_first"]:List Str)) (js:=[2,5]) (nQ.ok (N0:=(["_law_left","_law_many","_law_letters","_law_head","_law_tail","_law_first","_law_by","_law_stem","_law_found","_law_size","_law_k","_law_value","_law_two"]:List Str)) (lq:=cL vA) (by decide +kernel) rfl rfl) (⟨_,⟨_,rfl⟩,rfl⟩) rfl (ur rfl T.pU (aq (aL aN))) (fun b=>⟨ux,(cH (cG hr.bH) cI (aJ (pv 1)) (aq (bL qG qK (aq (bL dR dU (aJ (pv 2)) (aq (bL oK oM (aq (aL aN)) (aJ (pv 0)))))) (aq (aL aN)))) (fun _ _=>rfl))⟩)))) (jl (jC aU) qN)) (Dc rfl (oG (iW (i:=7) oE.nd rfl (pW rfl)) (oG (iW (i:=8) oE.nd rfl (cA rfl)) Cy)))) (bC (pY mO rfl (agv rfl T.pU (dg (aq (aL aN)) (dg (aq (aL aN)) eO))) (iW (i:=9) oE.nd rfl (pW rfl)) jR (bZ (aka (pv 8) (aq (qU (T:=.one) (NT:=(["_law_k"]:List Str)) (NF:=(["_law_stem","_law_size"]:List Str)) (js:=[7,9]) (nQ.ok (N0:=(["_law_left","_law_many","_law_letters","_law_head","_law_tail","_law_first","_law_by","_law_stem","_law_found","_law_size","_law_k","_law_value","_law_two"]:List Str)) (lq:=cL vA) (by decide +kernel) rfl rfl) (⟨_,⟨_,rfl⟩,rfl⟩) rfl (ur rfl T.pU (aq (bL Df Dl (aq (aL aN)) (aJ (pv 9))))) (fun b=>⟨ux,(kY (aJ (pv 1)) (jn (aJ (pv 0))) (jn (aq (bL dR dU (aJ (pv 0)) (aJ (pv 2))))))⟩)))))) (bZ (gn (kY (aJ (pv 8)) oV (jn (aJ (pv 1)))))))) jD) (bC (jH (PW.pt (qL (fM (Ni hr.QH) Rv (aJ (pv 1)) (aq (aL aN)) (gW _)) (xQ (fM (uA hr.units) uC (aq (bG cj (hr.mono (by decide)) rfl (aC (aO (pv 0)) (aC (aL aN) aU)))) (aq (aL aN)) (gW _))))) (bZ (gn (qU (T:=.one) (NT:=(["_law_k"]:List Str)) (NF:=(["_law_letters","_law_first","_law_by"]:List Str)) (js:=[2,5,6]) (nQ.ok (N0:=(["_law_left","_law_many","_law_letters","_law_head","_law_tail","_law_first","_law_by","_law_stem","_law_found","_law_size","_law_k","_law_value","_law_two"]:List Str)) (lq:=cL vA) (by decide +kernel) rfl rfl) (⟨_,⟨_,rfl⟩,rfl⟩) rfl (ur rfl T.pU (aJ (pv 1))) (fun b=>⟨ux,(cH (cG hr.bH) cI (aJ (pv 1)) (aq (bL qG qK (aq (bL dR dU (aJ (pv 2)) (aq (bL oK oM (aJ (pv 3)) (aJ (pv 0)))))) (aq (aL aN)))) (fun _ _=>rfl))⟩)))) jD) (bC (dW (i:=8) oE.nd rfl (cA rfl) (jC aU)) (bC (pY mO rfl (ur rfl T.pU (aJ (pv 1))) (iW (i:=10) oE.nd rfl (cA rfl)) jR (bC (dW (i:=11) oE.nd rfl (cA rfl) (bL qG qK (aq (bL dR dU (aJ (pv 5)) (aq (bL oK oM (aJ (pv 6)) (aJ (pv 10)))))) (aq (aL aN)))) (bC (dW (i:=12) oE.nd rfl (cA rfl) (bL dR dU (aq (cH (cG hr.bH) cI (aJ (pv 2)) (aq (bL Pq P0 (aJ (pv 11)) (aq (aL aN)))) (fun _ _=>rfl))) (aq (cH (cG hr.bH) cI (aJ (pv 2)) (aq (bL qG qK (aJ (pv 11)) (aq (aL aN)))) (fun _ _=>rfl))))) (bZ (xU (pv 8) (bL dR dU (aq (bL dR dU (aJ (pv 3)) (aJ (pv 12)))) (aq (kY (aJ (pv 4)) oV (jn (aq (bL qG qK (aq (bL dR dU (aq (bL oK oM (aJ (pv 10)) (aJ (pv 10)))) (aJ (pv 5)))) (aq (aL aN))))))))))))) (bZ (sG (pv 8)))))))))))
theorem aeO{P:bf}{w:aY}{K:aG}{mg:Str→Option Value}{base:aV}{f:aa}{fd:dw}(F:fP K "_law_two_days" "_law_two_days" MT f fd)(T:Txt K mg)(cj:cX P w K mg base "_law_pick" 2 (["_law_left","_law_many"]:List Str) (spT K bR)):di P w K mg base eV 3 f fd (["_law_left"]:List Str) (spT K zB):=
 iI (body:=M6) F We fun cdv A outer s H E hr=>(bC (dW (i:=1) We.nd rfl (cA rfl) (cH (cG hr.bH) cI (aq (jC (aC (bG cj (hr.mono (by decide)) rfl (aC (aO (pv 0)) (aC (aL aN) aU))) (aC (bG cj (hr.mono (by decide)) rfl (aC (aO (pv 0)) (aC (aL aN) aU))) (aC (bL Df Dl (aq (aL aN)) (aq (bG cj (hr.mono (by decide)) rfl (aC (aO (pv 0)) (aC (aL aN) aU))))) aU))))) (aq (bG cj (hr.mono (by decide)) rfl (aC (aO (pv 0)) (aC (aL aN) aU)))) (fun _ _=>rfl))) (bZ (gn (kO (aC (aO (pv 1)) (aC (gF (HN rfl) Jf rfl T.yo (by decide +kernel) (dg (aq (aL aN)) (dg (aq (bL dR dU (aJ (pv 1)) (aq (cH (cG hr.bH) cI (aq (jC (aC (aL aN) (aC (bG cj (hr.mono (by decide)) rfl (aC (aO (pv 0)) (aC (aL aN) aU))) (aC (aL aN) aU))))) (aq (bG cj (hr.mono (by decide)) rfl (aC (aO (pv 0)) (aC (aL aN) aU)))) (fun _ _=>rfl))))) eO))) aU))))))
theorem aeP{P:bf}{w:aY}{K:aG}{mg:Str→Option Value}{base:aV}{f:aa}{fd:dw}(F:fP K "_law_some_sum" "_law_some_sum" M3 f fd)(T:Txt K mg)(cj:cX P w K mg base "_law_pick" 2 (["_law_left","_law_many"]:List Str) (spT K bR)):di P w K mg base eV 3 f fd (["_law_left"]:List Str) (spT K zE):=
 iI (body:=M7) F aeL fun cdv A outer s H E hr=>(bZ (gn (cH (cG hr.bH) cI (aq (jC (aC (bG cj (hr.mono (by decide)) rfl (aC (aO (pv 0)) (aC (aL aN) aU))) (aC (bL dR dU (aq (aL aN)) (aq (bG cj (hr.mono (by decide)) rfl (aC (aO (pv 0)) (aC (aL aN) aU))))) (aC (bL Df Dl (aq (bL QD QV (aq (aL aN)) (aq (aL aN)))) (aq (bG cj (hr.mono (by decide)) rfl (aC (aO (pv 0)) (aC (aL aN) aU))))) aU))))) (aq (bG cj (hr.mono (by decide)) rfl (aC (aO (pv 0)) (aC (aL aN) aU)))) (fun _ _=>rfl))))
theorem aeg{P:bf}{w:aY}{K:aG}{mg:Str→Option Value}{base:aV}{f:aa}{fd:dw}(F:fP K "_law_some_parts" "_law_some_parts" Mi f fd)(T:Txt K mg)(cj:cX P w K mg base "_law_pick" 2 (["_law_left","_law_many"]:List Str) (spT K bR)):di P w K mg base eV 3 f fd (["_law_left","_law_names"]:List Str) (spT K GR):=
 iI (body:=Mm) F GC fun cdv A outer s H E hr=>(bC (dW (i:=2) GC.nd rfl (cA rfl) Yb) (bC (pY mO rfl (aiP rfl T.M5 (aO (pv 1))) (Dc rfl (oG (iW (i:=3) GC.nd rfl (cA rfl)) (oG (iW (i:=4) GC.nd rfl (cA rfl)) Cy))) (QW (uq jR (uq jR Qc))) (bZ (Ds hr.bH (pv 2) (aJ (pv 4)) (cH (cG hr.bH) cI (aq (bL dR dU (aq (jC (aC (aL CZ) aU))) (aq (kY (aJ (pv 1)) oV (jn (aJ (pv 3))))))) (aq (aaZ (fM Dw Dy (aq (bG cj (hr.mono (by decide)) rfl (aC (aO (pv 0)) (aC (aL aN) aU)))) (aq (aL aN)) (gW _)) (bG cj (hr.mono (by decide)) rfl (aC (aO (pv 0)) (aC (bL dR dU (aJ (pv 3)) (aq (aL aN))) aU))) (aL aN))) (fun _ _=>rfl))))) (bZ (sG (pv 2)))))
theorem aeh{P:bf}{w:aY}{K:aG}{mg:Str→Option Value}{base:aV}{f:aa}{fd:dw}(F:fP K "_law_parts_over" "_law_parts_over" Mj f fd)(T:Txt K mg):di P w K mg base eV 1 f fd (["_law_parts","_law_part"]:List Str) (spT K zm):=
 iI (body:=Mp) F Lq fun cdv A outer s H E hr=>(bC (dW (i:=2) Lq.nd rfl (cA rfl) (jC aU)) (bC (Ik mO (fM (sO hr.bH) sW (aJ (pv 1)) (aJ (pv 0)) (by with_unfolding_all rfl)) (bC (xU (pv 2) (aO (pv 1))) (bZ (dW (i:=1) Lq.nd rfl (cA rfl) (cH (cG hr.bH) cI (aJ (pv 0)) (aJ (pv 1)) (fun _ _=>rfl)))))) (bZ (sG (pv 2)))))
theorem afK{P:bf}{w:aY}{K:aG}{mg:Str→Option Value}{base:aV}{f:aa}{fd:dw}(F:fP K "_law_rising" "_law_rising" Oa f fd)(T:Txt K mg)(cj:cX P w K mg base "_law_pick" 2 (["_law_left","_law_many"]:List Str) (spT K bR)):di P w K mg base eV 3 f fd (["_law_left","_law_many"]:List Str) (spT K HX):=
 iI (body:=Oe) F HF fun cdv A outer s H E hr=>(bC (vO (i:=2) (j:=3) rfl HF.nd rfl rfl (by decide) rfl rfl (jl (jC aU) (jl (bG cj (hr.mono (by decide)) rfl (aC (aO (pv 0)) (aC (aL aN) aU))) qN)) rfl) (bC (pY mO rfl (ur rfl T.pU (aJ (pv 1))) (iW (i:=4) HF.nd rfl (cA rfl)) jR (bC (xU (pv 2) (aO (pv 3))) (bZ (dW (i:=3) HF.nd rfl (cA rfl) (bL dR dU (aq (bL dR dU (aJ (pv 3)) (aq (aL aN)))) (aq (bL oK oM (aq (bG cj (hr.mono (by decide)) rfl (aC (aO (pv 0)) (aC (aL aN) aU)))) (aq (bG cj (hr.mono (by decide)) rfl (aC (aO (pv 0)) (aC (aL aN) aU))))))))))) (bZ (sG (pv 2)))))
theorem ad6{P:bf}{w:aY}{K:aG}{mg:Str→Option Value}{base:aV}{f:aa}{fd:dw}(F:fP K "_law_some_leaves" "_law_some_leaves" Lr f fd)(T:Txt K mg)(cj:cX P w K mg base "_law_pick" 2 (["_law_left","_law_many"]:List Str) (spT K bR))(zF:cX P w K mg base "_law_two_days" 3 (["_law_left"]:List Str) (spT K zB))(zG:cX P w K mg base "_law_some_sum" 3 (["_law_left"]:List Str) (spT K zE))(zp:cX P w K mg base "_law_parts_over" 1 (["_law_parts","_law_part"]:List Str) (spT K zm))(Og:cX P w K mg base "_law_rising" 3 (["_law_left","_law_many"]:List Str) (spT K HX)):di P w K mg base eV 4 f fd (["_law_left","_law_parts","_law_people","_law_many","_law_paper","_law_day"]:List Str) (spT K GD):=
 iI (body:=Ls) F tZ fun cdv A outer s H E hr=>(bC (vO (i:=6) (j:=7) rfl tZ.nd rfl rfl (by decide) rfl rfl (jl (jC aU) (jl (bG zp (hr.mono (by decide)) rfl (aC (aO (pv 1)) (aC (cH (cG hr.bH) cI (aJ (pv 4)) (aq (aL aN)) (fun _ _=>rfl)) aU))) qN)) rfl) (bC (pY mO rfl (Aq (bG Og (hr.mono (by decide)) rfl (aC (aO (pv 0)) (aC (bL oK oM (aJ (pv 3)) (aq (zN HQ Js rfl T.ym (by decide +kernel) (dg (aq (qJ Dw Dy (aq (gF lY mC rfl T.jU (by decide +kernel) (dg (aJ (pv 2)) eO))) (aq (aL aN)) (gW _))) eO)))) aU)))) (iW (i:=8) tZ.nd rfl (cA rfl)) jR (bC (dW (i:=9) tZ.nd rfl (cA rfl) (bG cj (hr.mono (by decide)) rfl (aC (aO (pv 0)) (aC (gF lY mC rfl T.jU (by decide +kernel) (dg (aJ (pv 2)) eO)) aU)))) (bC (dW (i:=10) tZ.nd rfl (cA rfl) (bL qG qK (aq (bL dR dU (aq (bL dR dU (aJ (pv 9)) (aq (aL aN)))) (aq (bL oK oM (aq (bG cj (hr.mono (by decide)) rfl (aC (aO (pv 0)) (aC (bL Df Dl (aq (gF lY mC rfl T.jU (by decide +kernel) (dg (aJ (pv 2)) eO))) (aq (aL aN))) aU)))) (aq (bG cj (hr.mono (by decide)) rfl (aC (aO (pv 0)) (aC (aL aN) aU)))))))) (aq (gF lY mC rfl T.jU (by decide +kernel) (dg (aJ (pv 2)) eO))))) (bC (aiU (i:=11) (j:=12) (k:=13) rfl tZ.nd rfl rfl rfl (by decide) (by decide) (by decide) rfl rfl rfl (jl (cH (cG hr.bH) cI (aq (gF (Gz rfl) Iv rfl T.vG (by decide +kernel) (dg (aJ (pv 1)) eO))) (aq (bG cj (hr.mono (by decide)) rfl (aC (aO (pv 0)) (aC (gF lY mC rfl T.jU (by decide +kernel) (dg (aJ (pv 1)) eO)) aU)))) (fun _ _=>rfl)) (jl (bG zF (hr.mono (by decide)) rfl (aC (aO (pv 0)) aU)) (jl (bG zG (hr.mono (by decide)) rfl (aC (aO (pv 0)) aU)) qN))) rfl) (bC (jH (PW.pt (qL (fM Dw Dy (aq (bG cj (hr.mono (by decide)) rfl (aC (aO (pv 0)) (aC (aL aN) aU)))) (aq (aL aN)) (gW _)) (xQ (fM (Jq hr.units) JD (aJ (pv 7)) (aq (jC aU)) (gW _))))) (bC (dW (i:=11) tZ.nd rfl (cA rfl) (cH (cG hr.bH) cI (aJ (pv 7)) (aq (bG cj (hr.mono (by decide)) rfl (aC (aO (pv 0)) (aC (gF lY mC rfl T.jU (by decide +kernel) (dg (aJ (pv 7)) eO)) aU)))) (fun _ _=>rfl))) (bC (dW (i:=12) tZ.nd rfl (cA rfl) (kO (aC (gF (afX rfl) aiB rfl T.RG (by decide +kernel) (dg (aq (aL aN)) (dg (aq (bL Df Dl (aJ (pv 5)) (aq (bG cj (hr.mono (by decide)) rfl (aC (aO (pv 0)) (aC (aL aN) aU)))))) eO))) (aC (gF (HN rfl) Jf rfl T.yo (by decide +kernel) (dg (aq (aL aN)) (dg (aq (bL dR dU (aJ (pv 5)) (aq (bG cj (hr.mono (by decide)) rfl (aC (aO (pv 0)) (aC (aL aN) aU)))))) eO))) aU)))) (bZ (dW (i:=13) tZ.nd rfl (cA rfl) (gF (HN rfl) Jf rfl T.yo (by decide +kernel) (dg (aq (bL QD QV (aq (aL aN)) (aq (aL aN)))) (dg (aq (bL dR dU (aq (cH (cG hr.bH) cI (aJ (pv 4)) (aq (aL aN)) (fun _ _=>rfl))) (aq (bG cj (hr.mono (by decide)) rfl (aC (aO (pv 0)) (aC (aL aN) aU)))))) eO))))))) jD) (bZ (xU (pv 6) (bL dR dU (aq (bL dR dU (aq (kO (aC (aO (pv 8)) (aC (cH (cG hr.bH) cI (aJ (pv 2)) (aJ (pv 9)) (fun _ _=>rfl)) (aC (cH (cG hr.bH) cI (aJ (pv 2)) (aJ (pv 10)) (fun _ _=>rfl)) (aC (aO (pv 11)) aU)))))) (aJ (pv 12)))) (aq (kO (aC (aO (pv 13)) aU))))))))))) (bZ (sG (pv 6)))))
theorem aeQ{P:bf}{w:aY}{K:aG}{mg:Str→Option Value}{base:aV}{f:aa}{fd:dw}(F:fP K "_law_house_of" "_law_house_of" M4 f fd)(T:Txt K mg):di P w K mg base eV 1 f fd (["_law_parts","_law_leaves"]:List Str) (spT K BZ):=
 iI (body:=M8) F aeM fun cdv A outer s H E hr=>(bZ (gn (kO (aC (zN VJ Yk rfl T.xR (by decide +kernel) (dg (aq (agA rfl (aJ (pv 0)) rfl T.vG)) eO)) (aC (kO aU) (aC (zN VJ Yk rfl T.xR (by decide +kernel) (dg (aJ (pv 1)) eO)) (aC (kO aU) aU)))))))
theorem ahC{P:bf}{w:aY}{K:aG}{mg:Str→Option Value}{base:aV}{f:aa}{fd:dw}(F:fP K "_law_case" "_law_case" Qo f fd)(T:Txt K mg)(cj:cX P w K mg base "_law_pick" 2 (["_law_left","_law_many"]:List Str) (spT K bR))(zq:cX P w K mg base "_law_some_names" 3 (["_law_left","_law_many"]:List Str) (spT K zj))(zF:cX P w K mg base "_law_two_days" 3 (["_law_left"]:List Str) (spT K zB))(zG:cX P w K mg base "_law_some_sum" 3 (["_law_left"]:List Str) (spT K zE))(Mq:cX P w K mg base "_law_some_parts" 3 (["_law_left","_law_names"]:List Str) (spT K GR))(LC:cX P w K mg base "_law_some_leaves" 4 (["_law_left","_law_parts","_law_people","_law_many","_law_paper","_law_day"]:List Str) (spT K GD)):di P w K mg base eV 5 f fd (["_law_left","_law_most"]:List Str) (spT K Jj):=
 iI (body:=Qs) F uv fun cdv A outer s H E hr=>(bC (dW (i:=2) uv.nd rfl (cA rfl) (bG zq (hr.mono (by decide)) rfl (aC (aO (pv 0)) (aC (aL aN) aU)))) (bC (dW (i:=3) uv.nd rfl (cA rfl) (bG Mq (hr.mono (by decide)) rfl (aC (aO (pv 0)) (aC (kY (aJ (pv 2)) oV (jn (aq (bL dR dU (aq (aL aN)) (aq (bG cj (hr.mono (by decide)) rfl (aC (aO (pv 0)) (aC (aL aN) aU)))))))) aU)))) (bC (dW (i:=4) uv.nd rfl (cA rfl) (kY (aJ (pv 2)) (jn (aq (aL aN))) (jn (aq (bL dR dU (aq (bL dR dU (aq (aL aN)) (aq (aL aN)))) (aq (bG cj (hr.mono (by decide)) rfl (aC (aO (pv 0)) (aC (cH (cG hr.bH) cI (aq (jC (aC (aL aN) (aC (aL aN) (aC (aL aN) aU))))) (aq (bG cj (hr.mono (by decide)) rfl (aC (aO (pv 0)) (aC (aL aN) aU)))) (fun _ _=>rfl)) aU))))))))) (bC (dW (i:=5) uv.nd rfl (cA rfl) (bL dR dU (aJ (pv 4)) (aq (kY (aJ (pv 2)) (jn (aq (aL aN))) (jn (aq (aL aN))))))) (bC (dW (i:=6) uv.nd rfl (cA rfl) (kO (aC (cH (cG hr.bH) cI (aJ (pv 5)) (aq (bG cj (hr.mono (by decide)) rfl (aC (aO (pv 0)) (aC (gF lY mC rfl T.jU (by decide +kernel) (dg (aJ (pv 5)) eO)) aU)))) (fun _ _=>rfl)) (aC (cH (cG hr.bH) cI (aJ (pv 5)) (aq (bG cj (hr.mono (by decide)) rfl (aC (aO (pv 0)) (aC (gF lY mC rfl T.jU (by decide +kernel) (dg (aJ (pv 5)) eO)) aU)))) (fun _ _=>rfl)) aU)))) (bC (jH (fM Dw Dy (aq (bG cj (hr.mono (by decide)) rfl (aC (aO (pv 0)) (aC (aL aN) aU)))) (aq (aL aN)) (gW _)) (bZ (dW (i:=6) uv.nd rfl (cA rfl) (kO (aC (cH (cG hr.bH) cI (aJ (pv 2)) (aq (aL aN)) (fun _ _=>rfl)) (aC (cH (cG hr.bH) cI (aJ (pv 2)) (aq (bL dR dU (aq (aL aN)) (aq (bG cj (hr.mono (by decide)) rfl (aC (aO (pv 0)) (aC (aL aN) aU)))))) (fun _ _=>rfl)) aU))))) jD) (bC (dW (i:=7) uv.nd rfl (cA rfl) (cH (cG hr.bH) cI (aq (bL dR dU (aq (gF (Gz rfl) Iv rfl T.vG (by decide +kernel) (dg (aJ (pv 3)) eO))) (aq (kY (aJ (pv 2)) (jn (aq (aL aN))) (jn (aq (aL aN))))))) (aq (bG cj (hr.mono (by decide)) rfl (aC (aO (pv 0)) (aC (bL dR dU (aq (gF lY mC rfl T.jU (by decide +kernel) (dg (aJ (pv 3)) eO))) (aq (zN HQ Js rfl T.ym (by decide +kernel) (dg (aq (qJ (uA hr.units) uC (aq (bG cj (hr.mono (by decide)) rfl (aC (aO (pv 0)) (aC (aL aN) aU)))) (aq (aL aN)) (gW _))) eO)))) aU)))) (fun _ _=>rfl))) (bC (vO (i:=8) (j:=9) rfl uv.nd rfl rfl (by decide) rfl rfl (jl (bL dR dU (aq (kO (aC (aO (pv 7)) (aC (bG zG (hr.mono (by decide)) rfl (aC (aO (pv 0)) aU)) aU)))) (aJ (pv 6))) (jl (cH (cG hr.bH) cI (aq (bG zF (hr.mono (by decide)) rfl (aC (aO (pv 0)) aU))) (aq (bG cj (hr.mono (by decide)) rfl (aC (aO (pv 0)) (aC (aL aN) aU)))) (fun _ _=>rfl)) qN)) rfl) (bZ (gn (kO (aC (aO (pv 3)) (aC (aO (pv 4)) (aC (bG LC (hr.mono (by decide)) rfl (aC (aO (pv 0)) (aC (aO (pv 3)) (aC (aO (pv 4)) (aC (bG cj (hr.mono (by decide)) rfl (aC (aO (pv 0)) (aC (bL dR dU (aJ (pv 1)) (aq (aL aN))) aU))) (aC (aO (pv 8)) (aC (aO (pv 9)) aU))))))) (aC (aO (pv 8)) (aC (aO (pv 9)) aU))))))))))))))))
theorem ahD{P:bf}{w:aY}{K:aG}{mg:Str→Option Value}{base:aV}{f:aa}{fd:dw}(F:fP K "_law_lets" "_law_lets" Qp f fd)(T:Txt K mg)(zp:cX P w K mg base "_law_parts_over" 1 (["_law_parts","_law_part"]:List Str) (spT K zm)):di P w K mg base eV 2 f fd (["_law_parts","_law_paper","_law_day","_law_leave"]:List Str) (spT K Jk):=
 iI (body:=zW) F ahz fun cdv A outer s H E hr=>(bC (jH (PW.pt (Ag (fM (sO hr.bH) sW (aq (cH (cG hr.bH) cI (aJ (pv 3)) (aq (aL aN)) (fun _ _=>rfl))) (aq (kY (aJ (pv 1)) (jn (aq (aL aN))) oV)) (by with_unfolding_all rfl)) (Ag (fM (sO hr.bH) sW (aq (cH (cG hr.bH) cI (aJ (pv 3)) (aq (aL aN)) (fun _ _=>rfl))) (aq (kY (aJ (pv 1)) (jn (aq (aL aN))) oV)) (by with_unfolding_all rfl)) (Dp (fM (ug hr.bH) uo (aq (cH (cG hr.bH) cI (aJ (pv 3)) (aq (aL aN)) (fun _ _=>rfl))) (aq (bG zp (hr.mono (by decide)) rfl (aC (aO (pv 0)) (aC (cH (cG hr.bH) cI (aJ (pv 1)) (aq (aL aN)) (fun _ _=>rfl)) aU)))) (by with_unfolding_all rfl)))))) (bZ (gn (aL xY))) jD) (bZ (gn (z8 (ajQ z7 Af z7 Af (aq (cH (cG hr.bH) cI (aJ (pv 3)) (aq (aL aN)) (fun _ _=>rfl))) (aJ (pv 2)) (aq (cH (cG hr.bH) cI (aJ (pv 3)) (aq (aL aN)) (fun _ _=>rfl)))) (Dq (qJ z7 Af (aq (cH (cG hr.bH) cI (aJ (pv 1)) (aq (aL aN)) (fun _ _=>rfl))) (aq (cH (cG hr.bH) cI (aJ (pv 3)) (aq (aL aN)) (fun _ _=>rfl))) (gW _)))))))
theorem aeR{P:bf}{w:aY}{K:aG}{mg:Str→Option Value}{base:aV}{f:aa}{fd:dw}(F:fP K "_law_all_rows" "_law_all_rows" Hl f fd)(T:Txt K mg)(Qt:cX P w K mg base "_law_lets" 2 (["_law_parts","_law_paper","_law_day","_law_leave"]:List Str) (spT K Jk)):di P w K mg base eV 3 f fd (["_law_parts","_law_leaves","_law_paper","_law_holder","_law_day"]:List Str) (spT K Hs):=
 iI (body:=Hr) F BP fun cdv A outer s H E hr=>(bC (jH (fM (sO hr.bH) sW (aJ (pv 3)) (aq (kY (aJ (pv 2)) (jn (aq (aL aN))) oV)) (by with_unfolding_all rfl)) (bZ (gn Yb)) jD) (bC (vO (i:=5) (j:=6) rfl BP.nd rfl rfl (by decide) rfl rfl (jl (qU (T:=.one) (NT:=(["_law_leave"]:List Str)) (NF:=(["_law_parts","_law_paper","_law_day"]:List Str)) (js:=[0,2,4]) (nQ.ok (N0:=(["_law_parts","_law_leaves","_law_paper","_law_holder","_law_day","_law_steps","_law_best","_law_turn","_law_leave","_law_row","_law_old"]:List Str)) (lq:=cL Hl) (by decide +kernel) rfl rfl) (⟨_,⟨_,rfl⟩,rfl⟩) rfl (R8 (aJ (pv 1))) (fun b=>⟨(CP (oN (aq (bG Qt (hr.mono (by decide)) rfl (aC (aO (pv 1)) (aC (aO (pv 2)) (aC (aO (pv 3)) (aC (aO (pv 0)) aU)))))))),(aO (pv 0))⟩)) (jl (Yv (aJ (pv 3)) (jC aU)) qN)) rfl) (bC (pY mO rfl (ur rfl T.pU (aq (gF lY mC rfl T.jU (by decide +kernel) (dg (aJ (pv 5)) eO)))) (iW (i:=7) BP.nd rfl (cA rfl)) jR (bZ (pY mO rfl (Aq (aO (pv 5))) (iW (i:=8) BP.nd rfl (cA rfl)) jR (bZ (jH (fM (sO hr.bH) sW (aq (cH (cG hr.bH) cI (aJ (pv 8)) (aq (aL aN)) (fun _ _=>rfl))) (aJ (pv 6)) (by with_unfolding_all rfl)) (bC (vO (i:=9) (j:=10) rfl BP.nd rfl rfl (by decide) rfl rfl (jl (bL dR dU (aq (cH (cG hr.bH) cI (aJ (pv 6)) (aq (cH (cG hr.bH) cI (aJ (pv 8)) (aq (aL aN)) (fun _ _=>rfl))) (fun _ _=>rfl))) (aq (jC (aC (cH (cG hr.bH) cI (aJ (pv 8)) (aq (aL aN)) (fun _ _=>rfl)) aU)))) (jl (ajY hr.bH (aJ (pv 6)) (aq (cH (cG hr.bH) cI (aJ (pv 8)) (aq (aL aN)) (fun _ _=>rfl))) (aL zZ) ⟨rfl,rfl,rfl,rfl⟩) qN)) rfl) (bZ (jH (PW.pt (Ag (fM Z9 aam (aJ (pv 10)) (aq (aL zZ)) (gW _)) (Dp (fM (akd hr.bH) ake (aq (kO (aC (gF lY mC rfl T.jU (by decide +kernel) (dg (aJ (pv 9)) eO)) (aC (aO (pv 9)) aU)))) (aq (kO (aC (gF lY mC rfl T.jU (by decide +kernel) (dg (aJ (pv 10)) eO)) (aC (aO (pv 10)) aU)))) (gW _))))) (bZ (Ds hr.bH (pv 6) (aq (cH (cG hr.bH) cI (aJ (pv 8)) (aq (aL aN)) (fun _ _=>rfl))) (aO (pv 9)))) jD))) jD))))) (bZ (sG (pv 6))))))
theorem ad7{P:bf}{w:aY}{K:aG}{mg:Str→Option Value}{base:aV}{f:aa}{fd:dw}(F:fP K "_law_sides_right" "_law_sides_right" Bv f fd)(T:Txt K mg)(Iw:cX P w K mg base "row_of" 3 (["house","paper","holder","signer","day"]:List Str) (spT K Cw))(MF:cX P w K mg base "signers_of" 3 (["house","paper","holder","day"]:List Str) (spT K Hi))(cj:cX P w K mg base "_law_pick" 2 (["_law_left","_law_many"]:List Str) (spT K bR))(zX:cX P w K mg base "_law_same" 3 (["_law_found","_law_due"]:List Str) (spT K (mq 3)))(zq:cX P w K mg base "_law_some_names" 3 (["_law_left","_law_many"]:List Str) (spT K zj))(Ht:cX P w K mg base "_law_house_of" 1 (["_law_parts","_law_leaves"]:List Str) (spT K BZ))(Qu:cX P w K mg base "_law_case" 5 (["_law_left","_law_most"]:List Str) (spT K Jj))(Nb:cX P w K mg base "_law_all_rows" 3 (["_law_parts","_law_leaves","_law_paper","_law_holder","_law_day"]:List Str) (spT K Hs)):di P w K mg base eV 6 f fd (["_law_left"]:List Str) (spT K GF):=
 iI (body:=Lz) F lB fun cdv A outer s H E hr=>(bC (aaq (bG Qu (hr.mono (by decide)) rfl (aC (aO (pv 0)) (aC (aL aN) aU))) (Dc rfl (oG (iW (i:=1) lB.nd rfl (cA rfl)) (oG (iW (i:=2) lB.nd rfl (pW rfl)) (oG (iW (i:=3) lB.nd rfl (cA rfl)) (oG (iW (i:=4) lB.nd rfl (cA rfl)) (oG (iW (i:=5) lB.nd rfl (cA rfl)) Cy)))))) (QW (uq jR (uq jR (uq jR (uq jR (uq jR Qc))))))) (bC (dW (i:=6) lB.nd rfl (cA rfl) (kY (aq (qU (T:=.one) (NT:=(["_law_name"]:List Str)) (NF:=(["_law_people"]:List Str)) (js:=[2]) (nQ.ok (N0:=(["_law_left","_law_parts","_law_people","_law_leaves","_law_paper","_law_day","_law_strangers","_law_plain","_law_some","_law_both","_law_house","_law_without","_law_leave","_law_other","_law_holder","_law_due","_law_signer","_law_found","_law_row"]:List Str)) (lq:=cL Bv) (by decide +kernel) rfl rfl) (⟨_,⟨_,rfl⟩,rfl⟩) rfl (R8 (aq (bG zq (hr.mono (by decide)) rfl (aC (aO (pv 0)) (aC (aL aN) aU))))) (fun b=>⟨(CP (fM (ug hr.bH) uo (aJ (pv 0)) (aJ (pv 1)) (by with_unfolding_all rfl))),(aO (pv 0))⟩))) oV (jn (aq (aL aN))))) (bC (vO (i:=7) (j:=8) rfl lB.nd rfl rfl (by decide) rfl rfl (jl (bL dR dU (aq (kY (aJ (pv 4)) oV (jn (aq (aL aN))))) (aq (kO (aC (cH (cG hr.bH) cI (aJ (pv 6)) (aq (aL aN)) (fun _ _=>rfl)) (aC (cH (cG hr.bH) cI (aJ (pv 6)) (aq (aL aN)) (fun _ _=>rfl)) aU))))) (jl (bL dR dU (aJ (pv 2)) (aq (qU (T:=.one) (NT:=(["_law_leave"]:List Str)) (NF:=([]:List Str)) (js:=[]) (nQ.ok (N0:=(["_law_left","_law_parts","_law_people","_law_leaves","_law_paper","_law_day","_law_strangers","_law_plain","_law_some","_law_both","_law_house","_law_without","_law_leave","_law_other","_law_holder","_law_due","_law_signer","_law_found","_law_row"]:List Str)) (lq:=cL Bv) (by decide +kernel) rfl rfl) (⟨_,⟨_,rfl⟩,rfl⟩) rfl (R8 (aJ (pv 3))) (fun b=>⟨ux,(cH (cG hr.bH) cI (aJ (pv 0)) (aq (aL aN)) (fun _ _=>rfl))⟩)))) qN)) rfl) (bC (dW (i:=9) lB.nd rfl (cA rfl) (kO (aC (cH (cG hr.bH) cI (aJ (pv 8)) (aq (bG cj (hr.mono (by decide)) rfl (aC (aO (pv 0)) (aC (gF lY mC rfl T.jU (by decide +kernel) (dg (aJ (pv 8)) eO)) aU)))) (fun _ _=>rfl)) (aC (cH (cG hr.bH) cI (aJ (pv 8)) (aq (bG cj (hr.mono (by decide)) rfl (aC (aO (pv 0)) (aC (gF lY mC rfl T.jU (by decide +kernel) (dg (aJ (pv 8)) eO)) aU)))) (fun _ _=>rfl)) aU)))) (bC (vO (i:=10) (j:=11) rfl lB.nd rfl rfl (by decide) rfl rfl (jl (bG Ht (hr.mono (by decide)) rfl (aC (aO (pv 1)) (aC (aO (pv 3)) aU))) (jl (jC aU) qN)) rfl) (bC (pY mO rfl (Aq (aO (pv 3))) (iW (i:=12) lB.nd rfl (cA rfl)) jR (bZ (jH (PW.pt (qL (fM (ug hr.bH) uo (aq (cH (cG hr.bH) cI (aJ (pv 12)) (aq (aL aN)) (fun _ _=>rfl))) (aJ (pv 9)) (by with_unfolding_all rfl)) (xQ (fM (ug hr.bH) uo (aq (cH (cG hr.bH) cI (aJ (pv 12)) (aq (aL aN)) (fun _ _=>rfl))) (aJ (pv 9)) (by with_unfolding_all rfl))))) (bZ (xU (pv 11) (aO (pv 12)))) jD))) (bC (dW (i:=13) lB.nd rfl (cA rfl) (bG Ht (hr.mono (by decide)) rfl (aC (aO (pv 1)) (aC (aO (pv 11)) aU)))) (bC (pY mO rfl (Aq (kY (aJ (pv 2)) oV (jn (aq (aL aN))))) (iW (i:=14) lB.nd rfl (cA rfl)) jR (bC (dW (i:=15) lB.nd rfl (cA rfl) (bL aiJ aiK (aq (gF (Gz rfl) Iv rfl T.vG (by decide +kernel) (dg (aq (bG Nb (hr.mono (by decide)) rfl (aC (aO (pv 1)) (aC (aO (pv 11)) (aC (aO (pv 7)) (aC (aO (pv 14)) (aC (aO (pv 5)) aU))))))) eO))) (aq (zN HQ Js rfl T.ym (by decide +kernel) (dg (aq (qJ (ug hr.bH) uo (aJ (pv 14)) (aJ (pv 9)) (by with_unfolding_all rfl))) eO))))) (bC (jH (Dm (oN (aq (bG zX (hr.mono (by decide)) rfl (aC (bG MF (hr.mono (by decide)) rfl (aC (aO (pv 10)) (aC (bL dR dU (aq (kY (aJ (pv 4)) oV (jn (aq (aL aN))))) (aJ (pv 9))) (aC (aO (pv 14)) (aC (aO (pv 5)) aU))))) (aC (aO (pv 15)) aU)))))) (bZ (gn (aL xY))) jD) (bZ (pY mO rfl (Aq (kY (aJ (pv 2)) oV (jn (aq (aL aN))))) (iW (i:=16) lB.nd rfl (cA rfl)) jR (bC (vO (i:=17) (j:=18) rfl lB.nd rfl rfl (by decide) rfl rfl (jl (bG Iw (hr.mono (by decide)) rfl (aC (aO (pv 10)) (aC (bL dR dU (aq (kY (aJ (pv 4)) oV (jn (aq (aL aN))))) (aJ (pv 9))) (aC (aO (pv 14)) (aC (aO (pv 16)) (aC (aO (pv 5)) aU)))))) (jl (aL zZ) qN)) rfl) (bC (jH (PW.pt (qL (fM (ug hr.bH) uo (aJ (pv 14)) (aJ (pv 9)) (by with_unfolding_all rfl)) (xQ (fM (ug hr.bH) uo (aJ (pv 16)) (aJ (pv 9)) (by with_unfolding_all rfl))))) (bZ (dW (i:=18) lB.nd rfl (cA rfl) (bG Iw (hr.mono (by decide)) rfl (aC (aO (pv 13)) (aC (aO (pv 7)) (aC (aO (pv 14)) (aC (aO (pv 16)) (aC (aO (pv 5)) aU)))))))) jD) (bZ (jH (Dm (oN (aq (bG zX (hr.mono (by decide)) rfl (aC (aO (pv 17)) (aC (aO (pv 18)) aU)))))) (bZ (gn (aL xY))) jD))))))))) (bZ (gn (aL xY)))))))))))
theorem akf{P:bf}{w:aY}{K:aG}{mg:Str→Option Value}{base:aV}{f:aa}{fd:dw}(F:fP K "law" "law" RB f fd)(T:Txt K mg)(Mr:cX P w K mg base "_law_drawn_from" 1 (["_law_script","_law_k"]:List Str) (spT K GQ))(LK:cX P w K mg base "_law_sides_right" 6 (["_law_left"]:List Str) (spT K GF)):di P w K mg base eV 7 f fd (["_law_script"]:List Str) (spT K Al):=
 iI (body:=RK) F Ra fun cdv A outer s H E hr=>(bC (pY mO rfl (ur rfl T.pU (aq (bL dR dU (aq (aL aN)) (aq (gF (HN rfl) Jf rfl T.yo (by decide +kernel) (dg (aq (aL aN)) (dg (aq (Zy (pv 0) rfl T.jU (by decide +kernel))) eO))))))) (iW (i:=1) Ra.nd rfl (cA rfl)) jR (bC (ajT (i:=2) Ra.nd rfl (cA rfl) (bG Mr (hr.mono (by decide)) rfl (aC (aO (pv 0)) (aC (aO (pv 1)) aU)))) (bZ (jH (Dm (oN (aq (bG LK (hr.mono (by decide)) rfl (aC (aO (pv 2)) aU))))) (bZ (gn (aL xY))) jD)))) (bZ (gn (aL xY))))
local macro_rules|`(tactic|simp_arith[$ts,*])=>`(tactic|simp only[e_bin,e_dat,e_bv,e_and,e_or,e_not,e_if,e_ifv,fVar,fTst,fTru,truD,fCst,dat,still,fCal,fFun,aCons,aNil,bCons,bNil,oCons,fSet,fSeq,fRet,fRetV,fNext,fNeg,fLst,fTup,allIm,iB,iV,iB2,iV2,itD,itD2,fLC,frB,fPar,setM,fUnp,gTp,gsCons,gsNil,gNm,LIM,add_int,sub_int,le_int,lt_int,ge_int,gt_int,eq_int,eq_strs,ne_strs,in_strs,ix_t,ix_l,a_t0,a_t1,a_t2,a_t3,a_t4,a_t5,a_t6,rst_same,r_ow,r_bool,r_int,r_str,r_tl,Option.bind_some,Option.map_some,List.getElem?_cons_zero,List.getElem?_cons_succ,List.set_cons_zero,List.set_cons_succ,List.map_cons,List.map_nil,List.length_cons,List.length_nil,Bool.not_true,Bool.not_false,if_true,if_false,ite_self,Bool.false_eq_true,Option.join,id_eq,Nat.reduceAdd,Nat.reduceLeDiff,Nat.reduceLT,and_true,true_and,and_self,String.reduceBEq,Bool.or_false,Bool.or_true,Bool.false_or,Bool.true_or,Bool.and_true,Bool.and_false,Bool.true_and,Bool.false_and,decide_true,decide_false,reduceCtorEq,eq_bool,ne_bool,ne_int,len_l,len_t,beq_self_eq_true,List.length_map,h_ix0,h_ix1,h_ix2,h_ix3,k_ix0,k_ix1,k_ix2,k_ix3,k_ix4,k_ix5,noLs_strs,noLs_ints,imO,putO,intD,strD,cond_true,cond_false,$ts,*])
theorem aaC{C:Ce}{c k:Int}(k0:0≤k)(k1:k≤1000000):∃r:Int,Dv [.im (.int c),.im (.int k)] C=some (.im (.int r),C)∧0≤r:=by
 obtain⟨m,hm⟩:∃m,(c%2147483629+k*k*7919+11)*48271%2147483647=m:=⟨_,rfl⟩
 have m0:0≤m:=by rw[←hm];exact mL _ (by decide)
 have m1:m<2147483647:=by rw[←hm];exact rO _ (by decide)
 refine⟨m*m%1999999973,gh [some (.im (.int c)),some (.im (.int k)),none] rfl rfl ?_ rfl rfl,mL _ (by decide)⟩
 simp_arith[Rb,mod_eq (i:=c) (j:=2147483629) (by decide),mul_eq (i:=k) (j:=k) (.inl (by omega)),mul_eq (i:=k*k) (j:=7919) (.inr (by decide)),mul_eq (i:=c%2147483629+k*k*7919+11) (j:=48271) (.inr (by decide)),mod_eq (i:=(c%2147483629+k*k*7919+11)*48271) (j:=2147483647) (by decide),hm,mul_eq (i:=m) (j:=m) (.inl (by omega)),mod_eq (i:=m*m) (j:=1999999973) (by decide)]
theorem dD{C:Ce}{b L k:Nat}{m:Int}(h:Bl L C b (k+1))(h0:0<m)(h1:m<1073741824):
  ∃t C',bR [.ce b,.im (.int m)] C=some (.im (.int t),C')∧0≤t∧t<m∧Bl L C' b k:=by
 obtain⟨hL,x,y,z,hc,hx,hz,hz2⟩:=h
 have i0:m9 3 0=some 0:=rfl;have i2:m9 3 2=some 2:=rfl;have c2:(C.set b [x,y,z+1])[b]?=some [x,y,z+1]:=aay hc;by_cases hp:0<x
 ·refine⟨x%m,(C.set b [x,y,z+1]).set b [x / m,y,z+1],gh [some (.ce b),some (.im (.int m)),none] rfl rfl ?_ rfl (by simp),mL _ (by omega),rO _ h0,⟨by simpa using hL,x / m,y,z+1,aay c2,ad8 hx (by omega),by omega,by omega⟩⟩
  simp_arith[Ji,rA,hc,c2,hp,mod_eq h0,fdiv_eq h0 h1,oZ,qT,i0,i2]
 ·obtain⟨r1,e1,p1⟩:=aaC (C:=C.set b [x,y,z+1]) (c:=y) (k:=z+1) (by omega) (by omega)
  obtain⟨r2,e2,p2⟩:=aaC (C:=C.set b [x,y,z+1]) (c:=r1) (k:=z+1+64) (by omega) (by omega)
  refine⟨r2 / 64%m,C.set b [x,y,z+1],gh [some (.ce b),some (.im (.int m)),none] rfl rfl ?_ rfl (by simp),mL _ (by omega),rO _ h0,⟨by simpa using hL,x,y,z+1,c2,hx,by omega,by omega⟩⟩
  simp_arith[Ji,rA,hc,c2,hp,oZ,qT,i0,i2,e1,e2,fdiv_eq (j:=64) (by omega) (by omega),mod_eq h0]
theorem ahE{C:Ce}{ns:List Int}{k:Int}(k0:0≤k)(k9:k≤100):∃x y:Int,GQ [.sc ns,.im (.int k)] C=some (.ow (.list [.int x,.int y,.int 0]),C)∧0≤x:=by
 obtain⟨c,hc⟩:∃c:Int,yw (fTst (aH uN (az 1) (ao (vX 0)))) (Ej 0 (az 1)) (fCst (.int 0)) [some (.sc ns),some (.im (.int k)),none] C=some (.im (.int c),[some (.sc ns),some (.im (.int k)),none],C):=by
  by_cases h:k<ns.length
  ·obtain⟨c,hc,_⟩:=aaz (xs:=ns) k0 h
   exact⟨c,by simp_arith[vX,Ej,h,hc]⟩
  ·exact⟨0,by simp_arith[vX,h]⟩
 have a0:0≤(if c<0 then -c else c):=by split<;>omega
 obtain⟨a,hA⟩:∃a,(if c<0 then -c else c)=a:=⟨_,rfl⟩
 rw[hA] at a0;have pw:vW (.int 10) (.int 18)=some (.im (.int 1000000000000000000)):=rfl
 obtain⟨j,x,hj,hx,x0⟩:∃(j x:Int),(if decide (1000000000000000000≤a)=true then(1:Int) else 0)=j∧fB [pM 0,.int a] j=some (.int x)∧0≤x:=by
  by_cases h:1000000000000000000≤a
  ·exact⟨1,a,by rw[if_pos (decide_eq_true h)],rfl,a0⟩
  ·exact⟨0,0,by rw[if_neg (by simpa using h)],rfl,zA _⟩
 refine⟨x,c+1000003*k,gh [some (.sc ns),some (.im (.int k)),none] rfl rfl ?_ rfl rfl,x0⟩
 simp_arith[Ml,↓hc,DN,hA,pw,sZ,hj,hx,mul_eq (i:=1000003) (j:=k) (.inl (by decide))]
theorem aiX{fe:FE}(he:fe=aH bw (az 1) (ao (fCal bR (aCons (fVar 2) (aCons (fCst (.int 26)) aNil))))){C:Ce}{b L j:Nat}{size:Int}(h:Bl L C b (j+3))(h0:0≤size)(h1:size≤3):
  ∃(cs:List Nat)(C':Ce),jx .one fY fe [some (.im (.str abc)),some (.ce b)] (iu 0 size.toNat) C=some ((cs.map fun c=>.str ⟨#[c]⟩),C')∧cs.length=size.toNat∧(∀c∈cs,97≤c∧c≤122)∧Bl L C' b j:=by
 subst he;refine hide fun GG gg=>?_
 obtain⟨ys,C',e,hB,hl,hr⟩:=Xl (T:=.one) (fe:=aH bw (az 1) (ao (fCal bR (aCons (fVar 2) (aCons (fCst (.int 26)) aNil))))) (fs:=[some (.im (.str abc)),some (.ce b)]) (fun i C1=>Bl L C1 b (j+(3-i))) (fun _ y=>∃c:Nat,y=.str ⟨#[c]⟩∧97≤c∧c≤122) (its:=iu 0 size.toNat) (C:=C) (k:=0) h (fun i d C1 hd hB=>by
  obtain⟨rfl,hi⟩:=CT hd
  rw[G4] at hB⊢;rw[aj9 j (by omega:i<3)] at hB
  obtain⟨k1,C2,e1,a1,b1,jd⟩:=dD (m:=26) hB (by decide) (by decide)
  refine⟨_,.im (.str ⟨#[97+k1.toNat]⟩),[some (.im (.int (0+i))),some (.im (.str abc)),some (.ce b)],C2,.str ⟨#[97+k1.toNat]⟩,rfl,?_,rfl,⟨_,rfl,by omega,by omega⟩,jd⟩
  simp_arith[dz,jO,iT,e1,bw,letters k1 a1 b1])
 rw[Io] at hB hl
 obtain⟨cs,rfl,hcs⟩:∃cs:List Nat,ys=cs.map (fun c=>.str ⟨#[c]⟩)∧∀c∈cs,97≤c∧c≤122:=by
  clear e hl hB gg;induction ys with
  |nil=>exact⟨[],rfl,fun _ m=>(nomatch m)⟩
  |cons y ys ih=>
   obtain⟨c,rfl,c1,c2⟩:=hr 0 y rfl
   obtain⟨cs,rfl,h2⟩:=ih fun i z hz=>hr (i+1) z (by simpa using hz)
   exact⟨c::cs,rfl,fun x hx=>by
    rcases bU.mp hx with rfl|hx
    ·exact⟨c1,c2⟩
    ·exact h2 x hx⟩
 exact gg ⟨cs,C',e,by simpa using hl,hcs,hB.mono (Ld _ _)⟩
theorem ZR{cs:List Nat}(h:cs.length≤100):∃z:Str,Jt (.str (fJ "")) (.list (cs.map fun c=>.str ⟨#[c]⟩))=some (.im (.str z))∧z.cps.toList=cs∧z.length=cs.length:=by
 refine⟨Txt.join (fJ "") (cs.map fun c=>⟨#[c]⟩),?_,WT cs,?_⟩
 ·simp only[Jt,Wd];refine if_pos ?_;rw[dB,ZD,agw,Nat.mul_zero];unfold LIM;omega
 ·have:=congrArg pI (WT cs);rw[←this];show _=(Txt.join (fJ "") (cs.map fun c=>⟨#[c]⟩)).cps.toList.length;simp;rfl
theorem Qv(n:Nat):iu 0 n=(dJ n).map fun(i:Nat)=>pM (i:Int):=by
 unfold iu;refine wW fun i _=>?_
 rw[aeS]
theorem agE{C:Ce}(f:Int):jx .one fY Gu [some (.im (.str abc)),some (.im (.int f))] (iu 0 8) C=some ((lN f).map (fun c=>.str ⟨#[c]⟩),C):=by
 rw[Qv];have:=qz (T:=.one) (ft:=fY) (fe:=Gu) (fs:=[some (.im (.str abc)),some (.im (.int f))]) (C:=C) (fun(i:Nat)=>pM (i:Int)) (fun _=>true) (fun(k:Nat)=>.str ⟨#[97+((f+5*(k:Int))%26).toNat]⟩) (l:=dJ 8) fun k _=>by
  have a1:0≤(f+5*(k:Int))%26:=mL _ (by decide);have a2:(f+5*(k:Int))%26<26:=rO _ (by decide)
  refine⟨[.int (k:Int)],rfl,rfl,fun _=>⟨.im (.str ⟨#[97+((f+5*(k:Int))%26).toNat]⟩),[some (.im (.int (k:Int))),some (.im (.str abc)),some (.im (.int f))],?_,rfl⟩⟩
  simp_arith[dz,jO,iT,mul_eq (i:=5) (j:=(k:Int)) (.inl (by decide)),mod_eq (i:=f+5*(k:Int)) (j:=26) (by decide),bw,letters _ a1 a2]
 rw[Gg.mpr fun _ _=>rfl] at this;unfold lN;rw[dB];exact this
theorem ahF{C:Ce}{f s:Int}(s0:0<s)(s1:s≤675)(n:Nat):jx .one fY Gs [some (.im (.str abc)),some (.im (.int f)),some (.im (.int s))] (iu 0 n) C=some (((dJ n).map (n1 f s)).map .str,C):=by
 rw[Qv];have:=qz (T:=.one) (ft:=fY) (fe:=Gs) (fs:=[some (.im (.str abc)),some (.im (.int f)),some (.im (.int s))]) (C:=C) (fun(i:Nat)=>pM (i:Int)) (fun _=>true) (fun(k:Nat)=>.str (n1 f s k)) (l:=dJ n) fun k _=>by
  have a1:0≤(f+s*(k:Int))%26:=mL _ (by decide);have a2:(f+s*(k:Int))%26<26:=rO _ (by decide)
  refine⟨[.int (k:Int)],rfl,rfl,fun _=>⟨.im (.str (n1 f s k)),[some (.im (.int (k:Int))),some (.im (.str abc)),some (.im (.int f)),some (.im (.int s))],?_,rfl⟩⟩
  simp_arith[dz,jO,iT,mul_eq (i:=s) (j:=(k:Int)) (.inl (by omega)),mod_eq (i:=f+s*(k:Int)) (j:=26) (by decide),bw,letters _ a1 a2];rfl
 rw[Gg.mpr fun _ _=>rfl] at this;rw[dB];exact this
theorem ahG{C:Ce}{z:Str}(hz:z.length≤8)(n:Nat):jx .one fY K9 [some (.im (.str z)),some (.im (.int (1+(n:Int))))] (iu 0 (8-n)) C=some ((sb z n).map .str,C):=by
 rw[Qv];have hl:(z.length≤1000000)=True:=eq_true (by omega);have:=qz (T:=.one) (ft:=fY) (fe:=K9) (fs:=[some (.im (.str z)),some (.im (.int (1+(n:Int))))]) (C:=C) (fun(i:Nat)=>pM (i:Int)) (fun _=>true) (fun(k:Nat)=>.str (sl z (n+1) k)) (l:=dJ (8-n)) fun k _=>by
  refine⟨[.int (k:Int)],rfl,rfl,fun _=>⟨.im (.str (sl z (n+1) k)),[some (.im (.int (k:Int))),some (.im (.str z)),some (.im (.int (1+(n:Int))))],?_,rfl⟩⟩
  have e:(k:Int)+(1+(n:Int))=(k:Int)+((n+1:Nat):Int):=by omega
  simp_arith[dz,jO,iT,dj,cQ,jc,hl,e];rfl
 rw[Gg.mpr fun _ _=>rfl] at this;unfold sb;rw[dB];exact this
theorem RL{x y:Str}(h:x.length+y.length≤1000000):bN (.str x) (.str y)=some (.im (.str (x++y))):=if_pos h
abbrev fH(b:Nat)(m:Int)(hd tl:Str)(f s:Int)(v7 v8 v9 v10 v11 bQ:Option Vl):En:=
 [some (.ce b),some (.im (.int m)),some (.im (.str abc)),some (.im (.str hd)),some (.im (.str tl)),some (.im (.int f)),some (.im (.int s)),v7,v8,v9,v10,v11,bQ]
theorem akW{C:Ce}{b:Nat}{m f s k q:Int}{hd tl:Str}{v7 v8 v9 v11 bQ:Option Vl}(k0:0≤k)(k1:k<40)(hq:(k*k+f)%4=q):aH jG (ao (aH bN (ao (aH iZ (az 10) (az 10))) (az 5))) (ao (fCst (.int 4))) (fH b m hd tl f s v7 v8 v9 (some (.im (.int k))) v11 bQ) C=some (.im (.int q),fH b m hd tl f s v7 v8 v9 (some (.im (.int k))) v11 bQ,C):=by
 have m1:iZ (.int k) (.int k)=some (.im (.int (k*k))):=mul_eq (.inl (by omega));generalize k*k=kk at m1 hq;have m2:jG (.int (kk+f)) (.int 4)=some (.im (.int ((kk+f)%4))):=mod_eq (by omega);rw[hq] at m2;simp_arith[fH,m1,m2]
theorem akX{C:Ce}{b:Nat}{m f s k q:Int}{hd tl cut:Str}{v7 v8 v9 v11 bQ:Option Vl}(k0:0≤k)(k1:k<40)(hq:(k*k+f)%4=q)(ht:tl.length≤3)(hc:Txt.slice tl none (some q)=cut):dj (az 4) fD (cQ (ao (aH jG (ao (aH bN (ao (aH iZ (az 10) (az 10))) (az 5))) (ao (fCst (.int 4)))))) (fH b m hd tl f s v7 v8 v9 (some (.im (.int k))) v11 bQ) C=some (.im (.str cut),fH b m hd tl f s v7 v8 v9 (some (.im (.int k))) v11 bQ,C):=by
 have e:=akW (C:=C) (b:=b) (m:=m) (s:=s) (hd:=hd) (tl:=tl) (v7:=v7) (v8:=v8) (v9:=v9) (v11:=v11) (bQ:=bQ) k0 k1 hq;have q1:(tl.length≤1000000)=True:=eq_true (by omega);simp only[fH] at e⊢;simp_arith[dj,fD,cQ,↓e,jc,q1,hc]
theorem akg{C:Ce}{b:Nat}{m f s k q v:Int}{hd tl cut tw ht nm:Str}{acc:List aj}{v7 v9:Option Vl}(k0:0≤k)(k1:k<40)(hq:(k*k+f)%4=q)(hl:tl.length≤3)(hc:Txt.slice tl none (some q)=cut)(t2:bN (.str hd) (.str tw)=some (.im (.str ht)))(t3:bN (.str ht) (.str cut)=some (.im (.str nm)))(la:(acc.length<1000000)=True):
  kE 8 (aH bN (ao (aH bN (az 3) (az 12))) (ao (dj (az 4) fD (cQ (ao (aH jG (ao (aH bN (ao (aH iZ (az 10) (az 10))) (az 5))) (ao (fCst (.int 4))))))))) (fH b m hd tl f s v7 (some (.ow (.list acc))) v9 (some (.im (.int k))) (some (.im (.int v))) (some (.im (.str tw)))) C=some (.nx,fH b m hd tl f s v7 (some (.ow (.list (acc++[.str nm])))) v9 (some (.im (.int k))) (some (.im (.int v))) (some (.im (.str tw))),C):=by
 have e:=akX (C:=C) (b:=b) (m:=m) (s:=s) (hd:=hd) (tl:=tl) (v7:=v7) (v8:=some (.ow (.list acc))) (v9:=v9) (v11:=some (.im (.int v))) (bQ:=some (.im (.str tw))) k0 k1 hq hl hc;simp only[fH] at e⊢;simp_arith[kE,nM,t2,↓e,t3,la]
theorem akh{C:Ce}{b:Nat}{m f s:Int}{hd tl z:Str}{i:Nat}{v10 v11 bQ:Option Vl}(hz:z.length=8)(hi:i<8):
  yW (fH b m hd tl f s (some (.im (.str z))) (some (.ow (.list ((subs z i).map .str)))) (some (.im (.int (1+(i:Int))))) v10 v11 bQ) C=some (.nx,fH b m hd tl f s (some (.im (.str z))) (some (.ow (.list ((subs z (i+1)).map .str)))) (some (.im (.int (1+(i:Int))))) v10 v11 bQ,C):=by
 have e:=ahG (C:=C) (z:=z) (by omega) i;have e1:(9-(1+(i:Int))).toNat=8-i:=by omega
 have l1:(sb z i).length≤8:=by unfold sb;rw[aW,lA];omega
 have l2:(subs z i).length≤64:=by
  unfold subs sb;rw[ac8];have:∀n,n≤8→((dJ n).map fun a=>((dJ (8-a)).map (sl z (a+1))).length).sum≤8*n:=by
   intro n;induction n with
   |zero=>intro _;exact bO _
   |succ n ih=>
    intro h;rw[Vp,gR,List.sum_append];have:=ih (by omega);simp only[cg,lD,aeo,List.sum_nil,aW,lA] at this⊢;omega
  have:=this i (by omega);omega
 have q1:((sb z i).length≤1000000)=True:=eq_true (by omega);have q2:((subs z i).length+(sb z i).length≤1000000)=True:=eq_true (by omega);have es:subs z (i+1)=subs z i++sb z i:=by
  unfold subs;rw[Vp,List.flatMap_append,List.flatMap_singleton]
 rw[es,gR];simp_arith[yW,fH,JW,nM,iz,wC (m:=9-(1+(i:Int))) (by omega) (by omega),e1,e,q1,q2]
theorem aki{C:Ce}{b:Nat}{m f s:Int}{hd tl:Str}{i:Nat}{v7 v9 v11 bQ:Option Vl}(f0:0≤f)(f1:f<676)(s0:0<s)(s1:s≤675)(hi:i<40)(hh:hd.length≤3)(ht:tl.length≤3):
  ∃w11 w12,yV (fH b m hd tl f s v7 (some (.ow (.list (((dJ i).map (n2 hd tl f s fun k=>((k:Int)*k+f)%4)).map .str)))) v9 (some (.im (.int (i:Int)))) v11 bQ) C
   =some (.nx,fH b m hd tl f s v7 (some (.ow (.list (((dJ (i+1)).map (n2 hd tl f s fun k=>((k:Int)*k+f)%4)).map .str)))) v9 (some (.im (.int (i:Int)))) w11 w12,C):=by
 obtain⟨v,hv⟩:∃v,v2 f s i=v:=⟨_,rfl⟩
 have hv':(f+s*(i:Int))%676=v:=hv;have v0:0≤v:=by rw[←hv];exact mL _ (by decide)
 have v1:v<676:=by rw[←hv];exact rO _ (by decide)
 have a1:0≤v / 26:=ad8 v0 (by decide);have a2:v / 26<26:=by omega
 have a3:0≤v%26:=mL _ (by decide);have a4:v%26<26:=rO _ (by decide);have t1:bN (.str ⟨#[97+(v / 26).toNat]⟩) (.str ⟨#[97+(v%26).toNat]⟩)=some (.im (.str (two v))):=RL (by show 1+1≤1000000;omega);have lt:(two v).length=2:=by
  show((#[97+(v / 26).toNat]:Array Nat)++#[97+(v%26).toNat]).size=2
  rw[UT];rfl
 have t2:bN (.str hd) (.str (two v))=some (.im (.str (hd++two v))):=RL (by rw[lt];omega);have l3:=PyProof.Txt.length_slice_le tl none (some (((i:Int)*i+f)%4));have l4:(hd++two v).length=hd.length+2:=by
  show(hd.cps++(two v).cps).size=hd.cps.size+2
  rw[UT,show(two v).cps.size=2 from lt]
 have t3:bN (.str (hd++two v)) (.str (Txt.slice tl none (some (((i:Int)*i+f)%4))))=some (.im (.str (n2 hd tl f s (fun k=>((k:Int)*k+f)%4) i))):=by
  unfold n2;rw[hv];exact RL (by rw[l4];omega)
 have q1:(tl.length≤1000000)=True:=eq_true (by omega);have q2:(i<1000000)=True:=eq_true (by omega)
 obtain⟨acc,hacc⟩:∃acc,acc=((dJ i).map (n2 hd tl f s fun k=>((k:Int)*k+f)%4)).map cF:=⟨_,rfl⟩
 have la:(acc.length<1000000)=True:=eq_true (by rw[hacc,aW,aW,lA];omega);have hn:((dJ (i+1)).map (n2 hd tl f s fun k=>((k:Int)*k+f)%4)).map cF=acc++[.str (n2 hd tl f s (fun k=>((k:Int)*k+f)%4) i)]:=by
  rw[Vp,gR,gR,hacc];rfl
 rw[hn,←hacc];clear hn hacc;generalize n2 hd tl f s (fun k=>((k:Int)*k+f)%4) i=nm at t3⊢
 obtain⟨cut,Sq⟩:∃c,Txt.slice tl none (some (((i:Int)*i+f)%4))=c:=⟨_,rfl⟩
 rw[Sq] at t3;have s1:fSet 11 (aH jG (ao (aH bN (az 5) (ao (aH iZ (az 6) (az 10))))) (ao (fCst (.int 676)))) (fH b m hd tl f s v7 (some (.ow (.list acc))) v9 (some (.im (.int (i:Int)))) v11 bQ) C=some (.nx,fH b m hd tl f s v7 (some (.ow (.list acc))) v9 (some (.im (.int (i:Int)))) (some (.im (.int v))) bQ,C):=by
  simp_arith[fH,mul_eq (i:=s) (j:=(i:Int)) (.inl (by omega)),mod_eq (i:=f+s*(i:Int)) (j:=676) (by omega),hv']
 have s2:fSet 12 (aH bN (ao (aH bw (az 2) (ao (aH vN (az 11) (ao (fCst (.int 26))))))) (ao (aH bw (az 2) (ao (aH jG (az 11) (ao (fCst (.int 26)))))))) (fH b m hd tl f s v7 (some (.ow (.list acc))) v9 (some (.im (.int (i:Int)))) (some (.im (.int v))) bQ) C=some (.nx,fH b m hd tl f s v7 (some (.ow (.list acc))) v9 (some (.im (.int (i:Int)))) (some (.im (.int v))) (some (.im (.str (two v)))),C):=by
  simp_arith[fH,fdiv_eq (i:=v) (j:=26) (by omega) (by omega),mod_eq (i:=v) (j:=26) (by omega),bw,letters _ a1 a2,letters _ a3 a4,t1]
 obtain⟨q,hq⟩:∃q,((i:Int)*(i:Int)+f)%4=q:=⟨_,rfl⟩
 rw[hq] at Sq;have s3:=akg (C:=C) (b:=b) (m:=m) (s:=s) (v:=v) (v7:=v7) (v9:=v9) (by omega) (by omega) hq ht Sq t2 t3 la
 refine⟨some (.im (.int v)),some (.im (.str (two v))),?_⟩
 unfold yV;simp only[fSeq,s1,s2,s3]
theorem ZS{fe:FE}(he:fe=aH bw (az 1) (ao (fCal bR (aCons (fVar 2) (aCons (fCst (.int 26)) aNil))))){C:Ce}{b L j:Nat}{v1 v3 v4 v5 v6 v7 v8 v9 v10 v11 bQ:Option Vl}(h:Bl L C b (j+4)):
  ∃(z:Str)(C':Ce),qW (ao (fCst (.str (fJ "")))) (ao (fLC (iz (ao (fCal bR (aCons (fVar 0) (aCons (fCst (.int 4)) aNil))))) .one fY fe [2,0])) [some (.ce b),v1,some (.im (.str abc)),v3,v4,v5,v6,v7,v8,v9,v10,v11,bQ] C=some (.im (.str z),[some (.ce b),v1,some (.im (.str abc)),v3,v4,v5,v6,v7,v8,v9,v10,v11,bQ],C')∧z.length≤3∧(∀c∈z.cps.toList,97≤c∧c≤122)∧Bl L C' b j:=by
 refine hide fun GG gg=>?_
 obtain⟨k1,C1,e1,a1,b1,jd⟩:=dD (m:=4) h (by decide) (by decide)
 obtain⟨cs,C2,e2,l2,hc,hB2⟩:=aiX he (j:=j) (size:=k1) jd a1 (by omega)
 obtain⟨z,e3,e4,e5⟩:=ZR (cs:=cs) (by omega)
 have g5:(k1.toNat≤1000000)=True:=eq_true (by omega);refine gg ⟨z,C2,?_,by omega,by rw[e4];exact hc,hB2⟩;simp_arith[qW,iz,e1,wC (m:=k1) (by omega) (by omega),e2,l2,g5,Nq,e3]
theorem akj{C:Ce}{b L j:Nat}{m:Int}(R:FS)(h:Bl L C b (j+10)):
  ∃(hd tl:Str)(f s:Int)(C':Ce),(fSeq (fSet 2 (fCst (.str (fJ "abcdefghijklmnopqrstuvwxyz")))) (fSeq (fSet 3 (qW (ao (fCst (.str (fJ "")))) (ao (fLC (iz (ao (fCal bR (aCons (fVar 0) (aCons (fCst (.int 4)) aNil))))) .one fY Lb [2,0])))) (fSeq (fSet 4 (qW (ao (fCst (.str (fJ "")))) (ao (fLC (iz (ao (fCal bR (aCons (fVar 0) (aCons (fCst (.int 4)) aNil))))) .one fY La [2,0])))) (fSeq (fPar [5,6] (oCons (fCal bR (aCons (fVar 0) (aCons (fCst (.int 676)) aNil))) (oCons (aH bw (ao (fLst (aCons (fCst (.int 1)) (aCons (fCst (.int 3)) (aCons (fCst (.int 5)) (aCons (fCst (.int 7)) (aCons (fCst (.int 25)) (aCons (fCst (.int 675)) aNil)))))))) (ao (fCal bR (aCons (fVar 0) (aCons (fCst (.int 6)) aNil))))) aNil))) R)))) [some (.ce b),some (.im (.int m)),none,none,none,none,none,none,none,none,none,none,none] C
   =R (fH b m hd tl f s none none none none none none) C'∧hd.length≤3∧tl.length≤3∧(∀c∈hd.cps.toList,97≤c∧c≤122)∧(∀c∈tl.cps.toList,97≤c∧c≤122)∧0≤f∧f<676∧Eb s∧Bl L C' b j:=by
 refine hide fun GG gg=>?_
 obtain⟨hd,C1,e1,l1,c1,jd⟩:=ZS (fe:=Lb) rfl (j:=j+6) (v1:=some (.im (.int m))) (v3:=none) (v4:=none) (v5:=none) (v6:=none) (v7:=none) (v8:=none) (v9:=none) (v10:=none) (v11:=none) (bQ:=none) h
 obtain⟨tl,C2,e2,l2,c2,hB2⟩:=ZS (fe:=La) rfl (j:=j+2) (v1:=some (.im (.int m))) (v3:=some (.im (.str hd))) (v4:=none) (v5:=none) (v6:=none) (v7:=none) (v8:=none) (v9:=none) (v10:=none) (v11:=none) (bQ:=none) jd
 obtain⟨f,C3,e3,f0,f1,hB3⟩:=dD (m:=676) hB2 (by decide) (by decide)
 obtain⟨k,C4,e4,k0,k1,pC⟩:=dD (m:=6) hB3 (by decide) (by decide)
 obtain⟨s,e5,hs⟩:=step_at k0 k1
 refine gg ⟨hd,tl,f,s,C4,?_,l1,l2,c1,c2,f0,f1,hs,pC⟩;simp_arith[↓e1,↓e2,e3,e4,e5]
section
variable{C:Ce}{b:Nat}{m f s:Int}{hd tl:Str}
theorem aly{v10 v11 bQ:Option Vl}(z:Str)(hz:z.length=8)(v9:Option Vl):∃w9,iH (gNm 9) yW (iu 1 8) (fH b m hd tl f s (some (.im (.str z))) (some (.ow (.list []))) v9 v10 v11 bQ) C=some (.nx,fH b m hd tl f s (some (.im (.str z))) (some (.ow (.list ((subs z 8).map .str)))) w9 v10 v11 bQ,C):=by
 obtain⟨env',C',e,w9,he,hC⟩:=zK (g:=gNm 9) (body:=yW) (its:=iu 1 8) (env:=fH b m hd tl f s (some (.im (.str z))) (some (.ow (.list []))) v9 v10 v11 bQ) (C:=C)
  (fun i env C1=>∃w9,env=fH b m hd tl f s (some (.im (.str z))) (some (.ow (.list ((subs z i).map .str)))) w9 v10 v11 bQ∧C1=C) ⟨v9,rfl,rfl⟩ (fun i d env C1 hd hI=>by
   obtain⟨w9,rfl,rfl⟩:=hI
   obtain⟨rfl,hi⟩:=CT hd
   exact⟨_,.nx,_,C1,rfl,akh hz hi,.inl rfl,_,rfl,rfl⟩)
 rw[Io] at he;subst he;subst hC
 exact⟨w9,e⟩
theorem alz{v7 v9 v11 bQ:Option Vl}{n:Nat}(hn:n≤30)(f0:0≤f)(f1:f<676)(hs:Eb s)(hh:hd.length≤3)(ht:tl.length≤3)(v10:Option Vl):
  ∃w10 w11 w12,iH (gNm 10) yV (iu 0 n) (fH b m hd tl f s v7 (some (.ow (.list []))) v9 v10 v11 bQ) C=some (.nx,fH b m hd tl f s v7 (some (.ow (.list (((dJ n).map (n2 hd tl f s fun k=>((k:Int)*k+f)%4)).map .str)))) v9 w10 w11 w12,C):=by
 obtain⟨env',C',e,w10,w11,w12,he,hC⟩:=zK (g:=gNm 10) (body:=yV) (its:=iu 0 n) (env:=fH b m hd tl f s v7 (some (.ow (.list []))) v9 v10 v11 bQ) (C:=C)
  (fun i env C1=>∃w10 w11 w12,env=fH b m hd tl f s v7 (some (.ow (.list (((dJ i).map (n2 hd tl f s fun k=>((k:Int)*k+f)%4)).map .str)))) v9 w10 w11 w12∧C1=C) ⟨v10,v11,bQ,rfl,rfl⟩ (fun i d env C1 hd' hI=>by
   obtain⟨w10,w11,w12,rfl,rfl⟩:=hI
   obtain⟨rfl,hi⟩:=CT hd'
   rw[aeS]
   obtain⟨u11,u12,e⟩:=aki (C:=C1) (b:=b) (m:=m) (v7:=v7) (v9:=v9) (v11:=w11) (bQ:=w12) (i:=i) f0 f1 hs.1.1 hs.1.2 (by omega) hh ht
   exact⟨_,.nx,_,C1,rfl,e,.inl rfl,_,u11,u12,rfl,rfl⟩)
 rw[Io] at he;subst he;subst hC
 exact⟨w10,w11,w12,e⟩
end
theorem Jy{zs:List Str}{m:Int}(m0:0≤m)(m1:m≤zs.length):iJ (zs.map cF) none (some m)=(zs.take m.toNat).map .str:=by
 obtain⟨k,rfl⟩:∃k:Nat,m=(k:Int):=⟨m.toNat,by omega⟩
 unfold iJ;rw[aW,HT.Px,show HT.bT zs.length 0 none=0 from rfl,List.drop_zero,Nat.sub_zero,V4,Bg,Vq (by omega)]
theorem YF{C:Ce}{b L j:Nat}{m:Int}(h:Bl L C b (j+12))(m0:0≤m)(m1:m≤30):
  ∃(zs:List Str)(C':Ce),zj [.ce b,.im (.int m)] C=some (.ow (.list (zs.map .str)),C')∧Names zs∧zs.length=m.toNat∧Bl L C' b j:=by
 refine hide fun GG gg=>?_
 obtain⟨R,hR⟩:∃R:FS,R=fSeq (gK (fTst (aH lU (ao (fCal bR (aCons (fVar 0) (aCons (fCst (.int 4)) aNil)))) (ao (fCst (.int 0))))) (fSeq (fPar [7,8] (oCons (qW (ao (fCst (.str (fJ "")))) (ao (fLC (iz (ao (fCst (.int 8)))) .one fY Gu [2,5]))) (oCons (fLst aNil) aNil))) (fSeq (gw (Em (ao (fCst (.int 1))) (ao (fCst (.int 9)))) (gNm 9) yW) (fRet (dj (az 8) fD (cQ (az 1)))))) fNext) (fSeq (gK (kW (fTst (aH uN (az 1) (ao (fCst (.int 27))))) (fTst (aH lU (ao (fCal bR (aCons (fVar 0) (aCons (fCst (.int 3)) aNil)))) (ao (fCst (.int 0)))))) (fRet (fLC (iz (az 1)) .one fY Gs [2,5,6])) fNext) (fSeq (fSet 8 (fLst aNil)) (fSeq (gw (iz (az 1)) (gNm 10) yV) (fRetV 8)))):=⟨_,rfl⟩
 obtain⟨hd,tl,f,s,C1,e1,l1,l2,c1,c2,f0,f1,hs,jd⟩:=akj (m:=m) (j:=j+2) R h
 rw[hR] at e1
 obtain⟨k,C2,e2,a2,b2,hB2⟩:=dD (m:=4) jd (by decide) (by decide)
 by_cases hk:k=0
 ·subst hk
  obtain⟨z,e3,e4,e5⟩:=ZR (cs:=lN f) (by simp[lN])
  have hz:z.length=8:=by rw[e5];simp[lN]
  have st:=agE (C:=C2) f
  obtain⟨w9,e6⟩:=aly (C:=C2) (b:=b) (m:=m) (f:=f) (s:=s) (hd:=hd) (tl:=tl) (v10:=none) (v11:=none) (bQ:=none) z hz none
  have ct:=Jy (zs:=subs z 8) m0 (by rw[YB];omega);have nm:=afF e4;have q:((lN f).length≤1000000)=True:=eq_true (by simp[lN]);refine gg ⟨(subs z 8).take m.toNat,C2,gh [some (.ce b),some (.im (.int m)),none,none,none,none,none,none,none,none,none,none,none] rfl rfl ?_ rfl (h.eq hB2),⟨nm.1.sublist (Gn _ _),fun x hx=>nm.2 x (vd hx)⟩,by rw[n6,YB];omega,hB2.mono (by omega)⟩;unfold BK;rw[e1];have i8:Int.toNat 8=8:=rfl;have i9:Int.toNat (9-1)=8:=rfl;have rg2:(-(2^62)≤(1:Int)∧(1:Int)<2^62∧-(2^62)≤(9:Int)∧(9:Int)<2^62)=True:=eq_true (by decide);simp only[fH] at e6;simp_arith[fH,e2,qW,iz,wC (m:=(8:Int)) (by decide) (by decide),i8,st,q,Nq,e3,Em,rg2,i9,gw,e6,dj,fD,cQ,jc,ct]
 ·have hk':(k==0)=false:=beq_eq_false_iff_ne.mpr hk;have fin:∀C3,Bl L C3 b j→kW (fTst (aH uN (az 1) (ao (fCst (.int 27))))) (fTst (aH lU (ao (fCal bR (aCons (fVar 0) (aCons (fCst (.int 3)) aNil)))) (ao (fCst (.int 0))))) (fH b m hd tl f s none none none none none none) C2=some (false,C3)→GG:=fun C3 hB3 ht=>by
   obtain⟨w10,w11,w12,e7⟩:=alz (C:=C3) (b:=b) (m:=m) (v7:=none) (v9:=none) (v11:=none) (bQ:=none) (n:=m.toNat) (by omega) f0 f1 hs l1 l2 none
   refine gg ⟨_,C3,gh [some (.ce b),some (.im (.int m)),none,none,none,none,none,none,none,none,none,none,none] rfl rfl ?_ rfl (h.eq hB3),ahv (f:=f) (q:=fun k=>((k:Int)*k+f)%4) (n:=m.toNat) hs (by omega) l1 l2 c1 c2,by rw[aW,lA],hB3⟩;unfold BK;rw[e1];simp only[fH] at e7 ht;simp_arith[fH,e2,hk',↓ht,gw,iz,wC (m:=m) (by omega) (by omega),e7]
  by_cases Tw:m<27
  ·obtain⟨k6,C3,e3,a3,b3,hB3⟩:=dD (m:=3) hB2 (by decide) (by decide)
   by_cases hk6:k6=0
   ·subst hk6;have lc:=ahF (C:=C3) (f:=f) (s:=s) hs.1.1 hs.1.2 m.toNat;have q:(m.toNat≤1000000)=True:=eq_true (by omega);refine gg ⟨_,C3,gh [some (.ce b),some (.im (.int m)),none,none,none,none,none,none,none,none,none,none,none] rfl rfl ?_ rfl (h.eq hB3),ahu (f:=f) (n:=m.toNat) hs (by omega),by rw[aW,lA],hB3⟩;unfold BK;rw[e1];simp_arith[fH,e2,hk',Tw,e3,iz,wC (m:=m) (by omega) (by omega),lc,lA,q]
   ·have alA:(k6==0)=false:=beq_eq_false_iff_ne.mpr hk6;exact fin C3 hB3 (by simp_arith[fH,Tw,e3,alA])
  ·exact fin C2 hB2.dec (by simp_arith[fH,Tw])
theorem agF{C:Ce}{b L j:Nat}{zs:List Str}(h:Bl L C b (j+16))(h8:zs.length≤8)(hz:Names zs):
  ∃(ps:List (Str×Str))(C':Ce),GR [.ce b,.im (.list (zs.map .str))] C=some (.ow (.dict (aP (bz ps))),C')∧gJ zs ps∧ps.length=zs.length∧Bl L C' b j:=by
 refine hide fun GG gg=>?_
 obtain⟨env',C',e,ps,v3,v4,he,hl,hP,hB⟩:=zK (g:=gTp 2 (gsCons (gNm 3) (gsCons (gNm 4) gsNil))) (body:=Bq) (its:=yj (zs.map .str)) (env:=[some (.ce b),some (.im (.list (zs.map .str))),some (.ow (.dict [])),none,none]) (C:=C)
  (fun i env C2=>∃(ps:List (Str×Str))(v3 v4:Option Vl),env=[some (.ce b),some (.im (.list (zs.map .str))),some (.ow (.dict (aP (bz ps)))),v3,v4]∧ps.length=i∧gJ zs ps∧Bl L C2 b (j+2*(8-i)))
  ⟨[],none,none,rfl,rfl,(fun i x e=>by simp at e),h⟩ (fun i d env C2 hd hI=>by
   obtain⟨ps,v3,v4,rfl,hl,hP,hB⟩:=hI
   obtain⟨x,hx,rfl⟩:=Yw hd
   obtain⟨z,hz1,rfl⟩:=aj8 hx
   refine hide fun GG gg=>?_
   have hi:i<zs.length:=(je.mp hz1).1;rw[Ry j 2 (by omega:i<8)] at hB
   obtain⟨k1,C3,e1,a1,b1,jd⟩:=dD (m:=4) hB (by decide) (by decide)
   have ct:=Jy (zs:=zs) (m:=(i:Int)) (by omega) (by omega);rw[Bg] at ct;have ad:bN (.list [.str (fJ "")]) (.list ((zs.take i).map .str))=some (.ow (.list (cF (fJ "")::(zs.take i).map .str))):=add_l (xs:=[.str (fJ "")]) (by rw[aW,n6];show 1+_≤_;omega);have g:((aP (bz ps)).length<1000000)=True:=eq_true (by unfold aP bz;rw[aW,aW];omega);have fin:∀(t:Int)(C4:Ce),0≤t→t≤i→Bl L C4 b (j+2*(8-(i+1)))→(∀y:Str,fB (cF (fJ "")::(zs.take i).map .str) t=some (.str y)→putD (aP (bz ps)) (.str z) (.str y)=some (aP (bz (ps++[(z,y)])))→
     Bq [some (.ce b),some (.im (.list (zs.map .str))),some (.ow (.dict (aP (bz ps)))),some (.im (.int (i:Int))),some (.im (.str z))] C2=some (.nx,[some (.ce b),some (.im (.list (zs.map .str))),some (.ow (.dict (aP (bz (ps++[(z,y)]))))),some (.im (.int (i:Int))),some (.im (.str z))],C4))→GG:=fun t C4 t0 t1 hB2 run=>by
    obtain⟨y,my,hy1,iy⟩:=pO (zs:=fJ ""::zs.take i) (k:=t) t0 (by rw[cO,n6];omega)
    have hy2:y=fJ ""∨∃j,j<ps.length∧zs[j]?=some y:=by
     rcases bU.mp my with rfl|my
     ·exact .inl rfl
     ·obtain⟨jj,hj,e⟩:=vg my
      rw[n6] at hj;refine .inr ⟨jj,by omega,?_⟩;rw[adw] at e;rw[←e];exact jt (by omega)
    have pu:putD (aP (bz ps)) (.str z) (.str y)=some (aP (bz (ps++[(z,y)]))):=by
     rw[O9 (l:=bz ps) (z:=z) (d:=.str y)]
     ·unfold bz;rw[gR];rfl
     ·unfold bz;rw[dB];intro hm
      obtain⟨q,hq,e⟩:=fK.mp hm
      obtain⟨jj,hj,rfl⟩:=vg hq
      have g1:=(hP jj ps[jj] (jt hj)).1;have e:ps[jj].1=z:=e;rw[e] at g1
      obtain⟨x1,y1⟩:=je.mp g1
      obtain⟨x2,y2⟩:=je.mp hz1
      exact FZ.mp hz.1 jj i x1 x2 (by omega) (y1.trans y2.symm)
    rw[cg] at iy;exact gg ⟨_,.nx,_,C4,rfl,run y iy pu,.inl rfl,ps++[(z,y)],_,_,rfl,by simp[hl],hP.snoc (by rw[hl];exact hz1) hy2,hB2⟩
   by_cases hk:0<k1
   ·obtain⟨t,C4,e3,t0,t1,hB2⟩:=dD (m:=(i:Int)+1) jd (by omega) (by omega)
    exact fin t C4 t0 (by omega) hB2 fun y iy pu=>by simp_arith[Bq,dj,fD,cQ,jc,ct,ad,e1,hk,e3,iy,oZ,qT,pu,g]
   ·exact fin 0 C3 (by omega) (by omega) jd.dec fun y iy pu=>by simp_arith[Bq,dj,fD,cQ,jc,ct,ad,e1,hk,iy,oZ,qT,pu,g])
 rw[Xp,aW] at hl hB;subst he;refine gg ⟨ps,C',gh [some (.ce b),some (.im (.list (zs.map .str))),none,none,none] rfl rfl ?_ rfl (h.eq hB),hP,hl,hB.mono (Ld _ _)⟩;simp_arith[Mm,Dr,gw,Kh,e]
theorem ahH{C:Ce}{ps:List (Str×Str)}:∀{z:Str}{os:List Str},Over (gY ps) z os→∀(n:Nat)(acc:List Str),os.length<n→acc.length+os.length<1000→
  ∃z',jT Vb Vc n [some (.im (.dict (aP (bz ps)))),some (.im (.str z)),some (.ow (.list (acc.map .str)))] C=some (.nx,[some (.im (.dict (aP (bz ps)))),some (.im (.str z')),some (.ow (.list ((acc++os).map .str)))],C):=by
 have hin:∀z,jo (.str z) (.dict (aP (bz ps)))=some (.im (.bool (gY ps z).isSome)):=fun z=>by
  show((mX (aP (bz ps)) (.str z)).map (·.isSome)).map (fun b=>Vl.im (.bool b))=_
  rw[Ir];cases gY ps z<;>rfl
 intro z os ho;induction ho with
 |@stop z h=>
  intro n acc hn ha;cases n with
  |zero=>exact absurd hn (yZ _)
  |succ n=>
   refine⟨z,?_⟩
   unfold jT;simp_arith[hin,h,Uw,ju]
 |@step z y r h _ ih=>
  intro n acc hn ha;cases n with
  |zero=>exact absurd hn (yZ _)
  |succ n=>
   rw[cO] at hn ha
   obtain⟨z',e⟩:=ih n (acc++[z]) (by omega) (by rw[fU];show acc.length+1+_<_;omega)
   refine⟨z',?_⟩
   have g:(acc.length<1000000)=True:=eq_true (by omega);have i:bw (.dict (aP (bz ps))) (.str z)=some (.im (.str y)):=by
    unfold bw tR;simp only[Ir,h,j6]
   simp only[gR,cg,lD,kI,jO,iT] at e⊢;unfold jT;simp_arith[hin,h,Be,g,kE,nM,i,e]
theorem YG{C:Ce}{zs:List Str}{ps:List (Str×Str)}(hN:Names zs)(hP:gJ zs ps)(h8:ps.length≤8)(z:Str):
  zm [.im (.dict (aP (bz ps))),.im (.str z)] C=some (.ow (.list ((up ps z).map .str)),C):=by
 have hul:=Q4 ps z
 obtain⟨z',e⟩:=ahH (C:=C) (Qj hN hP z) DK [] (by show _<100000;omega) (by show 0+_<1000;omega)
 rw[lD,iT] at e;refine gh [some (.im (.dict (aP (bz ps)))),some (.im (.str z)),none] rfl rfl ?_ rfl rfl;simp_arith[Mp,uY,e]
theorem agG{C:Ce}{b L j:Nat}{m:Int}(h:Bl L C b (j+101))(h0:0≤m)(h1:m≤50):
  ∃(ns:List Int)(C':Ce),HX [.ce b,.im (.int m)] C=some (.ow (.list (ns.map .int)),C')∧ns.length=m.toNat∧(∀x∈ns,0≤x∧x≤2000)∧ns.Pairwise (·<·)∧Bl L C' b j:=by
 refine hide fun GG gg=>?_
 obtain⟨k0,C0,e0,a0,b0,hB0⟩:=dD (m:=3) (k:=j+100) h (by decide) (by decide)
 obtain⟨env',C',e,ns,nx,v4,he,hl,hr,hp,hx0,hx1,hB⟩:=zK (g:=gNm 4) (body:=Mx) (its:=iu 0 m.toNat) (env:=[some (.ce b),some (.im (.int m)),some (.ow (.list [])),some (.im (.int k0)),none]) (C:=C0)
  (fun i env C1=>∃(ns:List Int)(nx:Int)(v4:Option Vl),env=[some (.ce b),some (.im (.int m)),some (.ow (.list (ns.map .int))),some (.im (.int nx)),v4]∧ns.length=i∧(∀x∈ns,0≤x∧x<nx)∧ns.Pairwise (·<·)∧0≤nx∧nx≤2+3*i∧Bl L C1 b (j+2*(50-i)))
  ⟨[],k0,none,rfl,rfl,(fun _ m=>nomatch m),yQ,a0,by omega,hB0⟩ (fun i d env C1 hd hI=>by
   obtain⟨ns,nx,v4,rfl,hl,hr,hp,hx0,hx1,hB⟩:=hI
   obtain⟨rfl,hi⟩:=CT hd
   refine hide fun GG gg=>?_
   rw[Ry j 2 (by omega:i<50)] at hB
   obtain⟨k1,C2,e1,a1,b1,jd⟩:=dD (m:=2) hB (by decide) (by decide)
   obtain⟨k2,C3,e2,a2,b2,hB2⟩:=dD (m:=3) jd (by decide) (by decide)
   obtain⟨y,hy,y0,y2⟩:∃y,k1*k2=y∧0≤y∧y≤2:=by
    have hk:k1=0∨k1=1:=by omega
    rcases hk with rfl|rfl
    ·exact⟨0,by rw[Int.zero_mul],by decide,by decide⟩
    ·exact⟨k2,by rw[Int.one_mul],a2,by omega⟩
   have lm:(ns.length<1000000)=True:=eq_true (by omega);refine gg ⟨_,.nx,[some (.ce b),some (.im (.int m)),some (.ow (.list ((ns++[nx]).map .int))),some (.im (.int (nx+1+y))),some (.im (.int (0+i)))],C3,rfl,?_,.inl rfl,ns++[nx],nx+1+y,_,rfl,by simp[hl],fun x hx=>?_,?_,by omega,by omega,hB2⟩
   ·simp_arith[Mx,e1,e2,mul_eq (i:=k1) (j:=k2) (.inl (by omega)),hy,kE,nM,lm,gR]
   ·rcases cR.mp hx with hx|hx
    ·have:=hr x hx;omega
    ·rw[jf.mp hx];omega
   ·rw[Uq]
    refine⟨hp,by simp,fun x hx z hz=>?_⟩
    rw[jf.mp hz]
    exact(hr x hx).2)
 rw[Io] at hl hx1 hB;subst he;refine gg ⟨ns,C',gh [some (.ce b),some (.im (.int m)),none,none,none] rfl rfl ?_ rfl (h.eq hB),hl,fun x hx=>?_,hp,hB.mono (Ld _ _)⟩
 ·simp_arith[Oe,e0,gw,iz,wC (m:=m) (by omega) (by omega),e]
 ·have:=hr x hx;omega
theorem YH{C:Ce}:∀(l q:List (Str×Str)),((q++l).map (·.1)).Nodup→(q++l).length≤8→vY (.many 2) fY Lh Li [] (l.map tG) (aP (bz q)) C=some (aP (bz (q++l)),C)
 |[],q,_,_=>by rw[ju];rfl
 |x::l,q,nd,h8=>by
  have ih:=YH (C:=C) l (q++[x]) (by rw[kI];exact nd) (by rw[kI];exact h8);have hx:x.1∉(bz q).map (·.1):=by
   unfold bz;rw[dB];show x.1∉q.map (·.1);rw[gR,j5] at nd;exact fun hm=>nd.2.2 _ hm _ dG rfl
  have hl:(aP (bz q)).length<LIM:=by
   unfold aP bz;rw[fU] at h8;rw[aW,aW];show _<1000000;omega
  rw[cg];unfold vY;rw[show uZ (.many 2) (tG x)=some [.str x.1,.str x.2] from rfl]
  show(if(aP (bz q)).length<LIM then vY (.many 2) fY Lh Li [] (l.map tG) (m7 cV (.inr x.1) (.str x.1) (.str x.2) (aP (bz q))) C else none)=_
  rw[if_pos hl,Yt hx];have e:bz q++[(x.1,.str x.2)]=bz (q++[x]):=by unfold bz;rw[gR];rfl
  rw[e,ih,kI];rfl
theorem aiY{C:Ce}{hs:Option Vl}{q ps:List (Str×Str)}(hl:∀z,gY q z=gY ps z):∀{z:Str}{os:List Str},Over (gY ps) z os→∀(n:Nat)(acc:List Str),os.length<n→acc.length+os.length<1000→
  ∃z',jT Vj Vk n [hs,some (.im (.str z)),some (.ow (.dict (aP (bz q)))),some (.ow (.list (acc.map .str)))] C=some (.nx,[hs,some (.im (.str z')),some (.ow (.dict (aP (bz q)))),some (.ow (.list ((acc++os).map .str)))],C):=by
 have hin:∀z,jo (.str z) (.dict (aP (bz q)))=some (.im (.bool (gY ps z).isSome)):=fun z=>by
  show((mX (aP (bz q)) (.str z)).map (·.isSome)).map (fun b=>Vl.im (.bool b))=_
  rw[Ir,hl];cases gY ps z<;>rfl
 intro z os ho;induction ho with
 |@stop z h=>
  intro n acc hn ha;cases n with
  |zero=>exact absurd hn (yZ _)
  |succ n=>
   refine⟨z,?_⟩
   unfold jT;simp_arith[hin,h,Uw,ju]
 |@step z y r h _ ih=>
  intro n acc hn ha;cases n with
  |zero=>exact absurd hn (yZ _)
  |succ n=>
   rw[cO] at hn ha
   obtain⟨z',e⟩:=ih n (acc++[z]) (by omega) (by rw[fU];show acc.length+1+_<_;omega)
   refine⟨z',?_⟩
   have g:(acc.length<1000000)=True:=eq_true (by omega);have i:bw (.dict (aP (bz q))) (.str z)=some (.im (.str y)):=by
    unfold bw tR;simp only[Ir,hl,h,j6]
   simp only[gR,cg,lD,kI,jO,iT] at e⊢;unfold jT;simp_arith[hin,h,Be,g,kE,nM,i,e]
theorem aeu{C:Ce}{zs:List Str}{ps:List (Str×Str)}{ht:jE}(hN:Names zs)(hP:gJ zs ps)(hG:nF zs ps ht)(z:Str):
  Hf [.im (gq ht),.im (.str z)] C=some (.ow (.list ((up ps z).map .str)),C):=by
 have nd:=BX hN hP;have nd':(ht.ps.map (·.1)).Nodup:=(hG.parts.map (·.1)).nodup_iff.mpr nd;have hL:ht.ps.length≤8:=by rw[hG.parts.length_eq];exact hG.p8
 have t:=YH (C:=C) ht.ps [] nd' hL;rw[show aP (bz [])=[] from rfl,iT] at t;have hul:=Q4 ps z;have h8:=hG.p8
 obtain⟨z',e⟩:=aiY (C:=C) (hs:=some (.im (gq ht))) (afD hG.parts nd) (Qj hN hP z) DK [] (by show _<100000;omega) (by show 0+_<1000;omega)
 rw[lD,iT] at e;refine gh [some (.im (gq ht)),some (.im (.str z)),none,none] rfl rfl ?_ rfl rfl;simp_arith[Mt,Fj,t,Yu,uY,e]
theorem CW{C:Ce}{z a1 b1 p:Str}{n:Int}:rZ [.im (.tuple [.str z,.int n,.str a1,.str b1]),.im (.str p)] C=some (.im (.bool (decide (p=a1∨p=b1))),C):=by
 have ct:iJ [cF z,.int n,.str a1,.str b1] (some 2) (some 4)=[.str a1,.str b1]:=rfl;have i1:jo (.str p) (.tuple [.str a1,.str b1])=some (.im (.bool (decide (p=a1∨p=b1)))):=by
  have:inB (.str p) (.tuple [.str a1,.str b1])=some (inD (.str p) ([a1,b1].map .str)):=if_pos (c:=(jF (.str p)&&[cF a1,.str b1].all jF)=true) (e:=none) rfl;unfold jo;rw[this,Ip];simp
 refine gh [some (.im (.tuple [.str z,.int n,.str a1,.str b1])),some (.im (.str p))] rfl rfl ?_ rfl rfl;simp_arith[Oc,dj,cQ,jc,ct,i1]
def mG(os:List Str)(n day:Int)(a1 b1:Str)(r:cB):Bool:=decide (r.2.2.2.1∈os)&&((decide (r.2.2.2.2.1≤day)&&decide (day≤r.2.2.2.2.2.1))&&(decide (n≤r.2.2.2.2.2.2)&&(!decide (r.2.1=a1∨r.2.1=b1)&&!decide (r.2.2.1=a1∨r.2.2.1=b1))))
def Av(r:cB):aj:=.tuple [.int r.1,.str r.2.1,.str r.2.2.1]
abbrev cW(z a1 b1:Str)(n:Int):aj:=.tuple [.str z,.int n,.str a1,.str b1]
theorem aiZ{C:Ce}{zs:List Str}{ps:List (Str×Str)}{ht:jE}(hN:Names zs)(hP:gJ zs ps)(hG:nF zs ps ht)(z a1 b1:Str)(n day:Int):
  xJ [.im (gq ht),.im (cW z a1 b1 n),.im (.int day)] C=some (.ow (.list ((ht.leaves.filter (mG (up ps z) n day a1 b1)).map Av)),C):=by
 have p:=aeu (C:=C) hN hP hG z;have h16:=hG.jZ
 obtain⟨l,lE⟩:∃l,l=ht.leaves.filter (mG (up ps z) n day a1 b1):=⟨_,rfl⟩
 have ll:l.length≤16:=by rw[lE];exact jP (yO _ _) h16
 have t:jx (.many 7) Mu Mv [some (.im (.list ((up ps z).map .str))),some (.im (.int day)),some (.im (cW z a1 b1 n))] (ht.leaves.map bI) C=some (l.map Av,C):=by
  rw[lE];refine qz (T:=.many 7) (ft:=Mu) (fe:=Mv) (fs:=[some (.im (.list ((up ps z).map .str))),some (.im (.int day)),some (.im (cW z a1 b1 n))]) (C:=C) bI (mG (up ps z) n day a1 b1) Av (l:=ht.leaves) fun r _=>?_
  refine⟨[.int r.1,.str r.2.1,.str r.2.2.1,.str r.2.2.2.1,.int r.2.2.2.2.1,.int r.2.2.2.2.2.1,.int r.2.2.2.2.2.2],rfl,?_,fun _=>⟨.im (Av r),[some (.im (.int r.1)),some (.im (.str r.2.1)),some (.im (.str r.2.2.1)),some (.im (.str r.2.2.2.1)),some (.im (.int r.2.2.2.2.1)),some (.im (.int r.2.2.2.2.2.1)),some (.im (.int r.2.2.2.2.2.2)),some (.im (.list ((up ps z).map .str))),some (.im (.int day)),some (.im (cW z a1 b1 n))],by simp_arith[dz,jO,iT];rfl,rfl⟩⟩
  have c:=aa4 oY oY (az 4) (az 8) (az 5) (env:=[some (.im (.int r.1)),some (.im (.str r.2.1)),some (.im (.str r.2.2.1)),some (.im (.str r.2.2.2.1)),some (.im (.int r.2.2.2.2.1)),some (.im (.int r.2.2.2.2.2.1)),some (.im (.int r.2.2.2.2.2.2)),some (.im (.list ((up ps z).map .str))),some (.im (.int day)),some (.im (cW z a1 b1 n))]) (C:=C) (a:=decide (r.2.2.2.2.1≤day)) (b:=decide (day≤r.2.2.2.2.2.1)) rfl rfl rfl rfl rfl;have s1:=CW (C:=C) (z:=z) (a1:=a1) (b1:=b1) (n:=n) (p:=r.2.1);have s2:=CW (C:=C) (z:=z) (a1:=a1) (b1:=b1) (n:=n) (p:=r.2.2.1);simp_arith[dz,jO,iT,c,s1,s2];unfold mG;cases decide (r.2.2.2.1∈up ps z)<;>cases decide (r.2.2.2.2.1≤day)<;>cases decide (day≤r.2.2.2.2.2.1)<;>cases decide (n≤r.2.2.2.2.2.2)<;>cases decide (r.2.1=a1∨r.2.1=b1)<;>rfl
 have q:(l.length≤1000000)=True:=eq_true (by omega);have nl:eZ (l.map Av)=true:=by
  clear t lE ll q;induction l with
  |nil=>rfl
  |cons r l ih=>show(true&&eZ (l.map Av))=true;rw[ih];rfl
 refine gh [some (.im (gq ht)),some (.im (cW z a1 b1 n)),some (.im (.int day)),none] rfl rfl ?_ rfl rfl;simp_arith[Od,p,t,q,nl];rw[lE]
theorem Ac(p a1 b1:Str):jo (.str p) (.tuple [.str a1,.str b1])=some (.im (.bool (decide (p=a1∨p=b1)))):=by
 have:inB (.str p) (.tuple [.str a1,.str b1])=some (inD (.str p) ([a1,b1].map .str)):=if_pos (c:=(jF (.str p)&&[cF a1,.str b1].all jF)=true) (e:=none) rfl;unfold jo;rw[this,Ip];simp
theorem Nu(o:Str)(zs:List Str):mj (.str o) (.list (zs.map .str))=some (.im (.bool (!decide (o∈zs)))):=by
 have:inB (.str o) (.list (zs.map .str))=some (inD (.str o) (zs.map .str)):=if_pos (by rw[N7];rfl);unfold mj;rw[this,Ip,j6]
theorem YJ:∀ps:List (Str×Str),Eo (aP (bz ps))=some (ps.map fun p=>(.inr p.1,.inr p.2))
 |[]=>rfl
 |p::ps=>by
  show((some (ji p.1):Option Key).bind fun k=>(some (ji p.2):Option Key).bind fun v=>(Eo (aP (bz ps))).map fun t=>(k,v)::t)=_
  rw[YJ ps];rfl
theorem ae8(ps:List (Str×Str))(h0:0<ps.length)(h8:ps.length≤8):∃ps':List (Str×Str),ps'.Perm ps∧Q5 (aP (bz ps))=some (ps'.map tG):=by
 have em:(aP (bz ps)).map (fun p=>vC [p.1,p.2])=ps.map tG:=by
  unfold aP bz;rw[dB,dB];rfl
 obtain⟨ps',p1,p2⟩:=aeI (ags (ds:=ps.map tG) fun d hd=>by obtain⟨p,_,rfl⟩:=fK.mp hd;rfl)
 refine⟨ps',p1,?_⟩
 unfold Q5;rw[YJ,em];cases ps with
 |nil=>cases h0
 |cons p r=>
  rw[gQ,cg,List.head?_cons,gQ,if_pos,p2]
  refine⟨by rw[cO,aW];rw[cO] at h8;omega,fun q hq=>?_⟩
  rw[←cg (f:=fun p:Str×Str=>((ji p.1,ji p.2):Key×Key))] at hq
  obtain⟨x,_,rfl⟩:=fK.mp hq
  exact⟨rfl,rfl⟩
theorem Wq{C:Ce}{ps:List (Str×Str)}(h0:0<ps.length)(h8:ps.length≤8)(lv:List cB):∃ps':List (Str×Str),ps'.Perm ps∧BZ [.im (.dict (aP (bz ps))),.im (.list (lv.map bI))] C=some (.im (gq ⟨ps',[],lv,[]⟩),C):=by
 obtain⟨ps',p1,e⟩:=ae8 ps h0 h8
 refine⟨ps',p1,gh [some (.im (.dict (aP (bz ps)))),some (.im (.list (lv.map bI)))] rfl rfl ?_ rfl rfl⟩
 simp_arith[M8,Ql,Rz,e,CQ];rfl
theorem same_none{C:Ce}(n:Nat):mq (n+1) [.im .none,.im .none] C=some (.im (.bool true),C):=
 DY (k:=2) (n:=2) (en:=[some (.im .none),some (.im .none)]) (e1:=[some (.im .none),some (.im .none)]) rfl rfl rfl rfl rfl
theorem same_int{C:Ce}(n:Nat)(x:Int):mq (n+1) [.im (.int x),.im (.int x)] C=some (.im (.bool true),C):=by
 refine DY (k:=2) (n:=2) (en:=[some (.im (.int x)),some (.im (.int x))]) (e1:=[some (.im (.int x)),some (.im (.int x))]) rfl rfl ?_ rfl rfl;simp_arith[zV,lV,yh,uQ,uD,isNone,oU,Dz]
theorem same_ints{C:Ce}(n:Nat)(xs:List Int)(hl:xs.length≤1000):mq (n+2) [.im (.list (xs.map .int)),.im (.list (xs.map .int))] C=some (.im (.bool true),C):=by
 have t:jx (.many 2) fY (Nt (mq (n+1))) [] (mF (xs.map .int) (xs.map .int)) C=some (cP xs.length (.bool true),C):=by
  clear hl;induction xs with
  |nil=>rfl
  |cons x xs ih=>
   rw[cg,mF];unfold jx;rw[cO,rN];simp_arith[uZ,fY,dz,ju,same_int n x,ih]
 have b:=W0 xs.length;have h1:(xs.length≤1000000)=True:=eq_true (by omega);refine DY (k:=2) (n:=2) (en:=[some (.im (.list (xs.map .int))),some (.im (.list (xs.map .int)))]) (e1:=[some (.im (.list (xs.map .int))),some (.im (.list (xs.map .int)))]) rfl rfl ?_ rfl rfl;simp_arith[zV,lV,yh,uQ,oU,Fo,t,b.1,b.2,KH,h1]
def stL(st:List (Str×Int)):List (Str×aj):=st.map fun x=>(x.1,.int x.2)
abbrev wD(w:Int×Str×Str):aj:=.tuple [.int w.1,.str w.2.1,.str w.2.2]
theorem Qw(st:List (Str×Int))(z:Str):mX (aP (stL st)) (.str z)=some ((fG st z).map .int):=by
 rw[N6];unfold stL fG;rw[Vy,Bu,Bu];rfl
theorem JL(st:List (Str×Int))(z:Str):((fG st z).map pM).isSome=decide (z∈st.map (·.1)):=by
 by_cases h:z∈st.map (·.1)
 ·cases e:fG st z with
  |none=>exact absurd h (pP.mp e)
  |some d=>rw[decide_eq_true h];rfl
 ·rw[pP.mpr h,decide_eq_false h];rfl
theorem aa7(st:List (Str×Int))(z:Str):jo (.str z) (.dict (aP (stL st)))=some (.im (.bool (decide (z∈st.map (·.1))))):=by
 show((mX (aP (stL st)) (.str z)).map (·.isSome)).map (fun b=>Vl.im (.bool b))=_
 rw[Qw,j6,JL];rfl
theorem Pk(st:List (Str×Int))(z:Str):mj (.str z) (.dict (aP (stL st)))=some (.im (.bool (!decide (z∈st.map (·.1))))):=by
 show((mX (aP (stL st)) (.str z)).map (·.isSome)).map (fun b=>Vl.im (.bool (!b)))=_
 rw[Qw,j6,JL];rfl
theorem aa8{st:List (Str×Int)}{z:Str}{d:Int}(h:fG st z=some d):bw (.dict (aP (stL st))) (.str z)=some (.im (.int d)):=by
 unfold bw tR;simp only[Qw,h,j6]
theorem ZV{C:Ce}{v0 v1 nw:Option Vl}{k:Int}:∀(new:List Str)(st:List (Str×Int))(v5:Option Vl),(st.map (·.1)++new).Nodup→st.length+new.length≤1000→
  ∃Fv,iH (gNm 5) VR (new.map .str) [v0,v1,some (.ow (.dict (aP (stL st)))),nw,some (.im (.int k)),v5] C=some (.nx,[v0,v1,some (.ow (.dict (aP (stL (st++new.map fun g=>(g,k)))))),nw,some (.im (.int k)),Fv],C)
 |[],st,v5,_,_=>⟨v5,by rw[lD,lD,ju];rfl⟩
 |g::new,st,v5,nd,hl=>by
  rw[cO] at hl
  obtain⟨Fv,e⟩:=ZV (C:=C) (v0:=v0) (v1:=v1) (nw:=nw) (k:=k) new (st++[(g,k)]) (some (.im (.str g))) (by rw[gR,kI];exact nd) (by rw[fU];show st.length+1+_≤_;omega)
  refine⟨Fv,?_⟩
  have hn:g∉(stL st).map (·.1):=by
   unfold stL;rw[dB];exact fun hm=>(j5.mp nd).2.2 _ hm _ dG rfl
  have pu:putD (aP (stL st)) (.str g) (.int k)=some (aP (stL (st++[(g,k)]))):=by
   rw[O9 hn];unfold stL;rw[gR];rfl
  have q:((aP (stL st)).length<1000000)=True:=eq_true (by unfold aP stL;rw[aW,aW];omega);rw[kI] at e;rw[cg];unfold iH;simp_arith[oZ,qT,pu,q];exact e
theorem W4{C:Ce}{ws:List (Int×Str×Str)}{s:Str}(hl:ws.length≤60):∀(n:Nat)(st:List (Str×Int))(new:List Str)(k:Nat)(nv:Vl)(v5:Option Vl),(nv=.ow (.list (new.map .str))∨nv=.im (.list (new.map .str)))→rG ws s st new k→(new=[]→0<n)→(new≠[]→ws.length+2-st.length<n)→
  ∃(st':List (Str×Int))(e':En),jT V2 V3 n [some (.im (.list (ws.map wD))),some (.im (.str s)),some (.ow (.dict (aP (stL st)))),some nv,some (.im (.int k)),v5] C=some (.nx,e',C)∧e'[2]?=some (some (.ow (.dict (aP (stL st')))))∧pB ws s st'
 |0,st,new,k,nv,v5,hv,B,h0,h1=>by
  by_cases h:new=[]
  ·exact absurd (h0 h) (vz _)
  ·exact absurd (h1 h) (yZ _)
 |n+1,st,new,k,nv,v5,hv,B,h0,h1=>by
  by_cases hnew:new=[]
  ·subst hnew
   refine⟨st,[some (.im (.list (ws.map wD))),some (.im (.str s)),some (.ow (.dict (aP (stL st)))),some nv,some (.im (.int k)),v5],?_,rfl,B.done⟩
   unfold jT;rcases hv with rfl|rfl<;>simp_arith[]<;>rfl
  have h1:=h1 hnew;have ht:(new.map cF).isEmpty=false:=by cases new with|nil=>exact absurd rfl hnew|cons _ _=>rfl
  have c:=qz (T:=.many 3) (ft:=V0) (fe:=V1) (fs:=[some (.im (.list (new.map .str))),some (.im (.dict (aP (stL st))))]) (C:=C) wD (fun w=>decide (w.2.2∈new)&&!decide (w.2.1∈st.map (·.1))) (fun w=>.str w.2.1) (l:=ws) fun w _=>by
   refine⟨[.int w.1,.str w.2.1,.str w.2.2],rfl,?_,fun _=>⟨.im (.str w.2.1),_,by simp_arith[dz,jO,iT];rfl,rfl⟩⟩
   simp_arith[dz,jO,iT,Pk];cases decide (w.2.2∈new)<;>rfl
  obtain⟨gs,Tz⟩:∃gs,gs=(ws.filter fun w=>decide (w.2.2∈new)&&!decide (w.2.1∈st.map (·.1))).map (·.2.1):=⟨_,rfl⟩
  have c2:(ws.filter fun w=>decide (w.2.2∈new)&&!decide (w.2.1∈st.map (·.1))).map (fun w=>cF w.2.1)=gs.map .str:=by rw[Tz,dB];rfl
  rw[c2] at c;have gl:gs.length≤60:=by rw[Tz,aW];exact jP (yO _ _) hl
  have sS:Im (gs.map .str)=some ((mZ strLt (dedup gs)).map .str):=by
   unfold Im;rw[if_pos (by rw[aW];omega),Cd]
  obtain⟨ns,nsE⟩:∃ns,ns=mZ strLt (dedup gs):=⟨_,rfl⟩
  rw[←nsE] at sS;have hm:∀g,g∈ns↔∃w∈ws,w.2.2∈new∧w.2.1∉st.map (·.1)∧w.2.1=g:=fun g=>by
   rw[nsE,(rY _).mem_iff,agj,Tz,fK];constructor
   ·rintro⟨w,h1,h2⟩
    obtain⟨h1,h3⟩:=pG.mp h1
    rw[iQ,decide_eq_true_eq,UL,decide_eq_false_iff_not] at h3
    exact⟨w,h1,h3.1,h3.2,h2⟩
   ·rintro⟨w,h1,h2,h3,h4⟩
    exact⟨w,pG.mpr ⟨h1,by rw[decide_eq_true h2,decide_eq_false h3];rfl⟩,h4⟩
  have hn:ns.Nodup:=by rw[nsE];exact(rY _).nodup_iff.mpr (ae3 _)
  have B2:=B.step hn hm;have f1:=B.few;have f2:=B2.few;have nd:=B2.nd;rw[gR,dB,show((fun x:Str×Int=>x.1) ∘ fun g=>(g,(k:Int)+1))=id from rfl,MK] at nd;rw[fU,aW] at f2
  obtain⟨Fv,e1⟩:=ZV (C:=C) (v0:=some (.im (.list (ws.map wD)))) (v1:=some (.im (.str s))) (nw:=some (.im (.list (ns.map .str)))) (k:=(k:Int)+1) ns st v5 nd (by omega)
  obtain⟨st',e',e2,e3,e4⟩:=W4 (C:=C) hl n (st++ns.map fun g=>(g,(k:Int)+1)) ns (k+1) (.im (.list (ns.map .str))) Fv (.inr rfl) B2 (fun z=>by omega) (fun z=>by
   rw[fU,aW];have:=Ut.mpr z;omega)
  refine⟨st',e',?_,e3,e4⟩
  unfold jT;rcases hv with rfl|rfl<;>simp_arith[ht,JR,Fp,↓c,sS,gw,e1]<;>exact e2
theorem Iz{C:Ce}{ws:List (Int×Str×Str)}{s:Str}(hl:ws.length≤60):∃st:List (Str×Int),zH [.im (.list (ws.map wD)),.im (.str s)] C=some (.ow (.dict (aP (stL st))),C)∧pB ws s st:=by
 obtain⟨st,e',e1,e2,e3⟩:=W4 (C:=C) hl DK [(s,0)] [s] 0 (.ow (.list [.str s])) none (.inl rfl) (rG.init ws s) (fun z=>nomatch z) (fun _=>by show _+2-1<100000;omega)
 rw[show(((0:Nat):Nat):Int)=0 from rfl] at e1
 refine⟨st,gh [some (.im (.list (ws.map wD))),some (.im (.str s)),none,none,none,none] rfl rfl ?_ rfl rfl,e3⟩
 simp_arith[Nr,Ak,uY,cV];rw[show[(cF s,pM 0)]=aP (stL [(s,0)]) from rfl];simp only[e1];simp_arith[e2]
def uI(st:List (Str×Int))(d:Int)(p:Str)(w:Int×Str×Str):Bool:=decide (w.2.1=p)&&(decide (w.2.2∈st.map (·.1))&&(fG st w.2.2).any fun e=>decide (e<d))
theorem Oh{st:List (Str×Int)}{d:Int}{p:Str}{w:Int×Str×Str}:uI st d p w=true↔w.2.1=p∧∃e,fG st w.2.2=some e∧e<d:=by
 unfold uI;rw[iQ,iQ,decide_eq_true_eq,decide_eq_true_eq];refine and_congr_right fun _=>⟨fun h=>?_,fun⟨e,h1,h2⟩=>⟨?_,by rw[h1];exact decide_eq_true h2⟩⟩
 ·cases e:fG st w.2.2 with
  |none=>exact absurd h.1 (pP.mp e)
  |some x=>
   have:=h.2;rw[e] at this
   exact⟨x,rfl,of_decide_eq_true this⟩
 ·apply acD;intro n;rw[pP.mpr n] at h1;cases h1
theorem ZW(bt:Nat→Nat→Bool)(val:Nat→Int)(h1:∀i j,bt i j=true→val i≤val j)(h2:∀i j,bt i j=false→val j≤val i):∀k,lJ bt k≤k∧∀i,i≤k→val (lJ bt k)≤val i
 |0=>⟨bO _,fun i hi=>by rw[Nat.le_zero.mp hi];exact zA _⟩
 |k+1=>by
  obtain⟨a,b⟩:=ZW bt val h1 h2 k
  unfold lJ;cases e:bt (k+1) (lJ bt k) with
  |true=>
   rw[if_pos rfl]
   refine⟨bO _,fun i hi=>?_⟩
   rcases adm hi with hi|rfl
   ·exact Int.le_trans (h1 _ _ e) (b i (adF hi))
   ·exact zA _
  |false=>
   rw[if_neg gP]
   refine⟨U5 a,fun i hi=>?_⟩
   rcases adm hi with hi|rfl
   ·exact b i (adF hi)
   ·exact h2 _ _ e
theorem agH(cs:List (Int×Str))(h:cs≠[]):∃c∈cs,Jv [.list (cs.map fun c=>.tuple [.int c.1,.str c.2])]=some (.im (.tuple [.int c.1,.str c.2]))∧∀c'∈cs,c.1≤c'.1:=by
 obtain⟨c0,hc0⟩:∃c0,cs.head?=some c0:=by
  cases cs with
  |nil=>exact absurd rfl h
  |cons c _=>exact⟨c,rfl⟩
 have ek:(cs.map fun c=>vC [.int c.1,.str c.2]).map Ai=cs.map fun c=>[j7 c.1,ji c.2]:=by
  rw[dB];rfl
 have hd:(cs.map fun c=>([j7 c.1,ji c.2]:List Key)).headD []=[j7 c0.1,ji c0.2]:=by
  cases cs with
  |nil=>cases hc0
  |cons c _=>cases hc0;rfl
 have gt:∀i,(cs.map fun c=>([j7 c.1,ji c.2]:List Key)).getD i [j7 c0.1,ji c0.2]=[j7 (cs.getD i c0).1,ji (cs.getD i c0).2]:=fun i=>by
  rw[Ku,Ku,gC];cases cs[i]?<;>rfl
 obtain⟨b1,b2⟩:=ZW (fun i j=>dF ((cs.map fun c=>([j7 c.1,ji c.2]:List Key)).getD i [j7 c0.1,ji c0.2]) ((cs.map fun c=>([j7 c.1,ji c.2]:List Key)).getD j [j7 c0.1,ji c0.2])) (fun i=>(cs.getD i c0).1) (fun i j e=>by
   simp only[gt,dF] at e;split at e
   ·rename_i z;have:=Wh z;omega
   ·exact Int.le_of_lt (of_decide_eq_true e)) (fun i j e=>by
   simp only[gt,dF] at e;split at e
   ·rename_i z;have:=Wh z;omega
   ·have:=of_decide_eq_false e;omega) (cs.length-1)
 have pos:0<cs.length:=Ut.mpr h
 obtain⟨k,hk⟩:∃k,k=Ea (cs.map fun c=>([j7 c.1,ji c.2]:List Key)):=⟨_,rfl⟩
 have hk':=hk;unfold Ea at hk';rw[hd,aW] at hk';rw[←hk'] at b1 b2;have lt:k<cs.length:=by omega
 refine⟨cs[k],wZ lt,?_,fun c' hc'=>?_⟩
 ·show Q6 (cs.map fun c=>.tuple [.int c.1,.str c.2])=_;unfold Q6;rw[List.head?_map,hc0,ek,←hk,gC,jt lt];refine if_pos fun d hd=>?_
  obtain⟨c,_,rfl⟩:=fK.mp hd
  rfl
 ·obtain⟨i,hi,rfl⟩:=vg hc'
  have:=b2 i (by omega);rw[Ku,Ku,jt lt,jt hi] at this;exact this
theorem agI{C:Ce}{ws:List (Int×Str×Str)}{st:List (Str×Int)}{p:Str}{d:Int}(hl:ws.length≤60)(hp:fG st p=some d)(hne:∃w∈ws,uI st d p w=true):
  ∃(n:Int)(t:Str),Hg [.im (.list (ws.map wD)),.im (.dict (aP (stL st))),.im (.str p)] C=some (.im (.tuple [.int n,.str t]),C)∧(n,p,t)∈ws∧(∃e,fG st t=some e∧e<d)∧∀n' q' e,(n',p,q')∈ws→fG st q'=some e→e<d→n≤n':=by
 have c:=qz (T:=.many 3) (ft:=Vm) (fe:=Vn) (fs:=[some (.im (.str p)),some (.im (.dict (aP (stL st))))]) (C:=C) wD (uI st d p) (fun w=>.tuple [.int w.1,.str w.2.2]) (l:=ws) fun w _=>by
  refine⟨[.int w.1,.str w.2.1,.str w.2.2],rfl,?_,fun _=>⟨.im (.tuple [.int w.1,.str w.2.2]),_,by simp_arith[dz,jO,iT];rfl,rfl⟩⟩
  have ip:=aa8 hp;unfold uI;cases h1:decide (w.2.1=p) with
  |false=>simp_arith[dz,jO,iT,h1]
  |true=>
   cases e:fG st w.2.2 with
   |none=>
    have h2:=decide_eq_false (pP.mp e);simp_arith[dz,jO,iT,h1,aa7,h2]
   |some x=>
    have h2:decide (w.2.2∈st.map (·.1))=true:=by rw[←JL,e];rfl
    have iw:=aa8 e;simp_arith[dz,jO,iT,h1,aa7,h2,ip,iw,Option.any_some]
 obtain⟨cs,Fw⟩:∃cs:List (Int×Str),cs=(ws.filter (uI st d p)).map fun w=>(w.1,w.2.2):=⟨_,rfl⟩
 have c2:(ws.filter (uI st d p)).map (fun w=>vC [.int w.1,.str w.2.2])=cs.map fun c=>.tuple [.int c.1,.str c.2]:=by rw[Fw,dB];rfl
 rw[c2] at c;have cl:(cs.length≤1000000)=True:=eq_true (by rw[Fw,aW];have:=yO (uI st d p) ws;omega);have mem:∀n t,(n,t)∈cs↔(n,p,t)∈ws∧∃e,fG st t=some e∧e<d:=fun n t=>by
  rw[Fw,fK];constructor
  ·rintro⟨w,hw,e⟩
   cases e
   obtain⟨h1,h2⟩:=pG.mp hw
   obtain⟨h3,h4⟩:=Oh.mp h2
   rw[←h3]
   exact⟨h1,h4⟩
  ·rintro⟨h1,h2⟩
   exact⟨(n,p,t),pG.mpr ⟨h1,Oh.mpr ⟨rfl,h2⟩⟩,rfl⟩
 have ne:cs≠[]:=fun z=>by
  obtain⟨w,hw,h⟩:=hne
  have:(w.1,w.2.2)∈cs:=by rw[Fw];exact fK.mpr ⟨w,pG.mpr ⟨hw,h⟩,rfl⟩
  rw[z] at this;cases this
 have nl:eZ (cs.map fun c=>vC [.int c.1,.str c.2])=true:=by
  clear c c2 Fw cl mem ne;induction cs with
  |nil=>rfl
  |cons r l ih=>show(true&&eZ (l.map _))=true;rw[ih];rfl
 obtain⟨⟨n,t⟩,m,e,hmin⟩:=agH cs ne
 obtain⟨m1,m2⟩:=(mem n t).mp m
 refine⟨n,t,gh [some (.im (.list (ws.map wD))),some (.im (.dict (aP (stL st)))),some (.im (.str p))] rfl rfl ?_ rfl rfl,m1,m2,fun n' q' e' h1 h2 h3=>hmin (n',q') ((mem n' q').mpr ⟨h1,e',h2,h3⟩)⟩
 simp_arith[Mw,c,cl,nl,e]
theorem ahI{C:Ce}{ws:List (Int×Str×Str)}{s:Str}{st:List (Str×Int)}(hl:ws.length≤60)(hU:∀w∈ws,∀w'∈ws,w.1=w'.1→w=w')(B:pB ws s st):∀(m:Nat)(p:Str)(d:Int),fG st p=some d→d≤m→∀(n:Nat)(acc:List Int)(v5:Option Vl),m<n→acc.length+m≤100000→
  ∃(r:List Int)(e':En),jT VB VD n [some (.im (.list (ws.map wD))),some (.im (.str p)),some (.im (.str s)),some (.ow (.dict (aP (stL st)))),some (.ow (.list (acc.map .int))),v5] C=some (.nx,e',C)∧e'[4]?=some (some (.ow (.list ((acc++r).map .int))))∧m5 ws p s r:=by
 intro m;induction m with
 |zero=>
  intro p d hp hd n acc v5 hn ha;have:p=s:=by
   obtain⟨r,h1,h2⟩:=B.sound p d hp
   cases h1 with
   |nil=>rfl
   |cons _ _=>rw[cO] at h2;omega
  subst this;cases n with
  |zero=>exact absurd hn (vz _)
  |succ n=>
   refine⟨[],[some (.im (.list (ws.map wD))),some (.im (.str p)),some (.im (.str p)),some (.ow (.dict (aP (stL st)))),some (.ow (.list (acc.map .int))),v5],?_,by rw[ju];rfl,m5.self ws p⟩
   unfold jT;simp_arith[ne_strs]
 |succ m ih=>
  intro p d hp hd n acc v5 hn ha;cases n with
  |zero=>exact absurd hn (yZ _)
  |succ n=>
   by_cases hs:p=s
   ·subst hs
    refine⟨[],[some (.im (.list (ws.map wD))),some (.im (.str p)),some (.im (.str p)),some (.ow (.dict (aP (stL st)))),some (.ow (.list (acc.map .int))),v5],?_,by rw[ju];rfl,m5.self ws p⟩
    unfold jT;simp_arith[ne_strs]
   ·have hne:∃w∈ws,uI st d p w=true:=by
     obtain⟨r,h1,h2⟩:=B.sound p d hp
     cases h1 with
     |nil=>exact absurd rfl hs
     |cons hw hr=>
      rename_i n q r
      obtain⟨e,h3,h4⟩:=B.whole q r hr
      rw[cO] at h2
      exact⟨_,hw,Oh.mpr ⟨rfl,e,h3,by omega⟩⟩
    obtain⟨n1,t,e1,m1,⟨e,m2,m3⟩,hmin⟩:=agI (C:=C) hl hp hne
    obtain⟨r,e',e2,e3,e4⟩:=ih t e m2 (by omega) n (acc++[n1]) (some (.im (.int n1))) (by omega) (by rw[fU];show acc.length+1+_≤_;omega)
    have R:=m5.go hU B hp m1 ⟨e,m2,m3⟩ hmin e4;rw[kI] at e3
    refine⟨n1::r,e',?_,e3,R⟩
    have g:(acc.length<1000000)=True:=eq_true (by omega);have q:(p=s)=False:=eq_false hs;rw[gR] at e2;unfold jT;have rp:∀e e',rst (.im (.tuple [.int n1,.str t])) e e'=e:=fun _ _=>rfl
    simp_arith[ne_strs,q,e1,kE,nM,g,rp];exact e2
def wF:Option (List Int)→Vl
 |none=>.im .none
 |some r=>.ow (.list (r.map .int))
def yp(ws:List (Int×Str×Str))(h s:Str):Option (List Int)→Prop
 |none=>∀r,¬iC ws h r s
 |some r=>m5 ws h s r
theorem ahJ{C:Ce}{ws:List (Int×Str×Str)}{h s:Str}(hl:ws.length≤60)(hU:∀w∈ws,∀w'∈ws,w.1=w'.1→w=w'):∃o,Hq [.im (.list (ws.map wD)),.im (.str h),.im (.str s)] C=some (wF o,C)∧yp ws h s o:=by
 obtain⟨st,e1,B⟩:=Iz (C:=C) (s:=s) hl
 cases e:fG st h with
 |none=>
  have hn:=pP.mp e
  refine⟨none,gh [some (.im (.list (ws.map wD))),some (.im (.str h)),some (.im (.str s)),none,none,none] rfl rfl ?_ rfl rfl,fun r p=>hn ((B.iff h).mpr ⟨r,p⟩)⟩
  have q:=decide_eq_false hn;simp_arith[Ho,e1,Pk,q];rfl
 |some d=>
  obtain⟨r0,h1,h2⟩:=B.sound h d e
  have q:decide (h∈st.map (·.1))=true:=by rw[←JL,e];rfl
  obtain⟨r,e',e2,e3,e4⟩:=ahI (C:=C) hl hU B d.toNat h d e (by omega) DK [] none (by have:=B.few h d e;show _<100000;omega) (by have:=B.few h d e;show 0+_≤_;omega)
  refine⟨some r,gh [some (.im (.list (ws.map wD))),some (.im (.str h)),some (.im (.str s)),none,none,none] rfl rfl ?_ rfl rfl,e4⟩
  rw[lD] at e2;rw[iT] at e3;simp_arith[Ho,e1,Pk,q,uY,e2,e3];rfl
def uR(r:cB):Int×Str×Str:=(r.1,r.2.1,r.2.2.1)
theorem ZX:∀{l:List cB},(l.map (·.1)).Nodup→∀r∈l,∀r'∈l,r.1=r'.1→r=r'
 |[],_,_,h,_,_,_=>nomatch h
 |a::l,hp,r,h,r',h',e=>by
  rw[cg,iR] at hp;rcases bU.mp h with h1|h1<;>rcases bU.mp h' with h2|h2
  ·rw[h1,h2]
  ·exact absurd (fK.mpr ⟨r',h2,by rw[←h1,e]⟩) hp.1
  ·exact absurd (fK.mpr ⟨r,h1,by rw[←h2,e]⟩) hp.1
  ·exact ZX hp.2 r h1 r' h2 e
theorem yp.unique{ws:List (Int×Str×Str)}{h s:Str}:∀{o o':Option (List Int)},yp ws h s o→yp ws h s o'→o=o'
 |none,none,_,_=>rfl
 |none,some r,a,b=>absurd b.1 (a r)
 |some r,none,a,b=>absurd a.1 (b r)
 |some r,some r',a,b=>congrArg some (m5.unique a b)
def kZ(ht:jE)(os:List Str)(n day:Int)(a1 b1:Str):List (Int×Str×Str):=(ht.leaves.filter (mG os n day a1 b1)).map uR
theorem IK{zs:List Str}{ps:List (Str×Str)}{ht:jE}(hG:nF zs ps ht)(os:List Str)(n day:Int)(a1 b1:Str):(kZ ht os n day a1 b1).length≤60:=by
 unfold kZ;rw[aW];have:=yO (mG os n day a1 b1) ht.leaves;have:=hG.jZ;omega
theorem ae9{zs:List Str}{ps:List (Str×Str)}{ht:jE}(hG:nF zs ps ht)(os:List Str)(n day:Int)(a1 b1:Str):∀w∈kZ ht os n day a1 b1,∀w'∈kZ ht os n day a1 b1,w.1=w'.1→w=w':=fun w h w' h' e=>by
 obtain⟨r,m,rfl⟩:=fK.mp h
 obtain⟨r',m',rfl⟩:=fK.mp h'
 rw[ZX hG.lnd r (pG.mp m).1 r' (pG.mp m').1 e]
theorem aaD{C:Ce}{zs:List Str}{ps:List (Str×Str)}{ht:jE}(hN:Names zs)(hP:gJ zs ps)(hG:nF zs ps ht)(z a1 b1:Str)(n day:Int):
  xJ [.im (gq ht),.im (cW z a1 b1 n),.im (.int day)] C=some (.ow (.list ((kZ ht (up ps z) n day a1 b1).map wD)),C):=by
 rw[aiZ hN hP hG];unfold kZ;rw[dB];rfl
theorem YK{C:Ce}{zs:List Str}{ps:List (Str×Str)}{ht:jE}(hN:Names zs)(hP:gJ zs ps)(hG:nF zs ps ht)(z a1 b1:Str)(n day:Int)(h s:Str):
  ∃o,Cw [.im (gq ht),.im (cW z a1 b1 n),.im (.str h),.im (.str s),.im (.int day)] C=some (wF o,C)∧(((h=a1∨h=b1)∨(s=a1∨s=b1))→o=none)∧(¬((h=a1∨h=b1)∨(s=a1∨s=b1))→yp (kZ ht (up ps z) n day a1 b1) h s o):=by
 have s1:=CW (C:=C) (z:=z) (a1:=a1) (b1:=b1) (n:=n) (p:=h);have s2:=CW (C:=C) (z:=z) (a1:=a1) (b1:=b1) (n:=n) (p:=s);have w:=aaD (C:=C) hN hP hG z a1 b1 n day
 obtain⟨o,e,ho⟩:=ahJ (C:=C) (h:=h) (s:=s) (IK hG (up ps z) n day a1 b1) (ae9 hG (up ps z) n day a1 b1)
 have ok:Ah C.length (wF o)=true:=by cases o<;>rfl
 by_cases h1:h=a1∨h=b1
 ·refine⟨none,gh [some (.im (gq ht)),some (.im (cW z a1 b1 n)),some (.im (.str h)),some (.im (.str s)),some (.im (.int day))] rfl rfl ?_ rfl rfl,fun _=>rfl,fun z=>absurd (.inl h1) z⟩
  rw[decide_eq_true h1] at s1;simp_arith[Cv,s1];rfl
 ·rw[decide_eq_false h1] at s1;by_cases h2:s=a1∨s=b1
  ·refine⟨none,gh [some (.im (gq ht)),some (.im (cW z a1 b1 n)),some (.im (.str h)),some (.im (.str s)),some (.im (.int day))] rfl rfl ?_ rfl rfl,fun _=>rfl,fun z=>absurd (.inr h2) z⟩
   rw[decide_eq_true h2] at s2;simp_arith[Cv,s1,s2];rfl
  ·rw[decide_eq_false h2] at s2
   refine⟨o,gh [some (.im (gq ht)),some (.im (cW z a1 b1 n)),some (.im (.str h)),some (.im (.str s)),some (.im (.int day))] rfl rfl ?_ ok rfl,fun z=>absurd z fun z=>z.elim h1 h2,fun _=>ho⟩
   simp_arith[Cv,s1,s2,w,e]
theorem YL{C:Ce}(n:Nat)(o:Option (List Int))(hl:∀r,o=some r→r.length≤1000):mq (n+2) [still (wF o),still (wF o)] C=some (.im (.bool true),C):=by
 cases o with
 |none=>exact same_none (n+1)
 |some r=>exact same_ints n r (hl r rfl)
theorem xW{α:Type}{f:α→aj}(h:∀a,jB (f a)=true):∀l:List α,eZ (l.map f)=true
 |[]=>rfl
 |a::l=>by
  show(jB (f a)&&eZ (l.map f))=true
  rw[h a,xW h l];rfl
theorem ZZ(h:jE)(e f:En):rst (.im (gq h)) e f=e:=by
 refine if_pos ?_
 show(eZ (h.ps.map tG)&&(eZ (h.vZ.map tD)&&(eZ (h.leaves.map bI)&&(eZ (h.rules.map DX)&&true))))=true
 rw[xW (fun _=>rfl),xW (fun _=>rfl),xW (fun _=>rfl),Xo];rfl
theorem Xw(ps:List (Str×Str)):jy [.dict (aP (bz ps))]=some (.im (.int ps.length)):=by
 have:Ek (.dict (aP (bz ps)))=some ps.length:=by
  show(if(cM cV (aP (bz ps))).isSome then some (aP (bz ps)).length else none)=_
  rw[Cu];unfold aP bz;rw[aW,aW];rfl
 unfold jy;simp only[this];rfl
theorem afL{zs:List Str}{m:Nat}{ps:List (Str×Str)}(h:gJ (zs.take m) ps):gJ zs ps:=fun i x e=>by
 have up:∀j z,(zs.take m)[j]?=some z→zs[j]?=some z:=fun j z e=>by
  rw[Uu] at e;split at e
  ·exact e
  ·cases e
 obtain⟨h1,h2⟩:=h i x e
 exact⟨up i _ h1,h2.imp_right fun⟨j,a,b⟩=>⟨j,a,up j _ b⟩⟩
theorem ahK{f:Str→Option Str}{z:Str}{os:List Str}(h:Over f z os):∀y∈os,∃w,f y=some w:=by
 induction h with
 |stop _=>exact fun y hy=>absurd hy jN
 |step h _ ih=>
  intro y hy;rcases bU.mp hy with rfl|hy
  ·exact⟨_,h⟩
  ·exact ih y hy
theorem aaE{zs:List Str}{ps:List (Str×Str)}(hN:Names zs)(hP:gJ zs ps){z y:Str}(h:y∈up ps z):y∈ps.map (·.1):=by
 obtain⟨w,e⟩:=ahK (Qj hN hP z) y h
 exact fK.mpr ⟨(y,w),(ue (BX hN hP)).mp e,rfl⟩
theorem aaF{zs:List Str}{ps ps':List (Str×Str)}{lv:List cB}(p1:ps'.Perm ps)(p8:ps.length≤8)(jZ:lv.length≤16)(hl:∀r∈lv,zT zs (ps.map (·.1)) r)(up:(lv.map (·.1)).Nodup):nF zs ps ⟨ps',[],lv,[]⟩ where
 parts:=p1
 p8:=p8
 r20:=lF _
 jZ:=jZ
 u10:=lF _
 vZ:=fun r h=>absurd h jN
 rup:=yQ
 leaves:=hl
 lnd:=up
 rules:=fun r h=>absurd h jN
 unlike:=lC
theorem akk{α:Type}{zs:List α}(h:zs.Nodup){i j:Nat}{x:α}(hi:zs[i]?=some x)(hj:zs[j]?=some x):i=j:=by
 obtain⟨x1,y1⟩:=je.mp hi
 obtain⟨x2,y2⟩:=je.mp hj
 have hp:=FZ.mp h;rcases adB i j with l|l|l
 ·exact absurd (y1.trans y2.symm) (hp i j x1 x2 l)
 ·exact l
 ·exact absurd (y2.trans y1.symm) (hp j i x2 x1 l)
theorem Qx{α:Type}(D:α→aj){xs:List α}{a b:Nat}(h:a≤b)(hb:b≤xs.length):iJ (xs.map D) (some (a:Int)) (some (b:Int))=((xs.drop a).take (b-a)).map D:=by
 unfold iJ;rw[aW,HT.Px,HT.Px,Vq (show a≤xs.length by omega),Vq hb,V4,aev]
theorem ai0{C:Ce}{zs:List Str}{ps:List (Str×Str)}(hN:Names zs)(hP:gJ zs ps)(h8:ps.length≤8)(z a1 b1:Str)(n day:Int)(r:cB):
  Jk [.im (.dict (aP (bz ps))),.im (cW z a1 b1 n),.im (.int day),.im (bI r)] C=some (.im (.bool (mG (up ps z) n day a1 b1 r)),C):=by
 have p:=YG (C:=C) hN hP h8 z;have ct:iJ [cF z,.int n,.str a1,.str b1] (some 2) none=[.str a1,.str b1]:=rfl;have c:=aa4 oY oY (ao (aH bw (az 3) (ao (fCst (.int 4))))) (az 2) (ao (aH bw (az 3) (ao (fCst (.int 5))))) (env:=[some (.im (.dict (aP (bz ps)))),some (.im (cW z a1 b1 n)),some (.im (.int day)),some (.im (bI r))]) (e1:=[some (.im (.dict (aP (bz ps)))),some (.im (cW z a1 b1 n)),some (.im (.int day)),some (.im (bI r))]) (e2:=[some (.im (.dict (aP (bz ps)))),some (.im (cW z a1 b1 n)),some (.im (.int day)),some (.im (bI r))]) (e3:=[some (.im (.dict (aP (bz ps)))),some (.im (cW z a1 b1 n)),some (.im (.int day)),some (.im (bI r))]) (C:=C) (C1:=C) (C2:=C) (x:=.int r.2.2.2.2.1) (y:=.int day) (z:=.int r.2.2.2.2.2.1) (a:=decide (r.2.2.2.2.1≤day)) (b:=decide (day≤r.2.2.2.2.2.1)) (by simp_arith[bI]) rfl rfl (by simp_arith[bI]) rfl;refine gh [some (.im (.dict (aP (bz ps)))),some (.im (cW z a1 b1 n)),some (.im (.int day)),some (.im (bI r))] rfl rfl ?_ rfl rfl;simp only[bI] at c⊢;unfold mG;cases hA:decide (r.2.1=a1∨r.2.1=b1) with
 |true=>
  simp_arith[zW,dj,cQ,fD,jc,ct,Ac,hA]
 |false=>
  cases hB:decide (r.2.2.1=a1∨r.2.2.1=b1) with
  |true=>
   simp_arith[zW,dj,cQ,fD,jc,ct,Ac,hA,hB]
  |false=>
   cases hC:decide (r.2.2.2.1∈up ps z) with
   |false=>simp_arith[zW,dj,cQ,fD,jc,ct,Ac,hA,hB,p,Nu,hC]
   |true=>
    simp_arith[zW,dj,cQ,fD,jc,ct,Ac,hA,hB,p,Nu,hC,oU,c];cases decide (r.2.2.2.2.1≤day)<;>cases decide (day≤r.2.2.2.2.2.1)<;>rfl
theorem Kl(a b c:aj){k:Int}(h0:0≤k)(h1:k<3):∃x,fB [a,b,c] k=some x∧(x=a∨x=b∨x=c):=by
 have:k=0∨k=1∨k=2:=by omega
 rcases this with rfl|rfl|rfl
 ·exact⟨a,a_t0 _ _,.inl rfl⟩
 ·exact⟨b,a_t1 _ _ _,.inr (.inl rfl)⟩
 ·exact⟨c,a_t2 _ _ _ _,.inr (.inr rfl)⟩
theorem Qy(a b:Int):∃v,sU [.int a,.int b]=some (.im (.int v))∧v≤a∧v≤b∧(v=a∨v=b):=by
 by_cases h:b<a
 ·exact⟨b,by simp only[sU,if_pos h],by omega,by omega,.inr rfl⟩
 ·exact⟨a,by simp only[sU,if_neg h],by omega,by omega,.inl rfl⟩
theorem ai1(a b:Int):∃v,Ab [.int a,.int b]=some (.im (.int v))∧a≤v∧b≤v∧(v=a∨v=b):=by
 by_cases h:b>a
 ·exact⟨b,by simp only[Ab,if_pos h],by omega,by omega,.inr rfl⟩
 ·exact⟨a,by simp only[Ab,if_neg h],by omega,by omega,.inl rfl⟩
theorem Z0{C:Ce}{b L j:Nat}(h:Bl L C b (j+6)):∃(f l:Int)(C':Ce),zB [.ce b] C=some (.im (.tuple [.int f,.int l]),C')∧0≤f∧f≤l∧l≤99999∧Bl L C' b j:=by
 refine hide fun GG gg=>?_
 obtain⟨t1,C1,e1,a1,b1,jd⟩:=dD (m:=9) (k:=j+5) h (by decide) (by decide)
 obtain⟨t2,C2,e2,a2,b2,hB2⟩:=dD (m:=9) (k:=j+4) jd (by decide) (by decide)
 obtain⟨t3,C3,e3,a3,b3,hB3⟩:=dD (m:=9) (k:=j+3) hB2 (by decide) (by decide)
 obtain⟨t4,C4,e4,a4,b4,pC⟩:=dD (m:=3) (k:=j+2) hB3 (by decide) (by decide)
 obtain⟨t5,C5,e5,a5,b5,FJ⟩:=dD (m:=12) (k:=j+1) pC (by decide) (by decide)
 obtain⟨t6,C6,e6,a6,b6,Bc⟩:=dD (m:=3) (k:=j) FJ (by decide) (by decide)
 obtain⟨x,i1,hx⟩:=Kl (.int t1) (.int t2) (.int (99990-t3)) a4 b4
 obtain⟨y,i2,hy⟩:=Kl (.int 0) (.int t5) (.int 99999) a6 b6
 obtain⟨f,rfl,f0,f1⟩:∃f,x=.int f∧0≤f∧f≤99990:=by rcases hx with rfl|rfl|rfl<;>exact⟨_,rfl,by omega,by omega⟩
 obtain⟨g,rfl,g0⟩:∃g,y=.int g∧0≤g:=by rcases hy with rfl|rfl|rfl<;>exact⟨_,rfl,by omega⟩
 obtain⟨l,e7,l1,l2,l3⟩:=Qy 99999 (f+g)
 refine gg ⟨f,l,C6,gh [some (.ce b),none] rfl rfl ?_ rfl (h.eq Bc),f0,by omega,l1,Bc⟩;simp_arith[M6,e1,e2,e3,e4,i1,e5,e6,i2,e7]
theorem aaG{C:Ce}{b L j:Nat}(h:Bl L C b (j+4)):∃(n:Int)(C':Ce),zE [.ce b] C=some (.im (.int n),C')∧0≤n∧n≤1000000000∧Bl L C' b j:=by
 refine hide fun GG gg=>?_
 obtain⟨t1,C1,e1,a1,b1,jd⟩:=dD (m:=4) (k:=j+3) h (by decide) (by decide)
 obtain⟨t2,C2,e2,a2,b2,hB2⟩:=dD (m:=4) (k:=j+2) jd (by decide) (by decide)
 obtain⟨t3,C3,e3,a3,b3,hB3⟩:=dD (m:=3) (k:=j+1) hB2 (by decide) (by decide)
 obtain⟨t4,C4,e4,a4,b4,pC⟩:=dD (m:=3) (k:=j) hB3 (by decide) (by decide)
 obtain⟨x,i1,hx⟩:=Kl (.int t1) (.int (100+t2)) (.int (1000000000-t3)) a4 b4
 obtain⟨f,rfl,f0,f1⟩:∃f,x=.int f∧0≤f∧f≤1000000000:=by rcases hx with rfl|rfl|rfl<;>exact⟨_,rfl,by omega,by omega⟩
 have pw:vW (.int 10) (.int 9)=some (.im (.int 1000000000)):=rfl;refine gg ⟨f,C4,gh [some (.ce b)] rfl rfl ?_ rfl (h.eq pC),f0,f1,pC⟩;simp_arith[M7,e1,e2,pw,e3,e4,i1]
theorem Wf(ps:List (Str×Str))(h:ps.length≤60):∃qs:List Str,qs.Perm (ps.map (·.1))∧uy [.dict (aP (bz ps))]=some (.ow (.list (qs.map .str))):=by
 refine⟨mZ strLt (ps.map (·.1)),rY _,?_⟩
 have e:(aP (bz ps)).map (·.1)=(ps.map (·.1)).map cF:=by
  unfold aP bz;rw[dB,dB,dB];rfl
 show((strsOf ((aP (bz ps)).map (·.1))).bind _)=_
 rw[e,Cd,gQ,decide_eq_true (by rw[aW];omega)];rfl
theorem ai2{a d m:Int}(a0:0≤a)(a1:a<m)(d0:1≤d)(d1:d<m):0≤(a+d)%m∧(a+d)%m<m∧(a+d)%m≠a:=by
 refine⟨mL _ (by omega),rO _ (by omega),?_⟩
 by_cases h:a+d<m
 ·rw[K4 (by omega) h];omega
 ·have e:(a+d)%m=a+d-m:=by
   rw[show a+d=m+(a+d-m) by omega,Int.add_emod_left,K4 (by omega) (by omega)];omega
  omega
abbrev tU(b:Nat)(ps:List (Str×Str))(pe:List Str)(many:Int)(pap:aj)(day:Int)(lv:List cB)(os:List Str)(v8 v9 v10 v11 bQ j0:Option Vl):En:=
 [some (.ce b),some (.im (.dict (aP (bz ps)))),some (.im (.list (pe.map .str))),some (.im (.int many)),some (.im pap),some (.im (.int day)),some (.ow (.list (lv.map bI))),some (.ow (.list (os.map .str))),v8,v9,v10,v11,bQ,j0]
structure abG(zs own pe:List Str)(num:Int)(r:cB):Prop where
 num:r.1=num
 ok:zT zs own r
 giver:r.2.1∈pe
 taker:r.2.2.1∈pe
theorem afa{C:Ce}{b L j:Nat}{zs pe:List Str}{ps:List (Str×Str)}{z a1 b1:Str}{n day num many:Int}{lv:List cB}(hB:Bl L C b (j+19))(hN:Names zs)(hP:gJ zs ps)(p0:0<ps.length)(p8:ps.length≤8)(pl:2≤pe.length)(pl2:pe.length≤20)(pn:pe.Nodup)(pz:∀x∈pe,x∈zs)(n0:0≤n)(n1:n≤1000000000)(d0:0≤day)(d1:day≤99999)(nb:0≤num∧num≤2000)(ll:lv.length≤16)(v9 v10 v11 bQ j0:Option Vl):
  ∃(r:cB)(C':Ce)(w9 w10 w11 w12 w13:Option Vl),wY (tU b ps pe many (cW z a1 b1 n) day lv (up ps z) (some (.im (.int num))) v9 v10 v11 bQ j0) C=some (.nx,tU b ps pe many (cW z a1 b1 n) day (lv++[r]) (up ps z) (some (.im (.int num))) w9 w10 w11 w12 w13,C')∧abG zs (ps.map (·.1)) pe num r∧Bl L C' b j:=by
 refine hide fun GG gg=>?_
 obtain⟨t1,C1,e1,a1',Fg,jd⟩:=dD (m:=(pe.length:Int)) (k:=j+18) hB (by omega) (by omega)
 obtain⟨t2,C2,e2,a2,b2,hB2⟩:=dD (m:=(pe.length:Int)-1) (k:=j+17) jd (by omega) (by omega)
 obtain⟨t3,C3,e3,a3,b3,hB3⟩:=dD (m:=2) (k:=j+16) hB2 (by decide) (by decide)
 have mu:iZ (.int t2) (.int t3)=some (.im (.int (t2*t3))):=mul_eq (.inl (by omega));have md:=mod_eq (i:=t1+1+t2*t3) (j:=(pe.length:Int)) (by omega)
 obtain⟨d,hd,dl,dh⟩:∃d:Int,t1+1+t2*t3=t1+d∧1≤d∧d<pe.length:=by
  have:t3=0∨t3=1:=by omega
  rcases this with rfl|rfl
  ·exact⟨1,by rw[Int.mul_zero];omega,by omega,by omega⟩
  ·exact⟨1+t2,by rw[Wj];omega,by omega,by omega⟩
 obtain⟨r0,r1,r2⟩:=ai2 a1' Fg dl dh
 rw[←hd] at r0 r1 r2
 generalize(t1+1+t2*t3)%(pe.length:Int)=to at md r0 r1 r2
 obtain⟨g,mg,ig,xg⟩:=pO (zs:=pe) a1' Fg
 obtain⟨t,mt,it,xt⟩:=pO (zs:=pe) r0 r1
 have hne:g≠t:=fun z=>by
  subst z;have:=akk pn ig it;omega
 obtain⟨qs,qp,so⟩:=Wf ps (by omega)
 have ln:=Xw ps
 obtain⟨t4,C4,e4,a4,b4,pC⟩:=dD (m:=(ps.length:Int)) (k:=j+15) hB3 (by omega) (by omega)
 obtain⟨y,my,_,xy⟩:=pO (zs:=qs) a4 (by rw[qp.length_eq,aW];exact b4)
 have oy:y∈ps.map (·.1):=qp.mem_iff.mp my
 obtain⟨f,l,C5,e5,f0,f1,f2,FJ⟩:=Z0 (j:=j+9) pC
 obtain⟨s,C6,e6,s0,s1,Bc⟩:=aaG (j:=j+5) FJ
 obtain⟨t7,C7,e7,a7,b7,FP⟩:=dD (m:=3) (k:=j+4) Bc (by decide) (by decide)
 have q:(lv.length<1000000)=True:=eq_true (by omega);have TF:∀a b c d e f:aj,bN (.tuple [a,b,c,d]) (.tuple [e,f])=some (.im (.tuple [a,b,c,d,e,f])):=fun _ _ _ _ _ _=>Aj (wV rfl)
 have TJ:∀a b c d e f g:aj,bN (.tuple [a,b,c,d,e,f]) (.tuple [g])=some (.im (.tuple [a,b,c,d,e,f,g])):=fun _ _ _ _ _ _ _=>Aj (wV rfl)
 have pw:vW (.int 10) (.int 9)=some (.im (.int 1000000000)):=rfl;have nn:=ne_nil (up ps z) fun x hx=>WX hN hP (aaE hN hP hx)
 have gr:∀(y:Str)(f l m:Int)(w9:Option Vl),y∈ps.map (·.1)→(0≤f∧f≤l∧l≤99999)→(0≤m∧m≤1000000000)→abG zs (ps.map (·.1)) pe num (num,g,t,y,f,l,m):=fun y f l m w9 hy hd hm=>⟨rfl,⟨nb,pz _ mg,pz _ mt,hne,hy,hd,hm⟩,mg,mt⟩
 have other:∀C8,Bl L C8 b j→(wY (tU b ps pe many (cW z a1 b1 n) day lv (up ps z) (some (.im (.int num))) v9 v10 v11 bQ j0) C=some (.nx,tU b ps pe many (cW z a1 b1 n) day (lv++[(num,g,t,y,f,l,s)]) (up ps z) (some (.im (.int num))) (some (.im (.int t1))) (some (.im (.int to))) (some (.im (.str y))) (some (.im (.tuple [.int f,.int l]))) (some (.im (.int s))),C8))→GG:=fun C8 h8 run=>gg ⟨_,C8,_,_,_,_,_,run,gr y f l s none oy ⟨f0,f1,f2⟩ ⟨s0,s1⟩,h8⟩
 by_cases h7:0<t7
 ·have Km:=decide_eq_true h7;by_cases hu:up ps z=[]
  ·rw[hu] at nn;refine other C7 (FP.mono (by omega)) ?_;simp only[tU,hu,lD,adU] at nn⊢;simp_arith[wY,e1,e2,e3,mu,md,so,ln,e4,xy,e5,e6,e7,Km,nn,xg,xt,TF,TJ,kE,nM,q];simp only[gR,cg,lD,bI]
  ·have u0:0<(up ps z).length:=Ut.mpr hu;have ul:=Q4 ps z;have nn:qe (.list ((up ps z).map .str)) (.list [])=some (.im (.bool true)):=by
    rw[nn];cases hh:up ps z with
    |nil=>exact absurd hh hu
    |cons _ _=>rfl
   obtain⟨t8,C8,e8,a8,b8,hB8⟩:=dD (m:=((up ps z).length:Int)) (k:=j+3) FP (by omega) (by omega)
   obtain⟨y2,my2,_,xy2⟩:=pO (zs:=up ps z) a8 b8
   obtain⟨t9,C9,e9,a9,b9,hB9⟩:=dD (m:=2) (k:=j+2) hB8 (by decide) (by decide)
   obtain⟨tA,CA,eA,aA,bA,TQ⟩:=dD (m:=2) (k:=j+1) hB9 (by decide) (by decide)
   obtain⟨tB,CB,eB,aB,bB,TV⟩:=dD (m:=2) (k:=j) TQ (by decide) (by decide)
   obtain⟨f',x1,x2,x3,x4⟩:=ai1 0 (day-t9)
   obtain⟨l',x5,x6,x7,x8⟩:=Qy 99999 (day+tA)
   obtain⟨m',x9,xA,xB,xC⟩:=Qy 1000000000 (n+tB)
   refine gg ⟨(num,g,t,y2,f',l',m'),CB,some (.im (.int t1)),some (.im (.int to)),some (.im (.str y2)),some (.im (.tuple [.int f',.int l'])),some (.im (.int m')),?_,gr y2 f' l' m' none (aaE hN hP my2) ⟨x2,by omega,x6⟩ ⟨by omega,xA⟩,TV⟩;simp_arith[wY,e1,e2,e3,mu,md,so,ln,e4,xy,e5,e6,e7,Km,nn,e8,xy2,e9,x1,eA,x5,pw,eB,x9,xg,xt,TF,TJ,kE,nM,q];simp only[tU,gR,cg,lD,bI]
 ·have Km:=decide_eq_false h7;refine other C7 (FP.mono (by omega)) ?_;simp_arith[wY,e1,e2,e3,mu,md,so,ln,e4,xy,e5,e6,e7,Km,xg,xt,TF,TJ,kE,nM,q];simp only[tU,gR,cg,lD,bI]
theorem agJ{C:Ce}{b L j:Nat}{zs pe:List Str}{ps:List (Str×Str)}{z a1 b1:Str}{n day:Int}{many:Int}(hB:Bl L C b (j+405))(hN:Names zs)(hP:gJ zs ps)(p0:0<ps.length)(p8:ps.length≤8)(pl:2≤pe.length)(pl2:pe.length≤20)(pn:pe.Nodup)(pz:∀x∈pe,x∈zs)(n0:0≤n)(n1:n≤1000000000)(d0:0≤day)(d1:day≤99999)(m0:0≤many)(m1:many≤16):
  ∃(lv:List cB)(C':Ce),GD [.ce b,.im (.dict (aP (bz ps))),.im (.list (pe.map .str)),.im (.int many),.im (cW z a1 b1 n),.im (.int day)] C=some (.ow (.list (lv.map bI)),C')∧lv.length≤16∧(∀r∈lv,zT zs (ps.map (·.1)) r∧r.2.1∈pe∧r.2.2.1∈pe)∧(lv.map (·.1)).Pairwise (·<·)∧Bl L C' b j:=by
 refine hide fun GG gg=>?_
 have o1:=YG (C:=C) hN hP p8 z;have ig:decide ((1:Int)<(pe.length:Int))=true:=decide_eq_true (by omega);have mu:iZ (.int many) (.int 1)=some (.im (.int (many*1))):=mul_eq (.inl (by omega));rw[Wj] at mu
 obtain⟨ns,C1,e1,nl,hn,rise,jd⟩:=agG (j:=j+304) (m:=many) hB m0 (by omega)
 obtain⟨env',C',e,lv,w8,w9,w10,w11,w12,w13,he,hm,hr,hB'⟩:=zK (g:=gNm 8) (body:=wY) (its:=ns.map .int) (env:=tU b ps pe many (cW z a1 b1 n) day [] (up ps z) none none none none none none) (C:=C1)
  (fun i env C2=>∃(lv:List cB)(w8 w9 w10 w11 w12 w13:Option Vl),env=tU b ps pe many (cW z a1 b1 n) day lv (up ps z) w8 w9 w10 w11 w12 w13∧lv.map (·.1)=ns.take i∧(∀r∈lv,zT zs (ps.map (·.1)) r∧r.2.1∈pe∧r.2.2.1∈pe)∧Bl L C2 b (j+19*(16-i)))
  ⟨[],none,none,none,none,none,none,rfl,rfl,(fun _ h=>nomatch h),jd⟩ (fun i d env C2 hd hI=>by
   obtain⟨lv,w8,w9,w10,w11,w12,w13,rfl,hm,hr,hB⟩:=hI
   obtain⟨x,rfl,hx,mx,hi⟩:=aiI hd
   rw[Ry j 19 (by omega:i<16)] at hB;have ll:lv.length≤16:=by
    have:=congrArg pI hm;rw[aW,n6] at this;omega
   obtain⟨r,C3,w9,w10,w11,w12,w13,e,h1,hB3⟩:=afa (z:=z) (a1:=a1) (b1:=b1) (many:=many) (lv:=lv) hB hN hP p0 p8 pl pl2 pn pz n0 n1 d0 d1 (hn x mx) ll w9 w10 w11 w12 w13
   refine⟨_,.nx,_,C3,rfl,e,.inl rfl,lv++[r],_,_,_,_,_,_,rfl,?_,fun q hq=>?_,hB3⟩
   ·rw[gR,hm,take_snoc hx,cg,h1.num];rfl
   ·rcases cR.mp hq with hq|hq
    ·exact hr q hq
    ·rw[jf.mp hq]
     exact⟨h1.ok,h1.giver,h1.taker⟩)
 rw[aW] at hm hB';rw[List.take_length] at hm;subst he;have ll:lv.length≤16:=by
  have:=congrArg pI hm;rw[aW] at this;omega
 have hB2:Bl L C' b j:=hB'.mono (Ld _ _);refine gg ⟨lv,C',gh [some (.ce b),some (.im (.dict (aP (bz ps)))),some (.im (.list (pe.map .str))),some (.im (.int many)),some (.im (cW z a1 b1 n)),some (.im (.int day)),none,none,none,none,none,none,none,none] rfl rfl ?_ rfl (hB.eq hB2),ll,hr,by rw[hm];exact rise,hB2⟩;simp only[tU,lD] at e;simp_arith[Ls,o1,ig,sZ,mu,e1,gw,e]
structure akl(zs:List Str)(ps:List (Str×Str))(pe:List Str)(lv:List cB)(z a1 b1:Str)(n day:Int):Prop where
 names:Names zs
 len:zs.length=24
 parts:gJ zs ps
 p0:0<ps.length
 p8:ps.length≤8
 two:2≤pe.length
 few:pe.length≤17
 anv:pe.Nodup
 anw:∀x∈pe,x∈zs
 anx:z∈zs
 anz:a1∈zs
 anA:b1∈zs
 n0:0≤n
 n1:n≤1000000000
 d0:0≤day
 d1:day≤99999
 jZ:lv.length≤16
 leaves:∀r∈lv,zT zs (ps.map (·.1)) r∧r.2.1∈pe∧r.2.2.1∈pe
 rise:(lv.map (·.1)).Pairwise (·<·)
abbrev akY(ps:List (Str×Str))(pe:List Str)(lv:List cB)(z a1 b1:Str)(n day:Int):aj:=.tuple [.dict (aP (bz ps)),.list (pe.map .str),.list (lv.map bI),cW z a1 b1 n,.int day]
theorem ai3{C:Ce}{b L j:Nat}{most:Int}(hB:Bl L C b (j+460))(m0:0≤most)(m1:most≤16):
  ∃(zs:List Str)(ps:List (Str×Str))(pe:List Str)(lv:List cB)(z a1 b1:Str)(n day:Int)(C':Ce),Jj [.ce b,.im (.int most)] C=some (.im (akY ps pe lv z a1 b1 n day),C')∧akl zs ps pe lv z a1 b1 n day∧Bl L C' b j:=by
 refine hide fun GG gg=>?_
 obtain⟨zs,C1,e1,hN,TX,jd⟩:=YF (m:=24) (j:=j+448) hB (by decide) (by decide)
 have TX:zs.length=24:=TX
 obtain⟨t2,C2,e2,a2,b2,hB2⟩:=dD (m:=8) (k:=j+447) jd (by decide) (by decide)
 have ct:=Jy (zs:=zs) (m:=1+t2) (by omega) (by omega);have tl:(zs.take (1+t2).toNat).length=(1+t2).toNat:=by rw[n6];omega
 obtain⟨ps,C3,e3,hP,pl,hB3⟩:=agF (j:=j+431) (zs:=zs.take (1+t2).toNat) hB2 (by omega) ⟨hN.1.sublist (Gn _ _),fun z hz=>hN.2 z (vd hz)⟩
 have hP:=afL hP;have p0:0<ps.length:=by omega
 have p8:ps.length≤8:=by omega
 have ln:=Xw ps
 obtain⟨t4,C4,e4,a4,b4,pC⟩:=dD (m:=3) (k:=j+430) hB3 (by decide) (by decide)
 obtain⟨x4,i4,h4⟩:=Kl (.int 4) (.int 9) (.int 16) a4 b4
 obtain⟨w,rfl,w0,w1⟩:∃w,x4=.int w∧0<w∧w≤16:=by rcases h4 with rfl|rfl|rfl<;>exact⟨_,rfl,by omega,by omega⟩
 obtain⟨t5,C5,e5,a5,b5,FJ⟩:=dD (m:=w) (k:=j+429) pC w0 (by omega)
 obtain⟨k5,hk5⟩:∃k5:Nat,2+2+t5=((2+(2+k5):Nat):Int):=⟨t5.toNat,by omega⟩
 have FQ:=Qx cF (xs:=zs) (a:=2) (b:=2+(2+k5)) (by omega) (by omega);rw[←hk5,show 2+(2+k5)-2=2+k5 by omega] at FQ;have FQ:iJ (zs.map cF) (some 2) (some (2+2+t5))=_:=FQ
 obtain⟨pe,hpe⟩:∃pe,pe=(zs.drop 2).take (2+k5):=⟨_,rfl⟩
 rw[←hpe] at FQ;have pl1:pe.length=2+k5:=by rw[hpe,n6,Bp];omega
 have pnd:pe.Nodup:=by rw[hpe];exact hN.1.sublist ((Gn _ _).trans (List.drop_sublist _ _))
 have pin:∀x∈pe,x∈zs:=fun x hx=>by rw[hpe] at hx;exact Gd (vd hx)
 have Ko:=Qx cF (xs:=zs) (a:=18) (b:=20) (by decide) (by omega);have Ko:iJ (zs.map cF) (some 18) (some 20)=_:=Ko
 obtain⟨ex,hex⟩:∃ex,ex=(zs.drop 18).take (20-18):=⟨_,rfl⟩
 rw[←hex] at Ko;have exl:ex.length≤2:=by rw[hex,n6];omega
 have xin:∀x∈ex,x∈zs:=fun x hx=>by rw[hex] at hx;exact Gd (vd hx)
 have ad1:bN (.list (pe.map .str)) (.list (ex.map .str))=some (.ow (.list ((pe++ex).map .str))):=by
  rw[gR];exact add_l (by rw[aW,aW];omega)
 obtain⟨sm,hsm⟩:∃sm,sm=pe++ex:=⟨_,rfl⟩
 rw[←hsm] at ad1;have sl:0<sm.length∧sm.length≤100:=by rw[hsm,fU];omega
 have sin:∀x∈sm,x∈zs:=fun x hx=>by
  rw[hsm] at hx;rcases cR.mp hx with hx|hx
  ·exact pin x hx
  ·exact xin x hx
 obtain⟨t6,C6,e6,a6,b6,Bc⟩:=dD (m:=(sm.length:Int)) (k:=j+428) FJ (by omega) (by omega)
 obtain⟨s1,m1',_,x1⟩:=pO (zs:=sm) a6 b6
 obtain⟨t7,C7,e7,a7,b7,FP⟩:=dD (m:=(sm.length:Int)) (k:=j+427) Bc (by omega) (by omega)
 obtain⟨s2,m2',_,x2⟩:=pO (zs:=sm) a7 b7
 have fin:∀(C9:Ce)(a1 b1:Str),a1∈zs→b1∈zs→Bl L C9 b (j+425)→(gK (fTst (aH uO (ao (fCal bR (aCons (fVar 0) (aCons (fCst (.int 3)) aNil)))) (ao (fCst (.int 0))))) (fSet 6 (fTup (aCons (aH bw (az 2) (ao (fCst (.int 20)))) (aCons (aH bw (az 2) (ao (aH bN (ao (fCst (.int 20))) (ao (fCal bR (aCons (fVar 0) (aCons (fCst (.int 2)) aNil))))))) aNil)))) fNext [some (.ce b),some (.im (.int most)),some (.ow (.list (zs.map .str))),some (.ow (.dict (aP (bz ps)))),some (.ow (.list (pe.map .str))),some (.ow (.list (sm.map .str))),some (.im (.tuple [.str s1,.str s2])),none,none,none] C7=some (.nx,[some (.ce b),some (.im (.int most)),some (.ow (.list (zs.map .str))),some (.ow (.dict (aP (bz ps)))),some (.ow (.list (pe.map .str))),some (.ow (.list (sm.map .str))),some (.im (.tuple [.str a1,.str b1])),none,none,none],C9))→GG:=fun C9 a1 b1 ha hb hB9 e9=>by
  obtain⟨qs,qp,so⟩:=Wf ps (by omega)
  have Kq:=Qx cF (xs:=zs) (a:=22) (b:=23) (by decide) (by omega);have Kq:iJ (zs.map cF) (some 22) (some 23)=_:=Kq
  obtain⟨ey,TY⟩:∃ey,ey=(zs.drop 22).take (23-22):=⟨_,rfl⟩
  rw[←TY] at Kq;have eyl:ey.length=1:=by rw[TY,n6,Bp];omega
  have yin:∀x∈ey,x∈zs:=fun x hx=>by rw[TY] at hx;exact Gd (vd hx)
  have ql:qs.length=ps.length:=by rw[qp.length_eq,aW]
  have ad2:bN (.list (qs.map .str)) (.list (ey.map .str))=some (.ow (.list ((qs++ey).map .str))):=by
   rw[gR];exact add_l (by rw[aW,aW];omega)
  obtain⟨qy,T3⟩:∃qy,qy=qs++ey:=⟨_,rfl⟩
  rw[←T3] at ad2;have qyl:qy.length=ps.length+1:=by rw[T3,fU];omega
  have qin:∀x∈qy,x∈zs:=fun x hx=>by
   rw[T3] at hx;rcases cR.mp hx with hx|hx
   ·have:=qp.mem_iff.mp hx;rw[Np hP] at this;exact vd this
   ·exact yin x hx
  obtain⟨tA,CA,eA,aA,bA,TQ⟩:=dD (m:=9) (k:=j+424) hB9 (by decide) (by decide)
  obtain⟨u,hu,u0,u1⟩:∃u:Int,(if(tA==0)=true then(1:Int) else 0)=u∧0≤u∧u≤1:=⟨_,rfl,by split<;>omega,by split<;>omega⟩
  obtain⟨tB,CB,eB,aB,bB,TV⟩:=dD (m:=(ps.length:Int)+u) (k:=j+423) TQ (by omega) (by omega)
  obtain⟨z,mz,_,xz⟩:=pO (zs:=qy) aB (by omega)
  obtain⟨n,CC,eC,n0,n1,hBC⟩:=aaG (j:=j+419) TV
  obtain⟨f,l,CD,eD,f0,f1,f2,hBD⟩:=Z0 (j:=j+413) hBC
  obtain⟨tE,CE,eE,aE,bE,hBE⟩:=dD (m:=2) (k:=j+412) hBD (by decide) (by decide)
  obtain⟨day,iE,d0,d1⟩:∃day:Int,fB [pM f,.int l] tE=some (.int day)∧0≤day∧day≤99999:=by
   have:tE=0∨tE=1:=by omega
   rcases this with rfl|rfl
   ·exact⟨f,a_t0 _ _,f0,by omega⟩
   ·exact⟨l,a_t1 _ _ _,by omega,f2⟩
  obtain⟨tF,CF,eF,aF,bF,hBF⟩:=dD (m:=most+1) (k:=j+411) hBE (by omega) (by omega)
  obtain⟨lv,CG,eG,jZ,hr,rise,hBG⟩:=agJ (many:=tF) (j:=j+6) (z:=z) (a1:=a1) (b1:=b1) (n:=n) (day:=day) hBF hN hP p0 p8 (by omega) (by omega) pnd pin n0 n1 d0 d1 aF (by omega)
  refine gg ⟨zs,ps,pe,lv,z,a1,b1,n,day,CG,gh [some (.ce b),some (.im (.int most)),none,none,none,none,none,none,none,none] rfl rfl ?_ rfl (hB.eq hBG),⟨hN,TX,hP,p0,p8,by omega,by omega,pnd,pin,qin z mz,ha,hb,n0,n1,d0,d1,jZ,hr,rise⟩,hBG.mono (by omega)⟩;have rH:∀a b c d:aj,bN (.tuple [a,b]) (.tuple [c,d])=some (.im (.tuple [a,b,c,d])):=fun _ _ _ _=>Aj (wV rfl)
  simp_arith[Qs,e1,e2,dj,cQ,fD,jc,ct,e3,e4,i4,e5,FQ,Ko,ad1,e6,x1,e7,x2,↓e9,so,Kq,ad2,ln,eA,sZ,hu,eB,xz,eC,rH,eD,eE,iE,eF,eG]
 obtain⟨t8,C8,e8,a8,b8,hB8⟩:=dD (m:=3) (k:=j+426) FP (by decide) (by decide)
 by_cases h8:0<t8
 ·have T4:=decide_eq_true h8
  obtain⟨t9,C9,e9,a9,b9,hB9⟩:=dD (m:=2) (k:=j+425) hB8 (by decide) (by decide)
  obtain⟨y0,n0,_,z0⟩:=pO (zs:=zs) (k:=20) (by omega) (by omega)
  obtain⟨y1,n1,_,z1⟩:=pO (zs:=zs) (k:=20+t9) (by omega) (by omega)
  exact fin C9 y0 y1 n0 n1 hB9 (by simp_arith[e8,T4,z0,e9,z1])
 ·have T4:=decide_eq_false h8;exact fin C8 s1 s2 (sin _ m1') (sin _ m2') hB8.dec (by simp_arith[e8,T4])
theorem same_str{C:Ce}(n:Nat)(x:Str):mq (n+1) [.im (.str x),.im (.str x)] C=some (.im (.bool true),C):=by
 refine DY (k:=2) (n:=2) (en:=[some (.im (.str x)),some (.im (.str x))]) (e1:=[some (.im (.str x)),some (.im (.str x))]) rfl rfl ?_ rfl rfl;simp_arith[zV,lV,yh,uQ,uD,isNone,oU,Dz,eq_strs]
theorem agK{C:Ce}(n:Nat)(xs:List Str)(hl:xs.length≤1000):mq (n+2) [.im (.list (xs.map .str)),.im (.list (xs.map .str))] C=some (.im (.bool true),C):=by
 have t:jx (.many 2) fY (Nt (mq (n+1))) [] (mF (xs.map .str) (xs.map .str)) C=some (cP xs.length (.bool true),C):=by
  clear hl;induction xs with
  |nil=>rfl
  |cons x xs ih=>
   rw[cg,mF];unfold jx;rw[cO,rN];simp_arith[uZ,fY,dz,ju,same_str n x,ih]
 have b:=W0 xs.length;have h1:(xs.length≤1000000)=True:=eq_true (by omega);refine DY (k:=2) (n:=2) (en:=[some (.im (.list (xs.map .str))),some (.im (.list (xs.map .str)))]) (e1:=[some (.im (.list (xs.map .str))),some (.im (.list (xs.map .str)))]) rfl rfl ?_ rfl rfl;simp_arith[zV,lV,yh,uQ,oU,Fo,t,b.1,b.2,KH,h1]
def yC(ws:List (Int×Str×Str))(side:Prop)(h:Str)(qs:List Str):Prop:=∃l:List Str,l.Nodup∧(∀x,x∈l↔¬side∧Bb ws h x)∧qs=mZ strLt l
theorem yC.unique{ws:List (Int×Str×Str)}{side:Prop}{h:Str}{qs jL:List Str}(a:yC ws side h qs)(b:yC ws side h jL):qs=jL:=by
 obtain⟨l,n,m,rfl⟩:=a
 obtain⟨l',n',m',rfl⟩:=b
 have p:l.Perm l':=Xr n n' fun x=>(m x).trans (m' x).symm
 exact Zz JS (fun _ _=>trivial) ((rY l).trans p) (O3 JS fun _ _=>trivial)
theorem yC.mem{ws:List (Int×Str×Str)}{side:Prop}{h:Str}{qs:List Str}(a:yC ws side h qs)(x:Str):x∈qs↔¬side∧Bb ws h x:=by
 obtain⟨l,n,m,rfl⟩:=a
 rw[(rY l).mem_iff,m x]
theorem afM{C:Ce}{zs:List Str}{ps:List (Str×Str)}{ht:jE}(hN:Names zs)(hP:gJ zs ps)(hG:nF zs ps ht)(z a1 b1:Str)(n day:Int)(h:Str):
  ∃qs:List Str,Hi [.im (gq ht),.im (cW z a1 b1 n),.im (.str h),.im (.int day)] C=some (.ow (.list (qs.map .str)),C)∧qs.length≤61∧yC (kZ ht (up ps z) n day a1 b1) (h=a1∨h=b1) h qs:=by
 have s1:=CW (C:=C) (z:=z) (a1:=a1) (b1:=b1) (n:=n) (p:=h);have w:=aaD (C:=C) hN hP hG z a1 b1 n day;have wf:=IK hG (up ps z) n day a1 b1;by_cases h1:h=a1∨h=b1
 ·refine⟨[],gh [some (.im (gq ht)),some (.im (cW z a1 b1 n)),some (.im (.str h)),some (.im (.int day)),none] rfl rfl ?_ rfl rfl,lF _,[],lC,fun x=>⟨fun m=>(jN m).elim,fun m=>(m.1 h1).elim⟩,rfl⟩
  rw[decide_eq_true h1] at s1;simp_arith[Hh,s1]
 ·rw[decide_eq_false h1] at s1;generalize hws:kZ ht (up ps z) n day a1 b1=ws at w wf
  obtain⟨st,e1,B⟩:=Iz (C:=C) (ws:=ws.map nO) (s:=h) (by rw[aW];exact wf)
  have c:=qz (T:=.many 3) (ft:=fY) (fe:=Vo) (fs:=[]) (C:=C) wD (fun _=>true) (fun w=>wD (nO w)) (l:=ws) fun w _=>⟨[.int w.1,.str w.2.1,.str w.2.2],rfl,rfl,fun _=>⟨.im (wD (nO w)),_,by simp_arith[dz,ju];rfl,rfl⟩⟩
  rw[Gg.mpr fun _ _=>rfl,show ws.map (fun w=>wD (nO w))=(ws.map nO).map wD by rw[dB];rfl] at c;have q:(ws.length≤1000000)=True:=eq_true (by omega);have nl:eZ ((ws.map nO).map wD)=true:=xW (fun _=>rfl) _;have kl:(st.map (·.1)).length≤61:=by
   have:=len_sub (m:=h::(ws.map nO).map (·.2.1)) B.nd fun p hp=>by
    obtain⟨r,hr⟩:=(B.iff p).mp hp
    cases hr with
    |nil=>exact dG
    |cons hw _=>exact dN _ (fK.mpr ⟨_,hw,rfl⟩)
   simp only[cO,aW] at this⊢;omega
  have so:uy [.dict (aP (stL st))]=some (.ow (.list ((mZ strLt (st.map (·.1))).map .str))):=by
   have e:(aP (stL st)).map (·.1)=(st.map (·.1)).map cF:=by
    unfold aP stL;rw[dB,dB,dB];rfl
   show((strsOf ((aP (stL st)).map (·.1))).bind _)=_
   rw[e,Cd,gQ,decide_eq_true (by omega)];rfl
  refine⟨mZ strLt (st.map (·.1)),gh [some (.im (gq ht)),some (.im (cW z a1 b1 n)),some (.im (.str h)),some (.im (.int day)),none] rfl rfl ?_ rfl rfl,by rw[(rY _).length_eq];exact kl,st.map (·.1),B.nd,fun x=>(B.keys x).trans ⟨fun r=>⟨h1,r⟩,fun r=>r.2⟩,rfl⟩
  simp_arith[Hh,s1,w,c,q,nl,e1,so]
def jq(r q:List Int):Prop:=r.length<q.length∨(r.length=q.length∧lexLe r q)
theorem YM:∀r:List Int,lexLe r r
 |[]=>trivial
 |a::r=>.inr ⟨rfl,YM r⟩
theorem lex_trans:∀{r q s:List Int},lexLe r q→lexLe q s→lexLe r s
 |[],_,_,_,_=>trivial
 |a::r,b::q,c::s,h1,h2=>by
  rcases h1 with h1|⟨h1,k1⟩
  ·rcases h2 with h2|⟨h2,k2⟩<;>exact .inl (by omega)
  ·rcases h2 with h2|⟨h2,k2⟩
   ·exact .inl (by omega)
   ·exact .inr ⟨by omega,lex_trans k1 k2⟩
theorem YQ(n:Int):∀{r q:List Int},r.length=q.length→lexLe r q→lexLe (r++[n]) (q++[n])
 |[],[],_,_=>.inr ⟨rfl,trivial⟩
 |a::r,b::q,l,h=>h.imp id fun h=>⟨h.1,YQ n (G6 l) h.2⟩
theorem jq.refl(r:List Int):jq r r:=.inr ⟨rfl,YM r⟩
theorem jq.trans{r q s:List Int}(h1:jq r q)(h2:jq q s):jq r s:=by
 rcases h1 with h1|⟨h1,k1⟩
 ·rcases h2 with h2|⟨h2,k2⟩<;>exact .inl (by omega)
 ·rcases h2 with h2|⟨h2,k2⟩
  ·exact .inl (by omega)
  ·exact .inr ⟨by omega,lex_trans k1 k2⟩
theorem jq.snoc{r q:List Int}(n:Int)(h:jq r q):jq (r++[n]) (q++[n]):=by
 unfold jq;rw[fU,fU];rcases h with h|⟨h,k⟩
 ·exact .inl (by omega)
 ·exact .inr ⟨by omega,YQ n h k⟩
def ltB(r q:List Int):Bool:=if(r.length:Int)=q.length then dF (r.map .inl) (q.map .inl) else decide ((r.length:Int)<q.length)
theorem Rc:∀{r q:List Int},r.length=q.length→(dF (r.map .inl) (q.map .inl)=true→lexLe r q)∧(dF (r.map .inl) (q.map .inl)=false→lexLe q r)
 |[],[],_=>⟨fun _=>trivial,fun _=>trivial⟩
 |a::r,b::q,l=>by
  rw[cg,cg,dF];have ih:=Rc (G6 l);by_cases e:a=b
  ·rw[if_pos (congrArg j7 e)]
   exact⟨fun h=>.inr ⟨e,ih.1 h⟩,fun h=>.inr ⟨e.symm,ih.2 h⟩⟩
  ·rw[if_neg fun h=>e (by injection h)]
   refine⟨fun h=>.inl (of_decide_eq_true h),fun h=>.inl ?_⟩
   have:=of_decide_eq_false h;omega
theorem aaH(r q:List Int):(ltB r q=true→jq r q)∧(ltB r q=false→jq q r):=by
 unfold ltB;by_cases e:(r.length:Int)=q.length
 ·rw[if_pos e];have e:r.length=q.length:=by omega
  exact⟨fun h=>.inr ⟨e,(Rc e).1 h⟩,fun h=>.inr ⟨e.symm,(Rc e).2 h⟩⟩
 ·rw[if_neg e]
  refine⟨fun h=>.inl ?_,fun h=>.inl ?_⟩
  ·have:=of_decide_eq_true h;omega
  ·have:=of_decide_eq_false h;omega
theorem Xx:∀r:List Int,keysOf (r.map .int)=some (r.map .inl)
 |[]=>rfl
 |a::r=>by
  rw[cg,keysOf,Xx r];rfl
theorem ahL(r q:List Int):Ec (.tuple [.int r.length,.list (r.map .int)]) (.tuple [.int q.length,.list (q.map .int)])=some (.im (.bool (ltB r q))):=by
 unfold Ec;simp only[Xx,gQ];refine if_pos fun h=>?_
 have:r.length=q.length:=by omega
 rw[dB,dB,show(bJ ∘ j7:Int→Bool)=fun _=>true from rfl,ad9,ad9,this]
abbrev Tb:=List (Str×List Int)
def jr(f:Tb):List (Str×aj):=f.map fun x=>(x.1,.list (x.2.map .int))
def dm(f:Tb)(p:Str):Option (List Int):=(f.find? fun x=>decide (x.1=p)).map (·.2)
theorem vH(x:Str×List Int)(l:Tb)(p:Str):dm (x::l) p=if x.1=p then some x.2 else dm l p:=by
 unfold dm;rw[ou];by_cases h:x.1=p
 ·rw[decide_eq_true h,if_pos h];rfl
 ·rw[decide_eq_false h,if_neg h]
def tL(f:Tb)(z:Str)(v:List Int):Tb:=if(dm f z).isSome then f.map (fun x=>if x.1=z then(z,v) else x) else f++[(z,v)]
theorem Jl(z p:Str)(v:List Int)(f:Tb):dm (tL f z v) p=if z=p then some v else dm f p:=by
 have set:∀f:Tb,dm (f.map fun x=>if x.1=z then(z,v) else x) p=if z=p then(dm f p).map fun _=>v else dm f p:=fun f=>by
  induction f with
  |nil=>split<;>rfl
  |cons x f ih=>
   rw[cg,vH,vH,ih];by_cases h2:z=p
   ·subst h2;by_cases h:x.1=z
    ·simp[h]
    ·simp[h]
   ·by_cases h:x.1=z
    ·simp[h,h2]
    ·simp[h,h2]
 have app:∀f:Tb,dm (f++[(z,v)]) p=(dm f p).or (if z=p then some v else none):=fun f=>by
  induction f with
  |nil=>exact vH _ _ _
  |cons x f ih=>
   rw[jO,vH,vH,ih];by_cases h:x.1=p
   ·rw[if_pos h,if_pos h];rfl
   ·rw[if_neg h,if_neg h]
 unfold tL;split
 ·rename_i h;rw[set];by_cases e:z=p
  ·subst e
   obtain⟨w,hw⟩:=wU.mp h
   rw[if_pos rfl,if_pos rfl,hw];rfl
  ·rw[if_neg e,if_neg e]
 ·rename_i h;rw[app];by_cases e:z=p
  ·subst e;rw[Option.not_isSome_iff_eq_none.mp h,if_pos rfl];rfl
  ·rw[if_neg e,if_neg e,Option.or_none]
theorem ahM(f:Tb)(z:Str)(v:List Int):(tL f z v).length≤f.length+1:=by
 unfold tL;split
 ·rw[aW];exact BW _
 ·rw[fU];exact bO _
theorem Qz(f:Tb)(z:Str):mX (aP (jr f)) (.str z)=some ((dm f z).map fun v=>.list (v.map .int)):=by
 rw[N6];unfold jr dm;rw[Vy,Bu,Bu];rfl
theorem akZ(f:Tb)(z:Str):jo (.str z) (.dict (aP (jr f)))=some (.im (.bool (dm f z).isSome)):=by
 show((mX (aP (jr f)) (.str z)).map (·.isSome)).map (fun b=>Vl.im (.bool b))=_
 rw[Qz,j6,Bj];rfl
theorem ak0{f:Tb}{z:Str}{v:List Int}(h:dm f z=some v):bw (.dict (aP (jr f))) (.str z)=some (.im (.list (v.map .int))):=by
 unfold bw tR;simp only[Qz,h,j6]
theorem akm(f:Tb)(z:Str)(v:List Int):putD (aP (jr f)) (.str z) (.list (v.map .int))=some (aP (jr (tL f z v))):=by
 have ks:(dm f z).isSome=true↔z∈(jr f).map (·.1):=by
  unfold dm jr;rw[Bj,dB,adG];simp only[fK,decide_eq_true_eq];rfl
 unfold tL;by_cases h:(dm f z).isSome=true
 ·rw[if_pos h]
  show(if(cM cV (aP (jr f))).isSome then some (m7 cV (.inr z) (.str z) (.list (v.map .int)) (aP (jr f))) else none)=_
  rw[Cu];refine congrArg some ?_;unfold m7;rw[if_pos]
  ·unfold aP jr;rw[dB,dB,dB,dB];refine wW fun x _=>?_
   by_cases e:x.1=z
   ·simp[zU,e]
   ·simp[zU,e]
  ·obtain⟨x,hx,e⟩:=fK.mp (ks.mp h)
   exact adS.mpr ⟨(.str x.1,x.2),fK.mpr ⟨x,hx,rfl⟩,decide_eq_true ((zU _ _).mpr e)⟩
 ·rw[if_neg h,O9 fun m=>h (ks.mpr m)];unfold jr;rw[gR];rfl
theorem Z1(f:Tb)(z:Str):(dm f z).isSome=true↔z∈f.map (·.1):=by
 unfold dm;rw[Bj,adG];simp only[fK,decide_eq_true_eq]
theorem akn{f:Tb}(h:(f.map (·.1)).Nodup)(z:Str)(v:List Int):((tL f z v).map (·.1)).Nodup:=by
 unfold tL;split
 ·rw[dB,show f.map ((·.1) ∘ fun x=>if x.1=z then(z,v) else x)=f.map (·.1) from wW fun x _=>by
   by_cases e:x.1=z
   ·simp[e]
   ·simp[e]]
  exact h
 ·rename_i k;rw[gR];exact j5.mpr ⟨h,iR.mpr ⟨jN,lC⟩,fun a ha c hc e=>k ((Z1 f z).mpr (by rw[e,jf.mp hc] at ha;exact ha))⟩
def Ep(v:List Int):Option (List Int)→Bool
 |none=>true
 |some o=>ltB v o
def jA(f:Tb)(r:cB):Tb:=match dm f r.2.1 with
 |none=>f
 |some v=>if Ep (v++[r.1]) (dm f r.2.2.1) then tL f r.2.2.1 (v++[r.1]) else f
def o7(lv:List cB):Nat→Tb→Tb
 |0,f=>f
 |n+1,f=>o7 lv n (lv.foldl jA f)
def pD(f g:Tb):Prop:=∀x v,dm f x=some v→∃w,dm g x=some w∧jq w v
theorem pD.refl(f:Tb):pD f f:=fun x v h=>⟨v,h,jq.refl _⟩
theorem pD.trans{f g h:Tb}(a:pD f g)(b:pD g h):pD f h:=fun x v e=>by
 obtain⟨w,e1,l1⟩:=a x v e
 obtain⟨u,e2,l2⟩:=b x w e1
 exact⟨u,e2,l2.trans l1⟩
theorem aaI(f:Tb)(r:cB):pD f (jA f r):=by
 unfold jA;split
 ·exact pD.refl f
 ·rename_i v hv;split
  ·rename_i b;intro x w hx;rw[Jl];by_cases e:r.2.2.1=x
   ·rw[if_pos e];rw[e,hx] at b
    exact⟨_,rfl,(aaH _ _).1 b⟩
   ·rw[if_neg e]
    exact⟨w,hx,jq.refl _⟩
  ·exact pD.refl f
theorem ai4{f:Tb}{r:cB}{v:List Int}(h:dm f r.2.1=some v):∃w,dm (jA f r) r.2.2.1=some w∧jq w (v++[r.1]):=by
 unfold jA;rw[h];show ∃w,dm (if Ep (v++[r.1]) (dm f r.2.2.1) then tL f r.2.2.1 (v++[r.1]) else f) r.2.2.1=some w∧_;split
 ·rw[Jl,if_pos rfl]
  exact⟨_,rfl,jq.refl _⟩
 ·rename_i b;cases o:dm f r.2.2.1 with
  |none=>rw[o] at b;exact absurd rfl b
  |some w=>
   rw[o] at b
   exact⟨w,rfl,(aaH _ _).2 (U8 _▸b)⟩
theorem Rf:∀(lv:List cB)(f:Tb),pD f (lv.foldl jA f)
 |[],f=>pD.refl f
 |r::lv,f=>(aaI f r).trans (Rf lv (jA f r))
theorem aaJ(lv:List cB):∀(n:Nat)(f:Tb),pD f (o7 lv n f)
 |0,f=>pD.refl f
 |n+1,f=>(Rf lv f).trans (aaJ lv n _)
theorem Z2{r:cB}:∀{lv:List cB}{f:Tb}{v:List Int},r∈lv→dm f r.2.1=some v→∃w,dm (lv.foldl jA f) r.2.2.1=some w∧jq w (v++[r.1])
 |q::lv,f,v,hm,hg=>by
  rw[Br];rcases bU.mp hm with c|hm
  ·subst c
   obtain⟨w,e,l⟩:=ai4 hg
   obtain⟨u,e2,l2⟩:=Rf lv _ _ _ e
   exact⟨u,e2,l2.trans l⟩
  ·obtain⟨w,e,l⟩:=aaI f q _ _ hg
   obtain⟨u,e2,l2⟩:=Z2 hm e
   exact⟨u,e2,l2.trans (l.snoc _)⟩
theorem Z3{lv:List cB}{a x:Str}{p:List Int}(hp:iC (lv.map uR) a p x):∀{k:Nat}{f:Tb}{v p0:List Int},dm f a=some v→jq v p0→p.length≤k→∃w,dm (o7 lv k f) x=some w∧jq w (p0++p):=by
 induction hp with
 |nil _=>
  intro k f v p0 h l _
  obtain⟨w,e,l2⟩:=aaJ lv k f _ _ h
  exact⟨w,e,by rw[ju];exact l2.trans l⟩
 |cons h1 _ ih=>
  intro k f v p0 h l hl;cases k with
  |zero=>exact absurd hl (ac3 _)
  |succ k=>
   obtain⟨c,hr,e⟩:=fK.mp h1
   injection e with e1 e2
   injection e2 with e2 e3
   obtain⟨w,e4,l4⟩:=Z2 (f:=f) hr (by rw[e2];exact h)
   rw[e3] at e4;rw[e1] at l4
   obtain⟨u,e5,l5⟩:=ih (k:=k) e4 (l4.trans (l.snoc _)) (Nat.le_of_succ_le_succ hl)
   rw[kI] at l5
   exact⟨u,e5,l5⟩
def yL(ws:List (Int×Str×Str))(h:Str)(f:Tb):Prop:=∀x v,dm f x=some v→iC ws h v x
theorem ako{ws:List (Int×Str×Str)}{h:Str}{f:Tb}{r:cB}(hr:uR r∈ws)(H:yL ws h f):yL ws h (jA f r):=by
 unfold jA;split
 ·exact H
 ·rename_i v hv;split
  ·intro x w hx;rw[Jl] at hx;by_cases e:r.2.2.1=x
   ·rw[if_pos e] at hx;cases hx;rw[←e]
    exact(H _ _ hv).snoc hr
   ·rw[if_neg e] at hx;exact H x w hx
  ·exact H
theorem aaK{ws:List (Int×Str×Str)}{h:Str}:∀{lv:List cB}{f:Tb},(∀r∈lv,uR r∈ws)→yL ws h f→yL ws h (lv.foldl jA f)
 |[],_,_,H=>H
 |r::lv,f,hr,H=>aaK (lv:=lv) (fun q hq=>hr q (dN _ hq)) (ako (hr r dG) H)
theorem aaL{ws:List (Int×Str×Str)}{h:Str}{lv:List cB}(hr:∀r∈lv,uR r∈ws):∀{n:Nat}{f:Tb},yL ws h f→yL ws h (o7 lv n f)
 |0,_,H=>H
 |n+1,_,H=>aaL hr (n:=n) (aaK hr H)
def u6(f:Tb)(M:Nat):Prop:=f.length≤M+1∧∀x v,dm f x=some v→v.length≤M
theorem aaM{f:Tb}{M:Nat}(r:cB)(h:u6 f M):u6 (jA f r) (M+1):=by
 have h':u6 f (M+1):=⟨U5 h.1,fun x v e=>U5 (h.2 x v e)⟩
 unfold jA;split
 ·exact h'
 ·rename_i v hv;split
  ·have:=ahM f r.2.2.1 (v++[r.1]);have:=h.1
   refine⟨by omega,fun x w hx=>?_⟩
   rw[Jl] at hx;by_cases e:r.2.2.1=x
   ·rw[if_pos e] at hx;cases hx;rw[fU];exact adT (h.2 _ _ hv)
   ·rw[if_neg e] at hx;exact h'.2 x w hx
  ·exact h'
theorem aaN:∀{lv:List cB}{f:Tb}{M:Nat},u6 f M→u6 (lv.foldl jA f) (M+lv.length)
 |[],_,_,h=>h
 |r::lv,f,M,h=>by
  have:=aaN (lv:=lv) (aaM r h);rw[Nat.add_right_comm] at this;exact this
theorem akp{f:Tb}(h:(f.map (·.1)).Nodup)(r:cB):((jA f r).map (·.1)).Nodup:=by
 unfold jA;split
 ·exact h
 ·split
  ·exact akn h _ _
  ·exact h
theorem aaO:∀{lv:List cB}{f:Tb},(f.map (·.1)).Nodup→((lv.foldl jA f).map (·.1)).Nodup
 |[],_,h=>h
 |r::lv,f,h=>aaO (lv:=lv) (akp h r)
theorem aaP{lv:List cB}:∀{n:Nat}{f:Tb},(f.map (·.1)).Nodup→((o7 lv n f).map (·.1)).Nodup
 |0,_,h=>h
 |n+1,_,h=>aaP (n:=n) (aaO h)
theorem agL{C:Ce}{lv:List cB}{h:Str}(jZ:lv.length≤16)(s:Str):yp (lv.map uR) h s (dm (o7 lv lv.length [(h,[])]) s)∧∀v,dm (o7 lv lv.length [(h,[])]) s=some v→v.length≤16:=by
 have T0:yL (lv.map uR) h [(h,[])]:=fun x v e=>by
  rw[vH] at e;split at e
  ·rename_i k;cases e;rw[←k];exact .nil _
  ·cases e
 have T:=aaL (lv:=lv) (fun r hr=>fK.mpr ⟨r,hr,rfl⟩) (n:=lv.length) T0;have few:∀r,iC (lv.map uR) h r s→∃w,dm (o7 lv lv.length [(h,[])]) s=some w∧w.length≤lv.length∧(r.length≤lv.length→jq w r):=fun r hr=>by
  obtain⟨st,_,B⟩:=Iz (C:=C) (ws:=(lv.map uR).map nO) (s:=h) (by rw[aW,aW];omega)
  obtain⟨p,hp,pl⟩:=B.YC ⟨r,hr⟩
  rw[aW] at pl;have f0:dm [(h,[])] h=some []:=by rw[vH,if_pos rfl]
  obtain⟨w,e,l⟩:=Z3 hp f0 (jq.refl []) pl
  refine⟨w,e,?_,fun rl=>?_⟩
  ·rw[iT] at l;rcases l with l|l<;>omega
  ·obtain⟨w',e',l'⟩:=Z3 hr f0 (jq.refl []) rl
   rw[e] at e';cases e';exact l'
 cases e:dm (o7 lv lv.length [(h,[])]) s with
 |none=>
  refine⟨fun r hr=>?_,fun v k=>nomatch k⟩
  obtain⟨w,e2,_⟩:=few r hr
  rw[e] at e2;cases e2
 |some v=>
  refine⟨⟨T s v e,fun r hr=>?_⟩,fun v' k=>by
   obtain⟨w,e2,l2,_⟩:=few v (T s v e)
   rw[e] at e2;cases e2;cases k;omega⟩
  obtain⟨w,e2,l2,k⟩:=few r hr
  rw[e] at e2;cases e2;by_cases c:r.length≤lv.length
  ·exact k c
  ·exact .inl (by omega)
theorem qP{f g:FS}{env e1:En}{C C1:Ce}(h:f env C=some (.nx,e1,C1)):fSeq f g env C=g e1 C1:=by
 unfold fSeq;rw[h]
theorem Rg{fi:FI}{g:FG}{b:FS}{env e1:En}{C C1:Ce}{its:List aj}(h:fi env C=some (its,e1,C1)):gw fi g b env C=iH g b its e1 C1:=by
 unfold gw;rw[h]
theorem akq{C:Ce}{f:FB}{env:En}{k:Int}(h:f env C=some (.int k,env,C))(k1:0≤k)(k2:k≤1000):iz f env C=some (iu 0 k.toNat,env,C):=by
 unfold iz;rw[h];exact wC (by omega) (by omega) _ _
theorem ahN(r:cB)(l:List aj):eZ (bI r::l)=eZ l:=by
 unfold bI;simp only[eZ,jB,aew,Bool.and_true]
theorem Xy:∀l:List cB,eZ (l.map bI)=true
 |[]=>rfl
 |r::l=>by rw[cg,ahN];exact Xy l
abbrev qt(v0 v1 v2 v3 v4 v5:Option Vl)(f:Tb)(v7 v8 v9 v10:Option Vl):En:=[v0,v1,v2,v3,v4,v5,some (.ow (.dict (aP (jr f)))),v7,v8,v9,v10]
section
variable{C:Ce}{v0 v1 v2 v3 v4 v5 v7:Option Vl}
theorem ahO{f:Tb}{M:Nat}(r:cB)(hz:u6 f M)(hM:M≤1000)(v9 v10:Option Vl):∃w9 w10,Lw (qt v0 v1 v2 v3 v4 v5 f v7 (some (.im (bI r))) v9 v10) C=some (.nx,qt v0 v1 v2 v3 v4 v5 (jA f r) v7 (some (.im (bI r))) w9 w10,C):=by
 have q:((aP (jr f)).length<1000000)=True:=eq_true (by have:=hz.1;unfold aP jr;rw[aW,aW];omega);have i1:=akZ f r.2.1;have g1:=Qz f r.2.2.1;unfold jA;simp only[qt,bI];cases hv:dm f r.2.1 with
 |none=>
  rw[hv] at i1
  refine⟨v9,v10,?_⟩
  simp_arith[i1,Uw]
 |some v=>
  rw[hv] at i1;have x1:=ak0 hv;have ad:bN (.list (v.map .int)) (.list [.int r.1])=some (.ow (.list ((v++[r.1]).map .int))):=by
   rw[gR];exact add_l (by have:=hz.2 _ _ hv;rw[aW];show _+1≤_;omega)
  have p1:=akm f r.2.2.1 (v++[r.1])
  obtain⟨row,hrow⟩:∃row,v++[r.1]=row:=⟨_,rfl⟩
  rw[hrow] at ad p1;cases ho:dm f r.2.2.1 with
  |none=>
   rw[ho] at g1
   refine⟨some (.im (.list (row.map .int))),some (.im .none),?_⟩
   simp_arith[i1,Be,hrow,x1,ad,Ar,g1,Option.map_none,uD,isNone,Ep,oZ,qT,p1,q]
  |some o=>
   rw[ho] at g1;have l1:=ahL row o;cases hb:ltB row o with
   |true=>
    rw[hb] at l1
    refine⟨some (.im (.list (row.map .int))),some (.im (.list (o.map .int))),?_⟩
    simp_arith[i1,Be,hrow,x1,ad,Ar,g1,j6,uD,isNone,Ep,hb,aW,l1,oZ,qT,p1,q]
   |false=>
    rw[hb] at l1
    refine⟨some (.ow (.list (row.map .int))),some (.im (.list (o.map .int))),?_⟩
    simp_arith[i1,Be,hrow,x1,ad,Ar,g1,j6,uD,isNone,Ep,hb,aW,l1,pF]
theorem aaQ:∀(lv:List cB)(f:Tb)(M:Nat)(v8 v9 v10:Option Vl),u6 f M→M+lv.length≤1000→∃w8 w9 w10,iH (gNm 8) Lw (lv.map bI) (qt v0 v1 v2 v3 v4 v5 f v7 v8 v9 v10) C=some (.nx,qt v0 v1 v2 v3 v4 v5 (lv.foldl jA f) v7 w8 w9 w10,C)
 |[],f,M,v8,v9,v10,_,_=>⟨v8,v9,v10,rfl⟩
 |r::lv,f,M,v8,v9,v10,hz,hl=>by
  rw[cO] at hl
  obtain⟨x9,x10,e1⟩:=ahO (C:=C) (v0:=v0) (v1:=v1) (v2:=v2) (v3:=v3) (v4:=v4) (v5:=v5) (v7:=v7) r hz (by omega) v9 v10
  obtain⟨w8,w9,w10,e⟩:=aaQ lv (jA f r) (M+1) (some (.im (bI r))) x9 x10 (aaM r hz) (by omega)
  refine⟨w8,w9,w10,?_⟩
  rw[Br,←e,cg,iH];simp only[qt,gNm,KN,KQ] at e1⊢;simp only[e1]
end
theorem W5{C:Ce}{v0 v1 v2 v3 v4:Option Vl}{lv:List cB}(jZ:lv.length≤16):∀(its:List aj)(f:Tb)(M:Nat)(sv:Vl)(v7 v8 v9 v10:Option Vl),sv=.ow (.list (lv.map bI))∨sv=.im (.list (lv.map bI))→u6 f M→M+16*its.length≤900→∃w5 w7 w8 w9 w10,iH (gNm 7) VF its (qt v0 v1 v2 v3 v4 (some sv) f v7 v8 v9 v10) C=some (.nx,qt v0 v1 v2 v3 v4 w5 (o7 lv its.length f) w7 w8 w9 w10,C)
 |[],f,M,sv,v7,v8,v9,v10,_,_,_=>⟨some sv,v7,v8,v9,v10,rfl⟩
 |d::its,f,M,sv,v7,v8,v9,v10,hv,hz,hl=>by
  rw[cO] at hl
  obtain⟨x8,x9,x10,e1⟩:=aaQ (C:=C) (v0:=v0) (v1:=v1) (v2:=v2) (v3:=v3) (v4:=v4) (v5:=some (.im (.list (lv.map bI)))) (v7:=some (.im d)) lv f M v8 v9 v10 hz (by omega)
  obtain⟨w5,w7,w8,w9,w10,e2⟩:=W5 jZ its (lv.foldl jA f) (M+lv.length) (.im (.list (lv.map bI))) (some (.im d)) x8 x9 x10 (.inr rfl) (aaN hz) (by omega)
  refine⟨w5,w7,w8,w9,w10,?_⟩
  rw[cO,o7,←e2,iH];simp only[qt] at e1⊢;rcases hv with rfl|rfl
  ·simp_arith[gw,e1]
  ·simp_arith[gw,e1]
theorem afN{C:Ce}{zs:List Str}{ps:List (Str×Str)}(hN:Names zs)(hP:gJ zs ps)(p8:ps.length≤8)(z a1 b1:Str)(n day:Int)(lv:List cB):jx .one Lx Ly [some (.im (.dict (aP (bz ps)))),some (.im (cW z a1 b1 n)),some (.im (.int day))] (lv.map bI) C=some ((lv.filter (mG (up ps z) n day a1 b1)).map bI,C):=by
 refine qz (T:=.one) (ft:=Lx) (fe:=Ly) (fs:=[some (.im (.dict (aP (bz ps)))),some (.im (cW z a1 b1 n)),some (.im (.int day))]) (C:=C) bI (mG (up ps z) n day a1 b1) bI (l:=lv) fun r _=>⟨[bI r],rfl,?_,fun _=>⟨.im (bI r),_,rfl,rfl⟩⟩
 have q:=ai0 (C:=C) hN hP p8 z a1 b1 n day r;simp_arith[dz,jO,iT,q]
theorem agM{os:List Str}{n day:Int}{a1 b1:Str}{r:cB}(h:mG os n day a1 b1 r=true):¬(r.2.2.1=a1∨r.2.2.1=b1):=by
 unfold mG at h;simp only[iQ,UL] at h;exact of_decide_eq_false h.2.2.2.2
theorem YS{ht:jE}{os:List Str}{n day:Int}{a1 b1 h s:Str}{p:List Int}(hs:¬(h=a1∨h=b1))(hp:iC (kZ ht os n day a1 b1) h p s):¬(s=a1∨s=b1):=by
 have:=hp.Jw;generalize p.reverse=p' at this;cases this with
 |nil=>exact hs
 |cons hw _=>
  obtain⟨r,hr,e⟩:=fK.mp (Iu.mp hw)
  injection e with e1 e2
  injection e2 with e2 e3
  rw[←e3];exact agM (pG.mp hr).2
def Aw(ht:jE)(os:List Str)(n day:Int)(a1 b1 h s:Str)(o:Option (List Int)):Prop:=(((h=a1∨h=b1)∨(s=a1∨s=b1))→o=none)∧(¬((h=a1∨h=b1)∨(s=a1∨s=b1))→yp (kZ ht os n day a1 b1) h s o)
theorem Aw.unique{ht:jE}{os:List Str}{n day:Int}{a1 b1 h s:Str}{o o':Option (List Int)}(a:Aw ht os n day a1 b1 h s o)(b:Aw ht os n day a1 b1 h s o'):o=o':=by
 by_cases c:(h=a1∨h=b1)∨(s=a1∨s=b1)
 ·rw[a.1 c,b.1 c]
 ·exact(a.2 c).unique (b.2 c)
theorem afO{C:Ce}{zs:List Str}{ps ps':List (Str×Str)}{lv:List cB}(hN:Names zs)(hP:gJ zs ps)(p8:ps.length≤8)(jZ:lv.length≤16)(z a1 b1:Str)(n day:Int)(h:Str):
  ∃f:Tb,Hs [.im (.dict (aP (bz ps))),.im (.list (lv.map bI)),.im (cW z a1 b1 n),.im (.str h),.im (.int day)] C=some (.ow (.dict (aP (jr f))),C)∧(∀s,Aw ⟨ps',[],lv,[]⟩ (up ps z) n day a1 b1 h s (dm f s)∧∀v,dm f s=some v→v.length≤16)∧(f.map (·.1)).Nodup:=by
 refine hide fun GG gg=>?_
 have ct:iJ [cF z,.int n,.str a1,.str b1] (some 2) none=[.str a1,.str b1]:=rfl;have ni:=Ac h a1 b1;by_cases h1:h=a1∨h=b1
 ·rw[decide_eq_true h1] at ni;refine gg ⟨[],gh [some (.im (.dict (aP (bz ps)))),some (.im (.list (lv.map bI))),some (.im (cW z a1 b1 n)),some (.im (.str h)),some (.im (.int day)),none,none,none,none,none,none] rfl rfl ?_ rfl rfl,fun s=>⟨⟨fun _=>rfl,fun k=>absurd (.inl h1) k⟩,fun v k=>nomatch k⟩,lC⟩;simp_arith[Hr,dj,cQ,fD,jc,ct,ni,Dr];rfl
 rw[decide_eq_false h1] at ni
 obtain⟨l,lE⟩:∃l,l=lv.filter (mG (up ps z) n day a1 b1):=⟨_,rfl⟩
 have ll:l.length≤16:=by rw[lE];exact jP (yO _ _) jZ
 have c:=afN (C:=C) hN hP p8 z a1 b1 n day lv;rw[←lE] at c;have q:(l.length≤1000000)=True:=eq_true (by omega);have nl:=Xy l;have kd:cV (.str h)=some (.inr h):=rfl;have fm:=fun s=>agL (C:=C) (h:=h) ll s
 have rl:(iu 0 l.length).length=l.length:=by simp[iu]
 have z0:u6 [(h,[])] 0:=⟨bO _,fun x v e=>by
  rw[vH] at e;split at e
  ·cases e;exact bO _
  ·cases e⟩
 obtain⟨w5,w7,w8,w9,w10,e1⟩:=W5 (C:=C) (v0:=some (.im (.dict (aP (bz ps))))) (v1:=some (.im (.list (lv.map bI)))) (v2:=some (.im (cW z a1 b1 n))) (v3:=some (.im (.str h))) (v4:=some (.im (.int day))) ll (iu 0 l.length) [(h,[])] 0 (.ow (.list (l.map bI))) none none none none (.inl rfl) z0 (by rw[rl];omega)
 rw[rl] at e1;have nd:((o7 l l.length [(h,[])]).map (·.1)).Nodup:=aaP (iR.mpr ⟨jN,lC⟩);generalize o7 l l.length [(h,[])]=f at fm e1 nd;refine gg ⟨f,gh [some (.im (.dict (aP (bz ps)))),some (.im (.list (lv.map bI))),some (.im (cW z a1 b1 n)),some (.im (.str h)),some (.im (.int day)),none,none,none,none,none,none] rfl rfl ?_ rfl rfl,fun s=>⟨⟨fun k=>?_,fun _=>by have:=(fm s).1;rw[lE] at this;exact this⟩,(fm s).2⟩,nd⟩
 ·refine(congrArg (Nm fun p=>(p.1,p.2.2)) (?_:Hr _ C=some (.rt (.ow (.dict (aP (jr f)))),qt (some (.im (.dict (aP (bz ps))))) (some (.im (.list (lv.map bI)))) (some (.im (cW z a1 b1 n))) (some (.im (.str h))) (some (.im (.int day))) w5 f w7 w8 w9 w10,C))).trans rfl
  refine(qP (e1:=[some (.im (.dict (aP (bz ps)))),some (.im (.list (lv.map bI))),some (.im (cW z a1 b1 n)),some (.im (.str h)),some (.im (.int day)),none,none,none,none,none,none]) (C1:=C) ?_).trans ?_
  ·simp_arith[dj,cQ,fD,jc,ct,ni]
  refine(qP (e1:=qt (some (.im (.dict (aP (bz ps))))) (some (.im (.list (lv.map bI)))) (some (.im (cW z a1 b1 n))) (some (.im (.str h))) (some (.im (.int day))) (some (.ow (.list (l.map bI)))) [(h,[])] none none none none) (C1:=C) ?_).trans ?_
  ·have k0:aP (jr [(h,[])])=[(.str h,.list [])]:=rfl;simp only[qt,k0];simp_arith[c,q,nl,Ak,kd]
  refine(qP ((Rg (akq (k:=(l.length:Int)) ?_ (by omega) (by omega))).trans e1)).trans ?_
  ·show some (pM ((l.map bI).length:Int),_,C)=_;rw[aW];rfl
  ·rfl
 ·cases e:dm f s with
  |none=>rfl
  |some v=>
   have:=(fm s).1;rw[e,lE] at this;exact absurd (k.resolve_left h1) (YS (ht:=⟨ps',[],lv,[]⟩) h1 this.1)
theorem Ck(p a1 b1:Str):mj (.str p) (.tuple [.str a1,.str b1])=some (.im (.bool (!decide (p=a1∨p=b1)))):=by
 have:=Ac p a1 b1;unfold jo at this;unfold mj;cases hh:inB (.str p) (.tuple [.str a1,.str b1]) with
 |none=>rw[hh] at this;cases this
 |some v=>rw[hh] at this;cases this;rfl
theorem ai5{C:Ce}{ws:List (Int×Str×Str)}{h s:Str}{r:List Int}(hl:ws.length≤60)(R:m5 ws h s r):r.length≤60:=by
 obtain⟨st,_,B⟩:=Iz (C:=C) (ws:=ws.map nO) (s:=h) (by rw[aW];exact hl)
 obtain⟨p,hp,pl⟩:=B.YC ⟨r,R.1⟩
 rcases R.2 p hp with k|k<;>omega
def fO(c1 c2:Str)(r:cB):Bool:=!decide (r.2.1=c1∨r.2.1=c2)&&!decide (r.2.2.1=c1∨r.2.2.1=c2)
theorem Z4{lv:List cB}{u1 u2:Str}(hp:∀r∈lv,¬(r.2.1=u1∨r.2.1=u2)∧¬(r.2.2.1=u1∨r.2.2.1=u2))(qs ps':List (Str×Str))(os:List Str)(n day:Int)(c1 c2:Str):kZ ⟨qs,[],lv.filter (fO c1 c2),[]⟩ os n day u1 u2=kZ ⟨ps',[],lv,[]⟩ os n day c1 c2:=by
 unfold kZ;refine congrArg _ ?_
 show(lv.filter (fO c1 c2)).filter (mG os n day u1 u2)=lv.filter (mG os n day c1 c2)
 rw[List.filter_filter];refine List.filter_congr fun r hr=>?_
 obtain⟨h1,h2⟩:=hp r hr
 unfold mG fO;rw[decide_eq_false h1,decide_eq_false h2];cases decide (r.2.2.2.1∈os)<;>cases decide (r.2.2.2.2.1≤day)<;>cases decide (day≤r.2.2.2.2.2.1)<;>cases decide (n≤r.2.2.2.2.2.2)<;>rfl
theorem ai6{f:Tb}(hl:f.length<64):uy [.dict (aP (jr f))]=some (.ow (.list ((mZ strLt (f.map (·.1))).map .str))):=by
 have e:(aP (jr f)).map (·.1)=(f.map (·.1)).map cF:=by
  unfold aP jr;rw[dB,dB,dB];rfl
 show((strsOf ((aP (jr f)).map (·.1))).bind _)=_
 rw[e,Cd,gQ,decide_eq_true (by rw[aW];exact hl)];rfl
theorem Aw.rch{ht:jE}{os:List Str}{n day:Int}{a1 b1 h s:Str}{o:Option (List Int)}(hs:¬(h=a1∨h=b1))(R:Aw ht os n day a1 b1 h s o):o.isSome=true↔Bb (kZ ht os n day a1 b1) h s:=by
 by_cases c:s=a1∨s=b1
 ·rw[R.1 (.inr c)]
  exact⟨fun k=>(nomatch k),fun k=>by obtain⟨p,hp⟩:=k;exact absurd c (YS hs hp)⟩
 ·have r:=R.2 fun k=>k.elim hs c
  cases o with
  |none=>exact⟨fun k=>(nomatch k),fun k=>by obtain⟨p,hp⟩:=k;exact absurd hp (r p)⟩
  |some v=>exact⟨fun _=>⟨v,r.1⟩,fun _=>rfl⟩
abbrev g8(b:Nat)(ps:List (Str×Str))(pe:List Str)(lv:List cB)(z a1 b1:Str)(n day:Int)(v6:Option Vl)(u1 u2:Str)(v8:Option Vl)(c1 c2:Str)(ht:jE)(v11 bQ j0 j4 gj gH gb gf:Option Vl):En:=
 [some (.ce b),some (.im (.dict (aP (bz ps)))),some (.im (.list (pe.map .str))),some (.im (.list (lv.map bI))),some (.im (cW z a1 b1 n)),some (.im (.int day)),v6,some (.im (cW z u1 u2 n)),v8,some (.im (.tuple [.str c1,.str c2])),some (.im (gq ht)),v11,bQ,j0,j4,gj,gH,gb,gf]
section
variable{C:Ce}{b:Nat}{zs pe:List Str}{ps ps' jL:List (Str×Str)}{lv:List cB}{z a1 b1 u1 u2 c1 c2:Str}{n day:Int}{v6 v8 v11 bQ:Option Vl}(hN:Names zs)(hP:gJ zs ps)(hG:nF zs ps ⟨ps',[],lv,[]⟩)(tV:nF zs ps ⟨jL,[],lv.filter (fO c1 c2),[]⟩)(hp:∀r∈lv,¬(r.2.1=u1∨r.2.1=u2)∧¬(r.2.2.1=u1∨r.2.2.1=u2))
include hN hP hG tV hp
theorem ai7{h s:Str}(hu:¬(h=u1∨h=u2))(su:¬(s=u1∨s=u2))(gj gb gf:Option Vl):∃w17 w18,K5 (g8 b ps pe lv z a1 b1 n day v6 u1 u2 v8 c1 c2 ⟨ps',[],lv,[]⟩ v11 bQ (some (.im (gq ⟨jL,[],lv.filter (fO c1 c2),[]⟩))) (some (.im (.str h))) gj (some (.im (.str s))) gb gf) C=some (.nx,g8 b ps pe lv z a1 b1 n day v6 u1 u2 v8 c1 c2 ⟨ps',[],lv,[]⟩ v11 bQ (some (.im (gq ⟨jL,[],lv.filter (fO c1 c2),[]⟩))) (some (.im (.str h))) gj (some (.im (.str s))) w17 w18,C):=by
 have ct:iJ [cF z,.int n,.str a1,.str b1] none (some 2)=[.str z,.int n]:=rfl;have rH:∀a b c d:aj,bN (.tuple [a,b]) (.tuple [c,d])=some (.im (.tuple [a,b,c,d])):=fun _ _ _ _=>Aj (wV rfl)
 obtain⟨o,e1,r1,r2⟩:=YK (C:=C) hN hP hG z c1 c2 n day h s
 obtain⟨o2,e2,_,r4⟩:=YK (C:=C) hN hP tV z u1 u2 n day h s
 have i1:=Ck h c1 c2;have i2:=Ck s c1 c2;simp only[g8];by_cases c:(h=c1∨h=c2)∨(s=c1∨s=c2)
 ·have o0:=r1 c;subst o0;have sm:=YL (C:=C) 1 none (fun r e=>nomatch e);simp only[wF,still] at e1 sm
  refine⟨some (.im .none),some (.im .none),?_⟩
  by_cases k:h=c1∨h=c2
  ·rw[decide_eq_true k] at i1;simp_arith[dj,cQ,fD,jc,ct,rH,e1,i1,sm]
  ·rw[decide_eq_false k] at i1;rw[decide_eq_true (c.resolve_left k)] at i2;simp_arith[dj,cQ,fD,jc,ct,rH,e1,i1,i2,sm]
 ·rw[decide_eq_false fun k=>c (.inl k)] at i1;rw[decide_eq_false fun k=>c (.inr k)] at i2;have R1:=r2 c;have R2:=r4 fun k=>k.elim hu su
  rw[Z4 hp jL ps' (up ps z) n day c1 c2] at R2;have eo:=R1.unique R2;subst eo;have sm:=YL (C:=C) 1 o (fun r e=>by subst e;have:=ai5 (C:=C) (IK hG (up ps z) n day c1 c2) R1;omega);cases o with
  |none=>
   simp only[wF,still] at e1 e2 sm
   refine⟨some (.im .none),some (.im .none),?_⟩
   simp_arith[dj,cQ,fD,jc,ct,rH,e1,i1,i2,e2,sm]
  |some r=>
   simp only[wF,still] at e1 e2 sm
   refine⟨some (.ow (.list (r.map .int))),some (.ow (.list (r.map .int))),?_⟩
   simp_arith[dj,cQ,fD,jc,ct,rH,e1,i1,i2,e2,sm]
theorem W6{h:Str}(hu:¬(h=u1∨h=u2))(gj:Option Vl):∀(ss:List Str)(gH gb gf:Option Vl),(∀s∈ss,¬(s=u1∨s=u2))→∃w16 w17 w18,iH (gNm 16) K5 (ss.map .str) (g8 b ps pe lv z a1 b1 n day v6 u1 u2 v8 c1 c2 ⟨ps',[],lv,[]⟩ v11 bQ (some (.im (gq ⟨jL,[],lv.filter (fO c1 c2),[]⟩))) (some (.im (.str h))) gj gH gb gf) C=some (.nx,g8 b ps pe lv z a1 b1 n day v6 u1 u2 v8 c1 c2 ⟨ps',[],lv,[]⟩ v11 bQ (some (.im (gq ⟨jL,[],lv.filter (fO c1 c2),[]⟩))) (some (.im (.str h))) gj w16 w17 w18,C)
 |[],gH,gb,gf,_=>⟨gH,gb,gf,rfl⟩
 |s::ss,gH,gb,gf,hs=>by
  obtain⟨x17,T5,e⟩:=ai7 (C:=C) (b:=b) (pe:=pe) (a1:=a1) (b1:=b1) (v6:=v6) (v8:=v8) (v11:=v11) (bQ:=bQ) (z:=z) (n:=n) (day:=day) hN hP hG tV hp hu (hs s dG) gj gb gf
  obtain⟨w16,w17,w18,e2⟩:=W6 hu gj ss (some (.im (.str s))) x17 T5 (fun s h=>hs s (dN _ h))
  refine⟨w16,w17,w18,?_⟩
  rw[cg,iH];simp only[g8,gNm,KN,KQ] at e e2⊢;simp only[e,e2]
end
theorem Z5{α:Type}(D:α→aj)(xs:List α)(lo hi:Option Int):iJ (xs.map D) lo hi=(iJ xs lo hi).map D:=by
 unfold iJ;rw[aW,V4,aev]
theorem Jg{α:Type}{xs:List α}{lo hi:Option Int}{x:α}(h:x∈iJ xs lo hi):x∈xs:=Gd (vd h)
theorem mul_if(qs:List Str)(b:Bool)(hl:qs.length≤1000):∃ds,Ju (.list (qs.map .str)) (.int (if b then 1 else 0))=some (.ow (.list (ds.map .str)))∧ds=if b then qs else[]:=by
 refine⟨if b then qs else[],?_,rfl⟩
 cases b with
 |true=>
  refine(if_pos ⟨by decide,by decide,by rw[aW];exact hl⟩).trans ?_
  show some (Vl.ow (.list (qs.map .str++[])))=_;rw[ju];rfl
 |false=>exact if_pos ⟨by decide,by decide,by rw[aW];exact hl⟩
section
variable{C:Ce}{b:Nat}{zs pe:List Str}{ps ps' jL:List (Str×Str)}{lv:List cB}{z a1 b1 u1 u2 c1 c2:Str}{n day:Int}{v6 v8 bQ:Option Vl}(hN:Names zs)(hP:gJ zs ps)(hG:nF zs ps ⟨ps',[],lv,[]⟩)(tV:nF zs ps ⟨jL,[],lv.filter (fO c1 c2),[]⟩)(hp:∀r∈lv,¬(r.2.1=u1∨r.2.1=u2)∧¬(r.2.2.1=u1∨r.2.2.1=u2))
include hN hP hG tV hp
theorem ahP{h:Str}{nv:Vl}(hv:nv=.ow (.list ((lv.filter (fO c1 c2)).map bI))∨nv=.im (.list ((lv.filter (fO c1 c2)).map bI)))(hu:¬(h=u1∨h=u2))(pu:∀s∈pe,¬(s=u1∨s=u2))(gj gH gb gf:Option Vl):∃w15 w16 w17 w18,K6 (g8 b ps pe lv z a1 b1 n day v6 u1 u2 v8 c1 c2 ⟨ps',[],lv,[]⟩ (some nv) bQ (some (.im (gq ⟨jL,[],lv.filter (fO c1 c2),[]⟩))) (some (.im (.str h))) gj gH gb gf) C=some (.nx,g8 b ps pe lv z a1 b1 n day v6 u1 u2 v8 c1 c2 ⟨ps',[],lv,[]⟩ (some (.im (.list ((lv.filter (fO c1 c2)).map bI)))) bQ (some (.im (gq ⟨jL,[],lv.filter (fO c1 c2),[]⟩))) (some (.im (.str h))) w15 w16 w17 w18,C):=by
 refine hide fun GG gg=>?_
 have ct:iJ [cF z,.int n,.str a1,.str b1] none (some 2)=[.str z,.int n]:=rfl;have rH:∀a b c d:aj,bN (.tuple [a,b]) (.tuple [c,d])=some (.im (.tuple [a,b,c,d])):=fun _ _ _ _=>Aj (wV rfl)
 have jZ:(lv.filter (fO c1 c2)).length≤16:=tV.jZ
 obtain⟨f,e1,M,nd⟩:=afO (C:=C) (ps':=jL) hN hP hG.p8 jZ z u1 u2 n day h
 obtain⟨qs,e2,l2,S⟩:=afM (C:=C) hN hP hG z c1 c2 n day h
 have wq:=Z4 hp jL ps' (up ps z) n day c1 c2;have mem:∀x,x∈f.map (·.1)↔Bb (kZ ⟨ps',[],lv,[]⟩ (up ps z) n day c1 c2) h x:=fun x=>by
  rw[←Z1,(M x).1.rch hu,wq]
 have fl:f.length≤61:=by
  have wf:=IK hG (up ps z) n day c1 c2;have:=len_sub (m:=h::(kZ ⟨ps',[],lv,[]⟩ (up ps z) n day c1 c2).map (·.2.2)) nd fun p hp=>by
   obtain⟨r,hr⟩:=(mem p).mp hp
   have:=hr.Jw;generalize r.reverse=r' at this;cases this with
   |nil=>exact dG
   |cons hw _=>exact dN _ (fK.mpr ⟨_,Iu.mp hw,rfl⟩)
  simp only[cO,aW] at this;omega
 have so:=ai6 (f:=f) (by omega);have i1:=Ck h c1 c2
 obtain⟨ds,mu,hds⟩:=mul_if (mZ strLt (f.map (·.1))) (!decide (h=c1∨h=c2)) (by rw[(rY _).length_eq,aW];omega)
 have S2:yC (kZ ⟨ps',[],lv,[]⟩ (up ps z) n day c1 c2) (h=c1∨h=c2) h ds:=by
  by_cases c:h=c1∨h=c2
  ·rw[decide_eq_true c] at hds
   exact⟨[],lC,fun x=>⟨fun m=>(jN m).elim,fun m=>(m.1 c).elim⟩,hds⟩
  ·rw[decide_eq_false c] at hds
   exact⟨f.map (·.1),nd,fun x=>(mem x).trans ⟨fun r=>⟨c,r⟩,fun r=>r.2⟩,hds.trans (if_pos rfl)⟩
 have eq:=S.unique S2;subst eq;have sm:=agK (C:=C) 1 qs (by omega);have c7:=Z5 cF pe none (some 7)
 obtain⟨w16,w17,w18,e3⟩:=W6 (C:=C) (b:=b) (pe:=pe) (a1:=a1) (b1:=b1) (v6:=v6) (v8:=v8) (v11:=some (.im (.list ((lv.filter (fO c1 c2)).map bI)))) (bQ:=bQ) (z:=z) (n:=n) (day:=day) hN hP hG tV hp hu (some (.ow (.list (qs.map .str)))) (iJ pe none (some 7)) gH gb gf (fun s hs=>pu s (Jg hs))
 refine gg ⟨some (.ow (.list (qs.map .str))),w16,w17,w18,?_⟩;generalize iJ pe none (some 7)=ss at c7 e3;generalize lv.filter (fO c1 c2)=lw at hv e1 e3⊢;simp only[g8] at e3⊢;have ii:sZ [.bool (!decide (h=c1∨h=c2))]=some (.im (.int (if(!decide (h=c1∨h=c2)) then 1 else 0))):=by
  cases decide (h=c1∨h=c2)<;>rfl
 rcases hv with rfl|rfl
 ·simp_arith[e1,so,i1,ii,mu,dj,cQ,fD,jc,ct,rH,e2,sm,c7,gw,e3]
 ·simp_arith[e1,so,i1,ii,mu,dj,cQ,fD,jc,ct,rH,e2,sm,c7,gw,e3]
theorem Wr(pu:∀s∈pe,¬(s=u1∨s=u2)):∀(hs:List Str)(nv:Vl)(j4 gj gH gb gf:Option Vl),(nv=.ow (.list ((lv.filter (fO c1 c2)).map bI))∨nv=.im (.list ((lv.filter (fO c1 c2)).map bI)))→(∀h∈hs,¬(h=u1∨h=u2))→∃w11 w14 w15 w16 w17 w18,iH (gNm 14) K6 (hs.map .str) (g8 b ps pe lv z a1 b1 n day v6 u1 u2 v8 c1 c2 ⟨ps',[],lv,[]⟩ (some nv) bQ (some (.im (gq ⟨jL,[],lv.filter (fO c1 c2),[]⟩))) j4 gj gH gb gf) C=some (.nx,g8 b ps pe lv z a1 b1 n day v6 u1 u2 v8 c1 c2 ⟨ps',[],lv,[]⟩ w11 bQ (some (.im (gq ⟨jL,[],lv.filter (fO c1 c2),[]⟩))) w14 w15 w16 w17 w18,C)
 |[],nv,j4,gj,gH,gb,gf,_,_=>⟨some nv,j4,gj,gH,gb,gf,rfl⟩
 |h::hs,nv,j4,gj,gH,gb,gf,hv,hh=>by
  obtain⟨x15,x16,x17,T5,e⟩:=ahP (C:=C) (b:=b) (pe:=pe) (a1:=a1) (b1:=b1) (v6:=v6) (v8:=v8) (bQ:=bQ) (z:=z) (n:=n) (day:=day) hN hP hG tV hp hv (hh h dG) pu gj gH gb gf
  obtain⟨w11,w14,w15,w16,w17,w18,e2⟩:=Wr pu hs _ (some (.im (.str h))) x15 x16 x17 T5 (.inr rfl) (fun s h=>hh s (dN _ h))
  refine⟨w11,w14,w15,w16,w17,w18,?_⟩
  rw[cg,iH];simp only[g8,gNm,KN,KQ] at e e2⊢;simp only[e,e2]
end
theorem Wg{C:Ce}{b:Nat}{pe:List Str}{ps:List (Str×Str)}{lv:List cB}{z a1 b1 u1 u2 c1 c2:Str}{n day:Int}{v6 v8 j0 j4 gj gH gb gf:Option Vl}{ht:jE}:∀(ls acc:List cB)(bQ:Option Vl),acc.length+ls.length≤100→∃w12,iH (gNm 12) Gq (ls.map bI) (g8 b ps pe lv z a1 b1 n day v6 u1 u2 v8 c1 c2 ht (some (.ow (.list (acc.map bI)))) bQ j0 j4 gj gH gb gf) C=some (.nx,g8 b ps pe lv z a1 b1 n day v6 u1 u2 v8 c1 c2 ht (some (.ow (.list ((acc++ls.filter (fO c1 c2)).map bI)))) w12 j0 j4 gj gH gb gf,C)
 |[],acc,bQ,_=>⟨bQ,by rw[List.filter_nil,ju];rfl⟩
 |r::ls,acc,bQ,hl=>by
  rw[cO] at hl;have i1:=Ck r.2.1 c1 c2;have i2:=Ck r.2.2.1 c1 c2;have q:(acc.length<1000000)=True:=eq_true (by omega);have run:∀acc':List cB,acc'.length≤acc.length+1→acc++(r::ls).filter (fO c1 c2)=acc'++ls.filter (fO c1 c2)→Gq (g8 b ps pe lv z a1 b1 n day v6 u1 u2 v8 c1 c2 ht (some (.ow (.list (acc.map bI)))) (some (.im (bI r))) j0 j4 gj gH gb gf) C=some (.nx,g8 b ps pe lv z a1 b1 n day v6 u1 u2 v8 c1 c2 ht (some (.ow (.list (acc'.map bI)))) (some (.im (bI r))) j0 j4 gj gH gb gf,C)→∃w12,iH (gNm 12) Gq ((r::ls).map bI) (g8 b ps pe lv z a1 b1 n day v6 u1 u2 v8 c1 c2 ht (some (.ow (.list (acc.map bI)))) bQ j0 j4 gj gH gb gf) C=some (.nx,g8 b ps pe lv z a1 b1 n day v6 u1 u2 v8 c1 c2 ht (some (.ow (.list ((acc++(r::ls).filter (fO c1 c2)).map bI)))) w12 j0 j4 gj gH gb gf,C):=fun acc' al ae e=>by
   obtain⟨w12,e2⟩:=Wg (C:=C) (b:=b) (pe:=pe) (ps:=ps) (lv:=lv) (z:=z) (a1:=a1) (b1:=b1) (u1:=u1) (u2:=u2) (c1:=c1) (c2:=c2) (n:=n) (day:=day) (v6:=v6) (v8:=v8) (j0:=j0) (j4:=j4) (gj:=gj) (gH:=gH) (gb:=gb) (gf:=gf) (ht:=ht) ls acc' (some (.im (bI r))) (by omega)
   refine⟨w12,?_⟩
   rw[ae,←e2,cg,iH];simp only[g8,gNm,KN,KQ] at e⊢;simp only[e]
  cases hb:fO c1 c2 r with
  |true=>
   have hb':=hb;unfold fO at hb';rw[iQ] at hb';rw[hb'.1] at i1;rw[hb'.2] at i2;refine run (acc++[r]) (by rw[fU];exact bO _) (by rw[List.filter_cons_of_pos hb,kI];rfl) ?_;simp only[g8,bI,gR,cg,lD];simp_arith[i1,i2,kE,nM,aW,q]
  |false=>
   refine run acc (BW _) (by rw[List.filter_cons_of_neg (by rw[hb];exact gP)]) ?_;unfold fO at hb;simp only[g8,bI];cases h1:!decide (r.2.1=c1∨r.2.1=c2) with
   |false=>
    rw[h1] at i1;simp_arith[i1]
   |true=>
    rw[h1,aew] at hb;rw[h1] at i1;rw[hb] at i2;simp_arith[i1,i2]
theorem afb{zs pe:List Str}(nd:zs.Nodup)(hl:zs.length=26)(pl:pe.length≤17):∃u1 u2:Str,(zs.filter fun x=>!decide (x∈pe)).length≤26∧iJ ((zs.filter fun x=>!decide (x∈pe)).map cF) none (some 2)=[.str u1,.str u2]∧u1∉pe∧u2∉pe:=by
 have h1:(zs.filter fun x=>decide (x∈pe)).length≤pe.length:=len_sub (nd.sublist List.filter_sublist) fun x hx=>of_decide_eq_true (pG.mp hx).2
 have h2:=List.length_eq_countP_add_countP (p:=fun x=>decide (x∈pe)) (l:=zs);rw[acr,acr] at h2;have e:(fun a=>decide ¬(decide (a∈pe))=true)=fun x=>!decide (x∈pe):=by
  funext a;cases h:decide (a∈pe)<;>rfl
 rw[e] at h2;have mem:∀x∈zs.filter fun x=>!decide (x∈pe),x∉pe:=fun x hx=>by
  have:=(pG.mp hx).2;simpa using this
 have up:=yO (fun x=>!decide (x∈pe)) zs;generalize zs.filter (fun x=>!decide (x∈pe))=us at h2 mem up;have ct:=Jy (zs:=us) (m:=2) (by decide) (by omega)
 match us,h2,mem,ct with
 |u1::u2::us,_,mem,ct=>exact⟨u1,u2,by omega,ct,mem u1 dG,mem u2 (dN _ dG)⟩
 |[_],h2,_,_=>simp at h2;omega
 |[],h2,_,_=>simp at h2;omega
theorem ahQ{C:Ce}{b L j:Nat}(hB:Bl L C b (j+480)):∃C',GF [.ce b] C=some (.im (.bool true),C')∧Bl L C' b j:=by
 refine hide fun GG gg=>?_
 obtain⟨zs,ps,pe,lv,z,a1,b1,n,day,C1,e1,K,jd⟩:=ai3 (most:=16) (j:=j+20) hB (by decide) (by decide)
 have kf:=K.few;have k2:=K.two;have jZ:=K.jZ
 obtain⟨zt,C2,e2,hN2,zl,hB2⟩:=YF (m:=26) (j:=j+8) jd (by decide) (by decide)
 obtain⟨u1,u2,ul,ct,q1,q2⟩:=afb (pe:=pe) hN2.1 zl kf
 have c1':=qz (T:=.one) (ft:=U3) (fe:=U4) (fs:=[some (.im (.list (pe.map .str)))]) (C:=C2) cF (fun x=>!decide (x∈pe)) cF (l:=zt) fun x _=>⟨[.str x],rfl,by have:=Nu x pe;simp_arith[dz,jO,iT,this],fun _=>⟨.im (.str x),_,rfl,rfl⟩⟩
 have ql:((zt.filter fun x=>!decide (x∈pe)).length≤1000000)=True:=eq_true (by omega);have nl:eZ ((zt.filter fun x=>!decide (x∈pe)).map cF)=true:=xW (fun _=>rfl) _;generalize zt.filter (fun x=>!decide (x∈pe))=us at ct c1' ql nl;have c2':=qz (T:=.one) (ft:=fY) (fe:=U0) (fs:=[]) (C:=C2) bI (fun _=>true) (fun r=>.str r.2.1) (l:=lv) fun r _=>⟨[bI r],rfl,rfl,fun _=>⟨.im (.str r.2.1),_,by simp only[bI];simp_arith[dz,ju];rfl,rfl⟩⟩
 rw[Gg.mpr fun _ _=>rfl,show lv.map (fun r=>cF r.2.1)=(lv.map (·.2.1)).map .str by rw[dB];rfl] at c2';have ad:bN (.list (pe.map .str)) (.list ((lv.map (·.2.1)).map .str))=some (.ow (.list ((pe++lv.map (·.2.1)).map .str))):=by
  rw[gR];exact add_l (by rw[aW,aW,aW];omega)
 have sl:(pe++lv.map (·.2.1)).length=pe.length+lv.length:=by rw[fU,aW]
 have nl2:eZ ((lv.map (·.2.1)).map cF)=true:=xW (fun _=>rfl) _;have ql2:((lv.map (·.2.1)).length≤1000000)=True:=eq_true (by rw[aW];omega);generalize lv.map (·.2.1)=gv at c2' ad sl nl2 ql2;generalize pe++gv=so at ad sl
 obtain⟨t1,C3,e3,s0,s1,hB3⟩:=dD (m:=(so.length:Int)) (k:=j+7) hB2 (by omega) (by omega)
 obtain⟨t2,C4,e4,s2,s3,pC⟩:=dD (m:=(so.length:Int)) (k:=j+6) hB3 (by omega) (by omega)
 obtain⟨c1,_,_,x1⟩:=pO (zs:=so) s0 s1
 obtain⟨c2,_,_,x2⟩:=pO (zs:=so) s2 s3
 obtain⟨ps',p1,e5⟩:=Wq (C:=C4) K.p0 K.p8 lv
 obtain⟨jL,p2,e6⟩:=Wq (C:=C4) K.p0 K.p8 (lv.filter (fO c1 c2))
 have hG:nF zs ps ⟨ps',[],lv,[]⟩:=aaF p1 K.p8 jZ (fun r h=>(K.leaves r h).1) (K.rise.imp fun h=>aeT h);have tV:nF zs ps ⟨jL,[],lv.filter (fO c1 c2),[]⟩:=aaF p2 K.p8 (jP (yO _ _) jZ) (fun r h=>(K.leaves r (pG.mp h).1).1) ((K.rise.imp fun h=>aeT h).sublist (List.filter_sublist.map _));have pu:∀s∈pe,¬(s=u1∨s=u2):=fun s hs k=>k.elim (fun k=>q1 (k▸hs)) (fun k=>q2 (k▸hs))
 have hp:∀r∈lv,¬(r.2.1=u1∨r.2.1=u2)∧¬(r.2.2.1=u1∨r.2.2.1=u2):=fun r hr=>⟨pu _ (K.leaves r hr).2.1,pu _ (K.leaves r hr).2.2⟩
 obtain⟨w12,e7⟩:=Wg (C:=C4) (b:=b) (pe:=pe) (ps:=ps) (lv:=lv) (z:=z) (a1:=a1) (b1:=b1) (u1:=u1) (u2:=u2) (c1:=c1) (c2:=c2) (n:=n) (day:=day) (v6:=some (.ow (.list [.str u1,.str u2]))) (v8:=some (.ow (.list (so.map .str)))) (j0:=none) (j4:=none) (gj:=none) (gH:=none) (gb:=none) (gf:=none) (ht:=⟨ps',[],lv,[]⟩) lv [] none (by show 0+_≤_;omega)
 rw[iT] at e7;have c7:=Z5 cF pe none (some 7)
 obtain⟨w11,w14,w15,w16,w17,w18,e8⟩:=Wr (C:=C4) (b:=b) (pe:=pe) (a1:=a1) (b1:=b1) (v6:=some (.ow (.list [.str u1,.str u2]))) (v8:=some (.ow (.list (so.map .str)))) (bQ:=w12) (z:=z) (n:=n) (day:=day) K.names K.parts hG tV hp pu (iJ pe none (some 7)) (.ow (.list ((lv.filter (fO c1 c2)).map bI))) none none none none none (.inl rfl) (fun s hs=>pu s (Jg hs))
 refine gg ⟨C4,gh [some (.ce b),none,none,none,none,none,none,none,none,none,none,none,none,none,none,none,none,none,none] rfl rfl ?_ rfl (hB.eq pC),pC.mono (by omega)⟩
 refine(congrArg (Nm fun p=>(p.1,p.2.2)) (?_:Lz _ C=some (.rt (.im (.bool true)),g8 b ps pe lv z a1 b1 n day (some (.ow (.list [.str u1,.str u2]))) u1 u2 (some (.ow (.list (so.map .str)))) c1 c2 ⟨ps',[],lv,[]⟩ w11 w12 (some (.im (gq ⟨jL,[],lv.filter (fO c1 c2),[]⟩))) w14 w15 w16 w17 w18,C4))).trans rfl
 have ca:iJ [cF z,.int n,.str a1,.str b1] none (some 2)=[.str z,.int n]:=rfl;have rH:∀a b c d:aj,bN (.tuple [a,b]) (.tuple [c,d])=some (.im (.tuple [a,b,c,d])):=fun _ _ _ _=>Aj (wV rfl)
 refine(qP (e1:=[some (.ce b),some (.im (.dict (aP (bz ps)))),some (.im (.list (pe.map .str))),some (.im (.list (lv.map bI))),some (.im (cW z a1 b1 n)),some (.im (.int day)),none,none,none,none,none,none,none,none,none,none,none,none,none]) (C1:=C1) ?_).trans ?_
 ·simp_arith[e1]
 refine(qP (e1:=[some (.ce b),some (.im (.dict (aP (bz ps)))),some (.im (.list (pe.map .str))),some (.im (.list (lv.map bI))),some (.im (cW z a1 b1 n)),some (.im (.int day)),some (.ow (.list [.str u1,.str u2])),none,none,none,none,none,none,none,none,none,none,none,none]) (C1:=C2) ?_).trans ?_
 ·simp_arith[e2,c1',ql,nl,dj,cQ,fD,jc,ct]
 refine(qP (e1:=[some (.ce b),some (.im (.dict (aP (bz ps)))),some (.im (.list (pe.map .str))),some (.im (.list (lv.map bI))),some (.im (cW z a1 b1 n)),some (.im (.int day)),some (.ow (.list [.str u1,.str u2])),some (.im (cW z u1 u2 n)),some (.ow (.list (so.map .str))),none,none,none,none,none,none,none,none,none,none]) (C1:=C2) ?_).trans ?_
 ·simp_arith[dj,cQ,fD,jc,ca,rH,c2',ql2,nl2,ad]
 refine(qP (e1:=[some (.ce b),some (.im (.dict (aP (bz ps)))),some (.im (.list (pe.map .str))),some (.im (.list (lv.map bI))),some (.im (cW z a1 b1 n)),some (.im (.int day)),some (.ow (.list [.str u1,.str u2])),some (.im (cW z u1 u2 n)),some (.ow (.list (so.map .str))),some (.im (.tuple [.str c1,.str c2])),none,none,none,none,none,none,none,none,none]) (C1:=C4) ?_).trans ?_
 ·simp_arith[aW,e3,e4,x1,x2]
 refine(qP (e1:=g8 b ps pe lv z a1 b1 n day (some (.ow (.list [.str u1,.str u2]))) u1 u2 (some (.ow (.list (so.map .str)))) c1 c2 ⟨ps',[],lv,[]⟩ (some (.ow (.list (([]:List cB).map bI)))) none none none none none none none) (C1:=C4) ?_).trans ?_
 ·simp only[g8,lD];simp_arith[e5,ZZ]
 refine(qP ((Rg ?_).trans e7)).trans ?_
 ·rfl
 refine(qP (e1:=g8 b ps pe lv z a1 b1 n day (some (.ow (.list [.str u1,.str u2]))) u1 u2 (some (.ow (.list (so.map .str)))) c1 c2 ⟨ps',[],lv,[]⟩ (some (.ow (.list ((lv.filter (fO c1 c2)).map bI)))) w12 (some (.im (gq ⟨jL,[],lv.filter (fO c1 c2),[]⟩))) none none none none none) (C1:=C4) ?_).trans ?_
 ·generalize lv.filter (fO c1 c2)=lw at e6;simp only[g8];simp_arith[e6,ZZ]
 refine(qP ((Rg ?_).trans e8)).trans ?_
 ·simp only[g8];simp_arith[dj,cQ,fD,jc,c7]
 ·rfl
theorem ahR(ns:List Int)(h:ns.length≤63):∃C',Al [.sc ns] []=some (.im (.bool true),C'):=by
 obtain⟨m,hm,m1,m2⟩:∃m:Int,(1+if(ns.length:Int)<5 then(ns.length:Int) else 5)=m∧0≤m∧m≤6:=⟨_,rfl,by split<;>omega,by split<;>omega⟩
 obtain⟨env',C',e,he⟩:=zK (g:=gNm 1) (body:=Pj) (its:=iu 0 m.toNat) (env:=[some (.sc ns),none,none]) (C:=[])
  (fun i env C1=>∃v1 v2,env=[some (.sc ns),v1,v2]) ⟨_,_,rfl⟩ (fun i d env C1 hd hI=>by
   obtain⟨v1,v2,rfl⟩:=hI
   obtain⟨rfl,hi⟩:=CT hd
   obtain⟨x,y,hb,x0⟩:=ahE (C:=C1) (ns:=ns) (k:=0+(i:Int)) (by omega) (by omega)
   have hB:=akc (y:=y) C1 x0
   obtain⟨C2,e1,_⟩:=ahQ (j:=799520) hB
   refine⟨_,.nx,[some (.sc ns),some (.im (.int (0+(i:Int)))),some (.ce C1.length)],C2,rfl,?_,.inl rfl,_,_,rfl⟩
   simp_arith[Pj,Ei,hb,intsOf,e1])
 refine⟨C'.take 0,?_⟩
 unfold Al fN;rw[if_pos (show[Vl.sc ns].length=1 from rfl),show([Vl.sc ns].map some++cP (3-[Vl.sc ns].length) none)=[some (.sc ns),none,none] from rfl];simp_arith[RK,gw,iz,vX,sU,hm,wC (m:=m) (by omega) (by omega),e,Ah]
theorem all_mk{l:Vf}{w:aY}{K:aG}{h:aV}{mg:Str→Option Value}{fa:aa}(X:K.In h)(G:h.Ns gk mg)(hfa:mg "law"=some (.ref fa))
  (d0:fX K "parts_over" G7)
  (d1:fX K "row_of" Ph)
  (d2:fX K "signers_of" G8)
  (d3:fX K "is_side" N8)
  (d4:fX K "ways_on" HW)
  (d5:fX K "first_row" MP)
  (d6:fX K "nearer_way" G9)
  (d7:fX K "steps_to" HD)
  (d8:fX K "_law_mix" Q9)
  (d9:fX K "_law_drawn_from" Mh)
  (d10:fX K "_law_pick" Qn)
  (d11:fX K "_law_same" CV)
  (d12:fX K "_law_some_names" vA)
  (d13:fX K "_law_two_days" MT)
  (d14:fX K "_law_some_sum" M3)
  (d15:fX K "_law_some_parts" Mi)
  (d16:fX K "_law_parts_over" Mj)
  (d17:fX K "_law_rising" Oa)
  (d18:fX K "_law_some_leaves" Lr)
  (d19:fX K "_law_house_of" M4)
  (d20:fX K "_law_case" Qo)
  (d21:fX K "_law_lets" Qp)
  (d22:fX K "_law_all_rows" Hl)
  (d23:fX K "_law_sides_right" Bv)
  (d24:fX K "law" RB)
  (JK:mR K gk "abs"=some none)
  (RC:mR K gk "all"=some none)
  (Dt:mR K gk "bool"=some none)
  (M5:mR K gk "enumerate"=some none)
  (ym:mR K gk "int"=some none)
  (nC:mR K gk "isinstance"=some none)
  (jU:mR K gk "len"=some none)
  (Du:mR K gk "list"=some none)
  (RG:mR K gk "max"=some none)
  (yo:mR K gk "min"=some none)
  (pU:mR K gk "range"=some none)
  (vG:mR K gk "sorted"=some none)
  (Ed:mR K gk "str"=some none)
  (xR:mR K gk "tuple"=some none)
  (RJ:mR K gk "zip"=some none)
  :∃fd:dw,(∀(s:au)(v:Value),xN s fd ⟨[v],[]⟩ [("_law_script",v)])∧∀base:aV,K.In base→base.Ns gk mg→di l.prog w K mg base eV 7 fa fd ["_law_script"] (spT K Al):=by
 have T:Txt K mg:=⟨nA X G JK,nA X G RC,nA X G Dt,nA X G M5,nA X G ym,nA X G nC,nA X G jU,nA X G Du,nA X G RG,nA X G yo,nA X G pU,nA X G vG,nA X G Ed,nA X G xR,nA X G RJ⟩
 refine d24.law X G hfa (fun base f fd F=>?_) (fun _ _ _ _ _ _=>(bV fun _=>(iM rfl)));have My:=d0.has X G (fun f fd F=>aer (P:=l.prog) (w:=w) (base:=base) F T) (fun _ _ _ _ _ _=>(bV fun _=>(bV fun _=>(iM rfl))));have qD:=d3.has X G (fun f fd F=>afI (P:=l.prog) (w:=w) (base:=base) F T) (fun _ _ _ _ _ _=>(bV fun _=>(bV fun _=>(iM rfl))));have zL:=d4.has X G (fun f fd F=>afJ (P:=l.prog) (w:=w) (base:=base) F T My qD) (fun _ _ _ _ _ _=>(bV fun _=>(bV fun _=>(bV fun _=>(iM rfl)))));have zJ:=d7.has X G (fun f fd F=>ae7 (P:=l.prog) (w:=w) (base:=base) F T) (fun _ _ _ _ _ _=>(bV fun _=>(bV fun _=>(iM rfl))));have Mz:=d6.has X G (fun f fd F=>aes (P:=l.prog) (w:=w) (base:=base) F T) (fun _ _ _ _ _ _=>(bV fun _=>(bV fun _=>(bV fun _=>(iM rfl)))));have M9:=d5.has X G (fun f fd F=>aeN (P:=l.prog) (w:=w) (base:=base) F T zJ Mz) (fun _ _ _ _ _ _=>(bV fun _=>(bV fun _=>(bV fun _=>(iM rfl)))));have Iw:=d1.has X G (fun f fd F=>agD (P:=l.prog) (w:=w) (base:=base) F T qD zL M9) (fun _ _ _ _ _ _=>(bV fun _=>(bV fun _=>(bV fun _=>(bV fun _=>(bV fun _=>(iM rfl)))))));have MF:=d2.has X G (fun f fd F=>aet (P:=l.prog) (w:=w) (base:=base) F T qD zL zJ) (fun _ _ _ _ _ _=>(bV fun _=>(bV fun _=>(bV fun _=>(bV fun _=>(iM rfl))))));have Jx:=d8.has X G (fun f fd F=>aiW (P:=l.prog) (w:=w) (base:=base) F T) (fun _ _ _ _ _ _=>(bV fun _=>(bV fun _=>(iM rfl))));have Mr:=d9.has X G (fun f fd F=>aee (P:=l.prog) (w:=w) (base:=base) F T) (fun _ _ _ _ _ _=>(bV fun _=>(bV fun _=>(iM rfl))));have cj:=d10.has X G (fun f fd F=>ahA (P:=l.prog) (w:=w) (base:=base) F T Jx) (fun _ _ _ _ _ _=>(bV fun _=>(bV fun _=>(iM rfl))));have zX:=d11.alx X G (fun f fd hm hk hb F=>Xv (P:=l.prog) (w:=w) (base:=base) hm hk hb F T 3) (fun _ _ _ _ _ _=>(bV fun _=>(bV fun _=>(iM rfl))));have zq:=d12.has X G (fun f fd F=>aef (P:=l.prog) (w:=w) (base:=base) F T cj) (fun _ _ _ _ _ _=>(bV fun _=>(bV fun _=>(iM rfl))));have zF:=d13.has X G (fun f fd F=>aeO (P:=l.prog) (w:=w) (base:=base) F T cj) (fun _ _ _ _ _ _=>(bV fun _=>(iM rfl)));have zG:=d14.has X G (fun f fd F=>aeP (P:=l.prog) (w:=w) (base:=base) F T cj) (fun _ _ _ _ _ _=>(bV fun _=>(iM rfl)));have Mq:=d15.has X G (fun f fd F=>aeg (P:=l.prog) (w:=w) (base:=base) F T cj) (fun _ _ _ _ _ _=>(bV fun _=>(bV fun _=>(iM rfl))));have zp:=d16.has X G (fun f fd F=>aeh (P:=l.prog) (w:=w) (base:=base) F T) (fun _ _ _ _ _ _=>(bV fun _=>(bV fun _=>(iM rfl))));have Og:=d17.has X G (fun f fd F=>afK (P:=l.prog) (w:=w) (base:=base) F T cj) (fun _ _ _ _ _ _=>(bV fun _=>(bV fun _=>(iM rfl))));have LC:=d18.has X G (fun f fd F=>ad6 (P:=l.prog) (w:=w) (base:=base) F T cj zF zG zp Og) (fun _ _ _ _ _ _=>(bV fun _=>(bV fun _=>(bV fun _=>(bV fun _=>(bV fun _=>(bV fun _=>(iM rfl))))))));have Ht:=d19.has X G (fun f fd F=>aeQ (P:=l.prog) (w:=w) (base:=base) F T) (fun _ _ _ _ _ _=>(bV fun _=>(bV fun _=>(iM rfl))));have Qu:=d20.has X G (fun f fd F=>ahC (P:=l.prog) (w:=w) (base:=base) F T cj zq zF zG Mq LC) (fun _ _ _ _ _ _=>(bV fun _=>(bV fun _=>(iM rfl))));have Qt:=d21.has X G (fun f fd F=>ahD (P:=l.prog) (w:=w) (base:=base) F T zp) (fun _ _ _ _ _ _=>(bV fun _=>(bV fun _=>(bV fun _=>(bV fun _=>(iM rfl))))));have Nb:=d22.has X G (fun f fd F=>aeR (P:=l.prog) (w:=w) (base:=base) F T Qt) (fun _ _ _ _ _ _=>(bV fun _=>(bV fun _=>(bV fun _=>(bV fun _=>(bV fun _=>(iM rfl)))))));have LK:=d23.has X G (fun f fd F=>ad7 (P:=l.prog) (w:=w) (base:=base) F T Iw MF cj zX zq Ht Qu Nb) (fun _ _ _ _ _ _=>(bV fun _=>(iM rfl)));exact akf F T Mr LK
theorem walk{l:Vf}{q:bf}{loose:List Str}{XP:(Str→Option Value)→aV→Prop}{YP:aY→aV→Prop}{d:DefRec}{K:Params→aG}(hn:l.most=some 63)(hdf:d.params.defaults=[])
  (hY:∀(w:aY)(h:aV),YP w h→(K w.params).In h)
  (F:∀(w:aY)(mg:Str→Option Value)(fa:aa)(h:aV),(K w.params).In h→h.Ns gk mg→mg d.name=some (.ref fa)→
   ∃fd:dw,(∀(s:au)(u:Value),xN s fd ⟨[u],[]⟩ [("_law_script",u)])∧∀base:aV,(K w.params).In base→base.Ns gk mg→di l.prog w (K w.params) mg base eV 7 fa fd ["_law_script"] (spT (K w.params) Al)):
  aej q loose XP YP l.row.toRowW d [] (fun f vs=>Wz f vs):=
 L2.aia (n:=63) (k:=7) (x:="_law_script") (CX:=fun _=>eV) (sp:=fun w=>spT (K w.params) Al) hn (by decide) hdf ⟨rfl,by decide,by decide,rfl⟩ hY F (fun _ _ a ns hl _ hS=>let ⟨_,h⟩:=ahR ns hl;ajV hS h) fun _ _ _ _ _ z=>z
end Tv
namespace PySem.W.Fast
def tw10732763556507970706:=0
def tw10776679098948349978:=0
def tw11252333368008532917:=0
def tw11918952000370619438:=0
def tw12085003593861098736:=0
def tw12581201878791616306:=0
def tw13913320492681889515:=0
def tw14149772632225695495:=0
def tw14299793716197318015:=0
def tw14337598907483797145:=0
def tw14433474366543322155:=0
def tw14582051475808536186:=0
def tw14814415107598131442:=0
def tw15253176143525199657:=0
def tw15506347815966627276:=0
def tw15591147693954320866:=0
def tw15913893332131963545:=0
def tw15962805476136734358:=0
def tw16123509051437657871:=0
def tw16143877861783780375:=0
def tw16382137461868107791:=0
def tw17011702791499310336:=0
def tw17054032988062948641:=0
def tw17223233081533519523:=0
def tw1737742629983262441:=0
def tw17463013535270674114:=0
def tw1823017601353742602:=0
def tw2423406008826203309:=0
def tw2441234295194675344:=0
def tw3107454968317820273:=0
def tw3342762856201965578:=0
def tw3732349364301640908:=0
def tw387745434686645365:=0
def tw4927737963877116098:=0
def tw5114975727902277347:=0
def tw5453256478485087955:=0
def tw5981026683984195237:=0
def tw6687876700537013691:=0
def tw6846481036238518278:=0
def tw7226218226657088870:=0
def tw7422949786864813655:=0
def tw7433292256464154714:=0
def tw7769270744633613935:=0
def tw7926397215230542870:=0
def tw8514118850695484823:=0
def tw9290602385747854253:=0
def tw9592605507092946915:=0
def tw966400820678464965:=0
def tw9664157010613359621:=0
end PySem.W.Fast
open PySem PySem.W PyProof.Rows
set_option maxRecDepth 100000 in
set_option maxHeartbeats 0 in
theorem PySem.Challenge.cw_rankseals_k16_sides_kept_out_holds : PySem.Challenge.rw_rankseals_k16_sides_kept_out.Holds := by
 w_on;o_law;k_head;(case hw=>w_witness2)
 k_fill
 refine Tv.walk (l:=PySem.Challenge.rw_rankseals_k16_sides_kept_out) rfl rfl (fun w h Y=>PySem.W.kIn_of Y) ?F
 case F=>
  intro w mg fa h KX G hmg
  refine' Tv.all_mk KX G hmg ?_ ?_ ?_ ?_ ?_ ?_ ?_ ?_ ?_ ?_ ?_ ?_ ?_ ?_ ?_ ?_ ?_ ?_ ?_ ?_ ?_ ?_ ?_ ?_ ?_ ?_ ?_ ?_ ?_ ?_ ?_ ?_ ?_ ?_ ?_ ?_ ?_ ?_ ?_ ?_
  all_goals try first|exact .mk (by k_is) (by k_is) (by k_is) (by k_is)|k_is
