import PyProof.Rows.All
import Wide.All
import OpenK.AllK
import Wide.FinOn
import Lean
import PyProof.EqAt
import PyProof.EqKinds
import PyProof.TupleCall
import PySem.Challenge.RW_rankseals_k22_widest_ways
set_option Elab.async false
set_option linter.all false
set_option maxRecDepth 100000
set_option maxHeartbeats 4000000
set_option autoImplicit true
open PySem.Value renaming isInt→afI,isStrOf→WQ,int→CZ,str→Iz,isStrOf_shape→ad3,none→p7,bool→sZ,float→Xm,ref→eO,type→CW
open PySem renaming World→aZ,Program→bh,KeyKind→xX,Addr→aa,Heap→aV,sizeLine→bR,sysModules→tD,tupleKind→Dc,Within→afk,mainGlobals→gF,bootBuiltins→sX,Around→cI,Shared→aC,Scope→ju,Drawn→yI,wpAny→aN,spliced→Dm,backTo→fG,starEach→aW,Stmt→cZ,wpAny_mono→oF,wpAny_Name→Xw,wpAny_loadName_local→adW,wpAny_loadName_cell→ad4,wpAny_truthy_bool→vD,wpAny_execs_nil→Ms,wpAny_execs_cons→aey,swapsWith→tK,assignInOrder→CJ,assignEach→tG,wpAny_assign_Name→G5,holding→qg,standAt→tM,wpAny_bind→aJ,wpAny_holding→nA,wpAny_standAt→uB,swapsWithSole→xY,swappedStores→xZ,wpAny_pure→aY,wpAny_newObj_type→nq,bindName→uE,wpAny_rule→yh,wpAny_bindName→Hj,PassesOwn→O5,wpAny_passesOwn→zP,pyNext→pF,letOwnedTupleGo→xU,pyIter→DP,wpAny_load→Ii,rawInt→jL,wpAny_pyIter_list→LC,foldedSetIterable→uz,binaryOp→pB,compareOp→fj,behindInMarks→CK,lastMarks→O6,sizeLine_eq→jq,cLine→fP,Result→rB,FuncData→dz,BindsTo→yr,codeAny→j9,codeAny_mono→HF,wpAny_Call_Name_kw→Cg,Keyword→mV,NameKind→An,bindL→yJ,bindC→yK,mem_of_lookup→vB,concat_meets→W7,noFill_tuple_add→V7,seq_tuple_add→WR,IsPart→tU,wpAny_field→Xo,getItem→vX,wpAny_sequenceKey→aem,wpAny_callSpecial?_slot→Ca,wpAny_call_entry→qP,wpAny_typeOf→HH,seqIndex?→O9,seqIndex_of→Xq,seqIndex_neg→W8,subscripted→Xr,typeIs_str→Xz,sliceBounds→Ab,attributeBase→uC,backToKw→yo,keywordEach→yf,call_meets→XD,valueAt→Ao,atKey→wK,tupleKind_room_in1→G4,callerA→Aq,call→XH,compEnvC→Qa,compTurn→Dg,newFunctionEnv→Wt,wpAny_newFunctionEnv→Vx,lookup_relabel_local→Vy,wpAny_comprehension_free→Lj,compPost→Qd,exec_Assign_Name_used→adR,comprehension→WX,PyData→ao,wpAny_pyIter_zip→aeF,Builtin→nF,wpAny_newList→Nf,codeAny_builtin→zQ,plainId_quiet→yc,richCompare→Ie,SetTable→uF,relayAll→Hl,scanBound→qe,wpAny_setState_of→Cm,wpAny_storeSet_of→aep,fits_of_scanBound→V3,builtinLookup_eq_fast→adS,isSubtype_type→Ww,entryFor→Qh,argsOk→DY,wpAny_pyIter_slot→aer,setNext→Dr,wpAny_attempt→Ng,wpAny_fieldsOf→MF,wpAny_setEntries_of→GX,wpAny_setField→Cz,wpAny_isInstance→aeG,setsByText→XS,wpAny_askSetting→Mj,wpAny_ite_split→Mt,pickOrder→ym,wpAny_seqItems→Ho,wpAny_setEpoch_of→aes,updateSeq→Pk,wpAny_updateSeq→Hh,checkCount→XX,strKind→Hv,wpAny_Call_method→aeu,argBest→jt,wpAny_tryCatch→MN,wpAny_letGo→Oa,wpAny_pyIter_enum→aev
open Sum renaming inl→lK,inr→jE
open Sum.inl renaming inj→Xl
open Sum.inr renaming inj→afJ
open PySem.SeqAt.EqAt renaming int_str→ad8,str_int→ad9
open Option.some renaming inj→fX,injEq→Ma
open PySem.W renaming instObj→We,methodObj→VN,Frag→aG,lookIn→Ws,plainGet→aez,findIn→zR,takerIn→aeM,specialIn→aei,isFn→afm,keepIn→vI,kitOne→zT,kia_one→sV,kitx_none→aej,kitx_bool→aek,kitx_int→aeA,kitx_str→aeB,kitx_float→aeb,kitx_list→LK,kitx_tuple→aec,kitx_dict→LQ,kitx_own→aeC,cellsFrom_some→adJ,fnOf→ye,codeIn→My,OpenLaw→Wg,WalkO→ae8,kitAny→Mz,kia_tup→sW,nsIn→mQ,mg_of→Nh,mg_none_of→ou
open PySem.Heap renaming lt_size→bZ,SameBut→z8,get?_push_of_some→cM,get?_push_size→iI,get?_update_self→zy,get?_update_other→sH,size_push→vJ
open Nat renaming lt_of_lt_of_le→nj,lt_irrefl→vK,ne_of_lt→dY,le_trans→jD,le_of_lt→vM,ne_of_gt→z9,le_refl→bN,le_succ→vO,succ_le_succ→aeD,lt_trans→HJ,zero_le→lD,sub_self→Aa,lt_succ_of_lt→vG,not_lt→Il,add_zero→Nx,add_sub_cancel→aef,lt_succ_self→Ml,lt_trichotomy→aet,zero_add→HN,not_lt_zero→xW,le_of_ble_eq_true→zA,lt_or_ge→afz,succ_pos→HR,not_succ_le_zero→ad0,le_add_right→Mr,min_eq_left→Wq,lt_or_eq_of_le→VM,le_of_lt_succ→aew
open Array renaming append_assoc→aea,length_toList→kO,toList→afl,getElem?_toList→Lq,getD→af9,getD_eq_getD_getElem?→sG,getElem?_eq_getElem→m9,toList_push→aeo,getElem?_eq_none→adM,mem_of_getElem?→adU,size_append→V5
open List renaming range→dZ,mem_filter→j7,mem_range→qR,filterMap_cons→Vz,mem_cons_self→dm,mem_cons_of_mem→dM,mem_cons→bI,mem_append→cQ,mem_append_left→gJ,getElem?_eq_some_iff→gZ,getElem?_set_self→adI,getElem?_set_ne→vA,set_comm→M8,mem_filterMap→Lw,mem_append_right→dX,size_toArray→fJ,any_eq_false→aeh,append_nil→mK,nodup_cons→jH,of_mem_zip→Wf,replicate→iJ,length→qU,length_take→jU,getElem?_append_right→lA,getElem?_replicate→Vr,getElem?_append_left→m7,getElem?_map→gK,getElem?_take_of_lt→Vn,take_sublist→zF,mem_of_getElem?→jB,length_append→gf,length_map→aX,length_replicate→adP,length_drop→zK,map_nil→jo,map_cons→cJ,length_set→vH,all_cons→M9,any_cons→Ht,reverse_cons→LR,length_singleton→adQ,find?_cons→oZ,length_cons→dH,length_nil→Cq,filter_cons→Mi,lookup_cons→zL,append_assoc→lB,map_map→fO,all_eq_true→qQ,getElem_of_mem→sI,getElem?_eq_getElem→gQ,getElem_mem→xR,mem_singleton→gB,not_mem_nil→jg,getD→qX,ext_getElem→xT,length_range→lC,map_congr_left→zE,zip_cons_cons→VH,getElem?_set→Ck,pairwise_iff_getElem→GK,pairwise_lt_range→Lp,pairwise_append→Lr,getElem_take→V1,getElem_drop→aen,pairwise_cons→sJ,foldl_append→aeq,foldl_cons→xV,nodup_append→j6,length_eq_zero_iff→adF,length_eraseIdx→adY,take_zero→aeY,Sublist→Xc,nodup_nil→oA,any_map→afu,length_zip→Wh,getElem?_range→VB,getElem?_eq_none→Vw,getElem?_eq_none_iff→Vm,drop_length→aeH,drop_eq_getElem_cons→adB,getElem?_mapIdx→adZ,sublist_nil→aeI,getElem?_take→Cj,map_id→N8,sum_cons→WY,any_eq_true→aeJ,mem_map→cY,mem_of_mem_take→ux,map_append→gC,find?_map→ae0,isEmpty_nil→Wa,range_succ→Mu,length_pos_iff→G3,getElem_map→aeL,find?_eq_none→VL,nodup_iff_pairwise_ne→Vi,cons_append→jV,nil_append→jC,getElem?_drop→Lx,mem_of_mem_drop→GR,length_flatMap→ad6,length_pos_of_mem→adO,length_reverse→ad7,pairwise_reverse→adV,filter_eq_self→Ls,map_take→Nv,length_filter_le→GQ,getD_eq_getElem?_getD→Lg,map_drop→W6,drop_sublist→aex,set_cons_succ→Ly,set_cons_zero→Lz,countP_eq_length_filter→adp
open Ne renaming symm→jX
open PySem.Calls renaming Name_function_global→adx,spliced_nil→G6,spliced_cons→Cd,callWith_builtin→adK,evalArgs_plain→adX,call_function_entry→Vk
open False renaming elim→qW
open PySem.Flow renaming next→O4
open Bool renaming false_ne_true→jm,false_and→Wr,eq_iff_iff→sU,and_eq_true→ie,not_eq_true→aeE,false_eq_true→qO,not_true→afc,not_false→aeW,not_eq_true'→V4
open Int renaming mul_one→Xn,toNat_natCast→zG,toNat_of_nonneg→VD,le_refl→o9,emod_eq_emod_iff_emod_sub_eq_zero→ado,emod_eq_of_lt→Mf,emod_nonneg→nu,emod_lt_of_pos→sO,ediv_nonneg→aeU,zero_add→Xj,toNat→YS,le_trans→sY,le_of_lt→afH
open PySem.Builtin.Range renaming rangeSize→aoF
open PyProof.Rows renaming callWith_type1→GJ,callWith_builtin1→Vh,slot_tuple_getitem→Le,boot_zip→aoI,toString_length_le→an7,boot_enumerate→aoa,evalArgs_none→aod
open PySem.EqNone renaming eq_none_none→aoe,eq_none_bool→aof,eq_none_int→aop,eq_none_str→aoq,eq_bool_none→aog,eq_int_none→aor,eq_str_none→aot,ne_none_none→aoj,ne_none_bool→aok,ne_none_int→aov,ne_none_str→aow,ne_bool_none→aol,ne_int_none→aox,ne_str_none→aoz
open PySem.EqMixed renaming eq_bool_str→aoh,eq_int_str→aos,eq_str_bool→aoi,eq_str_int→aou,ne_bool_str→aom,ne_int_str→aoy,ne_str_bool→aon,ne_str_int→aoA
open True renaming intro→lF
open Option renaming isSome_iff_exists→xP,getD_none→Mh,isSome_some→VG,isSome_map→VP,map_eq_some_iff→GP,none→nC,map_some→mL,getD_some→zM,bind_some→iZ,some_ne_none→vC,map→Io,map_map→MK,bind_eq_some_iff→mH,map_eq_none_iff→adN,isSome_none→aeg,map_none→aeV
open PySem.F renaming slot_tuple_add→Vt,entry_tuple_add→Vs,args_tuple_add_2→Vo,slot_list_append→VF,slot_list_extend→aed,slot_list_pop→aeN,slot_dict_get→Vv,entry_dict_get→adL,args_dict_get_3→adE,plain_proto_collect→adq,plain_list_iadd→Lk,slot_set_iter→aeR,plain_extend_loop→adA,plainAttrs_list→Ln,type_list_append→adD,plainAttrs_dict→adG,entry_min_loop→Vu,plain_min_loop→zx,slot_dict_items→adH
open PySem.Builtin.Slice renaming sliceAdjust→Vj,slicePlaces→Lh,slicePartIndex→an9,sliceApplied→ady,sliceFields→aoo
open PySem.Str renaming ofString→fD
open PySem.Builtin.Tuple renaming tupleItemsOf→adz,tupleExact→Li,tupleCompareSizes→an6,tupleIsExact→aob
open PySem.Heap.IsSliceOf renaming new→aoJ
open PySem.Obj renaming mapSeq→lG,putSet→Ow,data_mapFields→aee
open PySem.SeqAt renaming EqAt→XC,shaped→mJ
open PySem.Builtin.List renaming listTooLong→Vp,listExtendWith→Lf,listLengthHint→adt,listSameRef→Vq
open List.Pairwise renaming nil→zH,filterMap→aoG,imp_of_mem→aoE,imp→aoK
open Or renaming inl→bU,inr→rC
open PySem.NameKind renaming free→o8,cell→Nb
open ForInStep renaming yield→aeP
open PySem.Code renaming compLoop→CN
open PySem.Walks renaming list→XM
open PySem.PyData renaming hasDict→Cy,hasDictAll→VR,int→lH,str→cL,eqv→Im,tuple→vN,depth→HQ,showable→Wi,showableAll→VJ,depthAll→Cr,shownAll→Hi,strOk→Ny,canLayAll0→V6,canLay0→aeZ
open PySem.WalksT renaming zip2→afP
open List.Perm renaming refl→zU,of_eq→aeQ,swap→MJ,append_left→adT
open List.cons renaming inj→Hu,injEq→Wj
open PySem.Heap.SameBut renaming update→uy,refl→V2
open PySem.Around renaming under_plainId→zB
open PySem.SetTable.below renaming go→G7
open PySem.SetTable renaming below→jn,has→afs,slot→afa,grown→zV
open PySem.SetTable.probe renaming go→V0
open PySem.SetTable.Met.empty renaming injEq→aoB
open Prod.mk renaming injEq→afb
open PySem.pickOrder renaming go→Xb
open PySem.Builtin.Frozenset renaming slot0→aoH,sizeOf→aoC,oneOther→aoc,addrOf→aoD
open PySem.Bind renaming checkArgs→aeX
open List.Sublist renaming refl→zJ,append→GZ
open PySem.Builtin.Str renaming strSliceIndices→adu
open PySem.Builtin.Builtins renaming bindParams→adw
open Classical renaming byContradiction→adC
open Nat.succ renaming inj→Xe
open PySem.StrLaws renaming seqIndex_nonneg→an8
open PySem.PassesOwn renaming never→j8
noncomputable section
namespace L2
open PySem PySem.Spec PyProof.Rows
abbrev Key:=Sum Int Str
def Bh:Key→Value→Bool
 |.inl k,v=>afI k v
 |.inr x,v=>WQ x v
def amf(w:aZ):Key→Int
 |.inl k=>hashInt k
 |.inr x=>hashStr w x
theorem qT:∀{k:Key}{v:Value},Bh k v=true→(∃i t,k=lK i∧v=CZ i t)∨(∃x t,k=jE x∧v=Iz x t)
 |.inl i,v,h=>by
  obtain⟨t,e⟩:=Value.isInt_shape (k:=i) (v:=v) h
  exact .inl ⟨i,t,rfl,e⟩
 |.inr x,v,h=>by
  obtain⟨t,e⟩:=ad3 (x:=x) (v:=v) h
  exact .inr ⟨x,t,rfl,e⟩
theorem agB(i:Int)(t:Tok):Bh (.inl i) (.int i t)=true:=by simp[Bh,afI]
theorem agC(x:Str)(t:Tok):Bh (.inr x) (.str x t)=true:=by simp[Bh,WQ]
theorem akj(a b:Int):decide ((lK a:Key)=lK b)=(a==b):=by
 by_cases e:a=b
 ·subst e;simp
 ·have h:¬(lK a:Key)=lK b:=fun q=>e (Xl q)
  rw[decide_eq_false h]
  exact(beq_eq_false_iff_ne.mpr e).symm
theorem akk(a b:Str):decide ((jE a:Key)=jE b)=decide (a=b):=by
 by_cases e:a=b
 ·subst e;simp
 ·have h:¬(jE a:Key)=jE b:=fun q=>e (afJ q)
  rw[decide_eq_false h,decide_eq_false e]
theorem akl(a:Int)(b:Str):decide ((lK a:Key)=jE b)=false:=decide_eq_false (fun q=>nomatch q)
theorem akm(a:Str)(b:Int):decide ((jE a:Key)=lK b)=false:=decide_eq_false (fun q=>nomatch q)
def jh(prog:bh)(w:aZ):xX prog w Key where
 is:=Bh
 hash:=amf w
 inj:=fun v a b ha hb=>by
  rcases qT ha with⟨i,t,rfl,rfl⟩|⟨x,t,rfl,rfl⟩
  ·rcases qT hb with⟨j,u,rfl,e⟩|⟨y,u,rfl,e⟩
   ·injection e with e1 _;rw[e1]
   ·exact nomatch e
  ·rcases qT hb with⟨j,u,rfl,e⟩|⟨y,u,rfl,e⟩
   ·exact nomatch e
   ·injection e with e1 _;rw[e1]
 byValue:=fun k v h=>by
  rcases qT h with⟨i,t,rfl,rfl⟩|⟨x,t,rfl,rfl⟩<;>rfl
 pyHash:=fun hv h=>by
  rcases qT hv with⟨i,t,rfl,rfl⟩|⟨x,t,rfl,rfl⟩
  ·exact wpAny_pyHash_int h
  ·exact wpAny_pyHash_str h
 eqBool:=fun hu hv h=>by
  rcases qT hu with⟨i,t,rfl,rfl⟩|⟨x,t,rfl,rfl⟩
  ·rcases qT hv with⟨j,u,rfl,rfl⟩|⟨y,u,rfl,rfl⟩
   ·rw[akj] at h;exact wpAny_eqBool_int h
   ·rw[akl] at h;exact ad8 i t y u _ _ _ _ h
  ·rcases qT hv with⟨j,u,rfl,rfl⟩|⟨y,u,rfl,rfl⟩
   ·rw[akm] at h;exact ad9 x t j u _ _ _ _ h
   ·rw[akk] at h;exact wpAny_eqBool_str h
 «strs»:=fun k x t v h=>by
  rcases qT h with⟨i,u,rfl,e⟩|⟨y,u,rfl,e⟩
  ·exact nomatch e
  ·injection e with e1 _
   subst e1;cases v<;>rfl
theorem afK(prog:bh)(w:aZ)(i:Int)(t:Tok):(jh prog w).is (.inl i) (.int i t)=true:=agB i t
theorem afL(prog:bh)(w:aZ)(x:Str)(t:Tok):(jh prog w).is (.inr x) (.str x t)=true:=agC x t
inductive V where
 |non|bl (b:Bool)|int (i:Int)|str (x:Str)|pW (b:Array UInt8)|flt (b:UInt64)|ref (a:aa)|ty (n:String)
 deriving DecidableEq
def RelV:V→Value→Prop
 |.non,u=>u=p7
 |.bl b,u=>u=sZ b
 |.int i,u=>∃t,u=CZ i t
 |.str x,u=>∃t,u=Iz x t
 |.pW b,u=>∃t,u=Value.bytes b t
 |.flt b,u=>∃t,u=Xm b t
 |.ref a,u=>u=eO a
 |.ty n,u=>u=CW n
abbrev Vals:List V→List Value→Prop:=Paired RelV
theorem Vals.length{xs:List V}{us:List Value}(r:Vals xs us):xs.length=us.length:=Paired.length r
theorem Vals.get:∀{xs:List V}{us:List Value}{i:Nat}{x:V},Vals xs us→xs[i]?=some x→∃u,us[i]?=some u∧RelV x u
 |_,_,_,_,.nil,e=>by simp at e
 |_,_,0,_,.cons r _,e=>by simp at e;subst e;exact⟨_,rfl,r⟩
 |_,_,i+1,x,.cons _ t,e=>by
  obtain⟨u,h1,h2⟩:=Vals.get (i:=i) (x:=x) t (by simpa using e)
  exact⟨u,by simpa using h1,h2⟩
theorem Vals.set{x:V}{u:Value}(r:RelV x u):∀{xs:List V}{us:List Value}(i:Nat),Vals xs us→Vals (xs.set i x) (us.set i u)
 |_,_,_,.nil=>.nil
 |_,_,0,.cons _ t=>.cons r t
 |_,_,i+1,.cons q t=>.cons q (Vals.set r i t)
theorem Vals.append:∀{xs ys:List V}{us ws:List Value},Vals xs us→Vals ys ws→Vals (xs++ys) (us++ws)
 |_,_,_,_,.nil,s=>s
 |_,_,_,_,.cons r t,s=>.cons r (Vals.append t s)
theorem Vals.take:∀{xs:List V}{us:List Value}(n:Nat),Vals xs us→Vals (xs.take n) (us.take n)
 |_,_,0,_=>.nil
 |_,_,_+1,.nil=>.nil
 |_,_,n+1,.cons r t=>.cons r (Vals.take n t)
theorem Vals.drop:∀{xs:List V}{us:List Value}(n:Nat),Vals xs us→Vals (xs.drop n) (us.drop n)
 |_,_,0,r=>r
 |_,_,_+1,.nil=>.nil
 |_,_,n+1,.cons _ t=>Vals.drop n t
def pP:Option V→Option Value→Prop
 |some v,some u=>RelV v u
 |none,none=>True
 |_,_=>False
def KV{κ:Type}:List (κ×V)→List (κ×Value)→Prop:=Paired fun(p:κ×V)(q:κ×Value)=>p.1=q.1∧RelV p.2 q.2
def kV:Key→V
 |.inl i=>.int i
 |.inr x=>.str x
inductive HO where
 |lst (xs:List V)
 |tup (xs:List V)
 |dK (kvs:List (Key×V))|dT (kvs:List (List Key×V))
 |set (S:Int→Bool) (n:Nat)
 |ins (C dx:aa) (fs:List (Str×V))
 |own (x:aa)
 |xd (fs:List (Str×V))
 |met (f x:aa)
 |vd (lo hi:Int)
 |lq (o:Obj) (u:HO)
 |zc (ps:Array Value)
 |ext (φ:aV→Prop)
abbrev Hp:=aa→Option HO
def upd(H:Hp)(a:aa)(o:HO):Hp:=fun b=>if b=a then some o else H b
theorem eU{H:Hp}{a:aa}{o:HO}:upd H a o a=some o:=by unfold upd;rw[if_pos rfl]
theorem cR{H:Hp}{a b:aa}{o:HO}(h:b≠a):upd H a o b=H b:=by unfold upd;rw[if_neg h]
theorem aaf{H:Hp}{a:aa}{o u:HO}:upd (upd H a o) a u=upd H a u:=by
 funext b;unfold upd;split<;>rfl
theorem SJ{H:Hp}{a b:aa}{o u:HO}(h:H a=some o)(h':H b=some u)(d:o≠u):a≠b:=by
 intro e;subst e;rw[h] at h';exact d (fX h')
theorem qb{H:Hp}{a b:aa}{o:HO}(h:H a=some o)(h':H b=none):a≠b:=by
 intro e;subst e;rw[h] at h';cases h'
section
variable(P:bh)(w:aZ)
def fB(H:Hp)(h:aV)(a:aa):HO→Prop
 |.lst xs=>xs.length≤bR∧∃(its:List Value)(n:Nat),Vals xs its∧h.get? a=some {cls:=.type "list",data:=.seq its.toArray n}
 |.tup xs=>xs.length≤bR∧∃its:List Value,Vals xs its∧IsTup h a its.toArray
 |.dK kvs=>kvs.length≤bR∧(a==tD)=false∧∃vs,KV kvs vs∧h.DictOf (jh P w) a vs
 |.dT kvs=>kvs.length≤bR∧(a==tD)=false∧∃xs:List (List Key×aa×Value),
   Paired (fun(p:List Key×V)(q:List Key×aa×Value)=>p.1=q.1∧H q.2.1=some (.tup (p.1.map kV))∧RelV p.2 q.2.2) kvs xs∧
   ∃o es ep,h.get? a=some o∧o.ExactDict∧o.data=.dict es ep∧es.toList=xs.map (entryOfKey (Dc (jh P w)))∧(xs.map (·.1)).Nodup
 |.set S n=>h.SetOf (intKind P w) a S n
 |.ins C dx fs=>H dx=some (.own a)∧fs.length≤1000∧dx≠a∧h.get? a=some (We C dx)∧
   ∃mA,h.Ns1 dx mA∧(∀f,pP (fs.lookup f) (mA f))∧afk mA (fs.map (·.1))
 |.own _=>∃o,h.get? a=some o
 |.xd fs=>∃mA,h.Ns1 a mA∧∀f,pP (fs.lookup f) (mA f)
 |.vd lo hi=>∃t u v,h.get? a=some {cls:=.type "range",data:=.fields #[.int lo t,.int hi u,.int 1 v]}
 |.lq o u=>h.get? a=some o∧fB H h a u
 |.zc ps=>h.get? a=some {cls:=.none,data:=.fields ps}
 |.met f x=>h.get? a=some (VN (.ref f) (.ref x))
 |.ext φ=>φ h∧(∃o,h.get? a=some o)∧∀h1 h2:aV,φ h1→(∀o,h1.get? a=some o→h2.get? a=some o)→φ h2
def gP(H:Hp)(h:aV):Prop:=∀a o,H a=some o→fB P w H h a o
end
section
variable{P:bh}{w:aZ}{H H':Hp}{h h':aV}{a:aa}{o:HO}
theorem fB.lt(x:fB P w H h a o):a<h.objs.size:=by
 cases o with
 |lst xs=>obtain⟨_,_,_,_,e⟩:=x;exact bZ e
 |tup xs=>obtain⟨_,_,_,p⟩:=x;exact p.lt
 |dK kvs=>obtain⟨_,_,_,_,o,_,_,e,_⟩:=x;exact bZ e
 |dT kvs=>obtain⟨_,_,_,_,o,_,_,e,_⟩:=x;exact bZ e
 |set S n=>obtain⟨o,_,_,_,e,_⟩:=x;exact bZ e
 |ins C dx fs=>obtain⟨_,_,_,e,_⟩:=x;exact bZ e
 |own y=>obtain⟨_,e⟩:=x;exact bZ e
 |xd fs=>obtain⟨_,⟨_,_,_,e,_⟩,_⟩:=x;exact bZ e
 |vd lo hi=>obtain⟨_,_,_,e⟩:=x;exact bZ e
 |lq ob u=>obtain⟨e,_⟩:=x;exact bZ e
 |zc ps=>exact bZ (show h.get? a=some _ from x)
 |met f y=>exact bZ (show h.get? a=some _ from x)
 |ext φ=>obtain⟨_,⟨_,e⟩,_⟩:=x;exact bZ e
theorem Paired.Tv{α β:Type}{F G:α→β→Prop}:∀{l₁:List α}{l₂:List β},Paired F l₁ l₂→(∀a b,F a b→G a b)→Paired G l₁ l₂
 |_,_,.nil,_=>.nil
 |_,_,.cons r t,f=>.cons (f _ _ r) (Paired.Tv t f)
theorem fB.stay(x:fB P w H h a o)(k:∀b u,(b=a∨H b=some (.own a))→h.get? b=some u→h'.get? b=some u)
  (ho:∀b,H b=some (.own a)→H' b=some (.own a))(ht:∀b xs,H b=some (.tup xs)→H' b=some (.tup xs)):fB P w H' h' a o:=by
 induction o with
 |lst xs=>obtain⟨z,its,n,r,e⟩:=x;exact⟨z,its,n,r,k _ _ (.inl rfl) e⟩
 |tup xs=>obtain⟨z,its,r,ob,e,c⟩:=x;exact⟨z,its,r,ob,k _ _ (.inl rfl) e,c⟩
 |dK kvs=>obtain⟨z,y,vs,r,ob,es,ep,e,c⟩:=x;exact⟨z,y,vs,r,ob,es,ep,k _ _ (.inl rfl) e,c⟩
 |dT kvs=>
  obtain⟨z,y,xs,r,ob,es,ep,e,c⟩:=x
  exact⟨z,y,xs,Paired.Tv r fun p q z=>⟨z.1,ht _ _ z.2.1,z.2.2⟩,ob,es,ep,k _ _ (.inl rfl) e,c⟩
 |set S n=>obtain⟨ob,es,ep,t,e,c⟩:=x;exact⟨ob,es,ep,t,k _ _ (.inl rfl) e,c⟩
 |ins C dx fs=>
  obtain⟨d,z,ne,e,mA,⟨od,es,ep,e2,c⟩,r⟩:=x
  exact⟨ho _ d,z,ne,k _ _ (.inl rfl) e,mA,⟨od,es,ep,k _ _ (.inr d) e2,c⟩,r⟩
 |own y=>obtain⟨ob,e⟩:=x;exact⟨ob,k _ _ (.inl rfl) e⟩
 |xd fs=>obtain⟨mA,⟨od,es,ep,e,c⟩,r⟩:=x;exact⟨mA,⟨od,es,ep,k _ _ (.inl rfl) e,c⟩,r⟩
 |vd lo hi=>obtain⟨t,u,v,e⟩:=x;exact⟨t,u,v,k _ _ (.inl rfl) e⟩
 |lq ob u ih=>obtain⟨e,q⟩:=x;exact⟨k _ _ (.inl rfl) e,ih q⟩
 |zc ps=>
  have e:h.get? a=some {cls:=.none,data:=.fields ps}:=x;show h'.get? a=some {cls:=.none,data:=.fields ps};exact k a _ (.inl rfl) e
 |met f y=>
  have e:h.get? a=some (VN (.ref f) (.ref y)):=x;show h'.get? a=some (VN (.ref f) (.ref y));exact k a _ (.inl rfl) e
 |ext φ=>obtain⟨p,⟨o,e⟩,st⟩:=x;exact⟨st _ _ p fun o q=>k _ _ (.inl rfl) q,⟨o,k _ _ (.inl rfl) e⟩,st⟩
theorem gP.lt(x:gP P w H h)(e:H a=some o):a<h.objs.size:=(x a o e).lt
theorem gP.fresh(x:gP P w H h)(e:h.objs.size≤a):H a=none:=by
 cases q:H a with
 |none=>rfl
 |some u=>exact absurd (nj (x.lt q) e) (vK _)
theorem gP.kept(x:gP P w H h)(k:∀b u,h.get? b=some u→h'.get? b=some u):gP P w H h':=fun a o e=>
 (x a o e).stay (fun b u _ q=>k b u q) (fun _ q=>q) fun _ _ q=>q
theorem gP.laid(x:gP P w H h)(k:∀b u,h.get? b=some u→h'.get? b=some u)(hp:h.objs.size≤a)(new:fB P w (upd H a o) h' a o):gP P w (upd H a o) h':=fun b u e=>by
 have hn:=x.fresh hp;by_cases hb:b=a
 ·subst hb;rw[eU] at e;cases e;exact new
 ·rw[cR hb] at e
  exact(x b u e).stay (fun c v _ q=>k c v q) (fun c q=>by rw[cR (qb q hn)];exact q) fun c xs q=>by rw[cR (qb q hn)];exact q
end
def Rd(H:Hp)(a:aa)(u:HO):Prop:=H a=some u∨∃o,H a=some (.lq o u)
theorem Rd.of{H:Hp}{a:aa}{u:HO}(h:H a=some u):Rd H a u:=.inl h
theorem Rd.ok{P:bh}{w:aZ}{H:Hp}{h:aV}{a:aa}{u:HO}(r:Rd H a u)(x:gP P w H h):fB P w H h a u:=by
 rcases r with r|⟨o,r⟩
 ·exact x a u r
 ·obtain⟨_,q⟩:=x a _ r
  exact q
def FZ:Option HO→Prop
 |some (.lst _)=>True
 |some (.dK _)=>True
 |some (.dT _)=>True
 |some (.set _ _)=>True
 |some (.ins _ _ _)=>True
 |some (.ext _)=>True
 |_=>False
section
variable{P:bh}{w:aZ}{H:Hp}{h h':aV}{x e:aa}{o':HO}
theorem gP.write(ok:gP P w H h)(mu:FZ (H x))(he:e=x∨H e=some (.own x))(k:∀b u,b≠e→h.get? b=some u→h'.get? b=some u)(heo:∃u,h'.get? e=some u)
  (new:fB P w (upd H x o') h' x o'):gP P w (upd H x o') h':=fun b u q=>by
 have ab2:∀c y,H c=some (.own y)→c≠x:=fun c y r z=>by subst z;rw[r] at mu;exact mu
 have amg:∀c xs,H c=some (.tup xs)→c≠x:=fun c xs r z=>by subst z;rw[r] at mu;exact mu
 by_cases hb:b=x
 ·subst hb;rw[eU] at q;cases q;exact new
 ·rw[cR hb] at q;by_cases hbe:b=e
  ·have q':H b=some (.own x):=by
    rcases he with z|z
    ·exact absurd (hbe.trans z) hb
    ·rw[hbe];exact z
   rw[q] at q';cases q'
   obtain⟨v,hv⟩:=heo
   exact⟨v,by rw[hbe];exact hv⟩
  ·refine(ok b u q).stay (fun c v hc r=>k c v ?_ r) (fun c r=>by rw[cR (ab2 c b r)];exact r) fun c xs r=>by rw[cR (amg c xs r)];exact r
   rcases hc with rfl|hc
   ·exact hbe
   ·rintro rfl;rcases he with z|z
    ·exact ab2 c b hc z
    ·rw[hc] at z;cases z;exact hb rfl
end
structure Un(fs ex:List aa)(H H':Hp)(h h':aV):Prop where
 keep:∀b o,h.get? b=some o→H b=none→b∉fs→b∉ex→h'.get? b=some o
 slot:∀b o,h.get? b=some o→H b=none→b∈fs→b∉ex→∃sl,h'.get? b=some {o with slots:=sl}
 free:∀b o,h.get? b=some o→H b=none→b∉ex→H' b=none
 there:∀b o,h.get? b=some o→b∉ex→∃o',h'.get? b=some o'
 tups:∀b xs,H b=some (.tup xs)→H' b=some (.tup xs)
 pQ:∀b o u,H b=some (.lq o u)→H' b=some (.lq o u)
 qD:∀b ps,H b=some (.zc ps)→∃more,H' b=some (.zc (ps++more))
section
variable{fs fs' ex ex':List aa}{H H1 H2:Hp}{h h1 h2 h':aV}{a x e:aa}{o:HO}
theorem Un.any(u:Un fs ex H H1 h h1){b:aa}{ob:Obj}(q:h.get? b=some ob)(n:H b=none)(hx:b∉ex):∃sl,h1.get? b=some {ob with slots:=sl}:=by
 by_cases hb:b∈fs
 ·exact u.slot b ob q n hb hx
 ·exact⟨ob.slots,u.keep b ob q n hb hx⟩
theorem Un.trans(a:Un fs ex H H1 h h1)(b:Un fs ex H1 H2 h1 h2):Un fs ex H H2 h h2 where
 keep:=fun c ob q n hc hx=>b.keep c ob (a.keep c ob q n hc hx) (a.free c ob q n hx) hc hx
 slot:=fun c ob q n hc hx=>by
  obtain⟨sl,e1⟩:=a.slot c ob q n hc hx
  obtain⟨sl',e2⟩:=b.slot c _ e1 (a.free c ob q n hx) hc hx
  exact⟨sl',e2⟩
 free:=fun c ob q n hx=>by
  obtain⟨o',e1⟩:=a.there c ob q hx
  exact b.free c o' e1 (a.free c ob q n hx) hx
 there:=fun c ob q hx=>by
  obtain⟨o',e1⟩:=a.there c ob q hx
  exact b.there c o' e1 hx
 tups:=fun c xs q=>b.tups c xs (a.tups c xs q)
 pQ:=fun c ob xs q=>b.pQ c ob xs (a.pQ c ob xs q)
 qD:=fun c ps q=>by
  obtain⟨m1,e1⟩:=a.qD c ps q
  obtain⟨m2,e2⟩:=b.qD c _ e1
  exact⟨m1++m2,by rw[e2,aea]⟩
theorem Un.kept(k:∀b u,h.get? b=some u→h'.get? b=some u):Un fs ex H H h h':=
 ⟨fun b ob q _ _ _=>k b ob q,fun b ob q _ _ _=>⟨ob.slots,k b ob q⟩,fun _ _ _ n _=>n,fun b ob q _=>⟨ob,k b ob q⟩,fun _ _ q=>q,fun _ _ _ q=>q,fun _ ps q=>⟨#[],by rw[q];simp⟩⟩
theorem Un.refl:Un fs ex H H h h:=Un.kept fun _ _ q=>q
theorem Un.laid(k:∀b u,h.get? b=some u→h'.get? b=some u)(hp:h.objs.size≤a)(hn:H a=none):Un fs ex H (upd H a o) h h' where
 keep:=fun b u q _ _ _=>k b u q
 slot:=fun b u q _ _ _=>⟨u.slots,k b u q⟩
 free:=fun b u q n _=>by rw[cR (dY (nj (bZ q) hp))];exact n
 there:=fun b u q _=>⟨u,k b u q⟩
 tups:=fun b xs q=>by rw[cR (qb q hn)];exact q
 pQ:=fun b u xs q=>by rw[cR (qb q hn)];exact q
 qD:=fun b ps q=>⟨#[],by rw[cR (qb q hn),q];simp⟩
theorem Un.write(mu:FZ (H x))(he:e=x∨H e=some (.own x))(k:∀b u,b≠e→h.get? b=some u→h'.get? b=some u)(heo:∃u,h'.get? e=some u):Un fs ex H (upd H x o) h h':=by
 have hx:∀b,H b=none→b≠x:=fun b n z=>by subst z;rw[n] at mu;exact mu
 have hb:∀b,H b=none→b≠e:=fun b n z=>by
  subst z;rcases he with r|r
  ·exact hx b n r
  ·rw[n] at r;cases r
 have hm:∀b u,H b=some u→¬FZ (some u)→b≠x:=fun b u q nm z=>by subst z;rw[q] at mu;exact nm mu
 refine⟨fun b u q n _ _=>k b u (hb b n) q,fun b u q n _ _=>⟨u.slots,k b u (hb b n) q⟩,fun b u q n _=>by rw[cR (hx b n)];exact n,fun b u q _=>?_,
  fun b xs q=>by rw[cR (hm b _ q fun z=>z)];exact q,fun b u xs q=>by rw[cR (hm b _ q fun z=>z)];exact q,fun b ps q=>⟨#[],by rw[cR (hm b _ q fun z=>z),q];simp⟩⟩
 by_cases hbe:b=e
 ·subst hbe;exact heo
 ·exact⟨u,k b u hbe q⟩
theorem Un.mono(u:Un fs ex H H1 h h1)(hs:∀b∈fs,b∈fs')(hx:∀b∈ex,b∈ex'):Un fs' ex' H H1 h h1:=
 ⟨fun b ob q n hb he=>u.keep b ob q n (fun z=>hb (hs b z)) fun z=>he (hx b z),fun _ _ q n _ he=>u.any q n fun z=>he (hx _ z),fun b ob q n he=>u.free b ob q n fun z=>he (hx b z),fun b ob q he=>u.there b ob q fun z=>he (hx b z),u.tups,u.pQ,u.qD⟩
end
def Ky(h:aV)(H:Hp):List aa:=(dZ h.objs.size).filter fun a=>(H a).isSome
def uV(h:aV)(H:Hp):aV:=PySem.W.hideAll h (Ky h H)
theorem agD(h:aV)(H:Hp):(uV h H).objs.size=h.objs.size:=PySem.W.hideAll_size _ _
theorem ahD{h:aV}{H:Hp}{b:aa}{o:Obj}(e:h.get? b=some o)(n:H b=none):(uV h H).get? b=some o:=
 PySem.W.hideAll_get _ e fun hm=>by
  have q:(H b).isSome=true:=(j7.mp hm).2;rw[n] at q;simp at q
theorem aiV{h:aV}{H:Hp}{b:aa}{o:Obj}(e:(uV h H).get? b=some o):h.get? b=some o∧H b=none:=by
 have e':h.get? b=some o:=PySem.W.of_hideAll (Ky h H) e
 refine⟨e',?_⟩
 cases q:H b with
 |none=>rfl
 |some x=>
  have hm:b∈Ky h H:=j7.mpr ⟨qR.mpr (bZ e'),by simp[q]⟩;have z:(uV h H).get? b=none:=PySem.W.hideAll_none (Ky h H) hm;rw[z] at e;cases e
def aiW(g h:aV)(L:aa):List (aa×Obj):=(dZ h.objs.size).filterMap fun a=>if a=L∨(g.get? a).isSome=true then none else(h.get? a).map fun o=>(a,o)
def rest(g h:aV)(L d:aa):List (aa×Obj):=(aiW g h L).filter fun p=>decide (p.1≠d)
structure Mod(K:aG)(mg:Str→Option Value)(base:aV):Prop where
 Uc:K.In base
 glob:base.Ns gF mg
 blt:∃mb,base.Ns builtinsNs mb∧∀x:Str,x≠"__name__"→mb x=sX x
 nolimit:base.NoLimit
structure Cx where
 prog:bh
 w:aZ
 K:aG
 mg:Str→Option Value
 base:aV
 A:cI
 N:List Str
 s₀:aC
 H₀:Hp
 env:Env
 outer:List Env
 stack:List Env
 ex:List aa
 fn:Str→Bool
 calm:Bool
 pn:List (aa×Obj)
 xe:Value→aC→Prop
def frs(l:List Env):List aa:=l.filterMap (·.frame)
abbrev Cx.fs(X:Cx):List aa:=frs X.outer
def Kz(sc:ju)(x:Str):Prop:=sc.names.lookup x=some .local∨sc.names.lookup x=some .cell∨sc.names.lookup x=some .free
def Loc(sc:ju)(x:Str):Prop:=sc.names.lookup x=some .local∨sc.names.lookup x=some .cell
def Look(env:Env)(h:aV)(m:Str→Option Value)(x:Str)(u:Value):Prop:=
 (env.kindOf x=some .local∧m x=some u)∨((env.kindOf x=some .cell∨env.kindOf x=some .free)∧∃c,env.cells.lookup x=some c∧h.IsCell c (some u))
structure Cx.Ok(X:Cx):Prop where
 mod:Mod X.K X.mg X.base
 kind:X.env.scope.kind=.function
 glob:X.env.globals=gF
 blt:X.env.builtins=builtinsNs
 above:X.s₀.heap.objs.size≤X.env.locals
 inj:∀x y c,X.env.cells.lookup x=some c→X.env.cells.lookup y=some c→x=y
 has:∀x,(X.env.kindOf x=some .cell∨X.env.kindOf x=some .free)→∃c,X.env.cells.lookup x=some c
 cab:∀x c,X.fn x=true→X.env.cells.lookup x=some c→X.s₀.heap.objs.size≤c
 hd:X.calm=true→X.A.handled=none
 frames:X.A.frames=some X.stack
 stk:X.stack=X.outer∨(X.stack=X.env::X.outer∧X.env.frame=some X.env.locals)
 exf:∀b∈X.ex,b≠X.env.locals∧∀x c,X.env.cells.lookup x=some c→c≠b
 bs:∀b o,X.base.get? b=some o→X.s₀.heap.get? b=some o∧X.H₀ b=none
 uo:X.base.objs.size≤X.s₀.heap.objs.size
 Fj:∀b o,X.base.get? b=some o→b∉X.ex
 Kh:∀b∈X.ex,b∉X.fs
 qF:X.s₀.heap.FunFrames X.base X.outer
 zf:∀b∈X.fs,X.H₀ b=none
structure Inv(X:Cx)(pins:List (aa×Obj))(σ:List (Option V))(H:Hp)(s:aC):Prop where
 ok:X.Ok
 os:s.os=X.s₀.os
 bare:AllBare s.gens
 base:Un X.fs X.ex X.H₀ H X.s₀.heap s.heap
 loc:∃m,s.heap.Ns X.env.locals m∧∀(i:Nat)(x:Str)(v:V),X.N[i]?=some x→σ[i]?=some (some v)→Kz X.env.scope x→∃u,RelV v u∧Look X.env s.heap m x u
 cell:∀x c,X.env.cells.lookup x=some c→∃v,s.heap.IsCell c v
 free:H X.env.locals=none
 rF:∀x c,X.env.cells.lookup x=some c→H c=none
 pin:∀p∈X.pn++pins,s.heap.get? p.1=some p.2∧H p.1=none∧p.1≠X.env.locals∧p.1∉X.fs∧∀v,p.2.data≠.cell v
 hok:gP X.prog X.w H s.heap
 len:σ.length=X.N.length
section
variable{X:Cx}{pins:List (aa×Obj)}{σ:List (Option V)}{H H':Hp}{s:aC}{h':aV}
theorem Cx.Ok.amh(ok:X.Ok){b:aa}{o:Obj}(e:X.base.get? b=some o):b∉X.fs:=fun hb=>by
 have:=(ok.qF.mem hb).1;rw[e] at this;cases this
theorem Inv.bs(I:Inv X pins σ H s):∀b o,X.base.get? b=some o→s.heap.get? b=some o∧H b=none:=fun b o e=>
 ⟨I.base.keep b o (I.ok.bs b o e).1 (I.ok.bs b o e).2 (I.ok.amh e) (I.ok.Fj b o e),I.base.free b o (I.ok.bs b o e).1 (I.ok.bs b o e).2 (I.ok.Fj b o e)⟩
theorem Inv.bk(I:Inv X pins σ H s):∀b o,X.base.get? b=some o→s.heap.get? b=some o:=fun b o e=>(I.bs b o e).1
theorem Inv.mod(I:Inv X pins σ H s):Mod X.K X.mg X.base:=I.ok.mod
theorem Inv.iG(I:Inv X pins σ H s):X.K.In s.heap:=I.ok.mod.Uc.keeps I.bk
theorem Inv.nolimit(I:Inv X pins σ H s):s.heap.NoLimit:=I.ok.mod.nolimit.keeps I.bk
theorem Inv.fr(I:Inv X pins σ H s):∃m,Fr X.base X.env.locals s.heap m:=
 let ⟨m,hn,_⟩:=I.loc
 ⟨m,hn,I.bk,jD I.ok.uo I.ok.above⟩
theorem Inv.lt(I:Inv X pins σ H s):X.env.locals<s.heap.objs.size:=let ⟨_,hn,_⟩:=I.loc;hn.lt
theorem Inv.sz(I:Inv X pins σ H s):X.s₀.heap.objs.size≤s.heap.objs.size:=jD I.ok.above (vM I.lt)
theorem Inv.ami(I:Inv X pins σ H s){a:aa}(h:s.heap.objs.size≤a):a∉X.fs:=fun hb=>by
 obtain⟨_,o,ho,_⟩:=I.ok.qF.mem hb
 exact absurd (nj (bZ ho) (jD I.sz h)) (vK _)
theorem Inv.zg(I:Inv X pins σ H s):∀x c,X.env.cells.lookup x=some c→c≠X.env.locals:=fun x c e z=>by
 obtain⟨v,o,ho,hd⟩:=I.cell x c e
 obtain⟨m,⟨o',es,ep,ho',hd',_⟩,_⟩:=I.loc
 rw[z,ho'] at ho;cases ho;rw[hd'] at hd;cases hd
theorem Inv.qF(I:Inv X pins σ H s):s.heap.FunFrames X.base X.outer:=by
 have all:∀(l:List Env),(∀b∈frs l,b∈X.fs)→X.s₀.heap.FunFrames X.base l→s.heap.FunFrames X.base l:=by
  intro l;induction l with
  |nil=>intro _ _;trivial
  |cons env r ih=>
   intro hs hl
   obtain⟨hk,⟨L,o,hf,hn,ho,hd⟩,hr⟩:=hl
   have hL:L∈X.fs:=hs L (by unfold frs;rw[Vz,hf];exact dm)
   obtain⟨sl,e⟩:=I.base.slot L o ho (I.ok.zf L hL) hL fun z=>I.ok.Kh L z hL
   exact⟨hk,⟨L,_,hf,hn,e,hd⟩,ih (fun b hb=>hs b (by unfold frs;rw[Vz,hf];exact dM _ hb)) hr⟩
 exact all X.outer (fun _ hb=>hb) I.ok.qF
theorem Inv.stack(I:Inv X pins σ H s):s.heap.FunFrames X.base X.stack:=by
 rcases I.ok.stk with e|⟨e,hf⟩
 ·rw[e];exact I.qF
 ·rw[e]
  obtain⟨m,hn,_⟩:=I.loc
  refine .cons (by rw[I.ok.kind];decide) hf hn ?_ I.qF;exact Heap.get?_none_of_le (jD I.ok.uo I.ok.above)
theorem Inv.Ay(I:Inv X pins σ H s):∀b∈frs X.stack,b∈X.env.locals::X.fs:=fun b hb=>by
 rcases I.ok.stk with e|⟨e,hf⟩
 ·rw[e] at hb;exact dM _ hb
 ·rw[e] at hb;unfold frs at hb;rw[Vz,hf] at hb;exact hb
theorem Inv.aag(I:Inv X pins σ H s):∀b∈frs X.stack,H b=none:=fun b hb=>by
 rcases bI.mp (I.Ay b hb) with e|hb
 ·rw[e];exact I.free
 ·obtain⟨_,o,ho,_⟩:=I.ok.qF.mem hb
  exact I.base.free b o ho (I.ok.zf b hb) fun z=>I.ok.Kh b z hb
theorem Inv.step{g':Array GenState}{t':Nat}{d':yI}{ch:List aa}(I:Inv X pins σ H s)
  (hch:∀b∈ch,(b∈X.ex∨X.s₀.heap.objs.size≤b)∧b≠X.env.locals∧(∀x c,X.env.cells.lookup x=some c→c≠b)∧∀p∈X.pn++pins,p.1≠b)
  (keep:∀b o,b≠X.env.locals→b∉X.fs→b∉ch→s.heap.get? b=some o→H b=none→h'.get? b=some o)
  (slot:∀b o,b≠X.env.locals→b∈X.fs→b∉ch→s.heap.get? b=some o→H b=none→∃sl,h'.get? b=some {o with slots:=sl})(free:∀b o,b∉ch→s.heap.get? b=some o→H b=none→H' b=none)
  (there:∀b o,b∉ch→s.heap.get? b=some o→∃o',h'.get? b=some o')
  (tups:∀b xs,H b=some (.tup xs)→H' b=some (.tup xs))(pQ:∀b o u,H b=some (.lq o u)→H' b=some (.lq o u))(qD:∀b ps,H b=some (.zc ps)→∃more,H' b=some (.zc (ps++more)))
  (ns:∀m,s.heap.Ns X.env.locals m→h'.Ns X.env.locals m)(hok:gP X.prog X.w H' h')(hg:AllBare g'):
  Inv X pins σ H' {s with heap:=h',gens:=g',drawn:=d',toks:=t'}:=by
 have neL:∀b o,X.s₀.heap.get? b=some o→b≠X.env.locals:=fun b o e=>dY (nj (bZ e) I.ok.above)
 have KC:∀b o,X.s₀.heap.get? b=some o→b∉X.ex→b∉ch:=fun b o e hx hb=>by
  rcases(hch b hb).1 with z|z
  ·exact hx z
  ·exact absurd (nj (bZ e) z) (vK _)
 have cellK:∀x c,X.env.cells.lookup x=some c→∀v,s.heap.IsCell c v→h'.IsCell c v:=fun x c e v aL=>by
  obtain⟨o,ho,hd⟩:=aL
  have Ga:c∉ch:=fun z=>(hch c z).2.2.1 x c e rfl
  by_cases hc:c∈X.fs
  ·obtain⟨sl,q⟩:=slot c o (I.zg x c e) hc Ga ho (I.rF x c e)
   exact⟨_,q,hd⟩
  ·exact⟨o,keep c o (I.zg x c e) hc Ga ho (I.rF x c e),hd⟩
 refine⟨I.ok,I.os,hg,⟨fun b o e n hb hx=>?_,fun b o e n hb hx=>?_,fun b o e n hx=>?_,fun b o e hx=>?_,fun b xs e=>tups b xs (I.base.tups b xs e),fun b o xs e=>pQ b o xs (I.base.pQ b o xs e),fun b ps e=>?_⟩,?_,fun x c e=>?_,?_,fun x c e=>?_,fun p hp=>?_,hok,I.len⟩
 ·exact keep b o (neL b o e) hb (KC b o e hx) (I.base.keep b o e n hb hx) (I.base.free b o e n hx)
 ·obtain⟨sl,e1⟩:=I.base.slot b o e n hb hx
  obtain⟨sl',e2⟩:=slot b _ (neL b o e) hb (KC b o e hx) e1 (I.base.free b o e n hx)
  exact⟨sl',e2⟩
 ·obtain⟨o',e1⟩:=I.base.there b o e hx
  exact free b o' (KC b o e hx) e1 (I.base.free b o e n hx)
 ·obtain⟨o',e1⟩:=I.base.there b o e hx
  exact there b o' (KC b o e hx) e1
 ·obtain⟨m1,e1⟩:=I.base.qD b ps e
  obtain⟨m2,e2⟩:=qD b _ e1
  exact⟨m1++m2,by rw[e2,aea]⟩
 ·obtain⟨m,hn,hl⟩:=I.loc
  refine⟨m,ns m hn,fun i x v e1 e2 e3=>?_⟩
  obtain⟨u,r,l⟩:=hl i x v e1 e2 e3
  refine⟨u,r,?_⟩
  rcases l with l|⟨k,c,e,z⟩
  ·exact .inl l
  ·exact .inr ⟨k,c,e,cellK x c e _ z⟩
 ·obtain⟨v,z⟩:=I.cell x c e
  exact⟨v,cellK x c e v z⟩
 ·obtain⟨m,⟨o,_,_,ho,_⟩,_⟩:=I.loc
  exact free _ o (fun z=>(hch _ z).2.1 rfl) ho I.free
 ·obtain⟨v,o,ho,hd⟩:=I.cell x c e
  exact free c o (fun z=>(hch c z).2.2.1 x c e rfl) ho (I.rF x c e)
 ·obtain⟨e,n,ne,nf,d⟩:=I.pin p hp
  have Ga:p.1∉ch:=fun z=>(hch p.1 z).2.2.2 p hp rfl
  exact⟨keep p.1 p.2 ne nf Ga e n,free p.1 p.2 Ga e n,ne,nf,d⟩
theorem Inv.un{t':Nat}(I:Inv X pins σ H s)(u:Un X.fs [] H H' s.heap h')(hok:gP X.prog X.w H' h'):Inv X pins σ H' {s with heap:=h',toks:=t'}:=by
 obtain⟨m,⟨o,es,ep,ho,r⟩,_⟩:=id I.loc
 obtain⟨sl,hL⟩:=u.any ho I.free (by simp)
 exact I.step (g':=s.gens) (d':=s.drawn) (ch:=[]) (fun _ z=>nomatch z) (fun b o _ hb _ e n=>u.keep b o e n hb (by simp)) (fun b o _ hb _ e n=>u.slot b o e n hb (by simp)) (fun b o _ e n=>u.free b o e n (by simp)) (fun b o _ e=>u.there b o e (by simp)) u.tups u.pQ u.qD (fun m' hm=>by
  obtain⟨o',es',ep',ho',r'⟩:=hm
  rw[ho] at ho';cases ho'
  exact⟨_,es',ep',hL,r'⟩) hok I.bare
theorem Inv.call{g':Array GenState}{t':Nat}{d':yI}{ch:List aa}(I:Inv X pins σ H s)(u:Un (frs X.stack) ch H H' s.heap h')(hok:gP X.prog X.w H' h')(hg:AllBare g')
  (hch:∀b∈ch,(b∈X.ex∨X.s₀.heap.objs.size≤b)∧b≠X.env.locals∧(∀x c,X.env.cells.lookup x=some c→c≠b)∧∀p∈X.pn++pins,p.1≠b):
  Inv X pins σ H' {s with heap:=h',gens:=g',drawn:=d',toks:=t'}:=by
 obtain⟨m,⟨o,es,ep,ho,r⟩,_⟩:=id I.loc
 obtain⟨sl,hL⟩:=u.any ho I.free fun z=>(hch _ z).2.1 rfl
 exact I.step (ch:=ch) hch (fun b o hL hb hc e n=>u.keep b o e n (fun z=>(bI.mp (I.Ay b z)).elim hL hb) hc) (fun b o _ _ hc e n=>u.any e n hc) (fun b o hc e n=>u.free b o e n hc) (fun b o hc e=>u.there b o e hc) u.tups u.pQ u.qD (fun m' hm=>by
  obtain⟨o',es',ep',ho',r'⟩:=hm
  rw[ho] at ho';cases ho'
  exact⟨_,es',ep',hL,r'⟩) hok hg
theorem Inv.turned{t':Nat}{it:aa}(I:Inv X pins σ H s)(k:∀b o,b≠it→s.heap.get? b=some o→h'.get? b=some o)(hn:H it=none)(hL:it≠X.env.locals)
  (h1:it∈X.ex∨X.s₀.heap.objs.size≤it)(h2:∀x c,X.env.cells.lookup x=some c→c≠it)(h3:∀p∈X.pn++pins,p.1≠it):Inv X pins σ H {s with heap:=h',toks:=t'}:=by
 have Gb:∀b u,H b=some u→b≠it:=fun b u e z=>by rw[z,hn] at e;cases e
 refine I.step (g':=s.gens) (d':=s.drawn) (ch:=[it]) (fun b hb=>?_) (fun b o _ _ hc e _=>k b o (fun z=>hc (by simp[z])) e) (fun b o _ _ hc e _=>⟨o.slots,k b o (fun z=>hc (by simp[z])) e⟩) (fun _ _ _ _ n=>n)
  (fun b o hc e=>⟨o,k b o (fun z=>hc (by simp[z])) e⟩) (fun _ _ e=>e) (fun _ _ _ e=>e) (fun b ps e=>⟨#[],by rw[e];simp⟩) (fun m hm=>?_) (fun b u e=>?_) I.bare
 ·have e:b=it:=by simpa using hb
  subst e
  exact⟨h1,hL,h2,h3⟩
 ·obtain⟨o,es,ep,ho,r⟩:=hm
  exact⟨o,es,ep,k _ o (jX hL) ho,r⟩
 ·refine(I.hok b u e).stay (fun c v hc q=>k c v ?_ q) (fun _ q=>q) fun _ _ q=>q
  rcases hc with z|z
  ·rw[z];exact Gb b u e
  ·exact Gb c _ z
theorem Inv.tok(I:Inv X pins σ H s)(t:Nat):Inv X pins σ H {s with toks:=t}:=I.un (h':=s.heap) (t':=t) Un.refl I.hok
theorem Inv.kept{t':Nat}(I:Inv X pins σ H s)(k:∀b u,s.heap.get? b=some u→h'.get? b=some u):Inv X pins σ H {s with heap:=h',toks:=t'}:=I.un (Un.kept k) (I.hok.kept k)
theorem Inv.laid{a:aa}{o:HO}{t':Nat}(I:Inv X pins σ H s)(k:∀b u,s.heap.get? b=some u→h'.get? b=some u)(hp:s.heap.objs.size≤a)(new:fB X.prog X.w (upd H a o) h' a o):
  Inv X pins σ (upd H a o) {s with heap:=h',toks:=t'}:=I.un (Un.laid k hp (I.hok.fresh hp)) (I.hok.laid k hp new)
theorem Inv.write{x e:aa}{o:HO}{t':Nat}(I:Inv X pins σ H s)(mu:FZ (H x))(he:e=x∨H e=some (.own x))(k:∀b u,b≠e→s.heap.get? b=some u→h'.get? b=some u)(heo:∃u,h'.get? e=some u)
  (new:fB X.prog X.w (upd H x o) h' x o):Inv X pins σ (upd H x o) {s with heap:=h',toks:=t'}:=I.un (Un.write mu he k heo) (I.hok.write mu he k heo new)
theorem Inv.weak{σ':List (Option V)}(I:Inv X pins σ H s)(hl:σ'.length=σ.length)(w:∀(i:Nat) v,σ'[i]?=some (some v)→σ[i]?=some (some v)):Inv X pins σ' H s:=
 ⟨I.ok,I.os,I.bare,I.base,let ⟨m,hn,hl'⟩:=I.loc;⟨m,hn,fun i x v e1 e2 e3=>hl' i x v e1 (w i v e2) e3⟩,I.cell,I.free,I.rF,I.pin,I.hok,hl.trans I.len⟩
theorem Inv.aah{SM:List (aa×Obj)}(I:Inv X pins σ H s)(h:∀p∈SM,s.heap.get? p.1=some p.2∧H p.1=none∧p.1≠X.env.locals∧p.1∉X.fs∧∀v,p.2.data≠.cell v):Inv X SM σ H s:=
 ⟨I.ok,I.os,I.bare,I.base,I.loc,I.cell,I.free,I.rF,fun p hp=>(cQ.mp hp).elim (fun z=>I.pin p (gJ _ z)) (h p),I.hok,I.len⟩
theorem Y6{N:List Str}(hN:N.Nodup){i j:Nat}{x:Str}(a:N[i]?=some x)(b:N[j]?=some x):i=j:=by
 obtain⟨h1,e1⟩:=gZ.mp a
 obtain⟨h2,e2⟩:=gZ.mp b
 exact(List.getElem_inj hN).mp (e1.trans e2.symm)
theorem O3{M:Model}{A:cI}{E:Value→aC→Prop}{i:Nat}{x:Str}{v:V}{u:Value}{Q:Unit→aC→Prop}(I:Inv X pins σ H s)(hN:X.N.Nodup)(hi:X.N[i]?=some x)(hx:Loc X.env.scope x)(r:RelV v u)
  (h:∀s',Inv X pins (σ.set i (some v)) H s'→(∃a,z8 a s.heap s'.heap∧(a=X.env.locals∨X.env.cells.lookup x=some a))→Q () s')(hf:X.fn x=true∨X.env.scope.names.lookup x=some .local:=by first|exact .inl rfl|exact .inr rfl|assumption):aN M A (storeName X.env x u) Q E s:=by
 obtain⟨m,hn,hl⟩:=id I.loc
 have hcls:(X.env.scope.kind==.class||(X.env.scope.kind==.module&&X.env.locals != X.env.globals))=false:=by rw[I.ok.kind];rfl
 have hiσ:i<σ.length:=by rw[I.len];exact(gZ.mp hi).1
 have zg:=I.zg;have tracked:∀{a:aa}{h':aV},(∃o,s.heap.get? a=some o∧H a=none)→z8 a s.heap h'→gP X.prog X.w H h':=fun{a h'} ha hs b ob e=>by
  obtain⟨_,_,hfree⟩:=ha
  refine(I.hok b ob e).stay (fun c w' hc q=>(hs.2 c ?_).trans q) (fun _ q=>q) fun _ _ q=>q
  rintro rfl;rcases hc with rfl|hc
  ·rw[hfree] at e;cases e
  ·rw[hfree] at hc;cases hc
 rcases hx with hk|hk
 ·refine wpAny_storeName_local hk hn (fun h' hn' hs=>?_) hcls
  obtain⟨oL,_,_,hoL,_⟩:=id hn
  refine h _ ⟨I.ok,I.os,I.bare,⟨fun b o e n hb hx=>?_,fun b o e n hb hx=>?_,I.base.free,fun b o e hx=>?_,I.base.tups,I.base.pQ,I.base.qD⟩,⟨_,hn',fun j y v' e1 e2 e3=>?_⟩,fun y c e=>?_,I.free,I.rF,fun p hp=>?_,tracked ⟨oL,hoL,I.free⟩ hs,by simpa using I.len⟩ ⟨_,hs,.inl rfl⟩
  ·exact(hs.2 b (dY (nj (bZ e) I.ok.above))).trans (I.base.keep b o e n hb hx)
  ·obtain⟨sl,e1⟩:=I.base.slot b o e n hb hx
   exact⟨sl,(hs.2 b (dY (nj (bZ e) I.ok.above))).trans e1⟩
  ·obtain⟨o',e1⟩:=I.base.there b o e hx
   exact⟨o',(hs.2 b (dY (nj (bZ e) I.ok.above))).trans e1⟩
  ·by_cases hj:j=i
   ·subst hj;rw[hi] at e1;cases e1;rw[adI hiσ] at e2;cases e2
    exact⟨u,r,.inl ⟨hk,by simp⟩⟩
   ·rw[vA (jX hj)] at e2
    obtain⟨u',r',q⟩:=hl j y v' e1 e2 e3
    refine⟨u',r',?_⟩
    rcases q with⟨k,e⟩|⟨k,c,e,z⟩
    ·refine .inl ⟨k,?_⟩;have:y≠x:=fun e=>hj (Y6 hN e1 (e▸hi))
     simp[this,e]
    ·exact .inr ⟨k,c,e,z.sameBut hs (zg y c e)⟩
  ·obtain⟨w',z⟩:=I.cell y c e
   exact⟨w',z.sameBut hs (zg y c e)⟩
  ·obtain⟨e,n,ne,nf,d⟩:=I.pin p hp
   exact⟨(hs.2 p.1 ne).trans e,n,ne,nf,d⟩
 ·have hfn:X.fn x=true:=by
   rcases hf with z|z
   ·exact z
   ·rw[z] at hk;cases hk
  obtain⟨c,hc⟩:=I.ok.has x (.inl hk)
  obtain⟨w',z⟩:=I.cell x c hc
  refine wpAny_storeName_cell I.ok.kind hk hc z (fun h' hc' hs=>?_)
  obtain⟨oc,hoc,amj⟩:=id z
  refine h {s with heap:=h'} ⟨I.ok,I.os,I.bare,⟨fun b o e n hb hx=>?_,fun b o e n hb hx=>?_,I.base.free,fun b o e hx=>?_,I.base.tups,I.base.pQ,I.base.qD⟩,⟨m,hn.sameBut hs (jX (zg x c hc)),fun j y v' e1 e2 e3=>?_⟩,fun y c' e=>?_,I.free,I.rF,fun p hp=>?_,tracked ⟨oc,hoc,I.rF x c hc⟩ hs,by simpa using I.len⟩ ⟨c,hs,.inr hc⟩
  ·exact(hs.2 b (dY (nj (bZ e) (I.ok.cab x c hfn hc)))).trans (I.base.keep b o e n hb hx)
  ·obtain⟨sl,e1⟩:=I.base.slot b o e n hb hx
   exact⟨sl,(hs.2 b (dY (nj (bZ e) (I.ok.cab x c hfn hc)))).trans e1⟩
  ·obtain⟨o',e1⟩:=I.base.there b o e hx
   exact⟨o',(hs.2 b (dY (nj (bZ e) (I.ok.cab x c hfn hc)))).trans e1⟩
  ·by_cases hj:j=i
   ·subst hj;rw[hi] at e1;cases e1;rw[adI hiσ] at e2;cases e2
    exact⟨u,r,.inr ⟨.inl hk,c,hc,hc'⟩⟩
   ·rw[vA (jX hj)] at e2
    obtain⟨u',r',q⟩:=hl j y v' e1 e2 e3
    refine⟨u',r',?_⟩
    rcases q with q|⟨k,c',e,z'⟩
    ·exact .inl q
    ·refine .inr ⟨k,c',e,z'.sameBut hs ?_⟩;rintro rfl;exact hj (Y6 hN e1 (I.ok.inj _ _ _ e hc▸hi))
  ·by_cases hcc:c'=c
   ·subst hcc;exact⟨_,hc'⟩
   ·obtain⟨w2,z2⟩:=I.cell y c' e
    exact⟨w2,z2.sameBut hs hcc⟩
  ·obtain⟨e,n,ne,nf,d⟩:=I.pin p hp
   refine⟨(hs.2 p.1 ?_).trans e,n,ne,nf,d⟩
   intro q;rw[q,hoc] at e;have q':oc=p.2:=fX e;exact d w' (by rw[←q'];exact amj)
theorem tL{M:Model}{A:cI}{E:Value→aC→Prop}{i:Nat}{x:Str}{v:V}{u:Value}{Q:Unit→aC→Prop}(I:Inv X pins σ H s)(hN:X.N.Nodup)(hi:X.N[i]?=some x)(hx:Loc X.env.scope x)(r:RelV v u)
  (h:∀s',Inv X pins (σ.set i (some v)) H s'→Q () s')(hf:X.fn x=true∨X.env.scope.names.lookup x=some .local:=by first|exact .inl rfl|exact .inr rfl|assumption):aN M A (storeName X.env x u) Q E s:=
 O3 I hN hi hx r (fun s' I' _=>h s' I') hf
theorem Inv.call'{s':aC}{ch:List aa}(I:Inv X pins σ H s)(ho:s'.os=s.os)(u:Un (frs X.stack) ch H H' s.heap s'.heap)(hok:gP X.prog X.w H' s'.heap)(hg:AllBare s'.gens)
  (hch:∀b∈ch,(b∈X.ex∨X.s₀.heap.objs.size≤b)∧b≠X.env.locals∧(∀x c,X.env.cells.lookup x=some c→c≠b)∧∀p∈X.pn++pins,p.1≠b):Inv X pins σ H' s':=by
 obtain⟨h',g',d',t',o'⟩:=s'
 have e:o'=s.os:=ho;subst e;exact I.call (g':=g') (t':=t') (d':=d') u hok hg hch
end
abbrev XK:=Value→Option aa→Hp→Prop
abbrev St:=List (Option V)
abbrev VK:=V→Hp→Prop
abbrev TE:=St→Hp→VK→Prop
abbrev TT:=St→Hp→(Bool→Hp→Prop)→Prop
abbrev TA:=St→Hp→(List V→Hp→Prop)→Prop
structure Ends where
 nx:St→Hp→Prop
 rt:VK
 bk:St→Hp→Prop:=fun _ _=>False
 ct:St→Hp→Prop:=fun _ _=>False
abbrev TS:=Ends→St→Hp→Prop
def EP(X:Cx)(pins:List (aa×Obj))(σ:St)(Q:VK)(u:Value)(s':aC):Prop:=∃v H',Inv X pins σ H' s'∧RelV v u∧Q v H'
def TP(X:Cx)(pins:List (aa×Obj))(σ:St)(Q:Bool→Hp→Prop)(b:Bool)(s':aC):Prop:=∃H',Inv X pins σ H' s'∧Q b H'
def AP(X:Cx)(pins:List (aa×Obj))(σ:St)(Q:List V→Hp→Prop)(us:List Value)(s':aC):Prop:=∃vs H',Inv X pins σ H' s'∧Vals vs us∧Q vs H'
def SP(X:Cx)(pins:List (aa×Obj))(D:Ends)(f:Flow)(s':aC):Prop:=
 match f with
 |.next=>∃σ' H',Inv X pins σ' H' s'∧D.nx σ' H'
 |.brk=>∃σ' H',Inv X pins σ' H' s'∧D.bk σ' H'
 |.cont=>∃σ' H',Inv X pins σ' H' s'∧D.ct σ' H'
 |.ret u=>∃v σ' H',Inv X pins σ' H' s'∧RelV v u∧D.rt v H'
def PE(X:Cx)(e:Expr)(t:TE):Prop:=
 ∀(pins:List (aa×Obj))(s:aC)(σ:St)(H:Hp)(Q:VK),Inv X pins σ H s→t σ H Q→aN (model X.prog X.w) X.A (eval e X.env) (EP X pins σ Q) X.xe s
def PT(X:Cx)(e:Expr)(t:TT):Prop:=
 ∀(pins:List (aa×Obj))(s:aC)(σ:St)(H:Hp)(Q:Bool→Hp→Prop),Inv X pins σ H s→t σ H Q→aN (model X.prog X.w) X.A (isTrue e X.env (eval e X.env)) (TP X pins σ Q) X.xe s
def PW(X:Cx)(e:Expr)(t:TT):Prop:=
 ∀(whole:Sem Value)(pins:List (aa×Obj))(s:aC)(σ:St)(H:Hp)(Q:Bool→Hp→Prop),Inv X pins σ H s→t σ H Q→aN (model X.prog X.w) X.A (isTrue e X.env whole) (TP X pins σ Q) X.xe s
theorem PW.pt{X:Cx}{e:Expr}{t:TT}(h:PW X e t):PT X e t:=h _
def PA(X:Cx)(es:List Expr)(t:TA):Prop:=
 ∀(pos:Pos)(pins:List (aa×Obj))(s:aC)(σ:St)(H:Hp)(Q:List V→Hp→Prop),Inv X pins σ H s→t σ H Q→aN (model X.prog X.w) X.A (Dm (fG pos (aW es X.env))) (AP X pins σ Q) X.xe s
def PS(X:Cx)(st:cZ)(t:TS):Prop:=
 ∀(pins:List (aa×Obj))(s:aC)(σ:St)(H:Hp)(D:Ends),Inv X pins σ H s→t D σ H→aN (model X.prog X.w) X.A (exec st X.env) (SP X pins D) X.xe s
def jl(X:Cx)(st:List cZ)(t:TS):Prop:=
 ∀(pins:List (aa×Obj))(s:aC)(σ:St)(H:Hp)(D:Ends),Inv X pins σ H s→t D σ H→aN (model X.prog X.w) X.A (execs st X.env) (SP X pins D) X.xe s
theorem bu{α:Type}{t:Sem α}{Q Q':α→aC→Prop}{M:Model}{A:cI}{E:Value→aC→Prop}{s:aC}(h:aN M A t Q E s)(hQ:∀a s,Q a s→Q' a s):aN M A t Q' E s:=oF h hQ fun _ _ x=>x
section
variable{X:Cx}
def pR(i:Nat):TE:=fun σ H Q=>∃v,σ[i]?=some (some v)∧Q v H
def tC(v:V):TE:=fun _ H Q=>Q v H
theorem akn{i:Nat}{x:Str}{pos:Pos}(hN:X.N[i]?=some x)(hv:Kz X.env.scope x)(hd:(x==("__debug__":Str))=false:=by decide)(hcd:(x==("__classdict__":Str))=false:=by decide):PE X (.Name x pos) (pR i):=by
 intro pins s σ H Q I h
 obtain⟨v,e,h⟩:=h
 obtain⟨m,hn,hl⟩:=I.loc
 obtain⟨u,r,l⟩:=hl i x v hN e hv
 have fin:EP X pins σ Q u s:=⟨v,H,I,r,h⟩
 rcases l with⟨hk,hm⟩|⟨hk,c,hc,hcell⟩
 ·exact Xw (adW I.ok.kind hk hn hm fin) hd
 ·rcases hk with hk|hk
  ·exact Xw (ad4 I.ok.kind hk hc hcell fin) hd
  ·exact Xw (wpAny_loadName_free I.ok.kind hk hc hcell fin hcd) hd
theorem aM{i j pos}:PE X (.Constant (.int i) j pos) (tC (.int i)):=fun _ _ _ H _ I h=>wpAny_Constant_int ⟨.int i,H,I.tok _,⟨_,rfl⟩,h⟩
theorem wH{b j pos}:PE X (.Constant (.bool b) j pos) (tC (.bl b)):=fun _ _ _ H _ I h=>Constant_bool ⟨.bl b,H,I,rfl,h⟩
theorem yz{j pos}:PE X (.Constant .none j pos) (tC .non):=fun _ _ _ H _ I h=>Constant_none ⟨.non,H,I,rfl,h⟩
theorem DN{x j pos}:PE X (.Constant (.str x) j pos) (tC (.str x)):=fun _ _ _ H _ I h=>Calls.Constant_str ⟨.str x,H,I.tok _,⟨_,rfl⟩,h⟩
def Gl(X:Cx)(x:Str):Prop:=X.env.kindOf x=some .globalImplicit
theorem aai{E:Value→aC→Prop}{pins:List (aa×Obj)}{s:aC}{σ:St}{H:Hp}{x:Str}{u:Value}{pos:Pos}{Q:Value→aC→Prop}(I:Inv X pins σ H s)(hg:Gl X x)(hm:X.mg x=some u)(h:Q u s)
  (hd:(x==("__debug__":Str))=false:=by decide):aN (model X.prog X.w) X.A (eval (.Name x pos) X.env) Q E s:=
 adx I.ok.kind hg (Calls.loadGlobal_global (by rw[I.ok.glob];exact I.mod.glob.keeps I.bk) hm h) hd
theorem tQ{E:Value→aC→Prop}{pins:List (aa×Obj)}{s:aC}{σ:St}{H:Hp}{x:Str}{u:Value}{pos:Pos}{Q:Value→aC→Prop}(I:Inv X pins σ H s)(hg:Gl X x)(hm:X.mg x=none)(hv:sX x=some u)(h:Q u s)
  (hn:x≠"__name__":=by decide)(hd:(x==("__debug__":Str))=false:=by decide):aN (model X.prog X.w) X.A (eval (.Name x pos) X.env) Q E s:=by
 obtain⟨mb,h1,h2⟩:=I.mod.blt
 exact adx I.ok.kind hg (Calls.loadGlobal_builtin (by rw[I.ok.glob];exact I.mod.glob.keeps I.bk) hm (by rw[I.ok.blt];exact h1.keeps I.bk) ((h2 x hn).trans hv) h) hd
theorem aaj{x:Str}{v:V}{u:Value}{pos:Pos}(hg:Gl X x)(hm:X.mg x=some u)(r:RelV v u)(hd:(x==("__debug__":Str))=false:=by decide):PE X (.Name x pos) (tC v):=
 fun _ _ _ H _ I h=>aai I hg hm ⟨v,H,I,r,h⟩ hd
theorem pC{x:Str}{v:V}{u:Value}{pos:Pos}(hg:Gl X x)(hm:X.mg x=none)(hv:sX x=some u)(r:RelV v u)(hn:x≠"__name__":=by decide)(hd:(x==("__debug__":Str))=false:=by decide):PE X (.Name x pos) (tC v):=
 fun _ _ _ H _ I h=>tQ I hg hm hv ⟨v,H,I,r,h⟩ hn hd
variable{a b:Expr}{ta tb:TE}{pos:Pos}
def tB(t:TE):TT:=fun σ H Q=>t σ H fun x H1=>∃c,x=.bl c∧Q c H1
variable{tA KD:TT}{rest:List Expr}
def ab3(t u:TT):TT:=fun σ H Q=>t σ H fun c H1=>if c=true then u σ H1 Q else Q false H1
def tOr(t u:TT):TT:=fun σ H Q=>t σ H fun c H1=>if c=true then Q true H1 else u σ H1 Q
def amk(t:TT):TT:=fun σ H Q=>t σ H fun c H1=>Q (!c) H1
theorem pw_and1(ha:PT X a tA):PW X (.BoolOp .And [a] pos) tA:=by
 intro wh pins s σ H Q I h;refine isTrue_and (bu (ha pins s σ H Q I h) fun c s1 e=>?_);cases c with
 |true=>exact isTrue_and_nil e
 |false=>exact e
theorem pw_or1(ha:PT X a tA):PW X (.BoolOp .Or [a] pos) tA:=by
 intro wh pins s σ H Q I h;refine isTrue_or (bu (ha pins s σ H Q I h) fun c s1 e=>?_);cases c with
 |false=>exact isTrue_or_nil e
 |true=>exact e
theorem pw_and(ha:PT X a tA)(hb:PW X (.BoolOp .And (b::rest) pos) KD):PW X (.BoolOp .And (a::b::rest) pos) (ab3 tA KD):=by
 intro wh pins s σ H Q I h;refine isTrue_and (bu (ha pins s σ H _ I h) fun c s1 aL=>?_)
 obtain⟨H1,I1,q1⟩:=aL
 cases c with
 |true=>exact hb wh pins s1 σ H1 Q I1 q1
 |false=>exact⟨H1,I1,q1⟩
theorem pw_or(ha:PT X a tA)(hb:PW X (.BoolOp .Or (b::rest) pos) KD):PW X (.BoolOp .Or (a::b::rest) pos) (tOr tA KD):=by
 intro wh pins s σ H Q I h;refine isTrue_or (bu (ha pins s σ H _ I h) fun c s1 aL=>?_)
 obtain⟨H1,I1,q1⟩:=aL
 cases c with
 |true=>exact⟨H1,I1,q1⟩
 |false=>exact hb wh pins s1 σ H1 Q I1 q1
theorem ako(ha:PT X a tA):PT X (.UnaryOp .Not a pos) (amk tA):=by
 intro pins s σ H Q I h;exact isTrue_not (ha pins s σ H (fun c H1=>Q (!c) H1) I h)
def alD(ta tb:TE):TE:=fun σ H Q=>ta σ H fun x H1=>∃c,x=.bl c∧if c=true then tb σ H1 Q else Q (.bl false) H1
def alE(ta:TE):TE:=fun σ H Q=>ta σ H fun x H1=>∃c,x=.bl c∧Q (.bl (!c)) H1
theorem akp{op}{t:TE}(h:PE X a t):PE X (.BoolOp op [a] pos) t:=fun pins s σ H Q I hw=>BoolOp_one (h pins s σ H Q I hw)
theorem akq(ha:PE X a ta)(hb:PE X (.BoolOp .And (b::rest) pos) tb):PE X (.BoolOp .And (a::b::rest) pos) (alD ta tb):=by
 intro pins s σ H Q I h;refine BoolOp_and (bu (ha pins s σ H _ I h) fun v s1 aL=>?_)
 obtain⟨x,H1,I1,r1,q1⟩:=aL
 obtain⟨c,rfl,q1⟩:=q1
 cases r1;refine vD ?_;cases c with
 |true=>exact hb pins s1 σ H1 Q I1 q1
 |false=>exact⟨.bl false,H1,I1,rfl,q1⟩
theorem akr(ha:PE X a ta):PE X (.UnaryOp .Not a pos) (alE ta):=by
 intro pins s σ H Q I h;refine UnaryOp_ (bu (ha pins s σ H _ I h) fun v s1 aL=>?_)
 obtain⟨x,H1,I1,r1,q1⟩:=aL
 obtain⟨c,rfl,q1⟩:=q1
 cases r1;exact not_of (vD ⟨.bl (!c),H1,I1,rfl,q1⟩)
def tIf(t:TT)(ta tb:TE):TE:=fun σ H Q=>t σ H fun c H1=>if c=true then ta σ H1 Q else tb σ H1 Q
theorem ahE{c:Expr}(hc:PT X c tA)(ha:PE X a ta)(hb:PE X b tb):PE X (.IfExp c a b pos) (tIf tA ta tb):=by
 intro pins s σ H Q I h;refine wpAny_IfExp (bu (hc pins s σ H _ I h) fun d s1 aL=>?_)
 obtain⟨H1,I1,q1⟩:=aL
 cases d with
 |true=>exact ha pins s1 σ H1 Q I1 q1
 |false=>exact hb pins s1 σ H1 Q I1 q1
end
def bL(K:aG)(H:Hp)(a:aa)(xs:List V):Prop:=
 Rd H a (.lst xs)∨
  ∃(o:Obj)(its:Array Value)(n:Nat),K.lookup a=some o∧o.cls=.type "list"∧o.dict=none∧o.data=.seq its n∧its.size≤bR∧Vals xs its.toList
def cU(K:aG)(H:Hp)(a:aa)(xs:List V):Prop:=
 Rd H a (.tup xs)∨
  ∃(o:Obj)(its:Array Value)(n:Nat),K.lookup a=some o∧o.cls=.type "tuple"∧o.data=.seq its n∧its.size≤bR∧Vals xs its.toList
def aml:Value→Option V
 |.none=>some .non
 |.bool b=>some (.bl b)
 |.int i _=>some (.int i)
 |.str x _=>some (.str x)
 |.bytes b _=>some (.pW b)
 |.float b _=>some (.flt b)
 |.ref a=>some (.ref a)
 |.type n=>some (.ty n)
 |_=>none
theorem RelV.abs{x:V}{u:Value}(r:RelV x u):aml u=some x:=by
 cases x with
 |non=>cases r;rfl
 |bl _=>cases r;rfl
 |int _=>obtain⟨t,rfl⟩:=r;rfl
 |str _=>obtain⟨t,rfl⟩:=r;rfl
 |pW _=>obtain⟨t,rfl⟩:=r;rfl
 |flt _=>obtain⟨t,rfl⟩:=r;rfl
 |ref _=>cases r;rfl
 |ty _=>cases r;rfl
theorem RelV.inj{x y:V}{u:Value}(r:RelV x u)(q:RelV y u):x=y:=fX (r.abs.symm.trans q.abs)
theorem Vals.inj:∀{xs ys:List V}{us:List Value},Vals xs us→Vals ys us→xs=ys
 |_,_,_,.nil,.nil=>rfl
 |_,_,_,.cons r t,.cons r' t'=>by rw[r.inj r',Vals.inj t t']
section
variable{X:Cx}{pins:List (aa×Obj)}{σ:St}{H:Hp}{s:aC}{a:aa}{xs ys:List V}
theorem bL.of{K:aG}(h:H a=some (.lst xs)):bL K H a xs:=.inl (.inl h)
theorem cU.of{K:aG}(h:H a=some (.tup xs)):cU K H a xs:=.inl (.inl h)
theorem Inv.list(I:Inv X pins σ H s)(h:bL X.K H a xs):∃its:List Value,Vals xs its∧PlainL s.heap a its.toArray∧xs.length≤bR:=by
 rcases h with h|⟨o,its,n,hk,hc,hd,hs,hz,r⟩
 ·obtain⟨z,its,n,r,e⟩:=h.ok I.hok
  exact⟨its,r,⟨_,n,e,rfl,rfl,rfl⟩,z⟩
 ·refine⟨its.toList,r,⟨o,n,I.iG a o hk,hc,hd,by simpa using hs⟩,?_⟩
  have e:=r.length;simp only[kO] at e;omega
theorem Inv.tuple(I:Inv X pins σ H s)(h:cU X.K H a xs):∃its:List Value,Vals xs its∧IsTup s.heap a its.toArray∧xs.length≤bR:=by
 rcases h with h|⟨o,its,n,hk,hc,hs,hz,r⟩
 ·obtain⟨z,its,r,p⟩:=h.ok I.hok
  exact⟨its,r,p,z⟩
 ·refine⟨its.toList,r,⟨o,I.iG a o hk,hc,n,by simpa using hs⟩,?_⟩
  have e:=r.length;simp only[kO] at e;omega
theorem Inv.Jc(I:Inv X pins σ H s)(h:bL X.K H a xs)(h':bL X.K H a ys):xs=ys:=by
 obtain⟨its,r,⟨o,n,e,_,_,d⟩,_⟩:=I.list h
 obtain⟨its',r',⟨o',n',e',_,_,d'⟩,_⟩:=I.list h'
 rw[e] at e';cases e';rw[d] at d';injection d' with d1 _
 have:its=its':=by simpa using congrArg afl d1
 subst this;exact r.inj r'
theorem Inv.agE(I:Inv X pins σ H s)(h:cU X.K H a xs)(h':cU X.K H a ys):xs=ys:=by
 obtain⟨its,r,⟨o,e,_,n,d⟩,_⟩:=I.tuple h
 obtain⟨its',r',⟨o',e',_,n',d'⟩,_⟩:=I.tuple h'
 rw[e] at e';cases e';rw[d] at d';injection d' with d1 _
 have:its=its':=by simpa using congrArg afl d1
 subst this;exact r.inj r'
end
abbrev Cx.wish(X:Cx)(E:Value→aC→Prop):Cx:={X with xe:=E}
abbrev Cx.vf(X:Cx):Cx:=X.wish fun _ _=>False
theorem Cx.Ok.wish{X:Cx}(ok:X.Ok)(E:Value→aC→Prop):(X.wish E).Ok:=
 ⟨ok.mod,ok.kind,ok.glob,ok.blt,ok.above,ok.inj,ok.has,ok.cab,ok.hd,ok.frames,ok.stk,ok.exf,ok.bs,ok.uo,ok.Fj,ok.Kh,ok.qF,ok.zf⟩
theorem Cx.Ok.tR{X:Cx}{E:Value→aC→Prop}(ok:(X.wish E).Ok):X.Ok:=
 ⟨ok.mod,ok.kind,ok.glob,ok.blt,ok.above,ok.inj,ok.has,ok.cab,ok.hd,ok.frames,ok.stk,ok.exf,ok.bs,ok.uo,ok.Fj,ok.Kh,ok.qF,ok.zf⟩
section
variable{X:Cx}{pins:List (aa×Obj)}{σ:St}{H:Hp}{s:aC}{E:Value→aC→Prop}
theorem Inv.wish(I:Inv X pins σ H s)(E:Value→aC→Prop):Inv (X.wish E) pins σ H s:=⟨I.ok.wish E,I.os,I.bare,I.base,I.loc,I.cell,I.free,I.rF,I.pin,I.hok,I.len⟩
theorem Inv.tR(I:Inv (X.wish E) pins σ H s):Inv X pins σ H s:=⟨I.ok.tR,I.os,I.bare,I.base,I.loc,I.cell,I.free,I.rF,I.pin,I.hok,I.len⟩
theorem SP.tR{D:Ends}{f:Flow}{s':aC}(h:SP (X.wish E) pins D f s'):SP X pins D f s':=by
 cases f with
 |next=>obtain⟨σ',H',I,q⟩:=h;exact⟨σ',H',I.tR,q⟩
 |brk=>obtain⟨σ',H',I,q⟩:=h;exact⟨σ',H',I.tR,q⟩
 |cont=>obtain⟨σ',H',I,q⟩:=h;exact⟨σ',H',I.tR,q⟩
 |ret u=>obtain⟨v,σ',H',I,r,q⟩:=h;exact⟨v,σ',H',I.tR,r,q⟩
theorem PE.vf{e:Expr}{t:TE}(h:PE X.vf e t):PE X e t:=fun pins s σ H Q I hw=>
 oF (h pins s σ H Q (I.wish _) hw) (fun _ _ ⟨v,H',I',r,q⟩=>⟨v,H',I'.tR,r,q⟩) fun _ _ z=>qW z
theorem PT.vf{e:Expr}{t:TT}(h:PT X.vf e t):PT X e t:=fun pins s σ H Q I hw=>
 oF (h pins s σ H Q (I.wish _) hw) (fun _ _ ⟨H',I',q⟩=>⟨H',I'.tR,q⟩) fun _ _ z=>qW z
theorem jl.vf{st:List cZ}{t:TS}(h:jl X.vf st t):jl X st t:=fun pins s σ H D I hw=>
 oF (h pins s σ H D (I.wish _) hw) (fun _ _ q=>q.tR) fun _ _ z=>qW z
end
section
variable{X:Cx}{st:cZ}{rest:List cZ}{t u:TS}{e:Expr}{te:TE}{pos:Pos}
def alF:TS:=fun D σ H=>D.nx σ H
def ab4(t u:TS):TS:=fun D σ H=>t {D with nx:=u D} σ H
theorem aiX:jl X [] alF:=fun _ _ σ H _ I h=>Ms ⟨σ,H,I,h⟩
theorem ahF(h1:PS X st t)(h2:jl X rest u):jl X (st::rest) (ab4 t u):=by
 intro pins s σ H D I h;refine aey (bu (h1 pins s σ H {D with nx:=u D} I h) fun f s1 q=>?_);cases f with
 |next=>
  obtain⟨σ',H',I',q⟩:=q
  exact h2 pins s1 σ' H' D I' q
 |ret v=>exact q
 |brk=>exact q
 |cont=>exact q
theorem aiY(h1:PS X st t):jl X [st] t:=by
 intro pins s σ H D I h;refine aey (bu (h1 pins s σ H D I h) fun f s1 q=>?_);cases f with
 |next=>exact Ms q
 |ret v=>exact q
 |brk=>exact q
 |cont=>exact q
theorem Inv.quiet{pins:List (aa×Obj)}{σ:St}{H:Hp}{s:aC}(I:Inv X pins σ H s):interactive X.env=false:=by simp[interactive,I.ok.kind]
def alG(te:TE):TS:=fun D σ H=>te σ H fun _ H1=>D.nx σ H1
theorem QL(he:PE X e te)(hs:tK e none pos.line X.env=pure false:=by rfl):PS X (.Expr e pos) (alG te):=by
 intro pins s σ H D I h;exact wpAny_Expr_any (bu (he pins s σ H _ I h) fun v s1 ⟨x,H1,I1,r1,q1⟩=>⟨σ,H1,I1,q1⟩) I.quiet hs
def amm(te:TE):TS:=fun D σ H=>te σ H D.rt
theorem aa9(he:PE X e te):PS X (.Return (some e) pos) (amm te):=by
 intro pins s σ H D I h;exact wpAny_Return_some (bu (he pins s σ H _ I h) fun v s1 ⟨x,H1,I1,r1,q1⟩=>⟨x,σ,H1,I1,r1,q1⟩)
def amn(c:TT)(t u:TS):TS:=fun D σ H=>c σ H fun b H1=>if b=true then t D σ H1 else u D σ H1
theorem alH{c:Expr}{a b:List cZ}{tc:TT}(hc:PT X c tc)(ha:jl X a t)(hb:jl X b u):PS X (.If c a b pos) (amn tc t u):=by
 intro pins s σ H D I h;refine wpAny_If (bu (hc pins s σ H _ I h) fun d s1 aL=>?_)
 obtain⟨H1,I1,q1⟩:=aL
 cases d with
 |true=>exact ha pins s1 σ H1 D I1 q1
 |false=>exact hb pins s1 σ H1 D I1 q1
end
abbrev TG:=V→St→Hp→(St→Hp→Prop)→Prop
abbrev vg:=List V→St→Hp→(St→Hp→Prop)→Prop
def PG(X:Cx)(target:Expr)(t:TG):Prop:=
 ∀(pins:List (aa×Obj))(s:aC)(σ:St)(H:Hp)(v:V)(u:Value)(Q:St→Hp→Prop),Inv X pins σ H s→RelV v u→t v σ H Q→
  aN (model X.prog X.w) X.A (assign target X.env u) (fun _ s'=>∃σ' H',Inv X pins σ' H' s'∧Q σ' H') X.xe s
def KH(X:Cx)(ts:List Expr)(t:vg):Prop:=
 ∀(pins:List (aa×Obj))(s:aC)(σ:St)(H:Hp)(vs:List V)(us:List Value)(Q:St→Hp→Prop),Inv X pins σ H s→Vals vs us→t vs σ H Q→
  aN (model X.prog X.w) X.A (CJ ((tG ts X.env).map (·.2)) us) (fun _ s'=>∃σ' H',Inv X pins σ' H' s'∧Q σ' H') X.xe s
abbrev Tw:=V→V→V→Hp→(Hp→Prop)→Prop
def uW(X:Cx)(t:Tw):Prop:=
 ∀(pins:List (aa×Obj))(s:aC)(σ:St)(H:Hp)(o i v:V)(ov iv u:Value)(Q:Hp→Prop),Inv X pins σ H s→RelV o ov→RelV i iv→RelV v u→t o i v H Q→
  aN (model X.prog X.w) X.A (setItem ov iv u) (fun _ s'=>∃H',Inv X pins σ H' s'∧Q H') X.xe s
abbrev KJ:=V→V→Hp→VK→Prop
def PIp(X:Cx)(op:Operator)(t:KJ):Prop:=
 ∀(pins:List (aa×Obj))(s:aC)(σ:St)(H:Hp)(x y:V)(v u:Value)(Q:VK),Inv X pins σ H s→RelV x v→RelV y u→t x y H Q→
  aN (model X.prog X.w) X.A (inplaceOp op v u) (EP X pins σ Q) X.xe s
section
variable{X:Cx}{pos:Pos}
def wI(i:Nat):TG:=fun v σ H Q=>Q (σ.set i (some v)) H
theorem fY{i:Nat}{x:Str}(hN:X.N.Nodup)(hi:X.N[i]?=some x)(hx:Loc X.env.scope x)(hf:X.fn x=true∨X.env.scope.names.lookup x=some .local:=by first|exact .inl rfl|exact .inr rfl|assumption):PG X (.Name x pos) (wI i):=by
 intro pins s σ H v u Q I r h;exact G5 (tL I hN hi hx r (fun s' I'=>⟨_,H,I',h⟩) hf)
def Tz:vg:=fun vs σ H Q=>vs=[]∧Q σ H
def SN(t:TG)(u:vg):vg:=fun vs σ H Q=>∃v r,vs=v::r∧t v σ H fun σ' H'=>u r σ' H' Q
theorem yq:KH X [] Tz:=by
 intro pins s σ H vs us Q I r h
 obtain⟨e,h⟩:=h
 subst e;cases r;exact assignInOrder_nil ⟨σ,H,I,h⟩
theorem jW{e:Expr}{es:List Expr}{t:TG}{u:vg}(h1:PG X e t)(h2:KH X es u)
  (hs:(tG (e::es) X.env).map (·.2)=assign e X.env::(tG es X.env).map (·.2):=by rfl):KH X (e::es) (SN t u):=by
 intro pins s σ H vs us Q I r h
 obtain⟨v,vr,e1,h⟩:=h
 subst e1;cases r with
 |cons r rr=>
  rw[hs];refine assignInOrder_cons (bu (h1 pins s σ H _ _ _ I r h) fun _ s1 aL=>?_)
  obtain⟨σ1,H1,I1,q1⟩:=aL
  exact h2 pins s1 σ1 H1 _ _ Q I1 rr q1
def TF(K:aG)(n:Nat)(t:vg):TG:=fun v σ H Q=>∃a xs,v=.ref a∧cU K H a xs∧xs.length=n∧t xs σ H Q
theorem yC{es:List Expr}{k:Nat}{t:vg}{n:Nat}(hc:X.calm=true)(h:KH X es t)
  (hn:(tG es X.env).length=n:=by rfl)(hst:(tG es X.env).findIdx? (·.1)=none:=by rfl):PG X (.Tuple es k pos) (TF X.K n t):=by
 intro pins s σ H v u Q I r hw
 obtain⟨a,xs,e1,hq,hl,hw⟩:=hw
 subst e1;cases r
 obtain⟨its,rv,ht,hz⟩:=I.tuple hq
 refine assign_Tuple_tuple (I.ok.hd hc) ht (by simp[hn,←hl,rv.length]) hst fun h' hx=>?_
 have I1:Inv X pins σ H {s with heap:=h'}:=I.kept (t':=s.toks) fun b o e=>hx b o (dY (bZ e)) e
 exact h pins _ σ H xs _ Q I1 (by simpa using rv) hw
def amo(to ti:TE)(t:Tw):TG:=fun v σ H Q=>to σ H fun o H1=>ti σ H1 fun i H2=>t o i v H2 fun H3=>Q σ H3
theorem aks{o i:Expr}{to ti:TE}{t:Tw}(ho:PE X o to)(hi:PE X i ti)(hs:uW X t)
  (ha:∀v,assign (.Subscript o i pos) X.env v=(do
   let ov ←qg [v] (eval o X.env)
   let iv ←qg [v,ov] (eval i X.env)
   tM pos
   qg [v,ov,iv] (setItem ov iv v)
   release [v,ov,iv] []):=by intro _;rfl):PG X (.Subscript o i pos) (amo to ti t):=by
 intro pins s σ H v u Q I r h;rw[ha];refine aJ (nA (bu (ho pins s σ H _ I h) fun ov s1 aL=>?_))
 obtain⟨x,H1,I1,r1,q1⟩:=aL
 refine aJ (nA (bu (hi pins s1 σ H1 _ I1 q1) fun iv s2 aL=>?_))
 obtain⟨y,H2,I2,r2,q2⟩:=aL
 refine aJ (uB (aJ (nA (bu (hs pins s2 σ H2 x y v ov iv u _ I2 r1 r2 r q2) fun _ s3 aL=>?_))))
 obtain⟨H3,I3,q3⟩:=aL
 exact wpAny_release ⟨σ,H3,I3,q3⟩
def By(te:TE)(g:TG):TS:=fun D σ H=>te σ H fun x H1=>g x σ H1 D.nx
theorem RB{tg e:Expr}{te:TE}{g:TG}(he:PE X e te)(hg:PG X tg g)(hs:xY [tg] e pos.line X.env=pure false:=by rfl)(hw:xZ [tg] e X.env=pure none:=by rfl)
  (h1:(tG [tg] X.env).map (·.2)=[assign tg X.env]:=by rfl):PS X (.Assign [tg] e pos) (By te g):=by
 intro pins s σ H D I h;refine wpAny_Assign_stores (bu (he pins s σ H _ I h) fun v s1 aL=>?_) hs hw
 obtain⟨x,H1,I1,r1,q1⟩:=aL
 rw[h1];exact bu (hg pins s1 σ H1 x v _ I1 r1 q1) fun _ s2 q=>q
theorem aba{i:Nat}{x:Str}{e:Expr}{te:TE}{pos':Pos}(hN:X.N.Nodup)(hi:X.N[i]?=some x)(hx:Loc X.env.scope x)(he:PE X e te)(hs:tK e (some (.Name x pos')) pos.line X.env=pure false:=by rfl)(hf:X.fn x=true∨X.env.scope.names.lookup x=some .local:=by first|exact .inl rfl|exact .inr rfl|assumption):
  PS X (.Assign [.Name x pos'] e pos) (By te (wI i)):=by
 intro pins s σ H D I h;refine wpAny_Assign_Name (bu (he pins s σ H _ I h) fun v s1 aL=>?_) hs
 obtain⟨y,H1,I1,r1,q1⟩:=aL
 exact tL I1 hN hi hx r1 (fun s2 I2=>⟨_,H1,I2,q1⟩) hf
def amq(i j:Nat)(ta:TA):TS:=fun D σ H=>ta σ H fun vs H1=>∃v w,vs=[v,w]∧D.nx ((σ.set i (some v)).set j (some w)) H1
theorem akt{i j:Nat}{x y:Str}{a b:Expr}{ta:TA}{px py pt:Pos}{kt k2 nY}(hc:X.calm=true)(hN:X.N.Nodup)(hi:X.N[i]?=some x)(hj:X.N[j]?=some y)(hij:i≠j)
  (hx:X.env.scope.names.lookup x=some .local)(hy:X.env.scope.names.lookup y=some .local)(ha:PA X [a,b] ta)
  (hw:xZ [.Tuple [.Name x px,.Name y py] kt pt] (.Tuple [a,b] k2 nY) X.env=pure (some [x,y]))
  (hs:xY [.Tuple [.Name x px,.Name y py] kt pt] (.Tuple [a,b] k2 nY) pos.line X.env=pure false:=by rfl):
  PS X (.Assign [.Tuple [.Name x px,.Name y py] kt pt] (.Tuple [a,b] k2 nY) pos) (amq i j ta):=by
 intro pins s σ H D I h;rw[exec_Assign_arm];refine aJ (uB ?_);rw[hs];refine aJ (aY ?_);rw[if_neg (by decide)];refine aJ (Tuple_ (bu (ha _ pins s σ H _ I h) fun us s1 aL=>?_))
 obtain⟨vs,H1,I1,r1,q1⟩:=aL
 obtain⟨v,w,e1,q1⟩:=q1
 subst e1
 obtain⟨u1,u2,rfl,rv,rw'⟩:∃u1 u2,us=[u1,u2]∧RelV v u1∧RelV w u2:=by
  cases r1 with
  |cons p q=>
   cases q with
   |cons p' q'=>
    cases q'
    exact⟨_,_,rfl,p,p'⟩
 refine nq ?_ (by show 2≤bR;decide);have I2:Inv X pins σ H1 {s1 with heap:=s1.heap.push {cls:=.type "tuple",data:=.seq [u1,u2].toArray}}:=I1.kept (t':=s1.toks) fun b o e=>cM _ e
 rw[hw];refine aJ (aY ?_);show aN (model X.prog X.w) X.A (do rule "assign.swapped-stores";let items ←unpackItems (.ref s1.heap.objs.size) 2 none;CJ [fun v=>uE X.env y v,fun v=>uE X.env x v] items.reverse;pure O4) _ _ _;refine aJ (yh (aJ (unpackItems_tuple (items:=#[u1,u2]) (I.ok.hd hc) (IsTup.new s1.heap _) fun h' hx'=>?_)));have I3:=I2.kept (h':=h') (t':=s1.toks) fun b o e=>hx' b o (dY (bZ e)) e
 show aN _ _ (CJ [fun v=>uE X.env y v,fun v=>uE X.env x v] [u2,u1] >>= fun _=>pure O4) _ _ _;refine aJ (assignInOrder_cons (Hj (tL I3 hN hj (.inl hy) rw' (fun s2 I4=>?_) (.inr hy))));refine assignInOrder_cons (Hj (tL I4 hN hi (.inl hx) rv (fun s3 I5=>assignInOrder_nil (aY ?_)) (.inr hx)));rw[M8 _ _ (jX hij)] at I5
 exact⟨_,H1,I5,q1⟩
def amr(i:Nat)(te:TE)(ti:KJ):TS:=fun D σ H=>∃x,σ[i]?=some (some x)∧te σ H fun y H1=>ti x y H1 fun z H2=>D.nx (σ.set i (some z)) H2
theorem aku{i:Nat}{x:Str}{e:Expr}{te:TE}{op:Operator}{ti:KJ}{pos':Pos}(hN:X.N.Nodup)(hi:X.N[i]?=some x)(hx:Loc X.env.scope x)(he:PE X e te)(ho:PIp X op ti)(hf:X.fn x=true∨X.env.scope.names.lookup x=some .local:=by first|exact .inl rfl|exact .inr rfl|assumption):
  PS X (.AugAssign (.Name x pos') op e pos) (amr i te ti):=by
 intro pins s σ H D I h
 obtain⟨v,e1,h⟩:=h
 obtain⟨m,hn,hl⟩:=I.loc
 have vis:Kz X.env.scope x:=by rcases hx with k|k;exact .inl k;exact .inr (.inl k)
 obtain⟨u,r,l⟩:=hl i x v hi e1 vis
 refine wpAny_AugAssign_Name ?_;have go:aN (model X.prog X.w) X.A (eval e X.env) (fun w s₂=>aN (model X.prog X.w) X.A (inplaceOp op u w) (fun r s₃=>aN (model X.prog X.w) X.A (storeName X.env x r) (fun _=>SP X pins D .next) X.xe s₃) X.xe s₂) X.xe s:=by
  refine bu (he pins s σ H _ I h) fun w s1 aL=>?_
  obtain⟨y,H1,I1,r1,q1⟩:=aL
  refine bu (ho pins s1 σ H1 v y u w _ I1 r r1 q1) fun z s2 aL=>?_
  obtain⟨zv,H2,I2,r2,q2⟩:=aL
  exact tL I2 hN hi hx r2 (fun s3 I3=>⟨_,H2,I3,q2⟩) hf
 rcases l with⟨hk,hm⟩|⟨hk,c,hc,hcell⟩
 ·exact adW I.ok.kind hk hn hm go
 ·rcases hk with hk|hk
  ·exact ad4 I.ok.kind hk hc hcell go
  ·rcases hx with k|k
   ·have:X.env.scope.names.lookup x=some .free:=hk;rw[k] at this;cases this
   ·have:X.env.scope.names.lookup x=some .free:=hk;rw[k] at this;cases this
def ipI(f:Int→Int→Int):KJ:=fun x y H Q=>∃i j,x=.int i∧y=.int j∧Q (.int (f i j)) H
theorem akv:PIp X .Add (ipI fun i j=>i+j):=by
 intro pins s σ H x y v u Q I r1 r2 h
 obtain⟨i,j,e1,e2,q⟩:=h
 subst e1;subst e2
 obtain⟨t,rfl⟩:=r1
 obtain⟨t',rfl⟩:=r2
 exact iadd_int ⟨.int _,H,I.tok _,⟨_,rfl⟩,q⟩
end
section
variable{X:Cx}{pos:Pos}
def abb(c:TT)(tb:TS):TS:=fun D σ H=>∃W:Nat→St→Hp→Prop,(∃m,W m σ H)∧∀m σ H,W m σ H→
 c σ H fun b H1=>if b=true then ∃N:St→Hp→Prop,(∀σ' H',N σ' H'→∃m',m'<m∧W m' σ' H')∧tb {D with nx:=N,ct:=N,bk:=D.nx} σ H1 else D.nx σ H1
theorem ahG{c:Expr}{body:List cZ}{tc:TT}{tb:TS}(hp:O5 (model X.prog X.w) X.A X.env X.xe)(hc:PT X c tc)(hb:jl X body tb):PS X (.While c body [] pos) (abb tc tb):=by
 intro pins s σ H D I h
 obtain⟨W,⟨m0,w0⟩,turn⟩:=h
 refine wpAny_While (codeAny_whileLoop (fun n s'=>∃σ' H',Inv X pins σ' H' s'∧W n σ' H') ?_ m0 ⟨σ,H,I,w0⟩);rintro n s1 ⟨σ1,H1,I1,w1⟩;refine zP hp (bu (hc pins s1 σ1 H1 _ I1 (turn n σ1 H1 w1)) fun b s2 aL=>?_)
 obtain⟨H2,I2,q2⟩:=aL
 cases b with
 |true=>
  obtain⟨N,hN,q2⟩:=q2
  rw[if_pos rfl];refine zP hp (bu (hb pins s2 σ1 H2 _ I2 q2) fun f s3 q3=>?_);cases f with
  |next=>
   obtain⟨σ3,H3,I3,n3⟩:=q3
   obtain⟨m',hm,w3⟩:=hN σ3 H3 n3
   exact⟨m',hm,σ3,H3,I3,w3⟩
  |cont=>
   obtain⟨σ3,H3,I3,n3⟩:=q3
   obtain⟨m',hm,w3⟩:=hN σ3 H3 n3
   exact⟨m',hm,σ3,H3,I3,w3⟩
  |brk=>exact q3
  |ret v=>exact q3
 |false=>
  rw[if_neg jm];exact Ms ⟨σ1,H2,I2,q2⟩
end
structure It where
 go:Nat→Hp→Prop
 xm:Nat→Hp→V→Hp→Prop
 stop:Nat→Hp→Prop
def jJ(X:Cx)(pins:List (aa×Obj))(H:Hp)(b:aa):Prop:=
 H b=none∧b≠X.env.locals∧b∉X.fs∧(b∈X.ex∨X.s₀.heap.objs.size≤b)∧(∀x c,X.env.cells.lookup x=some c→c≠b)∧∀p∈X.pn++pins,p.1≠b
theorem Inv.uX{X:Cx}{pins:List (aa×Obj)}{σ:St}{H H':Hp}{s:aC}{b:aa}(I:Inv X pins σ H s)(hb:s.heap.objs.size≤b)(hn:H' b=none):jJ X pins H' b:=by
 refine⟨hn,z9 (nj I.lt hb),I.ami hb,.inr (jD I.sz hb),fun x c e z=>?_,fun p hp z=>?_⟩
 ·obtain⟨v,q⟩:=I.cell x c e
  exact absurd (nj q.lt (by rw[z];exact hb)) (vK _)
 ·exact absurd (nj (bZ (I.pin p hp).1) (by rw[z];exact hb)) (vK _)
structure Turn(P:bh)(w:aZ)(K:aG)(tg:Expr)(J:It)(fp:List aa)(it:aa)(tn:Nat→aV→Prop):Prop where
 mem:it∈fp
 obj:∀i h,tn i h→∀b∈fp,∃o,h.get? b=some o∧∀v,o.data≠.cell v
 keep:∀i h h',tn i h→(∀b∈fp,∀o,h.get? b=some o→h'.get? b=some o)→tn i h'
 item:∀(X:Cx),X.prog=P→X.w=w→X.K=K→X.calm=true→∀(i:Nat)(pins:List (aa×Obj))(s:aC)(σ:St)(H:Hp)(E:Value→aC→Prop),Inv X pins σ H s→(∀b∈fp,jJ X pins H b)→tn i s.heap→J.go i H→
  aN (model P w) X.A (pF (.ref it)) (fun r s1=>∃u,r=some u∧
   aN (model P w) X.A (xU tg (.ref it) u) (fun _ s2=>∃x H',Inv X pins σ H' s2∧RelV x u∧J.xm i H x H'∧tn (i+1) s2.heap∧∀b∈fp,H' b=none) E s1) E s
 done:∀(X:Cx),X.prog=P→X.w=w→X.K=K→X.calm=true→∀(i:Nat)(pins:List (aa×Obj))(s:aC)(σ:St)(H:Hp)(E:Value→aC→Prop),Inv X pins σ H s→(∀b∈fp,jJ X pins H b)→tn i s.heap→J.stop i H→
  aN (model P w) X.A (pF (.ref it)) (fun r s1=>r=none∧Inv X pins σ H s1) E s
 self:∀(A:cI)(i:Nat)(s:aC)(Q:Value→aC→Prop)(E:Value→aC→Prop),tn i s.heap→Q (.ref it) s→aN (model P w) A (DP (.ref it)) Q E s
abbrev TI:=St→Hp→(It→Hp→Prop)→Prop
def PIE(X:Cx)(pins:List (aa×Obj))(σ:St)(tg:Expr)(R:It→Hp→Prop)(itv:Value)(s2:aC):Prop:=
 ∃(it:aa)(fp:List aa)(tn:Nat→aV→Prop)(J:It)(H':Hp),itv=.ref it∧Inv X pins σ H' s2∧Turn X.prog X.w X.K tg J fp it tn∧tn 0 s2.heap∧(∀b∈fp,jJ X pins H' b)∧R J H'
def PI(X:Cx)(tg iter:Expr)(wi:TI):Prop:=
 ∀(pins:List (aa×Obj))(s:aC)(σ:St)(H:Hp)(R:It→Hp→Prop),Inv X pins σ H s→wi σ H R→
  aN (model X.prog X.w) X.A (eval iter X.env) (fun v s1=>aN (model X.prog X.w) X.A (DP v) (PIE X pins σ tg R) X.xe s1) X.xe s
theorem SQ{M:Model}{A:cI}{E:Value→aC→Prop}{s:aC}{tg:Expr}{it:aa}{u:Value}{o:Obj}{n:String}{vs:Array Value}{Q:Unit→aC→Prop}(ho:s.heap.get? it=some o)(hc:o.cls=.type n)(hd:o.data=.fields vs)
  (hn:["enumerate","zip","dict_itemiterator","dict_reverseitemiterator","odict_iterator","itertools.zip_longest","itertools.pairwise"].contains n=false)(hQ:Q () s):aN M A (xU tg (.ref it) u) Q E s:=by
 unfold xU;cases tg<;>first
  |exact aY hQ
  |(cases u<;>first
    |exact aY hQ
    |(refine aJ (Ii ho ?_)
      rw[hc,hd];show aN M A (if(["enumerate","zip","dict_itemiterator","dict_reverseitemiterator","odict_iterator","itertools.zip_longest","itertools.pairwise"].contains n&&vs[0]?==some (jL _))=true then _ else _) Q E s;rw[if_neg (by intro h;rw[hn,Wr] at h;cases h)];exact aY hQ))
def Ud(K:aG)(a:aa):It:=
 ⟨fun i H=>∃xs x,bL K H a xs∧xs[i]?=some x,fun i H x H'=>H'=H∧∀xs,bL K H a xs→xs[i]?=some x,fun i H=>∃xs,bL K H a xs∧xs.length≤i⟩
def Ue(K:aG)(a:aa):It:=
 ⟨fun i H=>∃xs x,cU K H a xs∧xs[i]?=some x,fun i H x H'=>H'=H∧∀xs,cU K H a xs→xs[i]?=some x,fun i H=>∃xs,cU K H a xs∧xs.length≤i⟩
def Gd(lo:Int)(n:Nat):It:=⟨fun i _=>i<n,fun i H x H'=>H'=H∧x=.int (lo+i),fun i _=>n≤i⟩
theorem agF{P:bh}{w:aZ}{K:aG}{tg:Expr}(a it:aa):Turn P w K tg (Ud K a) [it] it (fun i h=>h.IsListIter it a i) where
 mem:=by simp
 obj:=fun i h st b hb=>by
  have e:b=it:=by simpa using hb
  subst e
  obtain⟨o,e,c,d⟩:=st
  exact⟨o,e,fun v z=>by rw[d] at z;cases z⟩
 keep:=fun i h h' st k=>st.at fun o e=>k it (by simp) o e
 item:=by
  intro X hP hw hK hc i pins s σ H E I hf st hg;subst hP hw hK
  obtain⟨xs,x,hq,hx⟩:=hg
  obtain⟨its,rv,p,hz⟩:=I.list hq
  obtain⟨u,hu,ru⟩:=rv.get hx
  obtain⟨f0,f1,f2,f3,f4,f5⟩:=hf it (by simp)
  refine wpAny_pyNext_list_item st p.isList (x:=u) (by simpa using hu) fun h' st' sb=>?_
  have I1:Inv X pins σ H {s with heap:=h'}:=I.turned (t':=s.toks) (fun b o hb e=>(sb.2 b hb).trans e) f0 f1 f3 f4 f5
  obtain⟨o,e,c,d⟩:=id st'
  exact⟨u,rfl,SQ (s:={s with heap:=h'}) e c d (by decide) ⟨x,H,I1,ru,⟨rfl,fun ys hy=>by rw[I.Jc hy hq];exact hx⟩,st',fun b hb=>(hf b hb).1⟩⟩
 done:=by
  intro X hP hw hK hc i pins s σ H E I hf st hg;subst hP hw hK
  obtain⟨xs,hq,hx⟩:=hg
  obtain⟨its,rv,p,hz⟩:=I.list hq
  obtain⟨f0,f1,f2,f3,f4,f5⟩:=hf it (by simp)
  have hl:=rv.length;exact wpAny_pyNext_list_end (I.ok.hd hc) st p.isList (by simp;omega) fun h' eb=>⟨rfl,I.turned (t':=s.toks) (fun b o hb e=>eb b o hb e) f0 f1 f3 f4 f5⟩
 self:=fun _ _ _ _ _ st h=>wpAny_pyIter_listiter st h
theorem afZ{P:bh}{w:aZ}{K:aG}{tg:Expr}(a it:aa):Turn P w K tg (Ue K a) [it] it (fun i h=>h.IsTupleIter it a i) where
 mem:=by simp
 obj:=fun i h st b hb=>by
  have e:b=it:=by simpa using hb
  subst e
  obtain⟨o,e,c,d⟩:=st
  exact⟨o,e,fun v z=>by rw[d] at z;cases z⟩
 keep:=fun i h h' st k=>st.at fun o e=>k it (by simp) o e
 item:=by
  intro X hP hw hK hc i pins s σ H E I hf st hg;subst hP hw hK
  obtain⟨xs,x,hq,hx⟩:=hg
  obtain⟨its,rv,p,hz⟩:=I.tuple hq
  obtain⟨u,hu,ru⟩:=rv.get hx
  obtain⟨f0,f1,f2,f3,f4,f5⟩:=hf it (by simp)
  refine wpAny_pyNext_tuple_item st (show s.heap.IsTuple a its.toArray from p) (x:=u) (by simpa using hu) fun h' st' sb=>?_
  have I1:Inv X pins σ H {s with heap:=h'}:=I.turned (t':=s.toks) (fun b o hb e=>(sb.2 b hb).trans e) f0 f1 f3 f4 f5
  obtain⟨o,e,c,d⟩:=id st'
  exact⟨u,rfl,SQ (s:={s with heap:=h'}) e c d (by decide) ⟨x,H,I1,ru,⟨rfl,fun ys hy=>by rw[I.agE hy hq];exact hx⟩,st',fun b hb=>(hf b hb).1⟩⟩
 done:=by
  intro X hP hw hK hc i pins s σ H E I hf st hg;subst hP hw hK
  obtain⟨xs,hq,hx⟩:=hg
  obtain⟨its,rv,p,hz⟩:=I.tuple hq
  obtain⟨f0,f1,f2,f3,f4,f5⟩:=hf it (by simp)
  have hl:=rv.length;exact wpAny_pyNext_tuple_end (I.ok.hd hc) st (show s.heap.IsTuple a its.toArray from p) (by simp;omega) fun h' eb=>⟨rfl,I.turned (t':=s.toks) (fun b o hb e=>eb b o hb e) f0 f1 f3 f4 f5⟩
 self:=fun _ _ _ _ _ st h=>wpAny_pyIter_tupleiter st h
theorem af0{P:bh}{w:aZ}{K:aG}{tg:Expr}(it:aa)(lo:Int)(n:Nat):Turn P w K tg (Gd lo n) [it] it (fun i h=>IsRangeIter h it (lo+(i:Nat)*1) ((n:Int)-(i:Nat)) 1) where
 mem:=by simp
 obj:=fun i h st b hb=>by
  have e:b=it:=by simpa using hb
  subst e
  exact⟨_,st,fun v z=>by
   have z':Data.fields _=Data.cell v:=z;cases z'⟩
 keep:=fun i h h' st k=>k it (by simp) _ st
 item:=by
  intro X hP hw hK hc i pins s σ H E I hf st hg;subst hP hw hK
  obtain⟨f0,f1,f2,f3,f4,f5⟩:=hf it (by simp)
  have W:=Walks.range (prog:=X.prog) (w:=X.w) (I.ok.hd hc) it lo 1 n;refine W.item i s _ _ hg st fun v h' tk hv st' kk=>?_
  obtain⟨t,rfl⟩:=hv
  have I1:Inv X pins σ H {s with heap:=h',toks:=tk}:=I.turned (fun b o hb e=>kk b o (by simpa using hb) e) f0 f1 f3 f4 f5
  refine⟨_,rfl,SQ (s:={s with heap:=h',toks:=tk}) (n:="range_iterator") st' rfl rfl (by decide) ⟨.int (lo+i),H,I1,⟨t,?_⟩,⟨rfl,rfl⟩,st',fun b hb=>(hf b hb).1⟩⟩
  rw[Xn]
 done:=by
  intro X hP hw hK hc i pins s σ H E I hf st hg;subst hP hw hK
  obtain⟨f0,f1,f2,f3,f4,f5⟩:=hf it (by simp)
  exact wpAny_pyNext_range_end (I.ok.hd hc) st (by have:n≤i:=hg;omega) fun h' eb=>⟨rfl,I.turned (t':=s.toks) (fun b o hb e=>eb b o hb e) f0 f1 f3 f4 f5⟩
 self:=fun _ _ _ _ _ st h=>wpAny_pyIter_rangeiter st h
section
variable{X:Cx}{tg:Expr}
def alI(K:aG)(tl:TE):TI:=fun σ H R=>tl σ H fun x H1=>∃a,x=.ref a∧(∃xs,bL K H1 a xs)∧R (Ud K a) H1
def ams(K:aG)(tl:TE):TI:=fun σ H R=>tl σ H fun x H1=>∃a,x=.ref a∧(∃xs,cU K H1 a xs)∧R (Ue K a) H1
theorem QM{l:Expr}{tl:TE}(hl:PE X l tl):PI X tg l (alI X.K tl):=by
 intro pins s σ H R I h;refine bu (hl pins s σ H _ I h) fun v s1 aL=>?_
 obtain⟨x,H1,I1,r1,q1⟩:=aL
 obtain⟨a,e,⟨xs,hq⟩,q⟩:=q1
 subst e;cases r1
 obtain⟨its,rv,p,hz⟩:=I1.list hq
 refine LC p.isList ?_
 refine⟨s1.heap.objs.size,[s1.heap.objs.size],_,_,H1,rfl,I1.kept (t':=s1.toks) fun b o e=>cM _ e,agF a _,⟨_,iI _ rfl,rfl,rfl⟩,fun b hb=>?_,q⟩
 have e:b=s1.heap.objs.size:=by simpa using hb
 subst e;exact I1.uX (bN _) (I1.hok.fresh (bN _))
theorem RC{l:Expr}{tl:TE}(hl:PE X l tl):PI X tg l (ams X.K tl):=by
 intro pins s σ H R I h;refine bu (hl pins s σ H _ I h) fun v s1 aL=>?_
 obtain⟨x,H1,I1,r1,q1⟩:=aL
 obtain⟨a,e,⟨xs,hq⟩,q⟩:=q1
 subst e;cases r1
 obtain⟨its,rv,p,hz⟩:=I1.tuple hq
 refine wpAny_pyIter_tuple (show s1.heap.IsTuple a its.toArray from p) ?_
 refine⟨s1.heap.objs.size,[s1.heap.objs.size],_,_,H1,rfl,I1.kept (t':=s1.toks) fun b o e=>cM _ e,afZ a _,⟨_,iI _ rfl,rfl,rfl⟩,fun b hb=>?_,q⟩
 have e:b=s1.heap.objs.size:=by simpa using hb
 subst e;exact I1.uX (bN _) (I1.hok.fresh (bN _))
theorem Y7{pins:List (aa×Obj)}{σ:St}{H:Hp}{s:aC}{R:It→Hp→Prop}{E:Value→aC→Prop}{lo hi:Int}{t u v:Tok}{tk:Nat}(I:Inv X pins σ H s)(h1:-(2^62)≤lo)(h2:lo<2^62)(h3:-(2^62)≤hi)(h4:hi<2^62)
  (q:R (Gd lo (hi-lo).toNat) H):aN (model X.prog X.w) X.A (DP (.ref s.heap.objs.size)) (PIE X pins σ tg R) E {s with heap:=s.heap.push {cls:=.type "range",data:=.fields #[.int lo t,.int hi u,.int 1 v]},toks:=tk}:=by
 refine wpAny_pyIter_range (IsRange.new ..) (small_one h1 h2 h3 h4) ?_;have I1:Inv X pins σ H {s with heap:=s.heap.push {cls:=.type "range",data:=.fields #[.int lo t,.int hi u,.int 1 v]},toks:=tk}:=I.kept fun b o e=>cM _ e
 refine⟨(s.heap.push {cls:=.type "range",data:=.fields #[.int lo t,.int hi u,.int 1 v]}).objs.size,[(s.heap.push {cls:=.type "range",data:=.fields #[.int lo t,.int hi u,.int 1 v]}).objs.size],_,_,H,rfl,
  I1.kept (t':=tk) fun b o e=>cM _ e,af0 _ lo (hi-lo).toNat,?_,fun b hb=>?_,q⟩
 ·have e1:lo+((0:Nat):Int)*1=lo:=by simp
  have e2:(((hi-lo).toNat:Nat):Int)-((0:Nat):Int)=aoF lo hi 1:=by rw[rangeSize_one];split<;>omega
  show IsRangeIter _ _ (lo+((0:Nat):Int)*1) ((((hi-lo).toNat:Nat):Int)-((0:Nat):Int)) 1;rw[e1,e2];exact iI _ rfl
 ·have e:b=(s.heap.push {cls:=.type "range",data:=.fields #[.int lo t,.int hi u,.int 1 v]}).objs.size:=by simpa using hb
  subst e;exact I1.uX (bN _) (I1.hok.fresh (bN _))
def alJ(ta:TA):TI:=fun σ H R=>ta σ H fun vs H1=>∃j:Int,vs=[.int j]∧-(2^62)≤j∧j<2^62∧R (Gd 0 j.toNat) H1
def alK(ta:TA):TI:=fun σ H R=>ta σ H fun vs H1=>∃i j:Int,vs=[.int i,.int j]∧(-(2^62)≤i∧i<2^62∧-(2^62)≤j∧j<2^62)∧R (Gd i (j-i).toNat) H1
theorem agG{a:Expr}{ta:TA}{p pos:Pos}(hg:Gl X "range")(hm:X.mg "range"=none)(ha:PA X [a] ta)(hs:aW [a] X.env=[(false,eval a X.env)]:=by rfl):PI X tg (.Call (.Name "range" p) [a] [] pos) (alJ ta):=by
 intro pins s σ H R I h;refine Call_ (tQ I hg hm boot_range (GJ (bu (ha pos pins s σ H _ I h) fun us s1 aL=>?_) hs rfl))
 obtain⟨vs,H1,I1,r1,q1⟩:=aL
 obtain⟨j,e,q1,q2,q⟩:=q1
 subst e;cases r1 with
 |cons r rr=>
  cases rr
  obtain⟨t,rfl⟩:=r
  exact call_range_1 (Y7 I1 (by omega) (by omega) q1 q2 (by simpa using q))
theorem agH{a b:Expr}{ta:TA}{p pos:Pos}(hg:Gl X "range")(hm:X.mg "range"=none)(ha:PA X [a,b] ta)(hs:aW [a,b] X.env=[(false,eval a X.env),(false,eval b X.env)]:=by rfl)(hs2:aW [b] X.env=[(false,eval b X.env)]:=by rfl):
  PI X tg (.Call (.Name "range" p) [a,b] [] pos) (alK ta):=by
 intro pins s σ H R I h;refine Call_ (tQ I hg hm boot_range (GJ (bu (ha pos pins s σ H _ I h) fun us s1 aL=>?_) (by rw[hs,hs2]) (by rw[hs2];rfl)))
 obtain⟨vs,H1,I1,r1,q1⟩:=aL
 obtain⟨i,j,e,⟨q1,q2,q3,q4⟩,q⟩:=q1
 subst e;cases r1 with
 |cons r rr=>
  cases rr with
  |cons r' rr=>
   cases rr
   obtain⟨t,rfl⟩:=r
   obtain⟨t',rfl⟩:=r'
   exact call_range_2 (Y7 I1 q1 q2 q3 q4 q)
def ab5(wi:TI)(g:TG)(tb:TS):TS:=fun D σ H=>wi σ H fun J H1=>∃W:Nat→Nat→St→Hp→Prop,(∃m,W 0 m σ H1)∧∀i m σ H,W i m σ H→
 (J.stop i H∧D.nx σ H)∨(J.go i H∧∃N:St→Hp→Prop,(∀σ' H',N σ' H'→∃m',m'<m∧W (i+1) m' σ' H')∧∀x H',J.xm i H x H'→g x σ H' fun σ2 H2=>tb {D with nx:=N,ct:=N,bk:=D.nx} σ2 H2)
def DQ(fp:List aa)(h:aV):List (aa×Obj):=fp.filterMap fun b=>(h.get? b).map fun o=>(b,o)
theorem Ij{fp:List aa}{h:aV}{b:aa}{o:Obj}(hb:b∈fp)(e:h.get? b=some o):(b,o)∈DQ fp h:=Lw.mpr ⟨b,hb,by rw[e];rfl⟩
theorem agI{fp:List aa}{h:aV}{p:aa×Obj}(hp:p∈DQ fp h):p.1∈fp∧h.get? p.1=some p.2:=by
 obtain⟨b,hb,e⟩:=Lw.mp hp
 cases q:h.get? b with
 |none=>rw[q] at e;cases e
 |some o=>
  rw[q] at e;have e':(b,o)=p:=fX e;subst e'
  exact⟨hb,q⟩
theorem Inv.pinned{pins:List (aa×Obj)}{σ:St}{H:Hp}{s:aC}{fp:List aa}(I:Inv X pins σ H s)(hf:∀b∈fp,jJ X pins H b)(ho:∀b∈fp,∃o,s.heap.get? b=some o∧∀v,o.data≠.cell v):Inv X (pins++DQ fp s.heap) σ H s:=
 I.aah fun p hp=>(cQ.mp hp).elim (fun z=>I.pin p (dX _ z)) fun z=>by
  obtain⟨hb,e⟩:=agI z
  obtain⟨f0,f1,f2,_⟩:=hf p.1 hb
  obtain⟨o,e',d⟩:=ho p.1 hb
  rw[e] at e';cases e'
  exact⟨e,f0,f1,f2,d⟩
theorem Inv.Jd{pins pl:List (aa×Obj)}{σ:St}{H:Hp}{s:aC}(I:Inv X (pins++pl) σ H s):Inv X pins σ H s:=I.aah fun p hp=>I.pin p (dX _ (gJ _ hp))
theorem akx{iter:Expr}{body:List cZ}{wi:TI}{g:TG}{tb:TS}{pos:Pos}(hp:O5 (model X.prog X.w) X.A X.env X.xe)(hc:X.calm=true)(hi:PI X tg iter wi)(hg:PG X tg g)(hb:jl X body tb)
  (hs:∀x,uz iter X.env x=pure x:=by intro _;rfl):PS X (.For tg iter body [] pos) (ab5 wi g tb):=by
 intro pins s σ H D I h;refine wpAny_For (bu (hi pins s σ H _ I h) fun v s1 h1=>bu h1 fun itv s2 h2=>?_) hs
 obtain⟨it,fp,tn,J,H2,e,I2,T,st2,f2,W,⟨m0,w0⟩,turn⟩:=h2
 subst e;have stat:∀{H':Hp},(∀b∈fp,H' b=none)→∀b∈fp,jJ X pins H' b:=fun hn b hb=>⟨hn b hb,(f2 b hb).2⟩
 refine codeAny_forLoop_any (fun n s'=>∃i σ' H',Inv X pins σ' H' s'∧tn i s'.heap∧(∀b∈fp,H' b=none)∧W i n σ' H') ?_ m0 ⟨0,σ,H2,I2,st2,fun b hb=>(f2 b hb).1,w0⟩;rintro n s3 ⟨i,σ3,H3,I3,st3,Ge,w3⟩;rcases turn i n σ3 H3 w3 with⟨stop,qn⟩|⟨go,N,hN,step⟩
 ·refine zP hp (bu (T.done X rfl rfl rfl hc i pins s3 σ3 H3 X.xe I3 (stat Ge) st3 stop) fun r s4 aL=>?_)
  obtain⟨hr,I4⟩:=aL
  subst hr;exact Ms ⟨σ3,H3,I4,qn⟩
 ·refine zP hp (bu (T.item X rfl rfl rfl hc i pins s3 σ3 H3 X.xe I3 (stat Ge) st3 go) fun r s4 aL=>?_)
  obtain⟨u,hr,h4⟩:=aL
  subst hr;refine zP hp (bu h4 fun _ s5 aL=>?_)
  obtain⟨x,H5,I5,r5,y5,zj,Ug⟩:=aL
  have Uh:=I5.pinned (stat Ug) (T.obj _ _ zj);refine zP hp (bu (hg _ s5 σ3 H5 x u _ Uh r5 (step x H5 y5)) fun _ s6 aL=>?_)
  obtain⟨σ6,H6,I6,q6⟩:=aL
  refine zP hp (bu (hb _ s6 σ6 H6 _ I6 q6) fun f s7 q7=>?_);have again:∀{σ7:St}{H7:Hp},Inv X (pins++DQ fp s5.heap) σ7 H7 s7→N σ7 H7→∃m,m<n∧∃i σ' H',Inv X pins σ' H' s7∧tn i s7.heap∧(∀b∈fp,H' b=none)∧W i m σ' H':=fun{σ7 H7} I7 n7=>by
   obtain⟨m',hm,w7⟩:=hN σ7 H7 n7
   refine⟨m',hm,i+1,σ7,H7,I7.Jd,T.keep _ _ _ zj fun b hb o e=>(I7.pin (b,o) (dX _ (dX _ (Ij hb e)))).1,fun b hb=>?_,w7⟩
   obtain⟨o,e,d⟩:=T.obj _ _ zj b hb
   exact(I7.pin (b,o) (dX _ (dX _ (Ij hb e)))).2.1
  cases f with
  |next=>obtain⟨σ7,H7,I7,n7⟩:=q7;exact again I7 n7
  |cont=>obtain⟨σ7,H7,I7,n7⟩:=q7;exact again I7 n7
  |brk=>obtain⟨σ7,H7,I7,q7⟩:=q7;exact⟨σ7,H7,I7.Jd,q7⟩
  |ret v=>obtain⟨x7,σ7,H7,I7,r7,q7⟩:=q7;exact⟨x7,σ7,H7,I7.Jd,r7,q7⟩
end
abbrev R2:=V→V→Hp→VK→Prop
def cP(X:Cx)(f:Value→Value→Sem Value)(r:R2):Prop:=
 ∀(pins:List (aa×Obj))(s:aC)(σ:St)(H:Hp)(x y:V)(v u:Value)(Q:VK),Inv X pins σ H s→RelV x v→RelV y u→r x y H Q→
  aN (model X.prog X.w) X.A (f v u) (EP X pins σ Q) X.xe s
def Ui(X:Cx)(f:Value→Sem Value)(r:V→Hp→VK→Prop):Prop:=
 ∀(pins:List (aa×Obj))(s:aC)(σ:St)(H:Hp)(x:V)(v:Value)(Q:VK),Inv X pins σ H s→RelV x v→r x H Q→
  aN (model X.prog X.w) X.A (f v) (EP X pins σ Q) X.xe s
def iQ(X:Cx)(f:Value)(r:List V→Hp→VK→Prop):Prop:=
 ∀(pins:List (aa×Obj))(s:aC)(σ:St)(H:Hp)(xs:List V)(us:List Value)(Q:VK),Inv X pins σ H s→Vals xs us→r xs H Q→
  aN (model X.prog X.w) X.A (call f us) (EP X pins σ Q) X.xe s
def amt(X:Cx)(r:V→Hp→(Bool→Hp→Prop)→Prop):Prop:=
 ∀(pins:List (aa×Obj))(s:aC)(σ:St)(H:Hp)(x:V)(v:Value)(Q:Bool→Hp→Prop),Inv X pins σ H s→RelV x v→r x H Q→
  aN (model X.prog X.w) X.A (truthy v) (TP X pins σ Q) X.xe s
def Gf(r:R2)(ta tb:TE):TE:=fun σ H Q=>ta σ H fun x H1=>tb σ H1 fun y H2=>r x y H2 Q
def tUn(r:V→Hp→VK→Prop)(ta:TE):TE:=fun σ H Q=>ta σ H fun x H1=>r x H1 Q
def rI(C:Int→Int→Prop)(g:Int→Int→V):R2:=fun x y H Q=>∃i j,x=.int i∧y=.int j∧C i j∧Q (g i j) H
def pX(g:Int→Int→V):R2:=fun x y H Q=>∃i j,x=.int i∧y=.int j∧Q (g i j) H
def rU(g:Int→V):V→Hp→VK→Prop:=fun x H Q=>∃i,x=.int i∧Q (g i) H
section
variable{X:Cx}{a b c:Expr}{ta tb tc:TE}{pos:Pos}
theorem TJ(ha:PE X a ta)(hb:PE X b tb){pins:List (aa×Obj)}{s:aC}{σ:St}{H:Hp}{R:V→V→Hp→Prop}(I:Inv X pins σ H s)
  (h:ta σ H fun x H1=>tb σ H1 fun y H2=>R x y H2){Q:Value→aC→Prop}{f:Value→Value→Sem Value}
  (hf:∀v u s2 x y H2,Inv X pins σ H2 s2→RelV x v→RelV y u→R x y H2→aN (model X.prog X.w) X.A (f v u) Q X.xe s2):
  aN (model X.prog X.w) X.A (eval a X.env) (fun v s₁=>aN (model X.prog X.w) X.A (eval b X.env) (fun u s₂=>aN (model X.prog X.w) X.A (f v u) Q X.xe s₂) X.xe s₁) X.xe s:=by
 refine bu (ha pins s σ H _ I h) fun v s1 aL=>?_
 obtain⟨x,H1,I1,r1,q1⟩:=aL
 refine bu (hb pins s1 σ H1 _ I1 q1) fun u s2 aL=>?_
 obtain⟨y,H2,I2,r2,q2⟩:=aL
 exact hf v u s2 x y H2 I2 r1 r2 q2
theorem alL{op:Operator}{r:R2}(ho:cP X (pB op) r)(ha:PE X a ta)(hb:PE X b tb):PE X (.BinOp a op b pos) (Gf r ta tb):=by
 intro pins s σ H Q I h;exact wpAny_BinOp (TJ ha hb I h fun v u s2 x y H2 I2 rx ry q=>ho pins s2 σ H2 x y v u Q I2 rx ry q)
theorem alM{op:UnaryOp}{r:V→Hp→VK→Prop}(ho:Ui X (unaryOp op) r)(ha:PE X a ta):PE X (.UnaryOp op a pos) (tUn r ta):=by
 intro pins s σ H Q I h;exact UnaryOp_ (bu (ha pins s σ H _ I h) fun v s1 ⟨x,H1,I1,r1,q1⟩=>ho pins s1 σ H1 x v Q I1 r1 q1)
theorem KN{f:Value→Value→Sem Value}{C:Int→Int→Prop}{g:Int→Int→Int}
  (rule:∀(i j:Int)(t u:Tok)(s:aC)(Q:Value→aC→Prop)(E:Value→aC→Prop),C i j→Q (.int (g i j) s.toks) {s with toks:=s.toks+1}→aN (model X.prog X.w) X.A (f (.int i t) (.int j u)) Q E s):
  cP X f (rI C fun i j=>.int (g i j)):=by
 intro pins s σ H x y v u Q I rx ry h
 obtain⟨i,j,rfl,rfl,hc,q⟩:=h
 obtain⟨t,rfl⟩:=rx
 obtain⟨t',rfl⟩:=ry
 exact rule i j t t' s _ _ hc ⟨.int (g i j),H,I.tok _,⟨_,rfl⟩,q⟩
theorem ab6{f:Value→Value→Sem Value}{g:Int→Int→Int}
  (rule:∀(i j:Int)(t u:Tok)(s:aC)(Q:Value→aC→Prop)(E:Value→aC→Prop),Q (.int (g i j) s.toks) {s with toks:=s.toks+1}→aN (model X.prog X.w) X.A (f (.int i t) (.int j u)) Q E s):
  cP X f (pX fun i j=>.int (g i j)):=by
 intro pins s σ H x y v u Q I rx ry h
 obtain⟨i,j,rfl,rfl,q⟩:=h
 obtain⟨t,rfl⟩:=rx
 obtain⟨t',rfl⟩:=ry
 exact rule i j t t' s _ _ ⟨.int (g i j),H,I.tok _,⟨_,rfl⟩,q⟩
theorem TQ{f:Value→Value→Sem Value}{g:Int→Int→Bool}
  (rule:∀(i j:Int)(t u:Tok)(s:aC)(Q:Value→aC→Prop)(E:Value→aC→Prop),Q (.bool (g i j)) s→aN (model X.prog X.w) X.A (f (.int i t) (.int j u)) Q E s):
  cP X f (pX fun i j=>.bl (g i j)):=by
 intro pins s σ H x y v u Q I rx ry h
 obtain⟨i,j,rfl,rfl,q⟩:=h
 obtain⟨t,rfl⟩:=rx
 obtain⟨t',rfl⟩:=ry
 exact rule i j t t' s _ _ ⟨.bl (g i j),H,I,rfl,q⟩
def ab7(i j:Int):Prop:=0<j∧j<1073741824
def ab8(i j:Int):Prop:=0≤j∧j≤1000000∧i.natAbs<2^64
def Kl(i j:Int):Prop:=(-(2^64)<i∧i<2^64)∨(-(2^64)<j∧j<2^64)
theorem Kl.ok{i j:Int}(h:Kl i j):IntMulOk i j:=by
 rcases h with⟨h1,h2⟩|⟨h1,h2⟩
 ·exact .of_left (intBits_le_64 h1 h2)
 ·exact .of_right (intBits_le_64 h1 h2)
theorem aky:cP X (pB .Add) (pX fun i j=>.int (i+j)):=ab6 fun _ _ _ _ _ _ _ q=>add_int q
theorem wA:cP X (pB .Sub) (pX fun i j=>.int (i-j)):=ab6 fun _ _ _ _ _ _ _ q=>sub_int q
theorem kY:cP X (pB .Mult) (rI Kl fun i j=>.int (i*j)):=KN fun _ _ _ _ _ _ _ hc q=>mul_int q hc.ok
theorem QS:cP X (pB .FloorDiv) (rI ab7 fun i j=>.int (i / j)):=KN fun i j _ _ _ _ _ hc q=>by
 have h1:(0:Int)<j:=hc.1;have h2:j<1073741824:=hc.2;exact floordiv_int (by omega) (by rw[Int.fdiv_eq_ediv_of_nonneg i (by omega)];exact q) (.inl (PyProof.noPylong_small (by omega)))
theorem pG:cP X (pB .Mod) (rI (fun _ j=>0<j) fun i j=>.int (i%j)):=KN fun i j _ _ _ _ _ hc q=>by
 have h1:(0:Int)<j:=hc;exact mod_int' (by omega) (by rw[Int.fmod_eq_emod_of_nonneg i (by omega)];exact q)
theorem DR:cP X (pB .Pow) (rI ab8 fun i j=>.int (i^j.toNat)):=KN fun _ _ _ _ _ _ _ hc q=>pow_int_small hc.1 hc.2.1 hc.2.2 q
theorem unI{f:Value→Sem Value}{g:Int→Int}
  (rule:∀(i:Int)(t:Tok)(s:aC)(Q:Value→aC→Prop)(E:Value→aC→Prop),Q (.int (g i) s.toks) {s with toks:=s.toks+1}→aN (model X.prog X.w) X.A (f (.int i t)) Q E s):
  Ui X f (rU fun i=>.int (g i)):=by
 intro pins s σ H x v Q I rx h
 obtain⟨i,rfl,q⟩:=h
 obtain⟨t,rfl⟩:=rx
 exact rule i t s _ _ ⟨.int (g i),H,I.tok _,⟨_,rfl⟩,q⟩
theorem akz:Ui X (unaryOp .USub) (rU fun i=>.int (-i)):=unI fun _ _ _ _ _ q=>neg_int q
end
def TV:V→V→Bool
 |.non,.non=>true|.non,.int _=>true|.int _,.non=>true|.non,.bl _=>true|.bl _,.non=>true|.non,.str _=>true|.str _,.non=>true
 |.int _,.int _=>true|.bl _,.bl _=>true|.str _,.str _=>true|.pW _,.pW _=>true
 |.int _,.str _=>true|.str _,.int _=>true|.bl _,.str _=>true|.str _,.bl _=>true
 |_,_=>false
def rEq:R2:=fun x y H Q=>TV x y=true∧Q (.bl (decide (x=y))) H
def rNe:R2:=fun x y H Q=>TV x y=true∧Q (.bl (!decide (x=y))) H
theorem QT{i j:Int}:decide (V.int i=V.int j)=(i==j):=by
 rw[sU];simp
theorem RG{i j:Bool}:decide (V.bl i=V.bl j)=(i==j):=by
 rw[sU];simp
theorem QV{i j:Str}:decide (V.str i=V.str j)=(i==j):=by
 rw[sU];simp
theorem aak{i j:Array UInt8}:decide (V.pW i=V.pW j)=(i.toList==j.toList):=by
 rw[sU];cases i;cases j;simp
section
variable{X:Cx}{a b c:Expr}{ta tb tc:TE}{pos:Pos}
theorem fW{pins:List (aa×Obj)}{σ:St}{H:Hp}{s:aC}{Q:VK}{k k':Bool}(I:Inv X pins σ H s)(q:Q (.bl k) H)(e:k=k'):EP X pins σ Q (.bool k') s:=by
 subst e
 exact⟨.bl k,H,I,rfl,q⟩
theorem alN:cP X (fj .Eq) rEq:=by
 intro pins s σ H x y v u Q I rx ry h
 obtain⟨hs,q⟩:=h
 cases x with
 |non=>
  cases rx;cases y with
  |non=>cases ry;exact aoe (fW I q (by simp))
  |bl j=>cases ry;exact aof (fW I q (by simp))
  |int j=>obtain⟨t',rfl⟩:=ry;exact aop (fW I q (by simp))
  |str j=>obtain⟨t',rfl⟩:=ry;exact aoq (fW I q (by simp))
  |_=>exact absurd (show false=true from hs) jm
 |bl i=>
  cases rx;cases y with
  |non=>cases ry;exact aog (fW I q (by simp))
  |bl j=>cases ry;exact eq_bool (fW I q RG)
  |str j=>obtain⟨t',rfl⟩:=ry;exact aoh (fW I q (by simp))
  |_=>exact absurd (show false=true from hs) jm
 |int i=>
  obtain⟨t,rfl⟩:=rx
  cases y with
  |non=>cases ry;exact aor (fW I q (by simp))
  |int j=>obtain⟨t',rfl⟩:=ry;exact eq_int (fW I q QT)
  |str j=>obtain⟨t',rfl⟩:=ry;exact aos (fW I q (by simp))
  |_=>exact absurd (show false=true from hs) jm
 |str i=>
  obtain⟨t,rfl⟩:=rx
  cases y with
  |non=>cases ry;exact aot (fW I q (by simp))
  |bl j=>cases ry;exact aoi (fW I q (by simp))
  |int j=>obtain⟨t',rfl⟩:=ry;exact aou (fW I q (by simp))
  |str j=>obtain⟨t',rfl⟩:=ry;exact eq_str (fW I q QV)
  |_=>exact absurd (show false=true from hs) jm
 |pW i=>
  obtain⟨t,rfl⟩:=rx
  cases y with
  |pW j=>obtain⟨t',rfl⟩:=ry;exact PySem.W.eq_bytes (fW I q aak)
  |_=>exact absurd (show false=true from hs) jm
 |_=>cases y<;>exact absurd (show false=true from hs) jm
theorem alO:cP X (fj .NotEq) rNe:=by
 intro pins s σ H x y v u Q I rx ry h
 obtain⟨hs,q⟩:=h
 cases x with
 |non=>
  cases rx;cases y with
  |non=>cases ry;exact aoj (fW I q (by simp))
  |bl j=>cases ry;exact aok (fW I q (by simp))
  |int j=>obtain⟨t',rfl⟩:=ry;exact aov (fW I q (by simp))
  |str j=>obtain⟨t',rfl⟩:=ry;exact aow (fW I q (by simp))
  |_=>exact absurd (show false=true from hs) jm
 |bl i=>
  cases rx;cases y with
  |non=>cases ry;exact aol (fW I q (by simp))
  |bl j=>cases ry;exact ne_bool (fW I q (congrArg not RG))
  |str j=>obtain⟨t',rfl⟩:=ry;exact aom (fW I q (by simp))
  |_=>exact absurd (show false=true from hs) jm
 |int i=>
  obtain⟨t,rfl⟩:=rx
  cases y with
  |non=>cases ry;exact aox (fW I q (by simp))
  |int j=>obtain⟨t',rfl⟩:=ry;exact ne_int (fW I q (congrArg not QT))
  |str j=>obtain⟨t',rfl⟩:=ry;exact aoy (fW I q (by simp))
  |_=>exact absurd (show false=true from hs) jm
 |str i=>
  obtain⟨t,rfl⟩:=rx
  cases y with
  |non=>cases ry;exact aoz (fW I q (by simp))
  |bl j=>cases ry;exact aon (fW I q (by simp))
  |int j=>obtain⟨t',rfl⟩:=ry;exact aoA (fW I q (by simp))
  |str j=>obtain⟨t',rfl⟩:=ry;exact ne_str (fW I q (congrArg not QV))
  |_=>exact absurd (show false=true from hs) jm
 |pW i=>
  obtain⟨t,rfl⟩:=rx
  cases y with
  |pW j=>obtain⟨t',rfl⟩:=ry;exact PySem.W.ne_bytes (fW I q (congrArg not aak))
  |_=>exact absurd (show false=true from hs) jm
 |_=>cases y<;>exact absurd (show false=true from hs) jm
theorem alP:cP X (fj .LtE) (pX fun i j=>.bl (decide (i≤j))):=TQ fun _ _ _ _ _ _ _ q=>le_int q
theorem Er:cP X (fj .Gt) (pX fun i j=>.bl (decide (j<i))):=TQ fun _ _ _ _ _ _ _ q=>gt_int q
theorem alQ:cP X (fj .GtE) (pX fun i j=>.bl (decide (j≤i))):=TQ fun _ _ _ _ _ _ _ q=>ge_int q
theorem akA:cP X (fj .Is) (fun x y H Q=>y=.non∧Q (.bl (decide (x=.non))) H):=by
 intro pins s σ H x y v u Q I rx ry h
 obtain⟨rfl,q⟩:=h
 cases ry;refine is_none_gen (fW I q ?_);cases x<;>first
  |(cases rx;rfl)
  |(obtain⟨t,rfl⟩:=rx;rfl)
theorem aiZ:cP X (fj .IsNot) (fun x y H Q=>y=.non∧Q (.bl (!decide (x=.non))) H):=by
 intro pins s σ H x y v u Q I rx ry h
 obtain⟨rfl,q⟩:=h
 cases ry;refine isnot_none_gen (fW I q ?_);cases x<;>first
  |(cases rx;rfl)
  |(obtain⟨t,rfl⟩:=rx;rfl)
theorem cP.or{f:Value→Value→Sem Value}{r r':R2}(h:cP X f r)(h':cP X f r'):cP X f (fun x y H Q=>r x y H Q∨r' x y H Q):=by
 intro pins s σ H x y v u Q I rx ry q;rcases q with q|q
 ·exact h pins s σ H x y v u Q I rx ry q
 ·exact h' pins s σ H x y v u Q I rx ry q
theorem gU(b:Expr){op:CmpOp}(h:op≠.In:=by decide)(h2:op≠.NotIn:=by decide):CK op b=false:=by
 have e1:(op==CmpOp.In)=false:=by cases op<;>first|rfl|exact absurd rfl h
 have e2:(op==CmpOp.NotIn)=false:=by cases op<;>first|rfl|exact absurd rfl h2
 cases b<;>simp[CK,e1,e2]
theorem ai0{op:CmpOp}{r:R2}(ho:cP X (fj op) r)(ha:PE X a ta)(hb:PE X b tb)(hm:CK op b=false):PE X (.Compare a [op] [b] pos) (Gf r ta tb):=by
 intro pins s σ H Q I h;exact wpAny_Compare1 (TJ ha hb I h fun v u s2 x y H2 I2 rx ry q=>ho pins s2 σ H2 x y v u Q I2 rx ry q) hm
def SX(t:TE):TT:=fun σ H Q=>t σ H fun x H'=>∃k,x=.bl k∧Q k H'
theorem ai1{op:CmpOp}{r:R2}(ho:cP X (fj op) r)(ha:PE X a ta)(hb:PE X b tb)(hm:CK op b=false):PT X (.Compare a [op] [b] pos) (SX (Gf r ta tb)):=by
 intro pins s σ H Q I h;refine wpAny_isTrue_Compare1 (bu (ha pins s σ H _ I h) fun v s1 ⟨x,H1,I1,r1,q1⟩=>bu (hb pins s1 σ H1 _ I1 q1) fun u s2 ⟨y,H2,I2,r2,q2⟩=>
  bu (ho pins s2 σ H2 x y v u _ I2 r1 r2 q2) fun c s3 ⟨z,H3,I3,r3,k,e,q3⟩=>?_) hm
 subst e;cases r3;exact vD ⟨H3,I3,q3⟩
def RJ(r r':R2)(ta tb tc:TE):TE:=fun σ H Q=>ta σ H fun x H1=>tb σ H1 fun y H2=>r x y H2 fun z H3=>∃k,z=.bl k∧
 (if k=true then tc σ H3 fun w' H4=>r' y w' H4 Q else Q (.bl false) H3)
theorem ahH{op op':CmpOp}{r r':R2}(ho:cP X (fj op) r)(ho':cP X (fj op') r')(ha:PE X a ta)(hb:PE X b tb)(hc:PE X c tc)
  (hm:O6 [op,op'] [b,c]=false:=by with_unfolding_all rfl):PE X (.Compare a [op,op'] [b,c] pos) (RJ r r' ta tb tc):=by
 intro pins s σ H Q I h;refine Compare_chain (bu (ha pins s σ H _ I h) fun v s1 ⟨x,H1,I1,r1,q1⟩=>chain_link (bu (hb pins s1 σ H1 _ I1 q1) fun u s2 ⟨y,H2,I2,r2,q2⟩=>
  bu (ho pins s2 σ H2 x y v u _ I2 r1 r2 q2) fun d s3 ⟨z,H3,I3,r3,k,e,q3⟩=>?_)) hm
 subst e;cases r3;refine vD ?_;cases k with
 |false=>exact ite_ff ⟨.bl false,H3,I3,rfl,q3⟩
 |true=>exact ite_tt (chain_last (bu (hc pins s3 σ H3 _ I3 q3) fun w' s4 ⟨z',H4,I4,r4,q4⟩=>ho' pins s4 σ H4 y z' u w' Q I4 r2 r4 q4))
theorem ahI{op op':CmpOp}{r r':R2}(ho:cP X (fj op) r)(ho':cP X (fj op') r')(ha:PE X a ta)(hb:PE X b tb)(hc:PE X c tc)
  (hm:O6 [op,op'] [b,c]=false:=by with_unfolding_all rfl):PT X (.Compare a [op,op'] [b,c] pos) (SX (RJ r r' ta tb tc)):=by
 intro pins s σ H Q I h;refine isTrue_chain (bu (ha pins s σ H _ I h) fun v s1 ⟨x,H1,I1,r1,q1⟩=>test_link (bu (hb pins s1 σ H1 _ I1 q1) fun u s2 ⟨y,H2,I2,r2,q2⟩=>
  bu (ho pins s2 σ H2 x y v u _ I2 r1 r2 q2) fun d s3 ⟨z,H3,I3,r3,k,e,q3⟩=>?_)) hm
 subst e;cases r3;refine vD ?_;cases k with
 |false=>
  obtain⟨k',e',q'⟩:=q3
  cases e';exact ite_ff ⟨H3,I3,q'⟩
 |true=>
  refine ite_tt (test_last (bu (hc pins s3 σ H3 _ I3 q3) fun w' s4 ⟨z',H4,I4,r4,q4⟩=>bu (ho' pins s4 σ H4 y z' u w' _ I4 r2 r4 q4) fun d' s5 aL=>?_))
  obtain⟨z2,H5,I5,r5,k2,e2,q5⟩:=aL
  subst e2;cases r5;exact vD ⟨H5,I5,q5⟩
def TX(K:aG)(x:V)(H:Hp)(k:Bool):Prop:=
 match x with
 |.non=>k=false
 |.bl b=>k=b
 |.int i=>k=(i != 0)
 |.str y=>y.length≤bR∧k=((y.length:Int) != 0)
 |.pW y=>y.size≤bR∧k=((y.size:Int) != 0)
 |.ref p=>(∃xs,bL K H p xs∧k=!xs.isEmpty)∨(∃xs,cU K H p xs∧k=!xs.isEmpty)∨∃kvs,H p=some (.dK kvs)∧k=!kvs.isEmpty
 |_=>False
theorem af1{κ:Type}{kvs:List (κ×V)}{vs:List (κ×Value)}(r:KV kvs vs):(!vs.isEmpty)=!kvs.isEmpty:=by
 cases r<;>rfl
theorem Xx{xs:List V}{its:List Value}(r:Vals xs its):(!its.toArray.isEmpty)=!xs.isEmpty:=by
 cases r<;>simp
theorem yD:(bR:Nat)<2^63:=by rw[jq];decide
theorem akB:amt X (fun x H Q=>∃k,TX X.K x H k∧Q k H):=by
 intro pins s σ H x v Q I rx h
 obtain⟨k,e,q⟩:=h
 have hl:=yD;have hs:bR=16777216:=jq;cases x with
 |non=>
  cases rx;have e':k=false:=e;subst e';exact truthy_none ⟨H,I,q⟩
 |bl b=>
  cases rx;have e':k=b:=e;subst e';exact vD ⟨H,I,q⟩
 |int i=>
  obtain⟨t,rfl⟩:=rx
  have e':k=(i != 0):=e;subst e';exact PySem.P.truthy_int ⟨H,I,q⟩
 |str y=>
  obtain⟨t,rfl⟩:=rx
  obtain⟨hy,e'⟩:y.length≤bR∧k=((y.length:Int) != 0):=e
  subst e';exact PySem.P.truthy_str (by omega) ⟨H,I.tok _,q⟩
 |pW y=>
  obtain⟨t,rfl⟩:=rx
  obtain⟨hy,e'⟩:y.size≤bR∧k=((y.size:Int) != 0):=e
  subst e';exact PySem.W.truthy_bytes (by omega) ⟨H,I.tok _,q⟩
 |ref p=>
  cases rx;have e':(∃xs,bL X.K H p xs∧k=!xs.isEmpty)∨(∃xs,cU X.K H p xs∧k=!xs.isEmpty)∨∃kvs,H p=some (.dK kvs)∧k=!kvs.isEmpty:=e;rcases e' with⟨xs,hx,e'⟩|⟨xs,hx,e'⟩|⟨kvs,hx,e'⟩
  ·subst e'
   obtain⟨its,r,pl,hz⟩:=I.list hx
   have hlen:=r.length;exact wpAny_truthy_list pl.isList (by simp only[fJ];omega) ⟨H,I.tok _,by rw[Xx r];exact q⟩
  ·subst e'
   obtain⟨its,r,pl,hz⟩:=I.tuple hx
   have hlen:=r.length;exact truthy_tuple pl (by simp only[fJ];omega) ⟨H,I.tok _,by rw[Xx r];exact q⟩
  ·subst e'
   obtain⟨hz,hS,vs,r,m⟩:kvs.length≤bR∧(p==tD)=false∧∃vs,KV kvs vs∧s.heap.DictOf (jh X.prog X.w) p vs:=I.hok p _ hx
   have hlen:kvs.length=vs.length:=Paired.length r;exact wpAny_truthy_dict hS m (by omega) ⟨H,I.tok _,by rw[af1 r];exact q⟩
 |_=>exact(show False from e).elim
theorem ahJ(ha:PE X a ta)(he:∀whole,isTrue a X.env whole=(do let v ←whole;tM a.pos;qg [v] (truthy v))):
  PT X a (fun σ H Q=>ta σ H fun x H'=>∃k,TX X.K x H' k∧Q k H'):=by
 intro pins s σ H Q I h;exact isTrue_plain (bu (ha pins s σ H _ I h) fun v s1 ⟨x,H1,I1,r1,q1⟩=>akB pins s1 σ H1 x v Q I1 r1 q1) (he _)
theorem af2:cP X (pB .Add) (fun x y H Q=>∃i j,x=.str i∧y=.str j∧i.length+j.length≤bR∧Q (.str (i++j)) H):=by
 intro pins s σ H x y v u Q I rx ry h
 obtain⟨i,j,rfl,rfl,hz,q⟩:=h
 obtain⟨t,rfl⟩:=rx
 obtain⟨t',rfl⟩:=ry
 exact add_str (fun t' tk=>⟨.str (i++j),H,I.tok _,⟨_,rfl⟩,q⟩) hz
theorem vals1{x:V}{us:List Value}(r:Vals [x] us):∃u,us=[u]∧RelV x u:=by
 cases r with
 |cons r1 r2=>cases r2;exact⟨_,rfl,r1⟩
theorem vals2{x y:V}{us:List Value}(r:Vals [x,y] us):∃u w',us=[u,w']∧RelV x u∧RelV y w':=by
 cases r with
 |cons r1 r2=>
  cases r2 with
  |cons r3 r4=>cases r4;exact⟨_,_,rfl,r1,r3⟩
theorem Y8:iQ X (.builtin "abs") (fun xs H Q=>∃i,xs=[.int i]∧Q (.int (if i<0 then -i else i)) H):=by
 intro pins s σ H xs us Q I r h
 obtain⟨i,rfl,q⟩:=h
 obtain⟨u,rfl,t,rfl⟩:=vals1 r
 exact call_abs_int fun u tk=>⟨.int (if i<0 then -i else i),H,I.tok _,⟨_,rfl⟩,q⟩
theorem O7(hc:X.calm=true):iQ X (.builtin "max") (fun xs H Q=>∃i j,xs=[.int i,.int j]∧Q (.int (if j>i then j else i)) H):=by
 intro pins s σ H xs us Q I r h
 obtain⟨i,j,rfl,q⟩:=h
 obtain⟨u,w',rfl,⟨t,rfl⟩,⟨t',rfl⟩⟩:=vals2 r
 refine max_two_ints (I.ok.hd hc) fun h' tk k=>⟨_,H,I.kept k,?_,q⟩
 by_cases hj:j>i
 ·rw[if_pos hj,if_pos hj];exact⟨_,rfl⟩
 ·rw[if_neg hj,if_neg hj];exact⟨_,rfl⟩
theorem Aj(hc:X.calm=true):iQ X (.builtin "min") (fun xs H Q=>∃i j,xs=[.int i,.int j]∧Q (.int (if j<i then j else i)) H):=by
 intro pins s σ H xs us Q I r h
 obtain⟨i,j,rfl,q⟩:=h
 obtain⟨u,w',rfl,⟨t,rfl⟩,⟨t',rfl⟩⟩:=vals2 r
 refine min_two_ints (I.ok.hd hc) fun h' tk k=>⟨_,H,I.kept k,?_,q⟩
 by_cases hj:j<i
 ·rw[if_pos hj,if_pos hj];exact⟨_,rfl⟩
 ·rw[if_neg hj,if_neg hj];exact⟨_,rfl⟩
theorem O8:iQ X (.type "int") (fun xs H Q=>(∃i,xs=[.int i]∧Q (.int i) H)∨∃k,xs=[.bl k]∧Q (.int (if k then 1 else 0)) H):=by
 intro pins s σ H xs us Q I r h;rcases h with⟨i,rfl,q⟩|⟨k,rfl,q⟩
 ·obtain⟨u,rfl,t,rfl⟩:=vals1 r
  exact call_int_int ⟨.int i,H,I,⟨_,rfl⟩,q⟩
 ·obtain⟨u,rfl,r1⟩:=vals1 r
  cases r1;exact call_int_bool ⟨.int (if k then 1 else 0),H,I.tok _,⟨_,rfl⟩,q⟩
end
structure TY(h:aV)(x dx C:aa)(mA:Str→Option Value):Prop where
 obj:h.get? x=some (We C dx)
 ns:h.Ns1 dx mA
 ne:dx≠x
theorem agJ{h:aV}{dx:aa}{mA:Str→Option Value}(n:h.Ns1 dx mA):∃od,h.get? dx=some od∧∀name,Ws name od=some (mA name):=by
 obtain⟨o,es,ep,ho,hd,hk,_,hm⟩:=n
 refine⟨o,ho,fun name=>?_⟩
 have e:=hm name;unfold nsFind findBy at e;rw[←Array.find?_toList] at e;unfold Ws;rw[hd];dsimp only;split
 ·rename_i y q;rw[q] at e;exact congrArg some e
 ·rename_i q;rw[q] at e;have a:es.toList.any (·.refKey)=false:=by
   rw[aeh];intro y hy
   obtain⟨z,t,hkey⟩:=hk y (Array.mem_toList_iff.mp hy)
   simp[DictEntry.refKey,hkey]
  have a':¬es.toList.any (·.refKey)=true:=by rw[a];exact jm
  rw[if_neg a'];exact congrArg some e
theorem TY.look{h:aV}{x dx C:aa}{mA:Str→Option Value}(I:TY h x dx C mA):∃od,PySem.W.InstAt h x (We C dx) C (some od)∧∀name,Ws name od=some (mA name):=
 let ⟨od,ho,hl⟩:=agJ I.ns
 ⟨od,⟨I.obj,rfl,rfl,ho⟩,hl⟩
section
variable{prog:bh}{w:aZ}{A:cI}{E:Value→aC→Prop}{s:aC}{K:aG}{x dx C f:aa}{mA:Str→Option Value}{name:Str}{v:Value}
end
theorem pP.some_of{v:V}{o:Option Value}(r:pP (some v) o):∃u,o=some u∧RelV v u:=by
 cases o with
 |none=>exact(show False from r).elim
 |some u=>exact⟨u,rfl,r⟩
section
variable{P:bh}{w:aZ}{H H':Hp}{h h':aV}{a C dx:aa}{fs fs':List (Str×V)}
theorem aal(hok:gP P w H h)(e:H a=some (.ins C dx fs)):∃mA,TY h a dx C mA∧(∀f,pP (fs.lookup f) (mA f))∧afk mA (fs.map (·.1))∧fs.length≤1000∧H dx=some (.own a):=by
 obtain⟨d,z,ne,ob,mA,n,r,q⟩:=(show fB P w H h a (.ins C dx fs) from hok a _ e)
 exact⟨mA,⟨ob,n,ne⟩,r,q,z,d⟩
end
structure Uj(K:aG)(C:aa):Prop where
 pg:aez K C Str.empty=true
 hd:PySem.W.hasDictIn K C=true
 po:PySem.W.plainOver K C=true
 sa:zR K (.ref C) "__setattr__"=some (some (.builtin "object.__setattr__"))
theorem Uj.get{K:aG}{C:aa}(c:Uj K C)(f:Str):aez K C f=true:=c.pg
def abd(K:aG)(C:aa)(f:Str):Prop:=zR K (.ref C) f=some none
theorem abd.taker{K:aG}{C:aa}{f:Str}(n:abd K C f):aeM K C f=some none:=by
 unfold aeM;rw[show zR K (.ref C) f=some none from n];rfl
structure Con(K:aG)(C:aa)(f:Str)(v:V)(u:Value):Prop where
 at_:zR K (.ref C) f=some (some u)
 rel:RelV v u
 get:aei K u "__get__"=some none
 cp:PySem.W.copiedNames.contains f=false
structure Meth(K:aG)(C:aa)(m:Str)(f:aa):Prop where
 at_:zR K (.ref C) m=some (some (.ref f))
 fn:afm K (.ref f)=true
 kp:vI K (.ref f)=true
section
variable{X:Cx}{pins:List (aa×Obj)}{σ:St}{H:Hp}{s:aC}{a C dx:aa}{fs:List (Str×V)}{f:Str}{v:V}{A:cI}{E:Value→aC→Prop}
end
section
variable{X:Cx}{o e value:Expr}{f:Str}{pos pos' tpos:Pos}{ta tv:TE}
end
section
variable{X:Cx}{pins:List (aa×Obj)}{σ:St}{H:Hp}{s:aC}{A:cI}{E:Value→aC→Prop}{Q:Value→aC→Prop}{c:Value}{b:Bool}
inductive lX(K:aG)(H:Hp):V→Value→Prop where
 |non:lX K H .non (.type "NoneType")
 |bl (x:Bool):lX K H (.bl x) (.type "bool")
 |int (i:Int):lX K H (.int i) (.type "int")
 |str (x:Str):lX K H (.str x) (.type "str")
 |flt (x:UInt64):lX K H (.flt x) (.type "float")
 |lst {a:aa} {xs:List V} (e:H a=some (.lst xs)):lX K H (.ref a) (.type "list")
 |lq {a:aa} {o:Obj} {xs:List V} (e:H a=some (.lq o (.lst xs))):lX K H (.ref a) (.type "list")
 |tup {a:aa} {xs:List V} (e:H a=some (.tup xs)):lX K H (.ref a) (.type "tuple")
 |dK {a:aa} {kvs:List (Key×V)} (e:H a=some (.dK kvs)):lX K H (.ref a) (.type "dict")
 |dT {a:aa} {kvs:List (List Key×V)} (e:H a=some (.dT kvs)):lX K H (.ref a) (.type "dict")
 |ins {a C dx:aa} {fs:List (Str×V)} (e:H a=some (.ins C dx fs)) (cl:Uj K C) (ha:zR K (.ref C) "__class__"=some (some (.builtin "object.__class__")))
   (hn:aei K (.builtin "object.__class__") "__get__"=some (some (.builtin "getset_descriptor.__get__"))) (htk:PySem.W.takesIn K (.builtin "object.__class__")=some true)
   (hm:PySem.W.mroIn K C (.type "object")=some true):lX K H (.ref a) (.ref C)
theorem agK{x:V}{u t:Value}(I:Inv X pins σ H s)(rx:RelV x u)(ty:lX X.K H x t)(e:zT X.K t c=some b)(h:∀tk,Q (.bool b) {s with toks:=tk}):
  aN (model X.prog X.w) A (call (.builtin "isinstance") [u,c]) Q E s:=by
 cases ty with
 |non=>cases(show u=p7 from rx);exact sV aej I.iG lF e (fun z=>nomatch z) h
 |bl y=>cases(show u=sZ y from rx);exact sV aek I.iG lF e (fun z=>nomatch z) h
 |int i=>obtain⟨t,q⟩:=(show ∃t,u=CZ i t from rx);cases q;exact sV aeA I.iG lF e (fun z=>nomatch z) h
 |str y=>obtain⟨t,q⟩:=(show ∃t,u=Iz y t from rx);cases q;exact sV aeB I.iG lF e (fun z=>nomatch z) h
 |flt y=>obtain⟨t,q⟩:=(show ∃t,u=Xm y t from rx);cases q;exact sV aeb I.iG lF e (fun z=>nomatch z) h
 |@lst a xs ea=>
  cases(show u=eO a from rx)
  obtain⟨_,_,n,_,h1⟩:=(show fB X.prog X.w H s.heap a (.lst xs) from I.hok a _ ea)
  exact sV LK I.iG ⟨_,h1,rfl⟩ e (fun z=>nomatch z) h
 |@lq a ob xs ea=>
  cases(show u=eO a from rx)
  obtain⟨_,_,_,n,_,h1⟩:=(show fB X.prog X.w H s.heap a (.lq ob (.lst xs)) from I.hok a _ ea)
  exact sV LK I.iG ⟨_,h1,rfl⟩ e (fun z=>nomatch z) h
 |@tup a xs ea=>
  cases(show u=eO a from rx)
  obtain⟨_,_,_,p⟩:=(show fB X.prog X.w H s.heap a (.tup xs) from I.hok a _ ea)
  obtain⟨o,h1,h2,_⟩:=p
  exact sV aec I.iG ⟨o,h1,h2⟩ e (fun z=>nomatch z) h
 |@dK a kvs ea=>
  cases(show u=eO a from rx)
  obtain⟨_,_,vs,_,p⟩:=(show fB X.prog X.w H s.heap a (.dK kvs) from I.hok a _ ea)
  obtain⟨o,es,ep,h1,h2,_⟩:=p
  exact sV LQ I.iG ⟨o,h1,h2.1⟩ e (fun z=>nomatch z) h
 |@dT a kvs ea=>
  cases(show u=eO a from rx)
  obtain⟨_,_,xs,_,o,es,ep,h1,h2,_⟩:=(show fB X.prog X.w H s.heap a (.dT kvs) from I.hok a _ ea)
  exact sV LQ I.iG ⟨o,h1,h2.1⟩ e (fun z=>nomatch z) h
 |@ins a C dx fs ea cl ha hn htk hm=>
  cases(show u=eO a from rx)
  obtain⟨mA,O,_⟩:=aal I.hok ea
  obtain⟨od,J,_⟩:=O.look
  exact sV (aeC (cl.get _) cl.hd ha hn htk hm) I.iG J e (fun z=>nomatch z) h
end
structure iT(k:Nat)(A:cI):Prop where
 hd:A.handled=none
 dp:A.depth+3*k+5<recursionLimit
 un:A.units+16*k+200<fP
 gd:A.guards=some []
theorem iT.mono{j k:Nat}{A:cI}(r:iT k A)(h:j≤k):iT j A:=⟨r.hd,by have:=r.dp;omega,by have:=r.un;omega,r.gd⟩
theorem iT.deeper{k:Nat}{A:cI}(r:iT (k+1) A)(env:Env):iT k (A.deeper env):=
 ⟨r.hd,by have:=r.dp;show A.depth+1+3*k+5<_;omega,by have:=r.un;show A.units+3+16*k+200<_;omega,r.gd⟩
theorem iT.in1{k:Nat}{A:cI}(r:iT (k+1) A):iT k A.in1:=
 ⟨r.hd,by have:=r.dp;show A.depth+3*k+5<_;omega,by have:=r.un;show A.units+1+16*k+200<_;omega,r.gd⟩
theorem iT.depth{k:Nat}{A:cI}(r:iT k A):A.depth<recursionLimit:=by have:=r.dp;omega
theorem iT.units{k:Nat}{A:cI}(r:iT k A):A.units+64<fP:=by have:=r.un;omega
theorem iT.RK{k:Nat}{A:cI}(r:iT k A):A.units<fP:=by have:=r.un;omega
def amu:TA:=fun _ H Q=>Q [] H
def alR(ta:TE)(tr:TA):TA:=fun σ H Q=>ta σ H fun x H1=>tr σ H1 fun xs H2=>Q (x::xs) H2
section
variable{X:Cx}{e:Expr}{es:List Expr}{te:TE}{t:TA}{pos:Pos}
theorem pH:PA X [] amu:=fun _ _ _ _ H Q I h=>G6 ⟨[],H,I,.nil,h⟩
theorem mU(ha:PE X e te)(hr:PA X es t)(hs:aW (e::es) X.env=(false,eval e X.env)::aW es X.env:=by rfl):PA X (e::es) (alR te t):=by
 intro pos pins s σ H Q I h;rw[hs];show aN _ _ (Dm ((false,eval e X.env)::fG pos (aW es X.env))) _ _ s;refine Cd (bu (ha pins s σ H _ I h) fun u s1 aL=>?_)
 obtain⟨x,H1,I1,r1,q1⟩:=aL
 exact bu (hr pos pins s1 σ H1 _ I1 q1) fun us s2 ⟨xs,H2,I2,r2,q2⟩=>⟨x::xs,H2,I2,.cons r1 r2,q2⟩
def amv(t:TA):TE:=fun σ H Q=>t σ H fun xs H1=>xs.length≤bR∧∀p,H1 p=none→Q (.ref p) (upd H1 p (.tup xs))
def amw(t:TA):TE:=fun σ H Q=>t σ H fun xs H1=>xs.length≤bR∧∀p,H1 p=none→Q (.ref p) (upd H1 p (.lst xs))
theorem RL{x1}(h:PA X es t):PE X (.Tuple es x1 pos) (amv t):=by
 intro pins s σ H Q I hq;refine wpAny_Tuple_spliced (bu (h pos pins s σ H _ I hq) fun us s1 ⟨xs,H1,I1,r,z,q⟩=>⟨by rw[←r.length];exact z,?_⟩);have hf:H1 s1.heap.objs.size=none:=I1.hok.fresh (bN _)
 refine⟨.ref s1.heap.objs.size,upd H1 s1.heap.objs.size (.tup xs),I1.laid (t':=s1.toks) (fun b u e=>cM _ e) (bN _) ?_,rfl,q _ hf⟩
 exact⟨z,us,r,⟨_,iI _ rfl,rfl,_,rfl⟩⟩
theorem akC(h:PA X es t):PE X (.List es pos) (amw t):=by
 intro pins s σ H Q I hq;refine wpAny_List_spliced (bu (h pos pins s σ H _ I hq) fun us s1 ⟨xs,H1,I1,r,z,q⟩=>⟨by rw[←r.length];exact z,?_⟩);have hf:H1 s1.heap.objs.size=none:=I1.hok.fresh (bN _)
 refine⟨.ref s1.heap.objs.size,upd H1 s1.heap.objs.size (.lst xs),I1.laid (t':=s1.toks) (fun b u e=>cM _ e) (bN _) ?_,rfl,q _ hf⟩
 exact⟨z,us,0,r,iI _ rfl⟩
end
abbrev Sp:=List V→Hp→VK→XK→Prop
abbrev pY:=List Env→Hp→aC→XK→Value→aC→Prop
structure yS(P:bh)(w:aZ)(K:aG)(mg:Str→Option Value)(base:aV)(A:cI)(outer:List Env)(s:aC)(H:Hp):Prop where
 frames:A.frames=some outer
 mod:Mod K mg base
 bs:∀b o,base.get? b=some o→s.heap.get? b=some o∧H b=none
 uo:base.objs.size≤s.heap.objs.size
 qF:s.heap.FunFrames base outer
 zf:∀b∈frs outer,H b=none
 hok:gP P w H s.heap
 bare:AllBare s.gens
def CE(outer:List Env)(P:bh)(w:aZ)(H:Hp)(s:aC)(Q:VK)(u:Value)(s':aC):Prop:=
 ∃v H',s'.os=s.os∧AllBare s'.gens∧Un (frs outer) [] H H' s.heap s'.heap∧gP P w H' s'.heap∧RelV v u∧Q v H'
def CR(CX:pY)(outer:List Env)(P:bh)(w:aZ)(H:Hp)(s:aC)(Q:VK)(E:XK)(r:rB)(s':aC):Prop:=
 match r with
 |.ok (.ret u)=>CE outer P w H s Q u s'
 |.ok _=>False
 |.error e=>CX outer H s E e s'
structure dw(P:bh)(w:aZ)(K:aG)(mg:Str→Option Value)(base:aV)(CX:pY)(k:Nat)(f:aa)(fd:dz)(ps:List Str)(sp:Sp):Prop where
 len:∀vs H Q E,sp vs H Q E→vs.length=ps.length
 run:∀(A:cI)(outer:List Env)(s:aC)(H:Hp)(args:Args)(us:List Value)(vs:List V)(Q:VK)(E:XK),iT k A→yS P w K mg base A outer s H→yr s fd args (ps.zip us)→Vals vs us→sp vs H Q E→
  j9 (model P w) A (.call (.ref f) args) (CR CX outer P w H s Q E) s
theorem dw.mono{P:bh}{w:aZ}{K:aG}{mg:Str→Option Value}{base:aV}{CX:pY}{j k:Nat}{f:aa}{fd:dz}{ps:List Str}{sp:Sp}(F:dw P w K mg base CX j f fd ps sp)(h:j≤k):
  dw P w K mg base CX k f fd ps sp:=⟨F.len,fun A outer s H args us vs Q E hr=>F.run A outer s H args us vs Q E (hr.mono h)⟩
theorem dw.imp{P:bh}{w:aZ}{K:aG}{mg:Str→Option Value}{base:aV}{CX:pY}{k:Nat}{f:aa}{fd:dz}{ps:List Str}{sp sp':Sp}(F:dw P w K mg base CX k f fd ps sp)
  (h:∀vs H Q E,sp' vs H Q E→sp vs H Q E):dw P w K mg base CX k f fd ps sp':=
 ⟨fun vs H Q E q=>F.len vs H Q E (h _ _ _ _ q),fun A outer s H args us vs Q E hr he hb hv hs=>F.run A outer s H args us vs Q E hr he hb hv (h _ _ _ _ hs)⟩
theorem yS.in1{P:bh}{w:aZ}{K:aG}{mg:Str→Option Value}{base:aV}{A:cI}{outer:List Env}{s:aC}{H:Hp}(e:yS P w K mg base A outer s H):
  yS P w K mg base A.in1 outer s H:=⟨e.frames,e.mod,e.bs,e.uo,e.qF,e.zf,e.hok,e.bare⟩
section
variable{X:Cx}{pins:List (aa×Obj)}{σ:St}{H:Hp}{s s':aC}
theorem Inv.env0(I:Inv X pins σ H s):yS X.prog X.w X.K X.mg X.base X.A X.stack s H:=
 ⟨I.ok.frames,I.ok.mod,I.bs,jD I.ok.uo I.sz,I.stack,I.aag,I.hok,I.bare⟩
theorem Inv.after{Q:VK}{u:Value}(I:Inv X pins σ H s)(h:CE X.stack X.prog X.w H s Q u s'):EP X pins σ Q u s':=by
 obtain⟨v,H',os,bare,un,hok,r,q⟩:=h
 obtain⟨hh,g,d,t,os'⟩:=s'
 obtain rfl:os'=s.os:=os
 exact⟨v,H',I.call (h':=hh) (g':=g) (d':=d) (t':=t) (ch:=[]) un hok bare (fun b z=>absurd z (by simp)),r,q⟩
end
def S7(sp:Sp)(xr:List V)(E:XK)(t:TA):TE:=fun σ H Q=>t σ H fun vs H1=>sp (vs++xr) H1 Q E
def Binds(K:aG)(fd:dz)(ps:List Str)(ds:List Value):Prop:=
 ∀(s:aC)(us:List Value),K.In s.heap→(us++ds).length=ps.length→yr s fd ⟨us,[]⟩ (ps.zip (us++ds))
theorem Binds.all{K:aG}{fd:dz}{ps:List Str}(h:∀us:List Value,us.length=ps.length→bindArgs fd ⟨us,[]⟩=pure (ps.zip us)):Binds K fd ps []:=fun s us _ hl=>by
 rw[mK] at hl⊢;exact .of_eq (h us hl)
def Passes(CX:pY)(X:Cx)(E:XK):Prop:=∀(pins:List (aa×Obj))(σ:St)(H:Hp)(s:aC)(e:Value)(s':aC),Inv X pins σ H s→CX X.stack H s E e s'→X.xe e s'
section
variable{X:Cx}{CX:pY}{k:Nat}{f C:aa}{fd:dz}{ps:List Str}{sp:Sp}{xr:List V}{ds:List Value}{E:XK}{x m:Str}{p pos apos:Pos}{e o:Expr}{es:List Expr}{ta:TE}{t:TA}
theorem akD{pins:List (aa×Obj)}{σ:St}{H:Hp}{s:aC}{Q:VK}{us:List Value}{vs:List V}(F:dw X.prog X.w X.K X.mg X.base CX k f fd ps sp)(hr:iT k X.A)(hb:Binds X.K fd ps ds)(hd:Vals xr ds)(hx:Passes CX X E)
  (I:Inv X pins σ H s)(r:Vals vs us)(h:sp (vs++xr) H Q E):aN (model X.prog X.w) X.A (call (.ref f) us) (EP X pins σ Q) X.xe s:=by
 have r2:Vals (vs++xr) (us++ds):=r.append hd;have hl:(us++ds).length=ps.length:=by rw[←r2.length];exact F.len _ _ _ _ h
 refine wpAny_call (HF (F.run X.A X.stack s H ⟨us,[]⟩ (us++ds) (vs++xr) Q E hr I.env0 (hb s us I.iG hl) r2 h) fun r s' hq=>?_);cases r with
 |error e=>exact hx pins σ H s e s' I hq
 |ok fl=>
  cases fl with
  |ret u=>exact I.after hq
  |next=>exact qW hq
  |brk=>exact qW hq
  |cont=>exact qW hq
theorem ai2(F:dw X.prog X.w X.K X.mg X.base CX k f fd ps sp)(hr:iT k X.A)(hg:Gl X x)(hm:X.mg x=some (.ref f))(hk:vI X.K (.ref f)=true)(hb:Binds X.K fd ps ds)(hd:Vals xr ds)(hx:Passes CX X E)
  (ha:PA X (e::es) t)(hdb:(x==("__debug__":Str))=false:=by decide)(he:aW (e::es) X.env=(false,eval e X.env)::aW es X.env:=by rfl)(hpl:(fG pos (aW es X.env)).any (·.1)=false:=by rfl):
  PE X (.Call (.Name x p) (e::es) [] pos) (S7 sp xr E t):=by
 intro pins s σ H Q I h;refine Cg (aai I hg hm ?_ hdb);refine PySem.W.callWith_K (h₀:=X.base) I.ok.mod.Uc hk (bu (ha pos pins s σ H _ I h) fun us s1 ⟨vs,H1,I1,r,q⟩=>⟨I1.iG,?_⟩) he hpl;exact akD F hr hb hd hx I1 r q
structure Mk(K:aG)(C f:aa):Prop where
 makes:PySem.W.makesIn K C=true
 init:zR K (.ref C) "__init__"=some (some (.ref f))
 fn:afm K (.ref f)=true
 kp:vI K (.ref C)=true
end
section
variable{X:Cx}{CX:pY}{k:Nat}{f C:aa}{fd:dz}{ps ks:List Str}{sp:Sp}{E:XK}{x m:Str}{p pos apos kpos:Pos}{e o:Expr}{es:List Expr}{kws:List mV}{te ta:TE}{t tk:TA}{nm:Option Str}
structure aoL(K:aG)(fd:dz)(ps ks:List Str)(g:List Value→List Value→List Value)(gV:List V→List V→List V):Prop where
 to:∀(s:aC)(us ws:List Value),K.In s.heap→(g us ws).length=ps.length→yr s fd ⟨us,ks.zip ws⟩ (ps.zip (g us ws))
 rel:∀{vs:List V}{us:List Value}{zs:List V}{ws:List Value},Vals vs us→Vals zs ws→Vals (gV vs zs) (g us ws)
variable{g:List Value→List Value→List Value}{gV:List V→List V→List V}
end
structure gG(N P:List Str)(sc:ju):Prop where
 kind:sc.kind=.function
 co:sc.isCoroutine=false
 gen:sc.isGenerator=false
 nd:N.Nodup
 pre:N.take P.length=P
 par:∀x∈P,sc.names.lookup x=some .local∨sc.names.lookup x=some .cell
 akE:∀y∈sc.names,y.2≠.free
theorem Yj{kindOf:Str→Option An}{x:Str}:∀{binds:List (Str×Value)}{m:Str→Option Value},(∀v,(x,v)∉binds)→yJ kindOf binds m x=m x
 |[],_,_=>rfl
 |(n,v)::r,m,h=>by
  unfold yJ;rw[Yj fun w hw=>h w (dM _ hw)];split
  ·have:x≠n:=by rintro rfl;exact h v dm
   simp[this]
  ·rfl
theorem Yk{kindOf:Str→Option An}{x:Str}:∀{binds:List (Str×Value)}{m:Str→Option Value},(∀v,(x,v)∉binds)→yK kindOf binds m x=m x
 |[],_,_=>rfl
 |(n,v)::r,m,h=>by
  unfold yK;rw[Yk fun w hw=>h w (dM _ hw)];split
  ·rfl
  ·have:x≠n:=by rintro rfl;exact h v dm
   simp[this]
theorem Yl{kindOf:Str→Option An}{x:Str}{v:Value}:∀{P:List Str}{vs:List Value}{i:Nat}{m:Str→Option Value},P.Nodup→P[i]?=some x→vs[i]?=some v→kindOf x=some .local→
  yJ kindOf (P.zip vs) m x=some v
 |[],_,_,_,_,h,_,_=>by simp at h
 |_::_,[],_,_,_,_,h,_=>by simp at h
 |p::P,w::vs,0,m,nd,h1,h2,hk=>by
  simp at h1 h2;subst h1;subst h2;show yJ kindOf ((p,w)::P.zip vs) m p=_;unfold yJ;rw[Yj fun v hv=>(jH.mp nd).1 (Wf hv).1,if_pos hk];simp
 |p::P,w::vs,i+1,m,nd,h1,h2,hk=>by
  show yJ kindOf ((p,w)::P.zip vs) m x=_;unfold yJ;exact Yl (i:=i) (jH.mp nd).2 (by simpa using h1) (by simpa using h2) hk
theorem Ym{kindOf:Str→Option An}{x:Str}{v:Value}:∀{P:List Str}{vs:List Value}{i:Nat}{m:Str→Option Value},P.Nodup→P[i]?=some x→vs[i]?=some v→kindOf x≠some .local→
  yK kindOf (P.zip vs) m x=some v
 |[],_,_,_,_,h,_,_=>by simp at h
 |_::_,[],_,_,_,_,h,_=>by simp at h
 |p::P,w::vs,0,m,nd,h1,h2,hk=>by
  simp at h1 h2;subst h1;subst h2;show yK kindOf ((p,w)::P.zip vs) m p=_;unfold yK;rw[Yk fun v hv=>(jH.mp nd).1 (Wf hv).1,if_neg hk];simp
 |p::P,w::vs,i+1,m,nd,h1,h2,hk=>by
  show yK kindOf ((p,w)::P.zip vs) m x=_;unfold yK;exact Ym (i:=i) (jH.mp nd).2 (by simpa using h1) (by simpa using h2) hk
def start(N:List Str)(vs:List V):St:=vs.map some++iJ (N.length-vs.length) none
def yU(CX:pY)(P:bh)(w:aZ)(K:aG)(mg:Str→Option Value)(base:aV)(N:List Str)(qual:Str)(scope:ju)(f:aa)(cd:Value)(A:cI)(outer:List Env)(s:aC)(H:Hp)(E:XK):Cx where
 prog:=P
 w:=w
 K:=K
 mg:=mg
 base:=base
 A:=A.deeper (envOfC qual scope s.heap.objs.size f cd)
 N:=N
 s₀:=s
 H₀:=H
 env:=envOfC qual scope s.heap.objs.size f cd
 outer:=outer
 stack:=envOfC qual scope s.heap.objs.size f cd::outer
 ex:=[]
 calm:=true
 fn:=fun _=>true
 pn:=[]
 xe:=fun e s'=>aN (model P w) (A.deeper (envOfC qual scope s.heap.objs.size f cd)) (leaving (envOfC qual scope s.heap.objs.size f cd) e) (fun _ s''=>CX outer H s E e s'') (fun e' s''=>CX outer H s E e' s'') s'
theorem Y9{sc:ju}{n:Nat}{x:Str}(h:sc.names.lookup x=some .cell):∃c,(cellsFrom n sc.names []).lookup x=some c:=by
 have q:=adJ sc.names n [] (.inl h);exact xP.mp q
theorem agL{CX:pY}{P:bh}{w:aZ}{K:aG}{mg:Str→Option Value}{base:aV}{N ps:List Str}{qual:Str}{scope:ju}{f:aa}{cd:Value}{A:cI}{outer:List Env}{s s1:aC}{H:Hp}{E:XK}{us:List Value}{vs:List V}
  (S:gG N ps scope)(hd:A.handled=none)(e0:yS P w K mg base A outer s H)(hl:vs.length=ps.length)(r:Vals vs us)
  (x:InCallC s s.heap.objs.size (yJ (envOfC qual scope s.heap.objs.size f cd).kindOf (ps.zip us) fun _=>none) (cellsFrom (s.heap.objs.size+1) scope.names []) (yK (envOfC qual scope s.heap.objs.size f cd).kindOf (ps.zip us) fun _=>none) s1):
  Inv (yU CX P w K mg base N qual scope f cd A outer s H E) [] (start N vs) H s1:=by
 have hpl:ps.length≤N.length:=by have:=congrArg qU S.pre;rw[jU] at this;omega
 obtain⟨h1,tk,rfl,hk⟩:=x.done
 have Gg:∀b:aa,b∉(yU CX P w K mg base N qual scope f cd A outer s H E).ex:=fun b z=>absurd (show b∈([]:List aa) from z) (by simp)
 refine⟨⟨e0.mod,S.kind,rfl,rfl,bN _,fun y z c h1 h2=>?_,fun y hy=>?_,fun y c _ h=>?_,fun _=>hd,Around.frames_deeper e0.frames,.inr ⟨rfl,rfl⟩,fun b z=>absurd z (Gg b),e0.bs,e0.uo,fun b _ _=>Gg b,fun b z=>absurd z (Gg b),e0.qF,e0.zf⟩,
  rfl,e0.bare,Un.kept hk,⟨_,x.toInCall.ns,fun i y v h1 h2 h3=>?_⟩,fun y c h=>⟨_,x.cell y c h⟩,e0.hok.fresh (bN _),fun y c h=>?_,fun p hp=>absurd (show p∈([]:List (aa×Obj)) from hp) (by simp),e0.hok.kept hk,?_⟩
 ·exact name_of_addr x.apart (vB h1) (vB h2)
 ·have hy:scope.names.lookup y=some .cell∨scope.names.lookup y=some .free:=hy;rcases hy with hy|hy
  ·exact Y9 hy
  ·exact absurd rfl (S.akE _ (vB hy))
 ·exact vM (x.above y c (vB h))
 ·have hi:i<vs.length:=by
   unfold start at h2;by_cases hi:i<vs.length
   ·exact hi
   ·rw[lA (by simpa using hi)] at h2;rw[Vr] at h2;split at h2<;>cases h2
  have ha:vs[i]?=some v:=by
   unfold start at h2;rw[m7 (by simpa using hi),gK] at h2;cases e:vs[i]? with
   |none=>rw[e] at h2;cases h2
   |some a=>rw[e] at h2;cases h2;rfl
  obtain⟨u,hu,rv⟩:=r.get ha
  have hp:ps[i]?=some y:=by
   rw[←S.pre,Vn (by omega)];exact h1
  have ndP:ps.Nodup:=by rw[←S.pre];exact S.nd.sublist (zF _ _)
  refine⟨u,rv,?_⟩
  rcases S.par y (jB hp) with k|k
  ·exact .inl ⟨k,Yl ndP hp hu k⟩
  ·obtain⟨c,e⟩:=Y9 (n:=s.heap.objs.size+1) k
   refine .inr ⟨.inl k,c,e,?_⟩;have q:=x.cell y c e;rw[Ym ndP hp hu (by show scope.names.lookup y≠_;rw[k];decide)] at q;exact q
 ·exact e0.hok.fresh (vM (x.above y c (vB h)))
 ·unfold start;show _=N.length;rw[gf,aX,adP];omega
theorem alS{CX:pY}{P:bh}{w:aZ}{K:aG}{mg:Str→Option Value}{base:aV}{k:Nat}{f:aa}{name qual:Str}{params:Arguments}{body:List cZ}{scope:ju}{dV kV doc pm cdv ct oc:Value}{an od:Option aa}
  {osl:Array (Option Value)}{N ps:List Str}{sp:Sp}(lk:K.lookup f=some ⟨oc,od,.func (ye name qual params body scope dV kV doc pm an cdv ct),osl⟩)(hcd:My K cdv qual=true)(S:gG N ps scope)
  (len:∀vs H Q E,sp vs H Q E→vs.length=ps.length)
  (hbody:∀(A:cI)(outer:List Env)(s:aC)(H:Hp)(vs:List V)(Q:VK)(E:XK),iT k (A.deeper (envOfC qual scope s.heap.objs.size f cdv))→sp vs H Q E→
   ∃t,jl (yU CX P w K mg base N qual scope f cdv A outer s H E) body t∧t {nx:=fun _ H'=>Q .non H',rt:=Q} (start N vs) H):
  dw P w K mg base CX (k+1) f (ye name qual params body scope dV kV doc pm an cdv ct) ps sp:=by
 refine⟨len,fun A outer s H args us vs Q E hr e0 hb r hsp=>?_⟩
 have hl:=len _ _ _ _ hsp;have KX:K.In s.heap:=e0.mod.Uc.keeps fun b o e=>(e0.bs b o e).1
 have lim:s.heap.NoLimit:=e0.mod.nolimit.keeps fun b o e=>(e0.bs b o e).1
 have hkind:∀y∈ps.zip us,scope.names.lookup y.1=some .local∨(scope.names.lookup y.1=some .cell∧((cellsFrom (s.heap.objs.size+1) scope.names []).lookup y.1).isSome=true):=fun⟨n,v⟩ hy=>by
  rcases S.par n (Wf hy).1 with q|q
  ·exact .inl q
  ·exact .inr ⟨q,adJ _ _ _ (.inl q)⟩
 refine codeAny_call_function hr.depth (KX _ _ lk) rfl S.co S.gen rfl (PySem.W.codeRec_of KX hcd) (hb _ _ _ _ ?_);refine wpAny_newFunctionEnv_cells S.kind hkind fun env he s1 x=>?_
 subst he
 refine⟨lim.keeps x.toInCall.keep,codeAny_func ?_⟩
 obtain⟨t,ht,hq⟩:=hbody A outer s H vs Q E (hr.deeper _) hsp
 have I:Inv (yU CX P w K mg base N qual scope f cdv A outer s H E) [] (start N vs) H s1:=agL S hr.hd e0 hl r x;refine oF (ht [] s1 (start N vs) H _ I hq) (fun fl s' hs=>?_) fun e s' hs=>hs
 have fin:∀{σ':St}{H':Hp}{v:V}{u:Value},Inv (yU CX P w K mg base N qual scope f cdv A outer s H E) [] σ' H' s'→RelV v u→Q v H'→CE outer P w H s Q u s':=
  fun{σ' H' v u} J rv q=>⟨v,H',J.os,J.bare,J.base,J.hok,rv,q⟩
 cases fl with
 |ret u=>
  obtain⟨v,σ',H',J,rv,q⟩:=hs
  exact fin J rv q
 |next=>
  obtain⟨σ',H',J,q⟩:=hs
  exact fin (v:=V.non) (u:=p7) J rfl q
 |brk=>
  obtain⟨_,_,_,q⟩:=hs
  exact qW q
 |cont=>
  obtain⟨_,_,_,q⟩:=hs
  exact qW q
section
variable{X:Cx}{x:Str}{p pos:Pos}{e:Expr}{es:List Expr}{t:TA}{id T:String}{r:List V→Hp→VK→Prop}
def Uk(r:List V→Hp→VK→Prop)(t:TA):TE:=fun σ H Q=>t σ H fun vs H1=>r vs H1 Q
theorem Je(hc:iQ X (.builtin id) r)(hg:Gl X x)(hm:X.mg x=none)(hv:sX x=some (.builtin id))(ha:PA X (e::es) t)(hn:x≠"__name__":=by decide)(hdb:(x==("__debug__":Str))=false:=by decide)
  (he:aW (e::es) X.env=(false,eval e X.env)::aW es X.env:=by rfl)(hpl:(fG pos (aW es X.env)).any (·.1)=false:=by rfl):PE X (.Call (.Name x p) (e::es) [] pos) (Uk r t):=by
 intro pins s σ H Q I h;refine Cg (tQ I hg hm hv ?_ hn hdb);exact Vh (bu (ha pos pins s σ H _ I h) fun us s1 ⟨vs,H1,I1,r1,q1⟩=>hc pins s1 σ H1 vs us Q I1 r1 q1) he hpl
theorem agM(hc:iQ X (.type T) r)(hg:Gl X x)(hm:X.mg x=none)(hv:sX x=some (.type T))(ha:PA X (e::es) t)(hn:x≠"__name__":=by decide)(hdb:(x==("__debug__":Str))=false:=by decide)
  (he:aW (e::es) X.env=(false,eval e X.env)::aW es X.env:=by rfl)(hpl:(fG pos (aW es X.env)).any (·.1)=false:=by rfl):PE X (.Call (.Name x p) (e::es) [] pos) (Uk r t):=by
 intro pins s σ H Q I h;refine Cg (tQ I hg hm hv ?_ hn hdb);exact GJ (bu (ha pos pins s σ H _ I h) fun us s1 ⟨vs,H1,I1,r1,q1⟩=>hc pins s1 σ H1 vs us Q I1 r1 q1) he hpl
end
end L2
namespace HT
open PySem PyProof.Rows
section
open PySem.SeqAt
open PySem.AutoSeq1 (wpAny_loadPart')
open PySem.MeetsSeq PySem.MeetsSeq2 PySem.MeetsSeq3
end
section
variable{prog:bh}{w:aZ}{A:cI}{E:Value→aC→Prop}{s:aC}
theorem ai3{t b:aa}{vs ws:List Value}{Q:Value→aC→Prop}(ht:IsTup s.heap t vs.toArray)(hb:IsTup s.heap b ws.toArray)(hv:vs≠[])
  (h1:ws=[]→Q (.ref t) s)(h2:ws≠[]→Q (.ref s.heap.objs.size) {s with heap:=s.heap.push {cls:=.type "tuple",data:=.seq (vs++ws).toArray}})
  (hsz:vs.length+ws.length≤bR):aN (model prog w) A (pB .Add (.ref t) (.ref b)) Q E s:=by
 obtain⟨⟨cls,dd,data,sl⟩,ho,hc,n,hd⟩:=id ht
 obtain⟨⟨cls2,dd2,data2,sl2⟩,ho2,hc2,n2,hd2⟩:=id hb
 simp only at hc hd hc2 hd2;subst hc hd hc2 hd2;have e:vs.toArray++ws.toArray=(vs++ws).toArray:=by simp
 by_cases hw:ws=[]
 ·exact W7 ⟨_,ho,rfl⟩ ⟨_,ho2,rfl⟩ V7 WR Vt Vs (Vo _ _)
   (tuple_addW1 t b vs.toArray ws.toArray n n2 dd dd2 sl sl2 (by simpa using hv) (by simp[hw])) ⟨ho,ho2,h1 hw⟩
 ·refine W7 ⟨_,ho,rfl⟩ ⟨_,ho2,rfl⟩ V7 WR Vt Vs (Vo _ _)
   (tuple_addW2 t b vs.toArray ws.toArray n n2 dd dd2 sl sl2 (by simpa using hv) (by simpa using hw) (by rw[fJ,fJ];exact hsz)) ⟨ho,ho2,?_⟩
  rw[e];exact h2 hw
def bY(n d:Nat):Option Int→Nat
 |none=>d
 |some v=>if v<0 then(v+(n:Int)).toNat else min v.toNat n
theorem Jv(n d k:Nat):bY n d (some (k:Int))=min k n:=by
 show(if(k:Int)<0 then((k:Int)+(n:Int)).toNat else min (k:Int).toNat n)=min k n
 rw[if_neg (by omega),zG]
theorem akF(n d:Nat)(hd:d≤n)(o:Option Int):bY n d o≤n:=by
 cases o with
 |none=>exact hd
 |some v=>
  show(if v<0 then(v+(n:Int)).toNat else min v.toNat n)≤n
  by_cases hv:v<0
  ·rw[if_pos hv];omega
  ·rw[if_neg hv];exact Nat.min_le_right _ _
theorem aam(v:Int)(n d:Nat):(if v<0 then max (v+(n:Int)) 0 else min v (n:Int))=((bY n d (some v):Nat):Int):=by
 show(if v<0 then max (v+(n:Int)) 0 else min v (n:Int))=(((if v<0 then(v+(n:Int)).toNat else min v.toNat n):Nat):Int)
 by_cases hv:v<0
 ·simp only[if_pos hv];omega
 ·simp only[if_neg hv];omega
theorem af3(lo hi:Option Int)(n:Nat):Vj lo hi 1 (n:Int)=(((bY n 0 lo:Nat):Int),((bY n n hi:Nat):Int)):=by
 have h1:¬((1:Int)<0):=by omega
 unfold Vj;simp only[h1,if_false];refine Prod.ext ?_ ?_
 ·cases lo with
  |none=>rfl
  |some v=>exact aam v n 0
 ·cases hi with
  |none=>rfl
  |some v=>exact aam v n n
theorem af4(i j:Nat):Lh (i:Int) (j:Int) 1=j-i:=by
 unfold Lh;have h1:(1:Int)>0:=by omega
 simp only[h1,if_true,Int.ediv_one];split<;>omega
theorem Xy{v:Value}{o:Option Int}{Q:Option Int→aC→Prop}(p:tU v o)(h:Q o s):aN (model prog w) A (an9 v) Q E s:=by
 cases p with
 |none=>exact slicePart_none h
 |int i t=>exact slicePart_int h
theorem V8{sl:aa}{vl vu:Value}{lo hi:Option Int}{n:Nat}{Q:Int×Int×Nat→aC→Prop}(hs:s.heap.IsSliceOf sl vl vu .none)(pl:tU vl lo)(pu:tU vu hi)
  (h:Q (((bY n 0 lo:Nat):Int),1,bY n n hi-bY n 0 lo) s):aN (model prog w) A (ady (.ref sl) (pure (n:Int))) Q E s:=by
 obtain⟨os,hos,hcs,hds⟩:=id hs
 unfold ady aoo;refine aJ (aJ (Xo hos hds (x:=vl) rfl (aJ (Xo hos hds (x:=vu) rfl (aJ (Xo hos hds (x:=.none) rfl (aY ?_)))))));refine aJ (slicePart_none ?_);show aN _ _ (if((1:Int)==0)=true then _ else _) _ _ s;rw[if_neg (by decide)];refine aJ (Xy pl (aJ (Xy pu (aJ (aY ?_)))));show aN _ _ (match Vj lo hi 1 (n:Int) with|(lo,hi)=>pure (lo,(1:Int),Lh lo hi 1)) _ _ s;rw[af3 lo hi n];show aN _ _ (pure (((bY n 0 lo:Nat):Int),(1:Int),Lh ((bY n 0 lo:Nat):Int) ((bY n n hi:Nat):Int) 1)) _ _ s;rw[af4];exact aY h
theorem ahK(xs:Array Value)(i k:Nat):((dZ k).filterMap fun(m:Nat)=>xs[((i:Int)+(m:Int)*1).toNat]?).toArray=((xs.toList.drop i).take k).toArray:=by
 have e:(fun(m:Nat)=>xs[((i:Int)+(m:Int)*1).toNat]?)=fun m=>xs[i+m]?:=by
  funext m;have:((i:Int)+(m:Int)*1).toNat=i+m:=by omega
  rw[this]
 rw[e];have:=pick_run xs i k;rw[List.filterMap_map] at this;have e2:((fun x=>xs[x]?) ∘ fun x=>i+x)=fun m=>xs[i+m]?:=rfl
 rw[e2] at this;rw[this]
theorem ael{t sl:aa}{items:Array Value}{vl vu:Value}{lo hi:Option Int}{Q:Value→aC→Prop}(ht:IsTup s.heap t items)(hs:s.heap.IsSliceOf sl vl vu .none)(pl:tU vl lo)(pu:tU vu hi)
  (hw:¬(bY items.size 0 lo=0∧bY items.size items.size hi=items.size))
  (h:Q (.ref s.heap.objs.size) {s with heap:=s.heap.push {cls:=.type "tuple",data:=.seq ((items.toList.drop (bY items.size 0 lo)).take (bY items.size items.size hi-bY items.size 0 lo)).toArray}})
  (hsz:items.size≤bR):aN (model prog w) A (vX (.ref t) (.ref sl)) Q E s:=by
 have J6:sizeOk (.seq ((items.toList.drop (bY items.size 0 lo)).take (bY items.size items.size hi-bY items.size 0 lo)).toArray):=by
  show((items.toList.drop (bY items.size 0 lo)).take (bY items.size items.size hi-bY items.size 0 lo)).toArray.size≤bR
  rw[fJ,jU,zK,kO];omega
 have hj:bY items.size items.size hi≤items.size:=akF _ _ (bN _) hi
 obtain⟨os,hos,hcs,hds⟩:=id hs
 have hTs:s.TypeIs (.ref sl) "slice":=⟨os,hos,hcs⟩
 unfold vX
 try with_reducible refine nA ?_
 first|refine aJ (aY ?_)|skip
 refine aJ (aem ht.typeIs (by decide) ?_);refine aJ (Ca (name:=fD "__getitem__") ht.typeIs Le
  (qP Le ht.typeIs entry_tuple_getitem ?_ (args_tuple_getitem _ _)))
 show aN _ _ (adz (.ref t) >>= _) _ _ s;refine aJ (tupleItemsOf_ ht ?_);refine aJ (HH hTs ?_);rw[if_pos (by decide)];refine aJ (V8 hs pl pu ?_);have hno:¬((((bY items.size 0 lo:Nat):Int)==0&&(1:Int)==1&&(bY items.size items.size hi-bY items.size 0 lo)==items.size)=true):=by
  intro q;rw[ie,ie] at q;have q1:((bY items.size 0 lo:Nat):Int)=0:=eq_of_beq q.1.1;have q2:bY items.size items.size hi-bY items.size 0 lo=items.size:=eq_of_beq q.2;exact hw ⟨by omega,by omega⟩
 show aN _ _ (if(((bY items.size 0 lo:Nat):Int)==0&&(1:Int)==1&&(bY items.size items.size hi-bY items.size 0 lo)==items.size)=true then _ else _) _ _ s;rw[if_neg hno,ahK]
 first
  |exact aJ (m:=Li _) (nq (aY ⟨_,rfl,aY h⟩) J6)
  |exact aJ (m:=Li _) (nq (aJ (aY (aY ⟨_,rfl,aY h⟩))) J6)
  |exact aJ (aJ (m:=Li _) (nq (aY (aY ⟨_,rfl,aY h⟩)) J6))
  |exact aJ (aJ (m:=Li _) (nq (aY ⟨_,rfl,aY h⟩) J6))
end
end HT
namespace L2
open PySem PySem.Spec PyProof.Rows
abbrev TO:=St→Hp→(Option Int→Hp→Prop)→Prop
def PO(X:Cx)(e:Option Expr)(t:TO):Prop:=
 ∀(pins:List (aa×Obj))(s:aC)(σ:St)(H:Hp)(Q:Option Int→Hp→Prop),Inv X pins σ H s→t σ H Q→
  aN (model X.prog X.w) X.A (evalPart e X.env) (fun u s'=>∃o H',Inv X pins σ H' s'∧tU u o∧Q o H') X.xe s
def ai4:TO:=fun _ H Q=>Q none H
def alT(t:TE):TO:=fun σ H Q=>t σ H fun x H1=>∃i,x=.int i∧Q (some i) H1
theorem intsAre_of{ns:List Int}:∀{us:List Value},Vals (ns.map V.int) us→IntsAre us ns:=by
 induction ns with
 |nil=>intro us r;rw[jo] at r;cases r;exact .nil
 |cons n ns ih=>
  intro us r;rw[cJ] at r;cases r with
  |cons r1 r2=>
   obtain⟨t,e⟩:=r1
   subst e;exact .cons n t (ih r2)
section
variable{X:Cx}{e:Expr}{te:TE}{lo hi:Option Expr}{tl th:TO}{pos p2:Pos}
theorem ai5:PO X none ai4:=by
 intro pins s σ H Q I h;rw[evalPart_none];exact aY ⟨none,H,I,.none,h⟩
theorem ai6(h:PE X e te):PO X (some e) (alT te):=by
 intro pins s σ H Q I hw;rw[evalPart_some];refine bu (h pins s σ H _ I hw) fun u s1 aL=>?_
 obtain⟨x,H1,I1,r1,q1⟩:=aL
 obtain⟨i,rfl,q⟩:=q1
 obtain⟨t,rfl⟩:=r1
 exact⟨some i,H1,I1,.int i t,q⟩
def vh(X:Cx)(r:V→Option Int→Option Int→Hp→VK→Prop):Prop:=
 ∀(pins:List (aa×Obj))(s:aC)(σ:St)(H:Hp)(x:V)(v vl vu:Value)(lo hi:Option Int)(sl:aa)(Q:VK),Inv X pins σ H s→RelV x v→s.heap.IsSliceOf sl vl vu .none→tU vl lo→tU vu hi→r x lo hi H Q→
  ∃T id,typeLookup (.type T) "__getitem__"=pure (some (.builtin id))∧s.TypeIs v T∧aN (model X.prog X.w) X.A (vX v (.ref sl)) (EP X pins σ Q) X.xe s
theorem vh.or{r r':V→Option Int→Option Int→Hp→VK→Prop}(h:vh X r)(h':vh X r'):vh X (fun x lo hi H Q=>r x lo hi H Q∨r' x lo hi H Q):=by
 intro pins s σ H x v vl vu lo hi sl Q I rx hs pl pu q;rcases q with q|q
 ·exact h pins s σ H x v vl vu lo hi sl Q I rx hs pl pu q
 ·exact h' pins s σ H x v vl vu lo hi sl Q I rx hs pl pu q
def tSl(r:V→Option Int→Option Int→Hp→VK→Prop)(te:TE)(tl th:TO):TE:=fun σ H Q=>te σ H fun x H1=>tl σ H1 fun l H2=>th σ H2 fun u H3=>r x l u H3 Q
theorem ahL{r:V→Option Int→Option Int→Hp→VK→Prop}(hr:vh X r)(he:PE X e te)(hl:PO X lo tl)(hu:PO X hi th):PE X (.Subscript e (.Slice lo hi none p2) pos) (tSl r te tl th):=by
 intro pins s σ H Q I h;refine Subscript_ (bu (he pins s σ H _ I h) fun v s1 aL=>?_)
 obtain⟨x,H1,I1,r1,q1⟩:=aL
 refine wpAny_Slice (bu (hl pins s1 σ H1 _ I1 q1) fun vl s2 ⟨l,H2,I2,pl,q2⟩=>bu (hu pins s2 σ H2 _ I2 q2) fun vu s3 aL=>?_)
 obtain⟨u,H3,I3,pu,q3⟩:=aL
 rw[evalPart_none];refine aY ?_;have I4:Inv X pins σ H3 {s3 with heap:=s3.heap.push {cls:=.type "slice",data:=.fields #[vl,vu,.none]}}:=I3.kept (t':=s3.toks) fun b ob q=>cM _ q
 obtain⟨T,id,hT,ht,hg⟩:=hr pins {s3 with heap:=s3.heap.push {cls:=.type "slice",data:=.fields #[vl,vu,.none]}} σ H3 x v vl vu l u s3.heap.objs.size Q I4 r1 (aoJ ..) pl pu q3
 show aN (model X.prog X.w) X.A (subscriptTail e (.Slice lo hi none p2) v (.ref s3.heap.objs.size)) (EP X pins σ Q) X.xe {s3 with heap:=s3.heap.push {cls:=.type "slice",data:=.fields #[vl,vu,.none]}};exact tail_any (ops:=[.ref s3.heap.objs.size,v]) ht hT hg (by with_unfolding_all rfl)
def rK(xs:List V)(lo hi:Option Int):List V:=(xs.drop (HT.bY xs.length 0 lo)).take (HT.bY xs.length xs.length hi-HT.bY xs.length 0 lo)
theorem Xp(xs:List V)(lo hi:Option Int):(rK xs lo hi).length≤xs.length:=by
 unfold rK;rw[jU,zK];omega
def amx(K:aG):V→Option Int→Option Int→Hp→VK→Prop:=fun x lo hi H Q=>∃a xs,x=.ref a∧cU K H a xs∧
 ¬(HT.bY xs.length 0 lo=0∧HT.bY xs.length xs.length hi=xs.length)∧∀p,H p=none→Q (.ref p) (upd H p (.tup (rK xs lo hi)))
theorem akG:vh X (amx X.K):=by
 intro pins s σ H x v vl vu lo hi sl Q I rx hs pl pu h
 obtain⟨a,xs,rfl,hx,hw,q⟩:=h
 cases rx
 obtain⟨its,r,ht,hz⟩:=I.tuple hx
 have hlen:its.toArray.size=xs.length:=by rw[fJ];exact r.length.symm
 refine⟨"tuple",_,PyProof.Rows.slot_tuple_getitem.lookup,ht.typeIs,?_⟩
 refine HT.ael ht hs pl pu (by rw[hlen];exact hw) ?_ (by rw[hlen];exact hz);rw[hlen]
 refine⟨.ref s.heap.objs.size,_,I.laid (t':=s.toks) (o:=.tup (rK xs lo hi)) (fun b ob q=>cM _ q) (bN _) ?_,rfl,q _ (I.hok.fresh (bN _))⟩
 exact⟨jD (Xp xs lo hi) hz,_,(r.drop (HT.bY xs.length 0 lo)).take (HT.bY xs.length xs.length hi-HT.bY xs.length 0 lo),IsTup.new _ _⟩
def abN(K:aG):R2:=fun x y H Q=>∃a b xs ys,x=.ref a∧y=.ref b∧cU K H a xs∧cU K H b ys∧xs≠[]∧xs.length+ys.length≤bR∧
 (ys=[]→Q (.ref a) H)∧(ys≠[]→∀p,H p=none→Q (.ref p) (upd H p (.tup (xs++ys))))
theorem Vals.QW{xs:List V}{us:List Value}(r:Vals xs us):us=[]↔xs=[]:=by
 cases r with
 |nil=>simp
 |cons _ _=>simp
theorem ai7:cP X (pB .Add) (abN X.K):=by
 intro pins s σ H x y v u Q I rx ry h
 obtain⟨a,b,xs,ys,rfl,rfl,ha,hb,hx,hz,q1,q2⟩:=h
 cases rx;cases ry
 obtain⟨its,r1,p1,_⟩:=I.tuple ha
 obtain⟨its2,r2,p2,_⟩:=I.tuple hb
 refine HT.ai3 p1 p2 (fun z=>hx (r1.QW.mp z)) (fun z=>⟨.ref a,H,I,rfl,q1 (r2.QW.mp z)⟩) (fun z=>?_) (by rw[←r1.length,←r2.length];exact hz)
 refine⟨.ref s.heap.objs.size,_,I.laid (t':=s.toks) (o:=.tup (xs++ys)) (fun b ob q=>cM _ q) (bN _) ?_,rfl,q2 (fun w=>z (r2.QW.mpr w)) _ (I.hok.fresh (bN _))⟩
 exact⟨by rw[gf];exact hz,_,r1.append r2,IsTup.new _ _⟩
end
def mD(n:Nat)(i:Int):Option Nat:=if 0≤i then(if i<n then some i.toNat else none) else if -(n:Int)≤i then some (i+n).toNat else none
def cX{α:Type}(xs:List α)(i:Int):Option α:=(mD xs.length i).bind fun j=>xs[j]?
theorem aan{n:Nat}{i:Int}{j:Nat}(h:mD n i=some j):O9 i n=some j∧j<n∧-(n:Int)≤i∧i<n:=by
 unfold mD at h;by_cases h0:0≤i
 ·rw[if_pos h0] at h;by_cases h1:i<n
  ·rw[if_pos h1] at h;have e:i.toNat=j:=fX h
   exact⟨by rw[Xq h0 h1,e],by omega,by omega,h1⟩
  ·rw[if_neg h1] at h;cases h
 ·rw[if_neg h0] at h;by_cases h1:-(n:Int)≤i
  ·rw[if_pos h1] at h;have e:(i+n).toNat=j:=fX h
   exact⟨by rw[W8 (by omega) h1,e],by omega,h1,by omega⟩
  ·rw[if_neg h1] at h;cases h
theorem QX{α:Type}{xs:List α}{i:Int}{v:α}(h:cX xs i=some v):∃j,O9 i xs.length=some j∧xs[j]?=some v∧j<xs.length∧-(xs.length:Int)≤i∧i<xs.length:=by
 unfold cX at h;cases e:mD xs.length i with
 |none=>rw[e] at h;cases h
 |some j=>
  rw[e] at h
  obtain⟨h1,h2,h3,h4⟩:=aan e
  exact⟨j,h1,h,h2,h3,h4⟩
theorem vY{α:Type}{xs:List α}{j:Nat}{v:α}(h:xs[j]?=some v):cX xs (j:Int)=some v:=by
 have hj:j<xs.length:=(gZ.mp h).1;have e:mD xs.length (j:Int)=some j:=by
  unfold mD;rw[if_pos (by omega),if_pos (by omega)];simp
 unfold cX;rw[e];exact h
def Jw(b:Expr):Prop:=∀o i,Xr b false o i=operate [o,i] (vX o i)
def qK(X:Cx)(r:R2):Prop:=
 ∀(value slice:Expr)(pins:List (aa×Obj))(s:aC)(σ:St)(H:Hp)(x y:V)(v u:Value)(Q:VK),Inv X pins σ H s→RelV x v→RelV y u→r x y H Q→
  Xr slice false v u=operate [v,u] (vX v u)→aN (model X.prog X.w) X.A (subscriptTail value slice v u) (EP X pins σ Q) X.xe s
def BR(X:Cx)(id:String)(r:V→List V→Hp→VK→Prop):Prop:=
 ∀(pins:List (aa×Obj))(s:aC)(σ:St)(H:Hp)(x:V)(xs:List V)(v:Value)(us:List Value)(Q:VK),Inv X pins σ H s→RelV x v→Vals xs us→r x xs H Q→
  aN (model X.prog X.w) X.A (call (.builtin id) (v::us)) (EP X pins σ Q) X.xe s
section
variable{X:Cx}{a b:Expr}{ta tb:TE}{pos:Pos}
theorem qK.or{r r':R2}(h:qK X r)(h':qK X r'):qK X (fun x y H Q=>r x y H Q∨r' x y H Q):=by
 intro value slice pins s σ H x y v u Q I rx ry q hs;rcases q with q|q
 ·exact h value slice pins s σ H x y v u Q I rx ry q hs
 ·exact h' value slice pins s σ H x y v u Q I rx ry q hs
theorem BR.or{id:String}{r r':V→List V→Hp→VK→Prop}(h:BR X id r)(h':BR X id r'):BR X id (fun x xs H Q=>r x xs H Q∨r' x xs H Q):=by
 intro pins s σ H x xs v us Q I rx rs q;rcases q with q|q
 ·exact h pins s σ H x xs v us Q I rx rs q
 ·exact h' pins s σ H x xs v us Q I rx rs q
theorem S8{r:R2}(hr:qK X r)(ha:PE X a ta)(hb:PE X b tb)(hs:Jw b):PE X (.Subscript a b pos) (Gf r ta tb):=by
 intro pins s σ H Q I h;exact Subscript_ (TJ ha hb I h fun v u s2 x y H2 I2 rx ry q=>hr a b pins s2 σ H2 x y v u Q I2 rx ry q (hs _ _))
def ab9(K:aG):R2:=fun x y H Q=>∃p xs i v,x=.ref p∧y=.int i∧bL K H p xs∧cX xs i=some v∧Q v H
def acd(K:aG):R2:=fun x y H Q=>∃p xs i v,x=.ref p∧y=.int i∧cU K H p xs∧cX xs i=some v∧Q v H
def ace:R2:=fun x y H Q=>∃z i c,x=.str z∧y=.int i∧z.length≤bR∧cX z.cps.toList i=some c∧Q (.str ⟨#[c]⟩) H
theorem QZ:qK X (ab9 X.K):=by
 intro value slice pins s σ H x y v u Q I rx ry h hs
 obtain⟨p,xs,i,z,rfl,rfl,hq,he,q⟩:=h
 cases rx
 obtain⟨t,rfl⟩:=ry
 obtain⟨its,r,pl,hz⟩:=I.list hq
 obtain⟨j,h1,h2,h3,h4,h5⟩:=QX he
 obtain⟨w,ew,rw'⟩:=r.get h2
 have hl:=r.length;have hn:=yD;have fin:EP X pins σ Q w s:=⟨z,H,I,rw',q⟩
 by_cases h0:0≤i
 ·have hj:i.toNat=j:=by
   rw[Xq h0 h5] at h1;exact fX h1
  exact item_listR pl.isList h0 (by omega) (by rw[hj];simpa using ew) fin hs
 ·have hj:(i+(its.toArray.size:Int)).toNat=j:=by
   rw[W8 (by omega) h4] at h1;rw[fJ,←hl];exact fX h1
  exact subscriptTail_builtinR (x:=w) pl.isList.typeIs slot_list_getitem.lookup
   (wpAny_getItem_list_neg (Q:=fun r s'=>r=w∧EP X pins σ Q r s') pl.isList (by omega) (by rw[fJ]<;>omega) (by omega) (by rw[hj];simpa using ew) ⟨rfl,fin⟩) hs
theorem akH:qK X (acd X.K):=by
 intro value slice pins s σ H x y v u Q I rx ry h hs
 obtain⟨p,xs,i,z,rfl,rfl,hq,he,q⟩:=h
 cases rx
 obtain⟨t,rfl⟩:=ry
 obtain⟨its,r,pl,hz⟩:=I.tuple hq
 obtain⟨j,h1,h2,h3,h4,h5⟩:=QX he
 obtain⟨w,ew,rw'⟩:=r.get h2
 have hl:=r.length;have hn:=yD;have fin:EP X pins σ Q w s:=⟨z,H,I,rw',q⟩
 exact subscriptTail_builtinR (x:=w) pl.typeIs slot_tuple_getitem.lookup
  (getItem_tuple (j:=j) (Q:=fun r s'=>r=w∧EP X pins σ Q r s') pl (by omega) (by omega) (by rw[fJ,←hl];exact h1) (by simpa using ew) ⟨rfl,fin⟩) hs
theorem akI:qK X ace:=by
 intro value slice pins s σ H x y v u Q I rx ry h hs
 obtain⟨z,i,c,rfl,rfl,hz,he,q⟩:=h
 obtain⟨t,rfl⟩:=rx
 obtain⟨t',rfl⟩:=ry
 obtain⟨j,h1,h2,h3,h4,h5⟩:=QX he
 have hl:z.cps.toList.length=z.length:=by simp[Str.length]
 rw[hl] at h1 h4 h5;have hn:=yD;exact tail_any (Xz s z t) slot_str_getitem.lookup (getItem_str (c:=c) (by
  have e1:decide (i< -(2^63:Int))=false:=decide_eq_false (by omega);have e2:decide (i≥2^63)=false:=decide_eq_false (by omega);rw[e1,e2,Bool.or_false]) (by rw[h1];simpa using h2) ⟨.str ⟨#[c]⟩,H,I.tok _,⟨_,rfl⟩,q⟩) hs
def rIx(K:aG):R2:=fun x y H Q=>ab9 K x y H Q∨acd K x y H Q∨ace x y H Q
theorem akJ:qK X (rIx X.K):=QZ.or (akH.or akI)
theorem af5(its:List Value)(n j:Nat)(u:Value):lG (·.setIfInBounds j u) {cls:=.type "list",data:=.seq its.toArray n}={cls:=.type "list",data:=.seq (its.set j u).toArray n}:=by
 simp[lG]
theorem Inv.lst{pins:List (aa×Obj)}{σ:St}{H:Hp}{s:aC}{p:aa}{xs:List V}(I:Inv X pins σ H s)(h:H p=some (.lst xs)):
  ∃(its:List Value)(n:Nat),Vals xs its∧s.heap.get? p=some {cls:=.type "list",data:=.seq its.toArray n}∧xs.length≤bR:=by
 obtain⟨z,its,n,r,e⟩:=I.hok p _ h
 exact⟨its,n,r,e,z⟩
theorem Inv.akK{pins:List (aa×Obj)}{σ:St}{H:Hp}{s:aC}{p:aa}{xs ys:List V}{its its':List Value}{n n':Nat}{f:Obj→Obj}(I:Inv X pins σ H s)(h:H p=some (.lst xs))
  (ho:s.heap.get? p=some {cls:=.type "list",data:=.seq its.toArray n})(hf:f {cls:=.type "list",data:=.seq its.toArray n}={cls:=.type "list",data:=.seq its'.toArray n'})(r:Vals ys its')(hz:ys.length≤bR)(t:Nat):
  Inv X pins σ (upd H p (.lst ys)) {s with heap:=s.heap.update p f,toks:=t}:=by
 have e:(s.heap.update p f).get? p=some {cls:=.type "list",data:=.seq its'.toArray n'}:=by
  rw[zy f ho (by rw[hf]<;>rfl),hf]
 refine I.write (x:=p) (e:=p) (by rw[h];trivial) (.inl rfl) (fun b u hb q=>(sH _ _ (jX hb)).trans q) ⟨_,e⟩ ?_
 exact⟨hz,its',n',r,e⟩
def S9:V→V→V→Hp→(Hp→Prop)→Prop:=fun o i v H Q=>∃p xs k j,o=.ref p∧i=.int k∧H p=some (.lst xs)∧mD xs.length k=some j∧Q (upd H p (.lst (xs.set j v)))
theorem set_list:uW X S9:=by
 intro pins s σ H o i v ov iv u Q I ro ri rv h
 obtain⟨p,xs,k,j,rfl,rfl,hp,hj,q⟩:=h
 cases ro
 obtain⟨t,rfl⟩:=ri
 obtain⟨its,n,r,ho,hz⟩:=I.lst hp
 obtain⟨h1,h2,h3,h4⟩:=aan hj
 have hl:=r.length;have hn:=yD;have I':Inv X pins σ (upd H p (.lst (xs.set j v))) {s with heap:=s.heap.update p (lG (·.setIfInBounds j u))}:=
  I.akK hp ho (af5 its n j u) (r.set rv j) (by rw[vH];exact hz) s.toks
 by_cases h0:0≤k
 ·have hk:k.toNat=j:=by
   rw[Xq h0 h4] at h1;exact fX h1
  exact PySem.W.ki_setAt ho h0 (by omega) (by rw[fJ,←hl];exact h4) (by rw[hk];exact⟨_,I',q⟩)
 ·have hk:(k+(its.toArray.size:Int)).toNat=j:=by
   rw[W8 (by omega) h3] at h1;rw[fJ,←hl];exact fX h1
  exact PySem.W.ki_setBack ho (by omega) (by rw[fJ,←hl];exact h3) (by omega) (by rw[hk];exact⟨_,I',q⟩)
theorem afn(lo hi:Option Int)(n:Nat):(Ab lo hi none n).1=((HT.bY n 0 lo:Nat):Int)∧(Ab lo hi none n).2.1=((HT.bY n n hi:Nat):Int)∧(Ab lo hi none n).2.2=1:=by
 refine⟨?_,?_,rfl⟩
 ·cases lo with
  |none=>simp[Ab,HT.bY]
  |some i=>
   simp only[Ab,HT.bY,Mh,show(1:Int)>0 by decide,if_true];by_cases h:i<0
   ·simp only[h,if_true]<;>omega
   ·simp only[h,if_false]<;>omega
 ·cases hi with
  |none=>simp[Ab,HT.bY]
  |some i=>
   simp only[Ab,HT.bY,Mh,show(1:Int)>0 by decide,if_true];by_cases h:i<0
   ·simp only[h,if_true]<;>omega
   ·simp only[h,if_false]<;>omega
theorem ae7(its:List Value)(lo hi:Option Int):slicePick its.toArray lo hi none=((its.drop (HT.bY its.length 0 lo)).take (HT.bY its.length its.length hi-HT.bY its.length 0 lo)).toArray:=by
 obtain⟨h1,h2,h3⟩:=afn lo hi its.toArray.size
 unfold slicePick;rw[h1,h2,h3];simp only[sliceRange_one,pick_run,fJ]<;>rfl
def amy(K:aG):V→Option Int→Option Int→Hp→VK→Prop:=fun x lo hi H Q=>∃a xs,x=.ref a∧bL K H a xs∧∀p,H p=none→Q (.ref p) (upd H p (.lst (rK xs lo hi)))
theorem ai8:vh X (amy X.K):=by
 intro pins s σ H x v vl vu lo hi sl Q I rx hs pl pu h
 obtain⟨a,xs,rfl,hx,q⟩:=h
 cases rx
 obtain⟨its,r,ht,hz⟩:=I.list hx
 have hlen:=r.length
 refine⟨"list",_,slot_list_getitem.lookup,ht.isList.typeIs,?_⟩
 refine wpAny_getItem_list_slice ht.isList hs pl pu .none (by simp) ?_ (by rw[fJ]<;>omega);rw[ae7,←hlen]
 refine⟨.ref s.heap.objs.size,_,I.laid (t':=s.toks) (o:=.lst (rK xs lo hi)) (fun b ob q=>cM _ q) (bN _) ?_,rfl,q _ (I.hok.fresh (bN _))⟩
 exact⟨jD (Xp xs lo hi) hz,_,0,(r.drop (HT.bY xs.length 0 lo)).take (HT.bY xs.length xs.length hi-HT.bY xs.length 0 lo),iI _ rfl⟩
def pM:V→Bool
 |.non=>true
 |.bl _=>true
 |.int _=>true
 |.str _=>true
 |_=>false
def rQ:V→V→Bool
 |.non,.non=>true
 |.bl a,.bl b=>a==b
 |.bl a,.int b=>(if a then 1 else 0)==b
 |.int a,.bl b=>a==(if b then 1 else 0)
 |.int a,.int b=>a==b
 |.str a,.str b=>a==b
 |_,_=>false
theorem RM{A:cI}{s:aC}{y x:V}{u v:Value}(ry:RelV y u)(rx:RelV x v)(fy:pM y=true)(fx:pM x=true):XC A s u v (rQ y x):=by
 cases y with
 |non=>
  cases ry;cases x with
  |non=>cases rx;exact SeqAt.EqAt.same _
  |bl b=>cases rx;exact SeqAt.EqAt.none_bool b
  |int b=>obtain⟨t,rfl⟩:=rx;exact SeqAt.EqAt.none_int b t
  |str b=>obtain⟨t,rfl⟩:=rx;exact SeqAt.EqAt.none_str b t
  |_=>exact absurd (show false=true from fx) jm
 |bl a=>
  cases ry;cases x with
  |non=>cases rx;exact SeqAt.EqAt.bool_none a
  |bl b=>cases rx;exact SeqAt.EqAt.bool_bool a b
  |int b=>obtain⟨t,rfl⟩:=rx;exact SeqAt.EqAt.bool_int a b t
  |str b=>obtain⟨t,rfl⟩:=rx;exact SeqAt.EqAt.bool_str a b t
  |_=>exact absurd (show false=true from fx) jm
 |int a=>
  obtain⟨t',rfl⟩:=ry
  cases x with
  |non=>cases rx;exact SeqAt.EqAt.int_none a t'
  |bl b=>cases rx;exact SeqAt.EqAt.int_bool a t' b
  |int b=>obtain⟨t,rfl⟩:=rx;exact SeqAt.EqAt.int_int a t' b t
  |str b=>obtain⟨t,rfl⟩:=rx;exact ad8 a t' b t
  |_=>exact absurd (show false=true from fx) jm
 |str a=>
  obtain⟨t',rfl⟩:=ry
  cases x with
  |non=>cases rx;exact SeqAt.EqAt.str_none a t'
  |bl b=>cases rx;exact SeqAt.EqAt.str_bool a t' b
  |int b=>obtain⟨t,rfl⟩:=rx;exact ad9 a t' b t
  |str b=>obtain⟨t,rfl⟩:=rx;exact SeqAt.EqAt.str_str a t' b t
  |_=>exact absurd (show false=true from fx) jm
 |_=>exact absurd (show false=true from fy) jm
def nZ(x:V)(u:Value):Bool:=match u with
 |.none=>rQ .non x
 |.bool b=>rQ (.bl b) x
 |.int i _=>rQ (.int i) x
 |.str z _=>rQ (.str z) x
 |_=>false
theorem abe{x y:V}{u:Value}(r:RelV y u)(f:pM y=true):nZ x u=rQ y x:=by
 cases y with
 |non=>cases r;rfl
 |bl b=>cases r;rfl
 |int i=>obtain⟨t,rfl⟩:=r;rfl
 |str z=>obtain⟨t,rfl⟩:=r;rfl
 |_=>exact absurd (show false=true from f) jm
theorem Dp{x:V}:∀{xs:List V}{us:List Value},Vals xs us→xs.all pM=true→us.any (nZ x)=xs.any fun y=>rQ y x
 |_,_,.nil,_=>rfl
 |y::xs,u::us,.cons r t,f=>by
  rw[M9,ie] at f;rw[Ht,Ht,abe r f.1,Dp t f.2]
theorem Df{A:cI}{s:aC}{x:V}{v:Value}(rx:RelV x v)(fx:pM x=true):∀{xs:List V}{us:List Value},Vals xs us→xs.all pM=true→∀u∈us,XC A s u v (nZ x u)
 |_,_,.nil,_=>fun u hu=>by cases hu
 |y::xs,u::us,.cons r t,f=>fun u' hu=>by
  rw[M9,ie] at f;rcases bI.mp hu with rfl|hu
  ·rw[abe r f.1];exact RM r rx f.1 fx
  ·exact Df rx fx t f.2 u' hu
def inV(x:V)(xs:List V):Bool:=xs.any fun y=>rQ y x
def KQ(K:aG)(neg:Bool):R2:=fun x y H Q=>∃p xs,y=.ref p∧(bL K H p xs∨cU K H p xs)∧pM x=true∧xs.all pM=true∧Q (.bl (if neg then !inV x xs else inV x xs)) H
theorem agN:cP X (fj .In) (KQ X.K false):=by
 intro pins s σ H x y v u Q I rx ry h
 obtain⟨p,xs,rfl,hq,fx,fs,q⟩:=h
 cases ry;rcases hq with hq|hq
 ·obtain⟨its,r,pl,hz⟩:=I.list hq
  refine SeqAt.in_listAt (nZ x) pl.isList (fun w hw=>Df rx fx r fs w (by simpa using hw)) ⟨.bl _,H,I,rfl,?_⟩;rw[show its.toArray.any (nZ x)=its.any (nZ x) by simp,Dp r fs];exact q
 ·obtain⟨its,r,pl,hz⟩:=I.tuple hq
  refine SeqAt.in_tupleAt (nZ x) pl (fun w hw=>Df rx fx r fs w (by simpa using hw)) ⟨.bl _,H,I,rfl,?_⟩;rw[show its.toArray.any (nZ x)=its.any (nZ x) by simp,Dp r fs];exact q
theorem afo:cP X (fj .NotIn) (KQ X.K true):=by
 intro pins s σ H x y v u Q I rx ry h
 obtain⟨p,xs,rfl,hq,fx,fs,q⟩:=h
 cases ry;rcases hq with hq|hq
 ·obtain⟨its,r,pl,hz⟩:=I.list hq
  refine SeqAt.notIn_listAt (nZ x) pl.isList (fun w hw=>Df rx fx r fs w (by simpa using hw)) ⟨.bl _,H,I,rfl,?_⟩;rw[show its.toArray.any (nZ x)=its.any (nZ x) by simp,Dp r fs];exact q
 ·obtain⟨its,r,pl,hz⟩:=I.tuple hq
  refine SeqAt.notIn_tupleAt (nZ x) pl (fun w hw=>Df rx fx r fs w (by simpa using hw)) ⟨.bl _,H,I,rfl,?_⟩;rw[show its.toArray.any (nZ x)=its.any (nZ x) by simp,Dp r fs];exact q
theorem W9:iQ X (.builtin "len") (fun xs H Q=>∃p ys,xs=[.ref p]∧(bL X.K H p ys∨cU X.K H p ys)∧Q (.int ys.length) H):=by
 intro pins s σ H xs us Q I r h
 obtain⟨p,ys,rfl,hq,q⟩:=h
 obtain⟨u,rfl,rx⟩:=vals1 r
 cases rx;have hn:=yD;rcases hq with hq|hq
 ·obtain⟨its,r',pl,hz⟩:=I.list hq
  have hlen:=r'.length;exact Calls.call_len_list pl.isList (by simp only[fJ]<;>omega) ⟨.int ys.length,H,I.tok _,⟨s.toks+1,by rw[fJ,hlen]⟩,q⟩
 ·obtain⟨its,r',pl,hz⟩:=I.tuple hq
  have hlen:=r'.length;exact len_tuple pl (by simp only[fJ]<;>omega) ⟨.int ys.length,H,I.tok _,⟨s.toks+1,by rw[fJ,hlen]⟩,q⟩
theorem afp:iQ X (.builtin "len") (fun xs H Q=>∃z,xs=[.str z]∧z.length≤bR∧Q (.int z.length) H):=by
 intro pins s σ H xs us Q I r h
 obtain⟨z,rfl,hz,q⟩:=h
 obtain⟨u,rfl,t,rfl⟩:=vals1 r
 have hn:=yD;exact len_str (by omega) ⟨.int z.length,H,I.tok _,⟨_,rfl⟩,q⟩
theorem iQ.or{f:Value}{r r':List V→Hp→VK→Prop}(h:iQ X f r)(h':iQ X f r'):iQ X f (fun xs H Q=>r xs H Q∨r' xs H Q):=by
 intro pins s σ H xs us Q I rs q;rcases q with q|q
 ·exact h pins s σ H xs us Q I rs q
 ·exact h' pins s σ H xs us Q I rs q
theorem afq:iQ X (.type "list") (fun xs H Q=>∃p ys,xs=[.ref p]∧(bL X.K H p ys∨cU X.K H p ys)∧∀l,H l=none→Q (.ref l) (upd H l (.lst ys))):=by
 intro pins s σ H xs us Q I r h
 obtain⟨p,ys,rfl,hq,q⟩:=h
 obtain⟨u,rfl,rx⟩:=vals1 r
 cases rx;have fin:∀(its:List Value),Vals ys its→ys.length≤bR→∀(h':aV)(c':Nat),(∀b o',s.heap.get? b=some o'→h'.get? b=some o')→
   h'.get? s.heap.objs.size=some {cls:=.type "list",dict:=none,data:=.seq its.toArray c',slots:=#[]}→EP X pins σ Q (.ref s.heap.objs.size) {s with heap:=h'}:=fun its r' hz h' c' kp e=>
  ⟨.ref s.heap.objs.size,_,I.laid (t':=s.toks) kp (bN _) (show fB X.prog X.w _ h' _ (.lst ys) from⟨hz,its,c',r',e⟩),rfl,q _ (I.hok.fresh (bN _))⟩
 rcases hq with hq|hq
 ·obtain⟨its,r',pl,hz⟩:=I.list hq
  have hlen:=r'.length
  obtain⟨o,ho,hc,n,hd⟩:=pl.isList
  exact call_list_seq p (.inl rfl) ho hc hd (fun h' c' kp e=>fin its r' hz h' c' kp e) (by simp only[fJ]<;>omega)
 ·obtain⟨its,r',pl,hz⟩:=I.tuple hq
  have hlen:=r'.length
  obtain⟨o,ho,hc,n,hd⟩:=pl
  exact call_list_seq p (.inr rfl) ho hc hd (fun h' c' kp e=>fin its r' hz h' c' kp e) (by simp only[fJ]<;>omega)
theorem WT:iQ X (.type "tuple") (fun xs H Q=>∃p ys,xs=[.ref p]∧((bL X.K H p ys∧∀l,H l=none→Q (.ref l) (upd H l (.tup ys)))∨(cU X.K H p ys∧Q (.ref p) H))):=by
 intro pins s σ H xs us Q I r h
 obtain⟨p,ys,rfl,h⟩:=h
 obtain⟨u,rfl,rx⟩:=vals1 r
 cases rx;rcases h with⟨hq,q⟩|⟨hq,q⟩
 ·obtain⟨its,r',pl,hz⟩:=I.list hq
  have hlen:=r'.length;refine call_tuple_list pl.isList (fun h' kp=>?_) (by simp only[fJ]<;>omega);have I1:Inv X pins σ H {s with heap:=h'}:=I.kept (t':=s.toks) kp;have I2:Inv X pins σ (upd H h'.objs.size (.tup ys)) {s with heap:=h'.push {cls:=.type "tuple",data:=.seq its.toArray}}:=
   I1.laid (t':=s.toks) (fun b o e=>cM _ e) (bN _) (show fB X.prog X.w _ _ _ (.tup ys) from⟨hz,its,r',IsTup.new _ _⟩)
  exact⟨.ref h'.objs.size,_,I2,rfl,q _ (I1.hok.fresh (bN _))⟩
 ·obtain⟨its,r',pl,hz⟩:=I.tuple hq
  exact call_tuple_same pl ⟨.ref p,H,I,rfl,q⟩
def tyV(K:aG)(T:String)(x:V)(H:Hp):Prop:=match x with
 |.str _=>T="str"
 |.int _=>T="int"
 |.ref p=>(T="list"∧∃xs,bL K H p xs)∨(T="tuple"∧∃o,K.lookup p=some o∧o.cls=.type "tuple"∧o.dict=none)∨
   (T="dict"∧((∃kvs,H p=some (.dK kvs))∨∃kvs,H p=some (.dT kvs)))∨(T="set"∧∃S n,H p=some (.set S n))
 |_=>False
theorem akL{pins:List (aa×Obj)}{σ:St}{H:Hp}{s:aC}{T:String}{x:V}{v:Value}(I:Inv X pins σ H s)(r:RelV x v)(ty:tyV X.K T x H):
  s.TypeIs v T∧∀a,v=.ref a→∃ob,s.heap.get? a=some ob∧ob.dict=none:=by
 cases x with
 |str z=>
  obtain⟨t,rfl⟩:=r
  cases(show T="str" from ty)
  exact⟨Xz s z t,fun _ e=>nomatch e⟩
 |int i=>
  obtain⟨t,rfl⟩:=r
  cases(show T="int" from ty)
  exact⟨typeIs_int s i t,fun _ e=>nomatch e⟩
 |ref p=>
  cases r;rcases ty with⟨rfl,xs,hq⟩|⟨rfl,o,hk,hc,hd⟩|⟨rfl,hk⟩|⟨rfl,S,n,hk⟩
  ·obtain⟨its,_,pl,_⟩:=I.list hq
   refine⟨pl.isList.typeIs,fun a e=>?_⟩
   cases e
   obtain⟨o,n,e,c,hd,_⟩:=pl
   exact⟨o,e,hd⟩
  ·refine⟨⟨o,I.iG p o hk,hc⟩,fun a e=>?_⟩
   cases e
   exact⟨o,I.iG _ o hk,hd⟩
  ·have z:∃o,s.heap.get? p=some o∧o.ExactDict:=by
    rcases hk with⟨kvs,hk⟩|⟨kvs,hk⟩
    ·obtain⟨_,_,_,_,o,_,_,e,ex,_⟩:=I.hok p _ hk
     exact⟨o,e,ex⟩
    ·obtain⟨_,_,_,_,o,_,_,e,ex,_⟩:=I.hok p _ hk
     exact⟨o,e,ex⟩
   obtain⟨o,e,ex⟩:=z
   refine⟨⟨o,e,ex.1⟩,fun a e2=>?_⟩
   cases e2
   exact⟨o,e,ex.2.1⟩
  ·obtain⟨o,_,_,_,e,ex,_⟩:=I.hok p _ hk
   refine⟨⟨o,e,ex.1⟩,fun a e2=>?_⟩
   cases e2
   exact⟨o,e,ex.2.1⟩
 |_=>exact qW ty
def tBM(K:aG)(T:String)(r:V→List V→Hp→VK→Prop)(to:TE)(t:TA):TE:=fun σ H Q=>to σ H fun x H1=>tyV K T x H1∧t σ H1 fun xs H2=>r x xs H2 Q
variable{o e:Expr}{es:List Expr}{to:TE}{t:TA}{name:Str}{apos cpos:Pos}{T id:String}{r:V→List V→Hp→VK→Prop}
theorem Es(pa:PlainAttrs T)(slot:Slot T name id)(hty:typeOf (.builtin id)=pure (.type "method_descriptor"))(hm:BR X id r)(ho:PE X o to)(ha:PA X (e::es) t)
  (hbase:uC o name X.env (eval o X.env)=eval o X.env:=by rfl)
  (hfew:((fG cpos (aW (e::es) X.env)).all (fun x=>!x.1)&&(yo cpos (yf [] X.env)).all (fun x=>x.1.isSome)
   &&decide ((e::es).length+([]:List mV).length+(if([]:List mV).isEmpty then 0 else 1)<30))=true:=by rfl)
  (hline:(apos.endLine==cpos.line)=true:=by rfl)(hs:aW (e::es) X.env=(false,eval e X.env)::aW es X.env:=by rfl)(hplain:(fG cpos (aW es X.env)).any (·.1)=false:=by rfl):
  PE X (.Call (.Attribute o name apos) (e::es) [] cpos) (tBM X.K T r to t):=by
 intro pins s σ H Q I h;refine wpAny_Call_method_late hbase hfew hline rfl (bu (ho pins s σ H _ I h) fun v s1 aL=>?_)
 obtain⟨x,H1,I1,r1,ty,q1⟩:=aL
 obtain⟨h1,h2⟩:=akL I1 r1 ty
 refine⟨T,id,pa,slot,hty,h1,h2,?_⟩
 have hA:=ha cpos pins s1 σ H1 _ I1 q1;rw[hs] at hA⊢;refine adK (by show(false||(fG cpos (aW es X.env)).any (·.1))=false;rw[hplain]<;>rfl) (adX ?_);exact bu hA fun us s2 ⟨vs,H2,I2,r2,q2⟩=>hm pins s2 σ H2 x vs v us Q I2 r1 r2 q2
end
def rR(X:Cx)(id:String)(r:V→List V→Hp→VK→Prop):Prop:=
 ∀(pins:List (aa×Obj))(s:aC)(σ:St)(H:Hp)(x:V)(xs:List V)(v:Value)(us:List Value)(Q:VK),Inv X pins σ H s→RelV x v→Vals xs us→r x xs H Q→
  aN (model X.prog X.w) X.A (call (.builtin id) (v::us)) (EP X pins σ Q) X.xe s
theorem Vals.one:∀{x:V}{us:List Value},Vals [x] us→∃u,us=[u]∧RelV x u
 |_,_,.cons r .nil=>⟨_,rfl,r⟩
theorem Vals.eraseIdx:∀{xs:List V}{us:List Value}(i:Nat),Vals xs us→Vals (xs.eraseIdx i) (us.eraseIdx i)
 |_,_,_,.nil=>.nil
 |_,_,0,.cons _ t=>t
 |_,_,i+1,.cons r t=>.cons r (Vals.eraseIdx i t)
theorem Vals.reverse{xs:List V}{us:List Value}(h:Vals xs us):Vals xs.reverse us.reverse:=by
 induction h with
 |nil=>exact .nil
 |cons r t ih=>rw[LR,LR];exact Vals.append ih (.cons r .nil)
theorem Yn{α:Type}:∀(l:List α)(i:Nat),(l.eraseIdx i).length≤l.length
 |[],_=>bN _
 |_::_,0=>vO _
 |_::r,i+1=>aeD (Yn r i)
section
variable{X:Cx}{pins:List (aa×Obj)}{σ:St}{H:Hp}{s:aC}{l b:aa}{xs ys zs:List V}
theorem Inv.T3{its its':List Value}{n:Nat}{f:Array Value→Array Value}{t':Nat}(I:Inv X pins σ H s)(hH:H l=some (.lst xs))
  (e:s.heap.get? l=some {cls:=.type "list",data:=.seq its.toArray n})(hf:f its.toArray=its'.toArray)(hv:Vals ys its')(hz:ys.length≤bR):
  Inv X pins σ (upd H l (.lst ys)) {s with heap:=s.heap.update l (lG f),toks:=t'}:=by
 have q:=PySem.IsL.update e f;rw[hf] at q;refine I.write (x:=l) (e:=l) (by rw[hH];exact trivial) (.inl rfl) (fun b' u hb hu=>(sH s.heap (lG f) (jX hb)).trans hu) ⟨_,q⟩ ?_
 exact⟨hz,its',_,hv,q⟩
theorem Inv.amz{its:List Value}{t':Nat}(I:Inv X pins σ H s)(hv:Vals ys its)(hz:ys.length≤bR):
  Inv X pins σ (upd H s.heap.objs.size (.lst ys)) {s with heap:=s.heap.push {cls:=.type "list",data:=.seq its.toArray},toks:=t'}:=
 I.laid (fun _ _ q=>cM _ q) (bN _) ⟨hz,its,0,hv,iI _ rfl⟩
theorem Inv.fresh(I:Inv X pins σ H s):H s.heap.objs.size=none:=I.hok.fresh (bN _)
theorem Inv.BJ(I:Inv X pins σ H s)(hH:H l=some (.lst xs)):xs.length≤bR∧∃(its:List Value)(n:Nat),Vals xs its∧xs.length=its.length∧s.heap.get? l=some {cls:=.type "list",data:=.seq its.toArray n}:=by
 obtain⟨z,its,n,r,e⟩:=I.hok l _ hH
 exact⟨z,its,n,r,r.length,e⟩
theorem ahM{n:Nat}(h:n≤bR):Vp n=false:=by
 unfold Vp;exact decide_eq_false (by omega)
end
section
variable{X:Cx}
def ai9:V→List V→Hp→VK→Prop:=fun x vs H Q=>∃l xs y,x=.ref l∧vs=[y]∧H l=some (.lst xs)∧xs.length<bR∧Q .non (upd H l (.lst (xs++[y])))
theorem Pa:rR X "list.append" ai9:=by
 intro pins s σ H x vs v us Q I rx rv h
 obtain⟨l,xs,y,rfl,rfl,hH,hz,q⟩:=h
 cases rx
 obtain⟨u,rfl,ru⟩:=rv.one
 obtain⟨z,its,n,r,hl,e⟩:=I.BJ hH
 refine XD VF ⟨_,e,rfl⟩ F.entry_list_append (F.args_list_append_2 _ _) (PySem.list_append l its.toArray n u (by rw[fJ];omega)) ⟨e,?_⟩
 refine⟨.non,_,I.T3 (its':=its++[u]) hH e (by simp) (r.append (.cons ru .nil)) ?_,rfl,q⟩
 rw[gf,adQ];omega
def aja:V→List V→Hp→VK→Prop:=fun x vs H Q=>∃l b xs zs,x=.ref l∧vs=[.ref b]∧H l=some (.lst xs)∧H b=some (.lst zs)∧xs.length+zs.length≤bR∧Q .non (upd H l (.lst (xs++zs)))
theorem agO:rR X "list.extend" aja:=by
 intro pins s σ H x vs v us Q I rx rv h
 obtain⟨l,b,xs,zs,rfl,rfl,hH,hB,hz,q⟩:=h
 cases rx
 obtain⟨u,rfl,ru⟩:=rv.one
 cases ru
 obtain⟨z,its,n,r,hl,e⟩:=I.BJ hH
 obtain⟨z2,its2,n2,r2,hl2,e2⟩:=I.BJ hB
 have hsz:its.toArray.size+its2.toArray.size≤bR:=by rw[fJ,fJ];omega
 have alU:¬(!its.toArray.isEmpty&&Vp (its.toArray.size+its2.toArray.size))=true:=by
  rw[ahM hsz,Bool.and_false];exact jm
 refine XD aed ⟨_,e,rfl⟩ F.entry_list_extend (F.args_list_extend_2 _ _)
  (AutoSeq1.list_extend_list_list_0 l its.toArray n b its2.toArray n2 alU (by rw[fJ];omega) (by omega)) ⟨e,e2,?_⟩
 refine⟨.non,_,I.T3 (its':=its++its2) hH e (by simp) (r.append r2) ?_,rfl,q⟩
 rw[gf];omega
def akM:V→List V→Hp→VK→Prop:=fun x vs H Q=>∃l xs i k y,x=.ref l∧vs=[.int i]∧H l=some (.lst xs)∧-(2^63)≤i∧i<2^63∧O9 i xs.length=some k∧xs[k]?=some y∧Q y (upd H l (.lst (xs.eraseIdx k)))
theorem ahN:rR X "list.pop" akM:=by
 intro pins s σ H x vs v us Q I rx rv h
 obtain⟨l,xs,i,k,y,rfl,rfl,hH,h1,h2,hk,hy,q⟩:=h
 cases rx
 obtain⟨u,rfl,ru⟩:=rv.one
 obtain⟨t,rfl⟩:=ru
 obtain⟨z,its,n,r,hl,e⟩:=I.BJ hH
 obtain⟨w,hw,rw'⟩:=r.get hy
 refine XD aeN ⟨_,e,rfl⟩ F.entry_list_pop (F.args_list_pop_2 _ _)
  (MeetsSeq.list_pop_at l its.toArray n i t k w (fitsIndex_both h1 h2) (by rw[fJ,←hl];exact hk) (by rw[←Lq];exact hw) (by rw[fJ];omega)) ⟨e,?_⟩
 refine⟨y,_,I.T3 (its':=its.eraseIdx k) hH e ?_ (r.eraseIdx k) ?_,rw',q⟩
 ·show its.toArray.eraseIdxIfInBounds k=(its.eraseIdx k).toArray;rw[List.eraseIdxIfInBounds_toArray]
 ·have:=Yn xs k;omega
def acf:R2:=fun x y H Q=>∃l b xs zs,x=.ref l∧y=.ref b∧H l=some (.lst xs)∧H b=some (.lst zs)∧xs.length+zs.length≤bR∧∀p,H p=none→Q (.ref p) (upd H p (.lst (xs++zs)))
theorem akN:cP X (pB .Add) acf:=by
 intro pins s σ H x y v u Q I rx ry h
 obtain⟨l,b,xs,zs,rfl,rfl,hH,hB,hz,q⟩:=h
 cases rx;cases ry
 obtain⟨z,its,n,r,hl,e⟩:=I.BJ hH
 obtain⟨z2,its2,n2,r2,hl2,e2⟩:=I.BJ hB
 refine PySem.P.add_list e e2 ?_ (by rw[fJ,fJ];omega);have ea:its.toArray++its2.toArray=(its++its2).toArray:=by simp
 rw[ea]
 exact⟨.ref _,_,I.amz (t':=s.toks) (r.append r2) (by rw[gf];omega),rfl,q _ I.fresh⟩
end
section
variable{prog:bh}{w:aZ}{A:cI}{E:Value→aC→Prop}{s:aC}
set_option maxRecDepth 100000 in
end
section
variable{X:Cx}
end
section
variable{κ:Type}[DecidableEq κ]
def mX(kvs:List (κ×V))(k:κ):Option V:=(kvs.find? fun kv=>decide (kv.1=k)).map (·.2)
def putK(kvs:List (κ×V))(k:κ)(v:V):List (κ×V):=
 if(kvs.any fun kv=>decide (kv.1=k))=true then kvs.map (fun kv=>if kv.1=k then(kv.1,v) else kv) else kvs++[(k,v)]
def abO(kvs:List (κ×V))(k:κ):List (κ×V):=kvs.filter fun kv=>decide (kv.1≠k)
theorem Jf{p:κ×V}{r:List (κ×V)}{k:κ}(e:p.1=k):mX (p::r) k=some p.2:=by simp[mX,oZ,e]
theorem Jg{p:κ×V}{r:List (κ×V)}{k:κ}(e:¬p.1=k):mX (p::r) k=mX r k:=by simp[mX,oZ,e]
theorem Za(k:κ):∀kvs:List (κ×V),(kvs.any fun kv=>decide (kv.1=k))=(mX kvs k).isSome
 |[]=>rfl
 |p::r=>by
  rw[Ht];by_cases e:p.1=k
  ·simp only[Jf e,decide_eq_true e,Bool.true_or,VG]
  ·rw[Jg e,decide_eq_false e,Bool.false_or];exact Za k r
theorem Ib(kvs:List (κ×V))(k:κ)(v:V):(putK kvs k v).length≤kvs.length+1:=by
 unfold putK;split
 ·rw[aX];omega
 ·rw[gf,dH,Cq];omega
theorem pP.Dd{o:Option V}{u:Option Value}(r:pP o u):o.isSome=u.isSome:=by
 cases o with
 |none=>cases u with
  |none=>rfl
  |some _=>exact(show False from r).elim
 |some _=>cases u with
  |none=>exact(show False from r).elim
  |some _=>rfl
theorem pP.getD{o:Option V}{u:Option Value}{d:V}{d':Value}(r:pP o u)(rd:RelV d d'):RelV (o.getD d) (u.getD d'):=by
 cases o with
 |none=>cases u with
  |none=>exact rd
  |some _=>exact(show False from r).elim
 |some _=>cases u with
  |none=>exact(show False from r).elim
  |some _=>exact r
theorem KV.val{kvs:List (κ×V)}{vs:List (κ×Value)}(r:KV kvs vs)(k:κ):pP (mX kvs k) (Ao vs k):=by
 unfold KV at r;induction r with
 |nil=>exact lF
 |@cons p q ps qs h t ih=>
  obtain⟨h1,h2⟩:=h
  by_cases e:p.1=k
  ·have e':q.1=k:=h1.symm.trans e;have b:Ao (q::qs) k=some q.2:=by simp[Ao,oZ,e']
   rw[Jf e,b];exact h2
  ·have e':¬q.1=k:=fun z=>e (h1.trans z)
   have b:Ao (q::qs) k=Ao qs k:=by simp[Ao,oZ,e']
   rw[Jg e,b];exact ih
theorem KV.any{kvs:List (κ×V)}{vs:List (κ×Value)}(r:KV kvs vs)(k:κ):(kvs.any fun kv=>decide (kv.1=k))=vs.any fun kv=>decide (kv.1=k):=by
 unfold KV at r;induction r with
 |nil=>rfl
 |cons h t ih=>rw[Ht,Ht,ih,h.1]
theorem KV.repl{kvs:List (κ×V)}{vs:List (κ×Value)}(r:KV kvs vs)(k:κ){y:V}{u:Value}(ry:RelV y u):
  KV (kvs.map fun kv=>if kv.1=k then(kv.1,y) else kv) (vs.map fun kv=>if kv.1=k then(kv.1,u) else kv):=by
 unfold KV at r⊢;induction r with
 |nil=>exact .nil
 |@cons p q ps qs h t ih=>
  rw[cJ,cJ];refine .cons ?_ ih
  obtain⟨h1,h2⟩:=h
  by_cases e:p.1=k
  ·rw[if_pos e,if_pos (h1.symm.trans e)];exact⟨h1,ry⟩
  ·rw[if_neg e,if_neg (fun z=>e (h1.trans z))];exact⟨h1,h2⟩
theorem KV.put{kvs:List (κ×V)}{vs:List (κ×Value)}(r:KV kvs vs)(k:κ){y:V}{u:Value}(ry:RelV y u):KV (putK kvs k y) (stored vs k u):=by
 unfold putK stored;rw[r.any k];by_cases e:(vs.any fun kv=>decide (kv.1=k))=true
 ·rw[if_pos e,if_pos e];exact r.repl k ry
 ·rw[if_neg e,if_neg e];exact Paired.snoc r ⟨rfl,ry⟩
theorem KV.drop{kvs:List (κ×V)}{vs:List (κ×Value)}(r:KV kvs vs)(k:κ):KV (abO kvs k) (without vs k):=by
 unfold KV at r⊢;unfold abO without;induction r with
 |nil=>exact .nil
 |@cons p q ps qs h t ih=>
  obtain⟨h1,h2⟩:=h
  rw[Mi,Mi];by_cases e:p.1=k
  ·have a:¬decide (p.1≠k)=true:=by simp[e]
   have b:¬decide (q.1≠k)=true:=by simp[h1.symm.trans e]
   rw[if_neg a,if_neg b];exact ih
  ·have e':¬q.1=k:=fun z=>e (h1.trans z)
   have a:decide (p.1≠k)=true:=by simp[e]
   have b:decide (q.1≠k)=true:=by simp[e']
   rw[if_pos a,if_pos b];exact .cons ⟨h1,h2⟩ ih
theorem KV.length{kvs:List (κ×V)}{vs:List (κ×Value)}(r:KV kvs vs):kvs.length=vs.length:=Paired.length r
end
theorem wJ{P:bh}{w:aZ}{k:Key}{u:Value}(r:RelV (kV k) u):(jh P w).is k u=true:=by
 cases k with
 |inl i=>obtain⟨t,e⟩:=(show ∃t,u=CZ i t from r);subst e;exact afK P w i t
 |inr x=>obtain⟨t,e⟩:=(show ∃t,u=Iz x t from r);subst e;exact afL P w x t
theorem Yo{P:bh}{w:aZ}:∀{ks:List Key}{us:List Value},Vals (ks.map kV) us→ItemsAre (jh P w) ks us
 |[],_,r=>by rw[jo] at r;cases r;exact .nil
 |k::ks,_,r=>by
  rw[cJ] at r;cases r with
  |cons h t=>exact .cons (wJ h) (Yo t)
abbrev KT(H:Hp):List (List Key×V)→List (List Key×aa×Value)→Prop:=Paired fun p q=>p.1=q.1∧H q.2.1=some (.tup (p.1.map kV))∧RelV p.2 q.2.2
theorem KT.val{H:Hp}{kvs:List (List Key×V)}{xs:List (List Key×aa×Value)}(r:KT H kvs xs)(k:List Key):pP (mX kvs k) ((wK xs k).map (·.2)):=by
 induction r with
 |nil=>exact lF
 |@cons p q ps qs h t ih=>
  obtain⟨h1,_,h2⟩:=h
  by_cases e:p.1=k
  ·have e':q.1=k:=h1.symm.trans e;have b:wK (q::qs) k=some q.2:=by simp[wK,oZ,e']
   rw[Jf e,b];exact h2
  ·have e':¬q.1=k:=fun z=>e (h1.trans z)
   have b:wK (q::qs) k=wK qs k:=by simp[wK,oZ,e']
   rw[Jg e,b];exact ih
theorem KT.repl{H:Hp}{kvs:List (List Key×V)}{xs:List (List Key×aa×Value)}(r:KT H kvs xs)(k:List Key){y:V}{u:Value}(ry:RelV y u):
  KT H (kvs.map fun kv=>if kv.1=k then(kv.1,y) else kv) (xs.map (putAt k u)):=by
 induction r with
 |nil=>exact .nil
 |@cons p q ps qs h t ih=>
  rw[cJ,cJ];refine .cons ?_ ih
  obtain⟨h1,h2,h3⟩:=h
  unfold putAt;by_cases e:p.1=k
  ·rw[if_pos e,if_pos (h1.symm.trans e)];exact⟨h1,h2,ry⟩
  ·rw[if_neg e,if_neg (fun z=>e (h1.trans z))];exact⟨h1,h2,h3⟩
theorem KT.put{H:Hp}{kvs:List (List Key×V)}{xs:List (List Key×aa×Value)}(r:KT H kvs xs)(k:List Key){b:aa}{y:V}{u:Value}(hb:H b=some (.tup (k.map kV)))(ry:RelV y u):
  KT H (putK kvs k y) (storedH xs k b u):=by
 have e:(kvs.any fun kv=>decide (kv.1=k))=(wK xs k).isSome:=by
  rw[Za,(r.val k).Dd,VP]
 unfold putK storedH;rw[e];by_cases q:(wK xs k).isSome=true
 ·rw[if_pos q,if_pos q];exact r.repl k ry
 ·rw[if_neg q,if_neg q];exact Paired.snoc r ⟨rfl,hb,ry⟩
theorem KT.keeps{H H':Hp}{kvs:List (List Key×V)}{xs:List (List Key×aa×Value)}(r:KT H kvs xs)(ht:∀b ys,H b=some (.tup ys)→H' b=some (.tup ys)):KT H' kvs xs:=
 Paired.Tv r fun _ _ z=>⟨z.1,ht _ _ z.2.1,z.2.2⟩
section
variable{P:bh}{w:aZ}{H:Hp}{h:aV}{a:aa}
theorem abP{u:HO}(ok:gP P w H h)(e:Rd H a u):fB P w H h a u:=e.ok ok
theorem wL{kvs:List (Key×V)}(ok:gP P w H h)(e:Rd H a (.dK kvs)):kvs.length≤bR∧(a==tD)=false∧∃vs,KV kvs vs∧h.DictOf (jh P w) a vs:=
 show fB P w H h a (.dK kvs) from abP ok e
theorem J7{kvs:List (Key×V)}(ok:gP P w H h)(e:H a=some (.dK kvs)):kvs.length≤bR∧(a==tD)=false∧∃vs,KV kvs vs∧h.DictOf (jh P w) a vs:=wL ok (.inl e)
theorem Az{ks:List Key}(ok:gP P w H h)(e:H a=some (.tup (ks.map kV))):(Dc (jh P w)).is h ks a:=by
 obtain⟨_,its,r,o,h1,h2,n,h3⟩:=(show fB P w H h a (.tup (ks.map kV)) from ok a _ e)
 exact⟨o,its.toArray,n,h1,h2,h3,by simpa using Yo r⟩
theorem yL{kvs:List (List Key×V)}(ok:gP P w H h)(e:Rd H a (.dT kvs)):kvs.length≤bR∧(a==tD)=false∧
  ∃xs,KT H kvs xs∧h.DictOfH (Dc (jh P w)) a xs:=by
 obtain⟨z,y,xs,r,o,es,ep,h1,h2,h3,h4,h5⟩:=(show fB P w H h a (.dT kvs) from abP ok e)
 refine⟨z,y,xs,r,o,es,ep,h1,h2,h3,h4,fun x hx=>?_,h5⟩
 have all:∀{l:List (List Key×V)}{m:List (List Key×aa×Value)},KT H l m→∀x∈m,(Dc (jh P w)).is h x.1 x.2.1:=by
  intro l m q;induction q with
  |nil=>intro x hx;exact nomatch hx
  |@cons p q ps qs hq t ih=>
   intro x hx;rcases bI.mp hx with e|hx
   ·subst e;exact Az ok (by rw[←hq.1];exact hq.2.1)
   ·exact ih x hx
 exact all r x hx
theorem alV{kvs:List (List Key×V)}(ok:gP P w H h)(e:H a=some (.dT kvs)):kvs.length≤bR∧(a==tD)=false∧
  ∃xs,KT H kvs xs∧h.DictOfH (Dc (jh P w)) a xs:=yL ok (.inl e)
end
def lY(H:Hp)(a:aa)(y:V)(r:Option V):Prop:=
 (∃kvs k,Rd H a (.dK kvs)∧y=kV k∧r=mX kvs k)∨∃kvs k b,Rd H a (.dT kvs)∧y=.ref b∧H b=some (.tup (k.map kV))∧r=mX kvs k
def rM(H:Hp)(a:aa)(y v:V)(H':Hp):Prop:=
 (∃kvs k,H a=some (.dK kvs)∧y=kV k∧kvs.length<bR∧H'=upd H a (.dK (putK kvs k v)))∨
 ∃kvs k b,H a=some (.dT kvs)∧y=.ref b∧H b=some (.tup (k.map kV))∧kvs.length<bR∧H'=upd H a (.dT (putK kvs k v))
theorem lY.k{H:Hp}{a:aa}{kvs:List (Key×V)}{k:Key}(e:H a=some (.dK kvs)):lY H a (kV k) (mX kvs k):=.inl ⟨kvs,k,.inl e,rfl,rfl⟩
theorem lY.t{H:Hp}{a b:aa}{kvs:List (List Key×V)}{k:List Key}(e:H a=some (.dT kvs))(eb:H b=some (.tup (k.map kV))):lY H a (.ref b) (mX kvs k):=.inr ⟨kvs,k,b,.inl e,rfl,eb,rfl⟩
theorem rM.k{H:Hp}{a:aa}{kvs:List (Key×V)}{k:Key}{v:V}(e:H a=some (.dK kvs))(hl:kvs.length<bR):rM H a (kV k) v (upd H a (.dK (putK kvs k v))):=.inl ⟨kvs,k,e,rfl,hl,rfl⟩
theorem rM.t{H:Hp}{a b:aa}{kvs:List (List Key×V)}{k:List Key}{v:V}(e:H a=some (.dT kvs))(eb:H b=some (.tup (k.map kV)))(hl:kvs.length<bR):
  rM H a (.ref b) v (upd H a (.dT (putK kvs k v))):=.inr ⟨kvs,k,b,e,rfl,eb,hl,rfl⟩
section
variable{X:Cx}{pins:List (aa×Obj)}{σ:St}{H:Hp}{s:aC}{a:aa}{y v:V}{u r:Value}{o:Option V}{A:cI}{E:Value→aC→Prop}
theorem Inv.big(I:Inv X pins σ H s):tD<s.heap.objs.size:=by
 have h:gF<s.heap.objs.size:=(I.mod.glob.keeps I.bk).lt;exact HJ (by decide) h
theorem agP{Q:Value→aC→Prop}(hu:A.units+1<fP)(I:Inv X pins σ H s)(g:lY H a y (some v))(ry:RelV y u)(h:∀w' s',Inv X pins σ H s'→RelV v w'→Q w' s'):
  aN (model X.prog X.w) A (vX (.ref a) u) Q E s:=by
 rcases g with⟨kvs,k,e,ey,l⟩|⟨kvs,k,b,e,ey,eb,l⟩
 ·subst ey
  obtain⟨z,hd,vs,rel,dd⟩:=wL I.hok e
  obtain⟨w',hw,rw'⟩:=pP.some_of (v:=v) (o:=Ao vs k) (by rw[l];exact rel.val k)
  exact wpAny_getItem_of (wJ ry) dd.mapOf hw (h w' _ (I.tok _) rw')
 ·subst ey
  cases(show u=eO b from ry)
  obtain⟨z,hd,xs,rel,dd⟩:=yL I.hok e
  obtain⟨w',hw,rw'⟩:=pP.some_of (v:=v) (o:=(wK xs k).map (·.2)) (by rw[l];exact rel.val k)
  obtain⟨p,hp,hp2⟩:=GP.mp hw
  refine wpAny_getItem_heap (G4 hu) (Az I.hok eb) dd hp ?_;rw[hp2];exact h w' _ (I.tok _) rw'
theorem acg{Q:Value→aC→Prop}(hu:A.units+1<fP)(I:Inv X pins σ H s)(g:lY H a y o)(ry:RelV y u)(h:∀s',Inv X pins σ H s'→Q (.bool o.isSome) s'):
  aN (model X.prog X.w) A (fj .In u (.ref a)) Q E s:=by
 rcases g with⟨kvs,k,e,ey,l⟩|⟨kvs,k,b,e,ey,eb,l⟩
 ·subst ey
  obtain⟨z,hd,vs,rel,dd⟩:=wL I.hok e
  refine wpAny_in_of (wJ ry) hd dd.mapOf ?_;rw[←(rel.val k).Dd,←l];exact h _ (I.tok _)
 ·subst ey
  cases(show u=eO b from ry)
  obtain⟨z,hd,xs,rel,dd⟩:=yL I.hok e
  refine wpAny_in_heap (G4 hu) (Az I.hok eb) hd dd ?_;have q:=(rel.val k).Dd;rw[VP] at q;rw[←q,←l];exact h _ (I.tok _)
theorem aao{Q:Value→aC→Prop}(hu:A.units+1<fP)(I:Inv X pins σ H s)(g:lY H a y o)(ry:RelV y u)(h:∀s',Inv X pins σ H s'→Q (.bool (!o.isSome)) s'):
  aN (model X.prog X.w) A (fj .NotIn u (.ref a)) Q E s:=by
 rcases g with⟨kvs,k,e,ey,l⟩|⟨kvs,k,b,e,ey,eb,l⟩
 ·subst ey
  obtain⟨z,hd,vs,rel,dd⟩:=wL I.hok e
  refine wpAny_notIn_of (wJ ry) hd dd.mapOf ?_;rw[←(rel.val k).Dd,←l];exact h _ (I.tok _)
 ·subst ey
  cases(show u=eO b from ry)
  obtain⟨z,hd,xs,rel,dd⟩:=yL I.hok e
  refine wpAny_notIn_heap (G4 hu) (Az I.hok eb) hd dd ?_;have q:=(rel.val k).Dd;rw[VP] at q;rw[←q,←l];exact h _ (I.tok _)
theorem yt{h':aV}{t':Nat}{ob:HO}(I:Inv X pins σ H s)(mu:FZ (H a))(hs:z8 a s.heap h')(he:∃q,h'.get? a=some q)(new:fB X.prog X.w (upd H a ob) h' a ob):
  Inv X pins σ (upd H a ob) {s with heap:=h',toks:=t'}:=
 I.write (x:=a) (e:=a) mu (.inl rfl) (fun b q hb z=>(hs.2 b hb).trans z) he new
theorem JS{P:bh}{w:aZ}{H':Hp}{h':aV}{kvs:List (Key×V)}{vs:List (Key×Value)}(z:kvs.length≤bR)(hd:(a==tD)=false)(rel:KV kvs vs)(dd:h'.DictOf (jh P w) a vs):
  fB P w H' h' a (.dK kvs):=⟨z,hd,vs,rel,dd⟩
theorem Yp{H':Hp}{Q:Unit→aC→Prop}(hu:A.units+1<fP)(I:Inv X pins σ H s)(g:rM H a y v H')(ry:RelV y u)(rv:RelV v r)(h:∀s',Inv X pins σ H' s'→Q () s'):
  aN (model X.prog X.w) A (setItem (.ref a) u r) Q E s:=by
 rcases g with⟨kvs,k,e,ey,l,eH⟩|⟨kvs,k,b,e,ey,eb,l,eH⟩
 ·subst ey eH
  obtain⟨z,hd,vs,rel,dd⟩:=J7 I.hok e
  have hz:vs.length≤bR:=by rw[←rel.length];exact z
  have hl:(putK kvs k v).length≤bR:=by have:=Ib kvs k v;omega
  refine wpAny_setItem_pairs (hsz:=hz) (wJ ry) dd fun h' uq hs=>h _ ?_
  have he:∃q,h'.get? a=some q:=let ⟨q,_,_,hq,_⟩:=uq;⟨q,hq⟩
  exact yt I (by rw[e];exact lF) hs he (JS hl hd (rel.put k rv) uq)
 ·subst ey eH
  cases(show u=eO b from ry)
  obtain⟨z,hd,xs,rel,dd⟩:=alV I.hok e
  have hz:xs.length≤bR:=by rw[←Paired.length rel];exact z
  have hl:(putK kvs k v).length≤bR:=by have:=Ib kvs k v;omega
  refine wpAny_setItem_heap (hsz:=hz) (G4 hu) (Az I.hok eb) dd fun h' uq hs=>h _ ?_
  obtain⟨q,es,ep,hq,h2,h3,h4,_,h5⟩:=uq
  refine yt I (by rw[e];exact lF) hs ⟨q,hq⟩ ⟨hl,hd,_,(rel.put k eb rv).keeps fun c ys ec=>?_,q,es,ep,hq,h2,h3,h4,h5⟩;rw[cR (SJ ec e (fun z=>nomatch z))];exact ec
end
section
variable{X:Cx}{pins:List (aa×Obj)}{σ:St}{H:Hp}{s:aC}{a:aa}{kvs:List (Key×V)}{k:Key}{u:Value}{A:cI}{E:Value→aC→Prop}
theorem alW{Q:Value→aC→Prop}(I:Inv X pins σ H s)(e:Rd H a (.dK kvs))(h:∀t s',Inv X pins σ H s'→Q (.int kvs.length t) s'):aN (model X.prog X.w) A (call (.builtin "len") [.ref a]) Q E s:=by
 obtain⟨z,hd,vs,rel,dd⟩:=wL I.hok e
 refine call_len_dict hd dd (by rw[←rel.length];rw[jq] at z;omega) ?_;rw[←rel.length];exact h _ _ (I.tok _)
end
theorem afM{X:Cx}{pins:List (aa×Obj)}{σ:St}{H:Hp}{s:aC}{a:aa}{y:V}{o:Option V}(I:Inv X pins σ H s)(g:lY H a y o):s.TypeIs (.ref a) "dict":=by
 rcases g with⟨kvs,k,e,_,_⟩|⟨kvs,k,b,e,_,_,_⟩
 ·obtain⟨_,_,vs,_,dd⟩:=wL I.hok e
  exact dd.typeIs
 ·obtain⟨_,_,xs,_,dd⟩:=yL I.hok e
  exact dd.typeIs
section
variable{X:Cx}{o i e value:Expr}{pos pos' tpos:Pos}{td ty tv:TE}
end
theorem P0{P:bh}{w:aZ}{H:Hp}(h:aV)(hb:tD<h.objs.size):fB P w H (h.push {cls:=.type "dict",data:=.dict #[]}) h.objs.size (.dK []):=
 ⟨lD _,beq_eq_false_iff_ne.mpr (jX (dY hb)),[],.nil,Heap.DictOf.new h⟩
def akO:TE:=fun _ H Q=>∀p,H p=none→Q (.ref p) (upd H p (.dK []))
section
variable{X:Cx}{pos:Pos}
theorem ahO:PE X (.Dict [] [] pos) akO:=fun pins s σ H Q I h=>
 wpAny_Dict_empty ⟨.ref s.heap.objs.size,_,I.laid (a:=s.heap.objs.size) (o:=.dK []) (t':=s.toks) (fun _ _ q=>cM _ q) (bN _) (P0 s.heap I.big),rfl,h _ (I.hok.fresh (bN _))⟩
end
def RN:List (TE×TE)→St→Hp→(List (V×V)→Hp→Prop)→Prop
 |[],_,H,Q=>Q [] H
 |(tk,tv)::r,σ,H,Q=>tk σ H fun x H1=>tv σ H1 fun y H2=>RN r σ H2 fun ps H3=>Q ((x,y)::ps) H3
abbrev VV:List (V×V)→List (Value×Value)→Prop:=Paired fun p q=>RelV p.1 q.1∧RelV p.2 q.2
def KR(X:Cx)(pos:Pos)(keys:List (Option Expr))(values:List Expr)(vm:List (TE×TE)):Prop:=
 ∀(pins:List (aa×Obj))(s:aC)(σ:St)(H:Hp)(Q:List (V×V)→Hp→Prop),Inv X pins σ H s→RN vm σ H Q→
  aN (model X.prog X.w) X.A (evalPairs (pairTrees keys values X.env pos)) (fun vs s'=>∃ps H',Inv X pins σ H' s'∧VV ps vs∧Q ps H') X.xe s
theorem ajb{X:Cx}{pos:Pos}:KR X pos [] [] []:=fun pins s σ H Q I h=>pairTrees_nil_walk ⟨[],H,I,.nil,h⟩
theorem ahP{X:Cx}{pos:Pos}{k v:Expr}{ks:List (Option Expr)}{vs:List Expr}{tk tv:TE}{vm:List (TE×TE)}(hk:PE X k tk)(hv:PE X v tv)(hr:KR X pos ks vs vm):
  KR X pos (some k::ks) (v::vs) ((tk,tv)::vm):=fun pins s σ H Q I h=>
 pairTrees_cons_walk (bu (hk pins s σ H _ I h) fun u s1 ⟨x,H1,I1,rx,q1⟩=>bu (hv pins s1 σ H1 _ I1 q1) fun w2 s2 ⟨y,H2,I2,ry,q2⟩=>
  bu (hr pins s2 σ H2 _ I2 q2) fun ws s3 ⟨ps,H3,I3,rel,q3⟩=>⟨(x,y)::ps,H3,I3,.cons ⟨rx,ry⟩ rel,q3⟩)
def DW(kvs more:List (Key×V)):List (Key×V):=more.foldl (fun acc kv=>putK acc kv.1 kv.2) kvs
theorem KV.merge:∀{more:List (Key×V)}{rs:List (Key×Value)}{kvs:List (Key×V)}{vs:List (Key×Value)},KV more rs→KV kvs vs→KV (DW kvs more) (merged vs rs):=by
 intro more rs kvs vs r;unfold KV at r;induction r generalizing kvs vs with
 |nil=>intro q;exact q
 |@cons p q ps qs h t ih=>
  intro r0;have e:KV (putK kvs p.1 p.2) (stored vs q.1 q.2):=by
   have:=r0.put p.1 h.2;rw[←h.1];exact this
  exact ih e
theorem WW:∀(more kvs:List (Key×V)),(DW kvs more).length≤kvs.length+more.length
 |[],kvs=>by show kvs.length≤kvs.length+0;omega
 |p::r,kvs=>by
  have h1:=WW r (putK kvs p.1 p.2);have h2:=Ib kvs p.1 p.2
  show(DW (putK kvs p.1 p.2) r).length≤_
  rw[dH];omega
theorem XF{P:bh}{w:aZ}:∀{kvs:List (Key×V)}{ws:List (Value×Value)},VV (kvs.map fun kv=>(kV kv.1,kv.2)) ws→∃rs,Carries (jh P w) ws rs∧KV kvs rs
 |[],_,r=>by rw[jo] at r;cases r;exact⟨[],lF,.nil⟩
 |p::kvs,_,r=>by
  rw[cJ] at r;cases r with
  |@cons a b as bs h t=>
   obtain⟨rs,c,q⟩:=XF (P:=P) (w:=w) t
   obtain⟨b1,b2⟩:=b
   exact⟨(p.1,b2)::rs,⟨wJ h.1,rfl,c⟩,.cons ⟨rfl,h.2⟩ q⟩
def alX(vm:List (TE×TE)):TE:=fun σ H Q=>∀p,H p=none→RN vm σ (upd H p (.dK [])) fun ps H2=>H2 p=some (.dK [])∧∃kvs:List (Key×V),ps=kvs.map (fun kv=>(kV kv.1,kv.2))∧kvs.length≤15∧Q (.ref p) (upd H2 p (.dK (DW [] kvs)))
theorem ajc{X:Cx}{pos:Pos}{keys:List (Option Expr)}{values:List Expr}{vm:List (TE×TE)}(h:KR X pos keys values vm)(hall:keys.all (·.isSome)=true)(hl:keys.length=values.length)(h0:keys≠[])
  (h15:keys.length≤15):PE X (.Dict keys values pos) (alX vm):=by
 intro pins s σ H Q I q;have hn:=I.hok.fresh (bN s.heap.objs.size);have I1:=I.laid (a:=s.heap.objs.size) (o:=.dK []) (h':=s.heap.push {cls:=.type "dict",data:=.dict #[]}) (t':=s.toks) (fun _ _ q=>cM _ q) (bN _) (P0 s.heap I.big);refine wpAny_Dict_walk (knd:=jh X.prog X.w) hall hl h0 h15 (bu (h pins _ σ _ _ I1 (q _ hn)) fun ws s2 aL=>?_)
 obtain⟨ps,H2,I2,rel,e,kvs,ep,lk,q2⟩:=aL
 subst ep
 obtain⟨rs,c,rk⟩:=XF (P:=X.prog) (w:=X.w) rel
 obtain⟨z,hd,BV,r0,dd⟩:=J7 I2.hok e
 cases r0
 refine⟨rs,c,dd,fun h' uq hs=>⟨.ref s.heap.objs.size,_,?_,rfl,q2⟩⟩
 have hz:(DW [] kvs).length≤bR:=by
  have h1:=WW kvs [];rw[Cq] at h1;rw[jq];omega
 have he:∃q,h'.get? s.heap.objs.size=some q:=let ⟨q,_,_,hq,_⟩:=uq;⟨q,hq⟩
 exact yt I2 (by rw[e];exact lF) hs he (JS hz hd (rk.merge .nil) uq)
structure M1(X:Cx)(o:Expr)(m:Str)(apos:Pos)(e:Expr)(cpos:Pos):Prop where
 base:uC o m X.env (eval o X.env)=eval o X.env
 few:((fG cpos (aW [e] X.env)).all (fun x=>!x.1)&&(yo cpos (yf [] X.env)).all (fun x=>x.1.isSome)
  &&decide (([e]:List Expr).length+([]:List mV).length+(if([]:List mV).isEmpty then 0 else 1)<30))=true
 line:(apos.endLine==cpos.line)=true
 trees:fG cpos (aW [e] X.env)=[(false,eval e X.env)]
structure M2(X:Cx)(o:Expr)(m:Str)(apos:Pos)(e f:Expr)(cpos:Pos):Prop where
 base:uC o m X.env (eval o X.env)=eval o X.env
 few:((fG cpos (aW [e,f] X.env)).all (fun x=>!x.1)&&(yo cpos (yf [] X.env)).all (fun x=>x.1.isSome)
  &&decide (([e,f]:List Expr).length+([]:List mV).length+(if([]:List mV).isEmpty then 0 else 1)<30))=true
 line:(apos.endLine==cpos.line)=true
 trees:fG cpos (aW [e,f] X.env)=[(false,eval e X.env),(false,eval f X.env)]
def IsD(H:Hp)(a:aa):Prop:=(∃kvs,Rd H a (.dK kvs))∨∃kvs,Rd H a (.dT kvs)
theorem akP{X:Cx}{pins:List (aa×Obj)}{σ:St}{H:Hp}{s:aC}{a:aa}(I:Inv X pins σ H s)(d:IsD H a):
  s.TypeIs (.ref a) "dict"∧(∀b,eO a=.ref b→∃ob,s.heap.get? b=some ob∧ob.dict=none)∧(a==tD)=false:=by
 rcases d with⟨kvs,e⟩|⟨kvs,e⟩
 ·obtain⟨_,hd,vs,_,dd⟩:=wL I.hok e
  refine⟨dd.typeIs,fun b q=>?_,hd⟩
  cases q
  obtain⟨ob,_,_,h1,h2,_⟩:=dd
  exact⟨ob,h1,h2.2.1⟩
 ·obtain⟨_,hd,xs,_,dd⟩:=yL I.hok e
  refine⟨dd.typeIs,fun b q=>?_,hd⟩
  cases q
  obtain⟨ob,_,_,h1,h2,_⟩:=dd
  exact⟨ob,h1,h2.2.1⟩
section
variable{X:Cx}{pins:List (aa×Obj)}{σ:St}{H:Hp}{s:aC}{a:aa}{y d:V}{u r:Value}{o:Option V}{A:cI}{E:Value→aC→Prop}
theorem abf{Q:Value→aC→Prop}(hu:A.units+1<fP)(I:Inv X pins σ H s)(g:lY H a y o)(ry:RelV y u)(rd:RelV d r)(h:∀w' s',Inv X pins σ H s'→RelV (o.getD d) w'→Q w' s'):
  aN (model X.prog X.w) A (call (.builtin "dict.get") [.ref a,u,r]) Q E s:=by
 rcases g with⟨kvs,k,e,ey,l⟩|⟨kvs,k,b,e,ey,eb,l⟩
 ·subst ey
  obtain⟨z,hd,vs,rel,dd⟩:=wL I.hok e
  refine call_meetsIn Vv dd.typeIs adL (adE _ _ _) (meets_dict_get_default (jh X.prog X.w) a (wJ ry) hd r) ⟨_,dd.mapOf,h _ _ (I.tok _) ?_⟩;rw[l]
  exact(rel.val k).getD rd
 ·subst ey
  cases(show u=eO b from ry)
  obtain⟨z,hd,xs,rel,dd⟩:=yL I.hok e
  refine call_meetsIn Vv dd.typeIs adL (adE _ _ _) (meetsH_dict_get_default (Dc (jh X.prog X.w)) a b hd r) ⟨G4 hu,k,xs,Az I.hok eb,dd,h _ _ (I.tok _) ?_⟩;rw[l]
  exact(rel.val k).getD rd
end
section
variable{X:Cx}{o e f:Expr}{apos cpos:Pos}{td ty tx:TE}
end
section
variable{X:Cx}{pins:List (aa×Obj)}{σ:St}{H:Hp}{s:aC}{a:aa}{kvs:List (Key×V)}{A:cI}{E:Value→aC→Prop}
end
section
variable{X:Cx}{pins:List (aa×Obj)}{σ:St}{H:Hp}{s:aC}{a:aa}{y:V}{u:Value}{A:cI}{E:Value→aC→Prop}
end
end L2
namespace Att
open PySem PySem.W PySem.Calls PyProof.Rows
theorem aeO{P:Params}{h:aV}:∀(ns:List Int)(vs:List Value),WellAll P h vs (ns.map WData.int)→IntsAre vs ns:=by
 intro ns;induction ns with
 |nil=>
  intro vs w;rw[jo] at w;cases w;exact .nil
 |cons n ns ih=>
  intro vs w;rw[cJ] at w;cases w with
  |cons a b=>
   cases a;exact .cons _ _ (ih _ b)
theorem agQ{l:OpenLaw}{n:Nat}(hn:l.most=some n){P:Params}{h:aV}{args:List WData}{vals:List Value}
  (hpre:l.row.toRowW.claim.pre args=true)(hwl:WellAll P h vals args):
  ∃a vs ns,vals=[eO a]∧args=[WData.list (ns.map WData.int)]∧h.get? a=some {cls:=.type "list",data:=.seq vs.toArray}∧IntsAre vs ns∧ns.length≤n:=by
 have hsh:WShape.hasAll [] args [.list .int]=true:=(pre_splitW hpre).1;have hc:l.pre.holds [] {args:=args}=true:=(pre_splitW hpre).2
 obtain⟨d,r,rfl,h1,h2⟩:=hasAllW_cons hsh
 obtain rfl:=hasAllW_nil h2
 obtain⟨xs,rfl,h3⟩:=hasW_list h1
 obtain⟨ns,rfl⟩:=items_int h3
 have hlen:ns.length≤n:=by
  unfold OpenLaw.pre at hc;have h4:(WTm.not (.lt (.lit (.int (n:Int))) (.len (.arg 0)))).holds [] {args:=[.list (ns.map .int)]}=true:=by
   have h4:=(holds_andW hc).1;rw[hn] at h4;exact h4
  have h5:=condW_of h4 (w_not (w_lt w_lit (w_len_list (w_arg rfl))));rw[aX] at h5;refine Nat.le_of_not_lt fun q=>?_
  have q':(n:Int)<((ns.length:Nat):Int):=by omega
  first
   |(rw[decide_eq_true q'] at h5;exact absurd h5 (by decide))
   |(simp at h5;omega)
 cases hwl with
 |cons w1 w2=>
  cases w2;cases w1 with
  |list ho hall=>exact⟨_,_,ns,rfl,rfl,ho,aeO ns _ hall,hlen⟩
theorem agR(l:OpenLaw)(args:List WData):l.row.toRowW.claim.post args (.bool true) args=true:=
 postW_of (r:=l.row.toRowW) (X:=(true==true))
  (show WShape.has [] (.bool true) .bool=true by first|rfl|decide|simp[WShape.has,WShape.arms,WShape.armsAll])
  (show(WTm.eq .res (.lit (.bool true))).value [] {args:=args,res:=some (.bool true),after:=args}=some (.bool (true==true)) from w_eq_bool (w_res rfl) w_lit) rfl
theorem afN{l:OpenLaw}{n:Nat}{q:bh}{loose:List Str}{XP:(Str→Option Value)→aV→Prop}{YP:aZ→aV→Prop}{d:DefRec}
  (hn:l.most=some n)(hdf:d.params.defaults=[])
  (call:∀(w:aZ)(s₀ s₁:aC)(mg mb:Str→Option Value)(fa:aa)(o:Obj)(pm cd doc:Value)(a:aa)(vs:List Value)(ns:List Int),
   Ground q loose [] XP w s₀ mg mb s₁.heap→YP w s₁.heap→
   s₁.heap.get? fa=some o→o.data=.func (docDef d.name d.params d.body d.scope pm cd doc)→s₁.heap.CodeRec cd d.name→mg d.name=some (.ref fa)→
   s₁.heap.get? a=some {cls:=.type "list",data:=.seq vs.toArray}→IntsAre vs ns→ns.length≤n→s₁.gens=#[]→
   j9 (model l.prog w) Aq (.call (.ref fa) ⟨[.ref a],[]⟩) (fun r s'=>r=.ok (.ret (.bool true))∧OldK s₁.heap s'.heap∧s'.os=s₁.os∧AllBare s'.gens) s₁):
  WalkO q loose XP YP l.row.toRowW d [] (fun f vs=>XH f vs):=by
 intro w s₀ s₁ mg mb G Y fa o pm cd doc dV kV ho hd hcd hD hmg hg args vals as hpre hlay hrd hwl hlo;obtain rfl:dV=.none:=Dflts.none hD hdf;obtain rfl:kV=.none:=Dflts.noKw hD
 obtain⟨a,vs,ns,rfl,rfl,hobj,hints,hlen⟩:=agQ hn hpre hwl
 refine enter_call (HF (call w s₀ s₁ mg mb fa o pm cd doc a vs ns G Y ho (fd_plain hd) hcd hmg hobj hints hlen hg) fun r s' hq=>?_)
 obtain⟨rfl,h2,h3,h4⟩:=hq
 exact⟨.inl ⟨.bool true,.bool true,[],rfl,fun _=>rfl,.bool true,agR l _,fun _=>⟨zH,fun _ hm=>(nomatch hm)⟩⟩,h2,h3,h4⟩
section
variable{prog:bh}{w:aZ}{A:cI}{E:Value→aC→Prop}{s:aC}{K:Frag}
def ledger(h:aV)(L d:aa):List (aa×Obj):=(dZ h.objs.size).filterMap fun a=>if a=L∨a=d then none else(h.get? a).map fun o=>(a,o)
end
end Att
namespace L2
open PySem PySem.Spec PyProof.Rows
theorem Pb:∀{vs:List Value}{ns:List Int},IntsAre vs ns→Vals (ns.map V.int) vs
 |_,_,.nil=>.nil
 |_,_,.cons n t h=>.cons ⟨t,rfl⟩ (Pb h)
def Only(H:Hp):Prop:=∀b,H b=none∨∃o xs,H b=some (.lq o (.lst xs))
theorem ahQ{P:bh}{w:aZ}{K:aG}{mg mb:Str→Option Value}{CX:pY}{k:Nat}{fa a:aa}{fd:dz}{x:Str}{sp:Sp}{s₁:aC}{vs:List Value}{ns:List Int}
  (KX:K.In s₁.heap)(hns:s₁.heap.Ns gF mg)(hb:s₁.heap.Ns builtinsNs mb)(hbb:∀x:Str,x≠"__name__"→mb x=sX x)(hlim:s₁.heap.NoLimit)(hg:s₁.gens=#[])
  (ha:s₁.heap.get? a=some {cls:=.type "list",data:=.seq vs.toArray})(hi:IntsAre vs ns)(hl:ns.length≤bR)(hr:iT k Aq)
  (F:∀base:aV,K.In base→base.Ns gF mg→dw P w K mg base CX k fa fd [x] sp)(hbind:∀(s:aC)(u:Value),yr s fd ⟨[u],[]⟩ [(x,u)])
  (hsp:∀H:Hp,Only H→bL K H a (ns.map V.int)→sp [.ref a] H (fun v _=>v=.bl true) fun _ _ _=>False)
  (Ul:∀H e s',CX [] H s₁ (fun _ _ _=>False) e s'→False):
  j9 (model P w) Aq (.call (.ref fa) ⟨[.ref a],[]⟩) (fun r s'=>r=.ok (.ret (.bool true))∧OldK s₁.heap s'.heap∧s'.os=s₁.os∧AllBare s'.gens) s₁:=by
 have rv:=Pb hi;have lenV:=hi.length;have core:∀H:Hp,Only H→bL K H a (ns.map V.int)→gP P w H s₁.heap→(∀b,H b≠none→b=a)→(H a≠none→K.lookup a=none)→
   j9 (model P w) Aq (.call (.ref fa) ⟨[.ref a],[]⟩) (fun r s'=>r=.ok (.ret (.bool true))∧OldK s₁.heap s'.heap∧s'.os=s₁.os∧AllBare s'.gens) s₁:=by
  intro H hO hS hok hA hK;have aap:∀{b:aa}{o:Obj},s₁.heap.get? b=some o→H b=none→(uV s₁.heap H).get? b=some o:=fun e n=>ahD e n
  have Gg:∀{b:aa}{o:Obj}{es:Array DictEntry}{ep:Nat},s₁.heap.get? b=some o→o.data=.dict es ep→H b=none:=fun{b o es ep} e d=>by
   cases q:H b with
   |none=>rfl
   |some u=>
    have e':b=a:=hA b (by rw[q];simp);subst e';rw[ha] at e;cases e;have d':Data.seq vs.toArray _=Data.dict es ep:=d;cases d'
  have KY:∀{b:aa}{m:Str→Option Value},s₁.heap.Ns b m→(uV s₁.heap H).Ns b m:=fun{b m} ⟨o,es,ep,e,d,r⟩=>⟨o,es,ep,aap e (Gg e d),d,r⟩
  have hKb:K.In (uV s₁.heap H):=fun b o e=>aap (KX b o e) (by
   cases q:H b with
   |none=>rfl
   |some u=>
    have e':b=a:=hA b (by rw[q];simp);subst e';rw[hK (by rw[q];simp)] at e;cases e)
  have hM:Mod K mg (uV s₁.heap H):=⟨hKb,KY hns,⟨mb,KY hb,hbb⟩,let ⟨mc,h1,h2⟩:=hlim;⟨mc,KY h1,h2⟩⟩
  have e0:yS P w K mg (uV s₁.heap H) Aq [] s₁ H:=⟨rfl,hM,fun b o e=>aiV e,Nat.le_of_eq (agD _ _),trivial,fun b hb=>absurd (show b∈([]:List aa) from hb) (by simp),hok,.of_eq hg⟩
  refine HF ((F _ hKb (KY hns)).run Aq [] s₁ H ⟨[.ref a],[]⟩ [.ref a] [.ref a] _ _ hr e0 (hbind s₁ (.ref a)) (.cons rfl .nil) (hsp H hO hS)) fun r s' h=>?_
  cases r with
  |error e=>exact(Ul H e s' h).elim
  |ok fl=>
   cases fl with
   |next=>exact qW h
   |brk=>exact qW h
   |cont=>exact qW h
   |ret u=>
    obtain⟨v,H',os,bare,un,hok',r',q⟩:=h
    have q':v=.bl true:=q;subst q';obtain rfl:u=sZ true:=r'
    refine⟨rfl,OldK.of_keep fun b o e=>?_,os,bare⟩
    cases q:H b with
    |none=>exact un.keep b o e q (by intro z;exact absurd (show b∈([]:List aa) from z) (by simp)) (by simp)
    |some u=>
     rcases hO b with z|⟨ob,xs,z⟩
     ·rw[q] at z;cases z
     ·have z2:=un.pQ b ob _ z
      obtain⟨e1,_⟩:=hok b _ z
      obtain⟨e2,_⟩:=hok' b _ z2
      rw[e] at e1;cases e1;exact e2
 cases hk:K.lookup a with
 |some o=>
  have e:=KX a o hk;rw[ha] at e;cases e;refine core (fun _=>none) (fun _=>.inl rfl) (.inr ⟨_,vs.toArray,_,hk,rfl,rfl,rfl,by rw[fJ,lenV];exact hl,by simpa using rv⟩) (fun b u z=>by have z':(none:Option HO)=some u:=z;cases z') (fun b z=>absurd rfl z) fun z=>absurd rfl z
 |none=>
  refine core (fun b=>if b=a then some (.lq {cls:=.type "list",data:=.seq vs.toArray} (.lst (ns.map V.int))) else none) (fun b=>?_) (.inl (.inr ⟨{cls:=.type "list",data:=.seq vs.toArray},if_pos rfl⟩)) (fun b u z=>?_) (fun b z=>?_) fun _=>hk
  ·by_cases hb:b=a
   ·exact .inr ⟨_,_,if_pos hb⟩
   ·exact .inl (if_neg hb)
  ·by_cases hb:b=a
   ·have z':=(if_pos hb).symm.trans z;cases z';subst hb
    exact⟨ha,by rw[aX];exact hl,vs,_,rv,ha⟩
   ·have z':=(if_neg hb).symm.trans z;cases z'
  ·by_cases hb:b=a
   ·exact hb
   ·exact absurd (if_neg hb) z
theorem ajd{l:Wg}{n k:Nat}{q:bh}{loose:List Str}{XP:(Str→Option Value)→aV→Prop}{YP:aZ→aV→Prop}{d:DefRec}{K:Params→aG}{CX:aZ→pY}{sp:aZ→Sp}{x:Str}
  (hn:l.most=some n)(hn2:n≤bR)(hdf:d.params.defaults=[])(hr:iT k Aq)
  (hY:∀(w:aZ)(h:aV),YP w h→(K w.params).In h)
  (F:∀(w:aZ)(mg:Str→Option Value)(fa:aa)(h:aV),(K w.params).In h→h.Ns gF mg→mg d.name=some (.ref fa)→
   ∃fd:dz,(∀(s:aC)(u:Value),yr s fd ⟨[u],[]⟩ [(x,u)])∧
    ∀base:aV,(K w.params).In base→base.Ns gF mg→dw l.prog w (K w.params) mg base (CX w) k fa fd [x] (sp w))
  (hsp:∀(w:aZ)(H:Hp)(a:aa)(ns:List Int),ns.length≤n→Only H→bL (K w.params) H a (ns.map V.int)→sp w [.ref a] H (fun v _=>v=.bl true) fun _ _ _=>False)
  (Ul:∀(w:aZ)(H:Hp)(s:aC)(e:Value)(s':aC),CX w [] H s (fun _ _ _=>False) e s'→False):
  ae8 q loose XP YP l.row.toRowW d [] (fun f vs=>XH f vs):=by
 refine Att.afN hn hdf fun w s₀ s₁ mg mb fa o pm cd doc a vs ns G Y ho hd hcd hmg hobj hints hlen hg=>?_
 have KX:=hY w _ Y
 obtain⟨fd,hb,hF⟩:=F w mg fa _ KX G.T.g hmg
 exact ahQ KX G.T.g G.T.b G.T.builtins G.T.nolimit hg hobj hints (jD hlen hn2) hr hF hb (fun H hO hS=>hsp w H a ns hlen hO hS) fun H e s'=>Ul w H s₁ e s'
def Ar(s:cZ):Arguments:=match s with
 |.FunctionDef _ a _ _ _ _ _ _ _ _=>a
 |_=>{posonlyargs:=[],args:=[],vararg:=none,kwonlyargs:=[],kw_defaults:=[],kwarg:=none,defaults:=[]}
def vZ(s:cZ):List cZ:=match s with
 |.FunctionDef _ _ b _ _ _ _ _ _ _=>b
 |_=>[]
def cV(s:cZ):ju:=match s with
 |.FunctionDef _ _ _ _ _ _ sc _ _ _=>sc
 |_=>{kind:=.function,names:=[],isGenerator:=false,isCoroutine:=false}
abbrev eY:pY:=fun _ _ _ _ _ _=>False
abbrev E0:XK:=fun _ _ _=>False
theorem alY{X:Cx}:Passes eY X E0:=fun _ _ _ _ _ _ _ h=>h.elim
structure fL(K:aG)(x qual:Str)(st:cZ)(f:aa)(fd:dz):Prop where
 ex:∃(oc:Value)(od:Option aa)(kV doc pm:Value)(an:Option aa)(cdv ct:Value)(osl:Array (Option Value)),
  fd=ye x qual (Ar st) (vZ st) (cV st) .none kV doc pm an cdv ct∧K.lookup f=some ⟨oc,od,.func fd,osl⟩∧My K cdv qual=true
 kp:vI K (.ref f)=true
section
variable{P:bh}{w:aZ}{K:aG}{mg:Str→Option Value}{base:aV}
theorem fL.ok{x qual:Str}{st:cZ}{f:aa}{fd:dz}{N ps:List Str}{k:Nat}{sp:Sp}(F:fL K x qual st f fd)(S:gG N ps (cV st))(len:∀vs H Q E,sp vs H Q E→vs.length=ps.length)
  (hbody:∀(cdv:Value)(A:cI)(outer:List Env)(s:aC)(H:Hp)(vs:List V)(Q:VK)(E:XK),iT k (A.deeper (envOfC qual (cV st) s.heap.objs.size f cdv))→sp vs H Q E→
   ∃t,jl (yU eY P w K mg base N qual (cV st) f cdv A outer s H E).vf (vZ st) t∧t {nx:=fun _ H'=>Q .non H',rt:=Q} (start N vs) H):dw P w K mg base eY (k+1) f fd ps sp:=by
 obtain⟨oc,od,kV,doc,pm,an,cdv,ct,osl,rfl,lk,hcd⟩:=F.ex
 refine alS lk hcd S len fun A outer s H vs Q E hr hsp=>?_
 obtain⟨t,h,q⟩:=hbody cdv A outer s H vs Q E hr hsp
 exact⟨t,h.vf,q⟩
theorem fL.binds{x qual:Str}{st:cZ}{f:aa}{fd:dz}{ps:List Str}(F:fL K x qual st f fd)
  (h:∀(kV doc pm:Value)(an:Option aa)(cdv ct:Value)(us:List Value),us.length=ps.length→bindArgs (ye x qual (Ar st) (vZ st) (cV st) .none kV doc pm an cdv ct) ⟨us,[]⟩=pure (ps.zip us)):Binds K fd ps []:=by
 obtain⟨oc,od,kV,doc,pm,an,cdv,ct,osl,rfl,lk,hcd⟩:=F.ex
 exact .all (h kV doc pm an cdv ct)
theorem RP{x qual:Str}{st:cZ}{f:aa}{oc:Value}{od an:Option aa}{osl:Array (Option Value)}{kV doc pm cdv ct:Value}(l:K.lookup f=some ⟨oc,od,.func (ye x qual (Ar st) (vZ st) (cV st) .none kV doc pm an cdv ct),osl⟩)
  (c:My K cdv qual=true)(k:vI K (.ref f)=true):fL K x qual st f (ye x qual (Ar st) (vZ st) (cV st) .none kV doc pm an cdv ct):=⟨⟨oc,od,kV,doc,pm,an,cdv,ct,osl,rfl,l,c⟩,k⟩
end
section
variable{X:Cx}
theorem pv(i:Nat){x:Str}{pos:Pos}(hN:X.N[i]?=some x:=by rfl)(hv:Kz X.env.scope x:=by first|exact bU rfl|exact rC (bU rfl)|exact rC (rC rfl))(hd:(x==("__debug__":Str))=false:=by decide)
  (hcd:(x==("__classdict__":Str))=false:=by decide):PE X (.Name x pos) (pR i):=akn hN hv hd hcd
end
theorem wU{A B:Prop}(h:B):if false=true then A else B:=by
 rw[if_neg jm];exact h
theorem wV{A B:Prop}(h:A):if true=true then A else B:=by
 rw[if_pos rfl];exact h
def bw(H H':Hp):Prop:=∀b o,H b=some o→H' b=some o
theorem bw.refl(H:Hp):bw H H:=fun _ _ h=>h
theorem bw.trans{H H1 H2:Hp}(a:bw H H1)(b:bw H1 H2):bw H H2:=fun c o h=>b c o (a c o h)
theorem bw.free{H H':Hp}(e:bw H H'){l:aa}(h:H' l=nC):H l=nC:=by
 cases q:H l with
 |none=>rfl
 |some o=>
  rw[e l o q] at h;cases h
theorem bw.seq{K:aG}{H H':Hp}{a:aa}{xs:List V}(e:bw H H')(h:bL K H a xs):bL K H' a xs:=by
 rcases h with(h|⟨o,h⟩)|h
 ·exact .inl (.inl (e _ _ h))
 ·exact .inl (.inr ⟨o,e _ _ h⟩)
 ·exact .inr h
section
variable{X:Cx}
theorem agS:iQ X (.builtin "len") (fun xs H Q=>∃a kvs,xs=[V.ref a]∧H a=some (.dK kvs)∧Q (.int kvs.length) H):=by
 intro pins s σ H xs us Q I r h
 obtain⟨a,kvs,rfl,ha,q⟩:=h
 obtain⟨u,rfl,ru⟩:=vals1 r
 cases ru;exact alW I (.inl ha) fun t s' I'=>⟨.int kvs.length,H,I',⟨t,rfl⟩,q⟩
end
section
variable{κ:Type}[DecidableEq κ]
end
def Cx.blk(X:Cx)(N:List Str)(scope:ju)(cl:List (Str×aa))(C:aa)(s:aC)(H:Hp)(fp:List aa):Cx:=
 {X with N:=N,s₀:=s,H₀:=H,env:=Qa scope cl C X.env,outer:=X.stack,ex:=fp,fn:=fun _=>false,pn:=[],xe:=fun _ _=>False}
theorem N7(f:Str×An→List (Str×aa)→Sem (ForInStep (List (Str×aa))))
  (hf:∀n k r,f (n,k) r=if k==o8 then(do let c ←cellOf env n;pure (.yield ((n,c)::r))) else pure (.yield r)):
  ∀(names:List (Str×An))(cs:List (Str×aa)),(∀y∈names,y.2=.free→∃c,env.cells.lookup y.1=some c)→(∀n c,cs.lookup n=some c→env.cells.lookup n=some c)→
   ∃cl,(forIn names cs f:Sem (List (Str×aa)))=pure cl∧(∀n c,cl.lookup n=some c→env.cells.lookup n=some c)∧
    ∀n,((∃c,cs.lookup n=some c)∨∃y∈names,y.1=n∧y.2=.free)→∃c,cl.lookup n=some c
 |[],cs,_,h2=>⟨cs,rfl,h2,fun n h=>h.elim id fun⟨_,hy,_⟩=>nomatch hy⟩
 |(n,k)::r,cs,h1,h2=>by
  rw[List.forIn_cons,hf];by_cases hk:k=.free
  ·subst hk
   obtain⟨c,hc⟩:=h1 (n,.free) dm rfl
   have hc':env.cells.lookup n=some c:=hc;have e:cellOf env n=pure c:=by unfold cellOf;rw[hc']
   obtain⟨cl,q1,q2,q3⟩:=N7 f hf r ((n,c)::cs) (fun y hy=>h1 y (dM _ hy)) (fun m d hm=>by
    rw[zL] at hm;by_cases hb:(m==n)=true
    ·rw[hb] at hm;have:=eq_of_beq hb;subst this;cases hm;exact hc'
    ·rw[aeE] at hb;rw[hb] at hm;exact h2 m d hm)
   refine⟨cl,?_,q2,fun m hm=>q3 m ?_⟩
   ·rw[if_pos (show(o8==o8)=true from rfl),e];simp only[pure_bind];exact q1
   ·by_cases hb:m=n
    ·subst hb;exact .inl ⟨c,by simp[zL]⟩
    ·rcases hm with⟨d,hm⟩|⟨y,hy,e1,e2⟩
     ·refine .inl ⟨d,?_⟩;rw[zL,beq_eq_false_iff_ne.mpr hb];exact hm
     ·rcases bI.mp hy with rfl|hy
      ·exact absurd e1.symm hb
      ·exact .inr ⟨y,hy,e1,e2⟩
  ·have hb:(k==o8)=false:=beq_eq_false_iff_ne.mpr hk
   obtain⟨cl,q1,q2,q3⟩:=N7 f hf r cs (fun y hy=>h1 y (dM _ hy)) h2
   refine⟨cl,?_,q2,fun m hm=>q3 m ?_⟩
   ·rw[hb];simp only[qO,if_false,pure_bind];exact q1
   ·rcases hm with hm|⟨y,hy,e1,e2⟩
    ·exact .inl hm
    ·rcases bI.mp hy with rfl|hy
     ·exact absurd e2 hk
     ·exact .inr ⟨y,hy,e1,e2⟩
theorem Ik(h1:∀y∈scope.names,y.2=.free→∃c,env.cells.lookup y.1=some c):
  ∃cl,closureFor scope env=pure cl∧(∀n c,cl.lookup n=some c→env.cells.lookup n=some c)∧∀y∈scope.names,y.2=.free→∃c,cl.lookup y.1=some c:=by
 unfold closureFor
 obtain⟨cl,q1,q2,q3⟩:=N7 (env:=env) (fun x r=>if(x.2==o8)=true then(do let c ←cellOf env x.1;pure (.yield ((x.1,c)::r))) else pure (.yield r)) (fun n k r=>rfl) scope.names [] h1 (fun n c h=>by simp at h)
 have q:=congrArg (fun t:Sem (List (Str×aa))=>t >>= fun cs=>pure cs) q1;simp only[pure_bind] at q
 exact⟨cl,q,q2,fun y hy e=>q3 y.1 (.inr ⟨y,hy,rfl,e⟩)⟩
theorem Xa{scope:ju}{env:Env}{x:Str}:∀{names:List (Str×An)},
  (names.map fun(n,k)=>if(k==o8&&env.scope.kind==.function&&env.kindOf n==some .cell) then(n,Nb) else(n,k)).lookup x=
   (names.lookup x).map fun k=>if(k==o8&&env.scope.kind==.function&&env.kindOf x==some .cell) then Nb else k
 |[]=>rfl
 |(n,k)::r=>by
  have ih:=@Xa scope env x r;show List.lookup x ((if(k==o8&&env.scope.kind==.function&&env.kindOf n==some .cell)=true then(n,Nb) else(n,k))::_)=_;cases hx:x==n with
  |true=>
   have e:=eq_of_beq hx;subst e;by_cases hc:(k==o8&&env.scope.kind==.function&&env.kindOf x==some .cell)=true
   ·rw[if_pos hc];simp only[zL,beq_self_eq_true,mL,hc,if_true]
   ·rw[if_neg hc];simp only[zL,beq_self_eq_true,mL,hc,if_false];rfl
  |false=>
   by_cases hc:(k==o8&&env.scope.kind==.function&&env.kindOf n==some .cell)=true
   ·rw[if_pos hc];simp only[zL,hx];exact ih
   ·rw[if_neg hc];simp only[zL,hx];exact ih
def frees(js:List Nat)(σ:St):St:=js.map fun j=>(σ[j]?).join
section
variable{X:Cx}{pins:List (aa×Obj)}{σ:St}{H:Hp}{s s1:aC}{NT NF:List Str}{js:List Nat}{scope:ju}{cl:List (Str×aa)}{fp:List aa}
structure pN(X:Cx)(NT NF:List Str)(js:List Nat)(scope:ju):Prop where
 kind:scope.kind=.function
 names:∀y∈scope.names,y.2=.local→scope.names.lookup y.1=some .local
 cell:∀y∈scope.names,y.2≠.cell
 free:∀y∈scope.names,y.2=.free→X.env.scope.names.lookup y.1=some .cell∨X.env.scope.names.lookup y.1=some .free
 len:js.length=NF.length
 fr:∀(k:Nat)(j:Nat)(x:Str),js[k]?=some j→NF[k]?=some x→X.N[j]?=some x∧scope.names.lookup x=some .free
 tg:∀x∈NT,scope.names.lookup x=some .local
 nd:(NT++NF).Nodup
theorem Inv.blk(I:Inv X pins σ H s)(B:pN X NT NF js scope)(q2:∀n c,cl.lookup n=some c→X.env.cells.lookup n=some c)(q3:∀y∈scope.names,y.2=.free→∃c,cl.lookup y.1=some c)
  (hf:∀b∈fp,jJ X pins H b)(hlt:∀b∈fp,b<s.heap.objs.size){m:Str→Option Value}(hns:s1.heap.Ns s.heap.objs.size m)(keep:∀b o,s.heap.get? b=some o→s1.heap.get? b=some o)
  (hos:s1.os=s.os)(hg:AllBare s1.gens):
  Inv (X.blk (NT++NF) scope cl s.heap.objs.size s H fp) [] (iJ NT.length none++frees js σ) H s1:=by
 have look:∀x,(X.blk (NT++NF) scope cl s.heap.objs.size s H fp).env.kindOf x=(scope.names.lookup x).map fun k=>if(k==o8&&X.env.scope.kind==.function&&X.env.kindOf x==some .cell) then Nb else k:=fun x=>Xa (scope:=scope)
 have akQ:∀x,((X.blk (NT++NF) scope cl s.heap.objs.size s H fp).env.kindOf x=some .cell∨(X.blk (NT++NF) scope cl s.heap.objs.size s H fp).env.kindOf x=some .free)→scope.names.lookup x=some .free:=fun x h=>by
  rw[look] at h;cases e:scope.names.lookup x with
  |none=>rw[e] at h;simp at h
  |some k=>
   rw[e] at h;by_cases hk:k=.free
   ·rw[hk]
   ·have hb:(k==o8)=false:=beq_eq_false_iff_ne.mpr hk;simp only[mL,hb,Wr,qO,if_false,Ma] at h;rcases h with h|h
    ·subst h;exact absurd rfl (B.cell _ (vB e))
    ·exact absurd h hk
 have ltC:∀c x,X.env.cells.lookup x=some c→c<s.heap.objs.size:=fun c x e=>by
  obtain⟨v,q⟩:=I.cell x c e
  exact q.lt
 refine⟨⟨I.ok.mod,B.kind,I.ok.glob,I.ok.blt,bN _,fun x y c h1 h2=>I.ok.inj x y c (q2 x c h1) (q2 y c h2),fun x hx=>?_,fun x c h _=>(nomatch(show false=true from h)),I.ok.hd,I.ok.frames,.inl rfl,fun b hb=>⟨dY (hlt b hb),fun x c e=>(hf b hb).2.2.2.2.1 x c (q2 x c e)⟩,I.bs,jD I.ok.uo I.sz,fun b o e hb=>?_,fun b hb hb2=>?_,I.stack,I.aag⟩,
  hos,hg,Un.kept keep,⟨m,hns,fun i x v h1 h2 h3=>?_⟩,fun x c e=>?_,I.hok.fresh (bN _),fun x c e=>I.rF x c (q2 x c e),fun p hp=>(nomatch(show p∈([]:List (aa×Obj)) from hp)),I.hok.kept keep,?_⟩
 ·exact q3 _ (vB (akQ x hx)) rfl
 ·rcases(hf b hb).2.2.2.1 with z|z
  ·exact I.ok.Fj b o e z
  ·exact absurd (nj (bZ e) (jD I.ok.uo z)) (vK _)
 ·obtain⟨_,f1,f2,_⟩:=hf b hb
  rcases bI.mp (I.Ay b hb2) with z|z
  ·exact f1 z
  ·exact f2 z
 ·have h1':(NT++NF)[i]?=some x:=h1;by_cases hi:i<NT.length
  ·rw[m7 (by simpa using hi),Vr] at h2;split at h2<;>cases h2
  ·have hi':NT.length≤i:=by omega
   rw[lA (by simpa using hi')] at h2;rw[lA hi'] at h1';simp only[adP] at h2;unfold frees at h2;rw[gK] at h2;cases ej:js[i-NT.length]? with
   |none=>rw[ej] at h2;cases h2
   |some j=>
    rw[ej] at h2;have h2':(σ[j]?).join=some v:=by simpa using h2
    obtain⟨g1,g2⟩:=B.fr _ j x ej h1'
    have hj:σ[j]?=some (some v):=by
     cases e:σ[j]? with
     |none=>rw[e] at h2';cases h2'
     |some o=>rw[e] at h2';simp at h2';rw[h2']
    have hk:=B.free _ (vB g2) rfl;have hk':X.env.scope.names.lookup x=some .cell∨X.env.scope.names.lookup x=some .free:=hk
    obtain⟨m0,hn0,hl0⟩:=I.loc
    obtain⟨u,r,l⟩:=hl0 j x v g1 hj (.inr hk')
    refine⟨u,r,.inr ⟨?_,?_⟩⟩
    ·rw[look,g2];by_cases hc:(o8==o8&&X.env.scope.kind==.function&&X.env.kindOf x==some .cell)=true
     ·left;simp only[mL,hc,if_true]
     ·right;simp only[mL,hc,if_false];rfl
    ·rcases l with⟨k0,_⟩|⟨_,c,e,z⟩
     ·have k0':X.env.scope.names.lookup x=some .local:=k0;rcases hk' with z|z<;>rw[z] at k0'<;>cases k0'
     ·obtain⟨c',hc'⟩:=q3 _ (vB g2) rfl
      have hc2:cl.lookup x=some c':=hc';have e2:=q2 x c' hc2;rw[e] at e2;cases e2
      obtain⟨o,ho,hd⟩:=z
      exact⟨c,hc2,o,keep c o ho,hd⟩
 ·obtain⟨v,o,ho,hd⟩:=I.cell x c (q2 x c e)
  exact⟨v,o,keep c o ho,hd⟩
 ·show(iJ NT.length none++frees js σ).length=(NT++NF).length
  unfold frees;simp[B.len]
theorem Inv.Tc(I:Inv X pins σ H s)(hf:∀b∈fp,jJ X pins H b)(J:Inv (X.blk N scope cl s.heap.objs.size s H fp) SM σ' H' s'):Inv X pins σ H' s':=
 I.call' J.os J.base J.hok J.bare fun b hb=>⟨(hf b hb).2.2.2.1,(hf b hb).2.1,(hf b hb).2.2.2.2.1,(hf b hb).2.2.2.2.2⟩
end
theorem aje(a:List α)(x y:α)(b:List α)(h:a.length=n):(a++x::b).set n y=a++y::b:=by
 subst h;rw[List.set_append_right _ _ (bN _),Aa];rfl
inductive gq where
 |one|many (n:Nat)
def xx(K:aG):gq→V→Hp→List V→Prop
 |.one,x,_,vs=>vs=[x]
 |.many n,x,H,vs=>∃a,x=.ref a∧cU K H a vs∧vs.length=n
def isNm(e:Expr)(x:Str):Prop:=∃pos,e=.Name x pos
def oU(tg:Expr)(NT:List Str):gq→Prop
 |.one=>∃x,isNm tg x∧NT=[x]
 |.many n=>∃es k pos,tg=.Tuple es k pos∧Paired isNm es NT∧NT.length=n
theorem XJ:∀{es:List Expr}{NT:List Str},Paired isNm es NT→tG es env=es.map fun e=>(false,assign e env)
 |_,_,.nil=>rfl
 |_,_,.cons ⟨pos,e⟩ t=>by
  subst e
  show(false,assign _ env)::tG _ env=_
  rw[XJ t];rfl
section
variable{X:Cx}{pins:List (aa×Obj)}{H:Hp}{E:Value→aC→Prop}
theorem agT(p:Paired isNm es NT):∀{pre NF:List Str}{σp fs:St}{s:aC}{vs:List V}{us:List Value}{Q:Unit→aC→Prop},
  X.N=pre++NT++NF→X.N.Nodup→(∀x∈NT,X.env.scope.names.lookup x=some .local)→σp.length=pre.length→vs.length=NT.length→
  Inv X pins (σp++(iJ NT.length none++fs)) H s→Vals vs us→(∀s',Inv X pins (σp++(vs.map some++fs)) H s'→Q () s')→
  aN (model X.prog X.w) X.A (CJ (es.map fun e=>assign e X.env) us) Q E s:=by
 induction p with
 |nil=>
  intro pre NF σp fs s vs us Q hN nd hl hp hv I r q;cases vs with
  |cons _ _=>simp at hv
  |nil=>
   cases r;exact assignInOrder_nil (q s I)
 |@cons e x es NT he t ih=>
  intro pre NF σp fs s vs us Q hN nd hl hp hv I r q;cases vs with
  |nil=>simp at hv
  |cons v vs=>
   cases r with
   |cons r rr=>
    obtain⟨pos,rfl⟩:=he
    have hx:=hl x dm;have hi:X.N[pre.length]?=some x:=by
     rw[hN,lB,lA (bN _)];simp
    refine assignInOrder_cons (G5 (tL I nd hi (.inl hx) r (fun s' I'=>?_) (.inr hx)));have e1:(σp++(iJ (x::NT).length none++fs)).set pre.length (some v)=(σp++[some v])++(iJ NT.length none++fs):=by
     exact(aje σp none (some v) (iJ NT.length none++fs) hp).trans (List.append_cons σp (some v) (iJ NT.length none++fs))
    rw[e1] at I';refine ih (pre:=pre++[x]) (NF:=NF) (σp:=σp++[some v]) (by rw[hN];simp) nd (fun y hy=>hl y (dM _ hy)) (by simp[hp]) (by simpa using hv) I' rr fun s2 I2=>q s2 ?_
    have e2:σp++[some v]++(vs.map some++fs)=σp++((v::vs).map some++fs):=by simp
    rw[e2] at I2;exact I2
theorem akR(tk:oU tg NT T)(hN:X.N=NT++NF)(nd:X.N.Nodup)(hc:X.calm=true)
  (hl:∀x∈NT,X.env.scope.names.lookup x=some .local)(I:Inv X pins (iJ NT.length none++fs) H s)(r:RelV v u)(hv:xx X.K T v H vs)
  (q:∀s',Inv X pins (vs.map some++fs) H s'→Q () s'):aN (model X.prog X.w) X.A (assign tg X.env u) Q E s:=by
 cases T with
 |one=>
  obtain⟨x,⟨pos,rfl⟩,rfl⟩:=tk
  have hv':vs=[v]:=hv;subst hv';have hx:=hl x dm;exact G5 (tL I nd (i:=0) (by rw[hN];rfl) (.inl hx) r (fun s' I'=>q s' I') (.inr hx))
 |many n=>
  obtain⟨es,k,pos,rfl,p,hn⟩:=tk
  obtain⟨a,rfl,hq,hlen⟩:=hv
  cases r
  obtain⟨its,rv,ht,hz⟩:=I.tuple hq
  have e:=XJ (env:=X.env) p;have hpl:=p.length;refine assign_Tuple_tuple (I.ok.hd hc) ht (by rw[e];simp only[aX,fJ];rw[←rv.length];omega) (by rw[e];simp) fun h' hx=>?_
  have I1:Inv X pins (iJ NT.length none++fs) H {s with heap:=h'}:=I.kept (t':=s.toks) fun b o e=>hx b o (dY (bZ e)) e
  rw[e,fO];exact agT p (pre:=[]) (σp:=[]) (by rw[hN];rfl) nd hl rfl (by omega) I1 (by simpa using rv) q
end
def turnOf(target iter:Expr)(ifs:List Expr)(it:Value)(env:Env)(emit:Sem Unit)(more:Sem PySem.Fin):Sem PySem.Fin:=do
 tM iter.pos
 match ←pF it with
 |none=>pure (.done .next)
 |some v=>
  xU target it v
  assign target env v
  let mut ok:=true
  for c in ifs do
   if ok then ok ←isTrue c env (eval c env)
  if ok then emit
  more
theorem af6(elt target iter:Expr)(ifs:List Expr)(scope:ju)(pos:Pos)(it acc:Value)(env:Env):
  Dg (.ListComp elt [⟨target,iter,ifs,0⟩] scope pos) 0 it acc env=turnOf target iter ifs it env (do let _ ←call (.builtin "list.append") [acc,←eval elt env]) (again (.compLoop (.ListComp elt [⟨target,iter,ifs,0⟩] scope pos) 0 it acc env)):=by rfl
theorem af7(kx vx target iter:Expr)(ifs:List Expr)(scope:ju)(pos:Pos)(it:Value)(D:aa)(env:Env):
  Dg (.DictComp kx vx [⟨target,iter,ifs,0⟩] scope pos) 0 it (.ref D) env=turnOf target iter ifs it env (do
      let kv ←eval kx env
      let vv ←qg [kv] (eval vx env)
      tM {kx.pos with endLine:=vx.pos.endLine,endCol:=vx.pos.endCol}
      qg [kv,vv] (dictSet D kv vv)) (again (.compLoop (.DictComp kx vx [⟨target,iter,ifs,0⟩] scope pos) 0 it (.ref D) env)):=by rfl
theorem agU(elt target iter:Expr)(ifs:List Expr)(scope:ju)(pos:Pos)(it acc:Value)(env:Env):
  Dg (.SetComp elt [⟨target,iter,ifs,0⟩] scope pos) 0 it acc env=turnOf target iter ifs it env (do let v ←eval elt env;tM elt.pos;let _ ←call (.builtin "set.add") [acc,v]) (again (.compLoop (.SetComp elt [⟨target,iter,ifs,0⟩] scope pos) 0 it acc env)):=by rfl
def mY(X:Cx)(ifs:List Expr)(t:TT):Prop:=
 ∀(pins:List (aa×Obj))(s:aC)(σ:St)(H:Hp)(Q:Bool→Hp→Prop),Inv X pins σ H s→t σ H Q→
  aN (model X.prog X.w) X.A (forIn ifs true fun c r=>if r=true then do let ok ←isTrue c X.env (eval c X.env);pure (aeP ok) else pure (aeP r)) (TP X pins σ Q) X.xe s
def amA:TT:=fun _ H Q=>Q true H
theorem ajf:mY X [] amA:=fun _ _ _ H _ I h=>wpAny_tests_nil ⟨H,I,h⟩
theorem ajg(h:PT X c t):mY X [c] t:=fun pins s σ H Q I q=>wpAny_tests_one (h pins s σ H Q I q)
abbrev TM:=St→Hp→(Hp→Prop)→Prop
def PM(X:Cx)(emit:Sem Unit)(t:TM):Prop:=
 ∀(pins:List (aa×Obj))(s:aC)(σ:St)(H:Hp)(Q:Hp→Prop),Inv X pins σ H s→t σ H Q→
  aN (model X.prog X.w) X.A emit (fun _ s'=>∃H',Inv X pins σ H' s'∧Q H') X.xe s
def Q0(D:aa)(te:TE):TM:=fun σ H Q=>te σ H fun y H1=>∃xs,H1 D=some (.lst xs)∧xs.length<bR∧Q (upd H1 D (.lst (xs++[y])))
theorem agV(he:PE X elt te):PM X (do let _ ←call (.builtin "list.append") [.ref D,←eval elt X.env]) (Q0 D te):=by
 intro pins s σ H Q I h;refine aJ (bu (he pins s σ H _ I h) fun v s1 aL=>?_)
 obtain⟨y,H1,I1,r1,xs,hD,hz,q⟩:=aL
 refine aJ (bu (Pa (X:=X) pins s1 σ H1 (.ref D) [y] (.ref D) [v] (fun _ H'=>Q H') I1 rfl (.cons r1 .nil) ⟨D,xs,y,rfl,rfl,hD,hz,q⟩) fun _ s2 ⟨_,H2,I2,_,q2⟩=>aY ⟨H2,I2,q2⟩)
def wW(K:aG)(T:gq)(ts:TT)(em:TM)(fs:St)(J:It)(H0:Hp)(done:Hp→Prop):Prop:=
 ∃W:Nat→Nat→Hp→Prop,(∃m,W 0 m H0)∧∀i m H,W i m H→
  (J.stop i H∧done H)∨(J.go i H∧∀x H',J.xm i H x H'→∃vs,xx K T x H' vs∧
   ts (vs.map some++fs) H' fun b H2=>if b=true then em (vs.map some++fs) H2 fun H3=>∃m',m'<m∧W (i+1) m' H3 else ∃m',m'<m∧W (i+1) m' H2)
section
variable{X:Cx}{NT NF:List Str}{tg iter e:Expr}{ifs:List Expr}{T:gq}{ts:TT}{em:TM}{emit:Sem Unit}{acc:Value}{fp:List aa}{it:aa}{J:It}{tn:Nat→aV→Prop}
theorem ahR{fs:St}{vs:List V}{pins:List (aa×Obj)}{H:Hp}{s:aC}(hv:vs.length=NT.length)(I:Inv X pins (vs.map some++fs) H s):Inv X pins (iJ NT.length none++fs) H s:=
 I.weak (by simp[hv]) fun i v h=>by
  by_cases hi:i<NT.length
  ·rw[m7 (by simpa using hi),Vr] at h;split at h<;>cases h
  ·rw[lA (by simp;omega)] at h⊢;simpa[hv] using h
theorem xx.len{tg:Expr}{K:aG}{x:V}{H:Hp}{vs:List V}(tk:oU tg NT T)(h:xx K T x H vs):vs.length=NT.length:=by
 cases T with
 |one=>obtain⟨y,_,rfl⟩:=tk;rw[show vs=[x] from h];rfl
 |many n=>obtain⟨_,_,_,_,_,e⟩:=tk;obtain⟨_,_,_,e'⟩:=h;omega
theorem Qc{R:rB→aC→Prop}{fs:St}{H:Hp}{s:aC}{done:Hp→Prop}(hx:X.xe=fun _ _=>False)(hT:Dg e 0 (.ref it) acc X.env=turnOf tg iter ifs (.ref it) X.env emit (again (.compLoop e 0 (.ref it) acc X.env)))
  (hq:(CN e 0 (.ref it) acc X.env).isFrame=false)(hqu:(CN e 0 (.ref it) acc X.env).quiet=true)(hA:X.A.under (CN e 0 (.ref it) acc X.env)=X.A)
  (tk:oU tg NT T)(hN:X.N=NT++NF)(nd:X.N.Nodup)(hc:X.calm=true)(hl:∀x∈NT,X.env.scope.names.lookup x=some .local)
  (hts:mY X ifs ts)(hem:PM X emit em)(TT:Turn X.prog X.w X.K tg J fp it tn)(hf:∀b∈fp,jJ X [] H b)(I:Inv X [] (iJ NT.length none++fs) H s)(st:tn 0 s.heap)(hb:wW X.K T ts em fs J H done)
  (hR:∀H' s' σ',Inv X [] σ' H' s'→done H'→R (.ok .next) s'):
  j9 (model X.prog X.w) X.A (.compLoop e 0 (.ref it) acc X.env) R s:=by
 obtain⟨W,⟨m0,w0⟩,turn⟩:=hb
 have stat:∀{H':Hp},(∀b∈fp,H' b=none)→∀b∈fp,jJ X [] H' b:=fun hn b hb=>⟨hn b hb,(hf b hb).2⟩
 have noE:∀{α:Type}{t:Sem α}{Q:α→aC→Prop}{E:Value→aC→Prop}{s:aC},aN (model X.prog X.w) X.A t Q (fun _ _=>False) s→aN (model X.prog X.w) X.A t Q E s:=fun h=>oF h (fun _ _ z=>z) fun _ _ z=>z.elim
 have noX:∀{α:Type}{t:Sem α}{Q:α→aC→Prop}{E:Value→aC→Prop}{s:aC},aN (model X.prog X.w) X.A t Q X.xe s→aN (model X.prog X.w) X.A t Q E s:=fun h=>noE (by rw[hx] at h;exact h)
 refine codeAny_loop hqu (fun n s'=>∃i H',Inv X [] (iJ NT.length none++fs) H' s'∧tn i s'.heap∧(∀b∈fp,H' b=none)∧W i n H') ?_ m0 ⟨0,H,I,st,fun b hb=>(hf b hb).1,w0⟩;rintro n s3 ⟨i,H3,I3,st3,Ge,w3⟩;rw[hA];show aN _ X.A (if(CN e 0 (.ref it) acc X.env).isFrame=true then(Dg e 0 (.ref it) acc X.env).onRaise (leaving X.env) else(Dg e 0 (.ref it) acc X.env).onRaise (fun x=>do noteFrame x X.env;theTreesLotGoes x)) _ _ s3;rw[hq,if_neg jm];refine wpAny_noted (noE ?_);rw[hT];unfold turnOf;refine aJ (uB (aJ ?_));rcases turn i n H3 w3 with⟨stop,qn⟩|⟨go,step⟩
 ·refine bu (TT.done X rfl rfl rfl hc i [] s3 _ H3 _ I3 (stat Ge) st3 stop) fun r s4 aL=>?_
  obtain⟨hr,I4⟩:=aL
  subst hr;exact aY (hR H3 s4 _ I4 qn)
 ·refine bu (TT.item X rfl rfl rfl hc i [] s3 _ H3 _ I3 (stat Ge) st3 go) fun r s4 aL=>?_
  obtain⟨u,hr,h4⟩:=aL
  subst hr;refine aJ (bu h4 fun _ s5 aL=>?_)
  obtain⟨x,H5,I5,r5,y5,zj,Ug⟩:=aL
  have Uh:=I5.pinned (stat Ug) (TT.obj _ _ zj)
  obtain⟨vs,hv,q5⟩:=step x H5 y5
  have hvl:=xx.len tk hv;refine aJ (akR tk hN nd hc hl Uh r5 hv fun s6 I6=>?_);refine aJ (noX (bu (hts _ s6 _ H5 _ I6 q5) fun b s7 aL=>?_))
  obtain⟨H7,I7,q7⟩:=aL
  have abg:∀{s8:aC}{H8:Hp},Inv X ([]++DQ fp s5.heap) (vs.map some++fs) H8 s8→(∃m',m'<n∧W (i+1) m' H8)→
    (CN e 0 (.ref it) acc X.env=CN e 0 (.ref it) acc X.env)∧∃m,m<n∧∃i H',Inv X [] (iJ NT.length none++fs) H' s8∧tn i s8.heap∧(∀b∈fp,H' b=none)∧W i m H':=fun{s8 H8} I8 n8=>by
   obtain⟨m',hm,w8⟩:=n8
   refine⟨rfl,m',hm,i+1,H8,ahR hvl I8.Jd,TT.keep _ _ _ zj fun b hb o e=>(I8.pin (b,o) (dX _ (dX _ (Ij hb e)))).1,fun b hb=>?_,w8⟩
   obtain⟨o,e,d⟩:=TT.obj _ _ zj b hb
   exact(I8.pin (b,o) (dX _ (dX _ (Ij hb e)))).2.1
  cases b with
  |false=>exact aY (abg I7 q7)
  |true=>exact aJ (noX (bu (hem _ s7 _ H7 _ I7 q7) fun _ s8 ⟨H8,I8,q8⟩=>aY (abg I8 q8)))
end
structure Bk where
 cl:List (Str×aa)
 C:aa
 s:aC
 H:Hp
 fp:List aa
abbrev Cx.bk(X:Cx)(N:List Str)(scope:ju)(b:Bk):Cx:=X.blk N scope b.cl b.C b.s b.H b.fp
section
variable{X:Cx}{NT NF:List Str}{js:List Nat}{elt kx vx tg iter e:Expr}{ifs:List Expr}{T:gq}{wi:TI}{ts:Bk→TT}{te tk' tv:Bk→TE}{scope:ju}{pos:Pos}
def Um(K:aG)(wi:TI)(T:gq)(ts:Bk→TT)(te:Bk→TE)(js:List Nat):TE:=fun σ H Q=>wi σ H fun J H1=>∀D,H1 D=none→∀b,wW K T (ts b) (Q0 D (te b)) (frees js σ) J (upd H1 D (.lst [])) (Q (.ref D))
theorem abh{pins:List (aa×Obj)}{σ:St}{s2:aC}{H2:Hp}{cl:List (Str×aa)}{it:aa}{fp:List aa}{tn:Nat→aV→Prop}{J:It}{Q:Hp→Prop}{RR:Value→aa→rB→aC→Prop}{E:Value→aC→Prop}
  (B:pN X NT NF js scope)(tk:oU tg NT T)(hc:X.calm=true)
  (hin:∀b,mY (X.bk (NT++NF) scope b) ifs (ts b)∧PE (X.bk (NT++NF) scope b) elt (te b))
  (q2:∀n c,cl.lookup n=some c→X.env.cells.lookup n=some c)(q3:∀y∈scope.names,y.2=.free→∃c,cl.lookup y.1=some c)
  (I2:Inv X pins σ H2 s2)(TT:Turn X.prog X.w X.K tg J fp it tn)(st2:tn 0 s2.heap)(f2:∀b∈fp,jJ X pins H2 b)
  (q:∀b,wW X.K T (ts b) (Q0 s2.heap.objs.size (te b)) (frees js σ) J (upd H2 s2.heap.objs.size (.lst [])) Q)
  (hR:∀C H' s' m,Inv X pins σ H' s'→jJ X pins H' C→s'.heap.Ns C m→Q H'→RR (.ref s2.heap.objs.size) C (.ok .next) s'):
  aN (model X.prog X.w) X.A (newList []) (fun acc s₃=>aN (model X.prog X.w) X.A (Wt scope X.env.globals cl [] X.env.qual none .none (some X.env)) (fun cenv s₄=>
   j9 (model X.prog X.w) X.A (.compStart (.ListComp elt [⟨tg,iter,ifs,0⟩] scope pos) 0 (.ref it) acc {cenv with scope:=relabel scope X.env}) (RR acc cenv.locals) s₄) E s₃) E s2:=by
 refine nq ?_;have hD:H2 s2.heap.objs.size=none:=I2.hok.fresh (bN _);have I3:Inv X pins σ (upd H2 s2.heap.objs.size (.lst [])) {s2 with heap:=s2.heap.push {cls:=.type "list",dict:=none,data:=.seq ([]:List Value).toArray}}:=
  I2.laid (t':=s2.toks) (fun b o e=>cM _ e) (bN _) ⟨lD _,[],0,.nil,iI _ rfl⟩
 have hsz:(s2.heap.push {cls:=.type "list",dict:=none,data:=.seq ([]:List Value).toArray}).objs.size=s2.heap.objs.size+1:=vJ ..;refine Vx B.cell (by intro y hy;simp at hy) (fun h₁ hns₁ hsb₁=>?_) B.kind;have ur:∀b∈fp,b<s2.heap.objs.size:=fun b hb=>by
  obtain⟨o,e,_⟩:=TT.obj 0 _ st2 b hb
  exact bZ e
 have f3:∀b∈fp,jJ X pins (upd H2 s2.heap.objs.size (.lst [])) b:=fun b hb=>⟨by rw[cR (dY (ur b hb))];exact(f2 b hb).1,(f2 b hb).2⟩
 have keep:∀b o,(s2.heap.push {cls:=.type "list",dict:=none,data:=.seq ([]:List Value).toArray}).get? b=some o→h₁.get? b=some o:=fun b o e=>
  hsb₁.extBut b o (dY (bZ e)) (cM _ e)
 have xF:∀b∈fp,b<(s2.heap.push {cls:=.type "list",dict:=none,data:=.seq ([]:List Value).toArray}).objs.size:=fun b hb=>by have:=ur b hb;rw[hsz];exact vG this
 have I4:=I3.blk (s1:={s2 with heap:=h₁,toks:=s2.toks+([]:List (Str×Value)).length}) B q2 q3 f3 xF hns₁ keep rfl I2.bare;have xG:tn 0 h₁:=TT.keep 0 _ _ st2 fun b _ o e=>keep b o (cM _ e)
 obtain⟨i1,i2⟩:=hin ⟨cl,(s2.heap.push {cls:=.type "list",dict:=none,data:=.seq ([]:List Value).toArray}).objs.size,{s2 with heap:=s2.heap.push {cls:=.type "list",dict:=none,data:=.seq ([]:List Value).toArray}},upd H2 s2.heap.objs.size (.lst []),fp⟩
 have loop:j9 (model X.prog X.w) X.A (.compLoop (.ListComp elt [⟨tg,iter,ifs,0⟩] scope pos) 0 (.ref it) (.ref s2.heap.objs.size) (Qa scope cl (s2.heap.push {cls:=.type "list",dict:=none,data:=.seq ([]:List Value).toArray}).objs.size X.env))
   (RR (.ref s2.heap.objs.size) (s2.heap.push {cls:=.type "list",dict:=none,data:=.seq ([]:List Value).toArray}).objs.size) {s2 with heap:=h₁,toks:=s2.toks+([]:List (Str×Value)).length}:=by
  refine Qc (X:=X.blk (NT++NF) scope cl (s2.heap.push {cls:=.type "list",dict:=none,data:=.seq ([]:List Value).toArray}).objs.size {s2 with heap:=s2.heap.push {cls:=.type "list",dict:=none,data:=.seq ([]:List Value).toArray}} (upd H2 s2.heap.objs.size (.lst [])) fp)
   (T:=T) (fs:=frees js σ) (done:=Q) rfl (af6 elt tg iter ifs scope pos _ _ _) rfl rfl rfl tk rfl B.nd hc (fun x hx=>Vy (B.tg x hx)) i1 (agV i2) TT (fun b hb=>?_) I4 xG (q _) fun H' s' σ' J' qd=>?_
  ·exact⟨(f3 b hb).1,dY (xF b hb),fun hb2=>by
    rcases bI.mp (I3.Ay b hb2) with z|z
    ·exact(f3 b hb).2.1 z
    ·exact(f3 b hb).2.2.1 z,.inl hb,fun x c e=>(f3 b hb).2.2.2.2.1 x c (q2 x c e),fun p hp=>(nomatch(show p∈([]:List (aa×Obj)) from hp))⟩
  ·obtain⟨m,hn,_⟩:=J'.loc
   exact hR _ H' s' m (I3.Tc f3 J') (I3.uX (bN _) J'.free) hn qd
 exact codeAny_compStart_list loop (TT.self _ 0 _ _ _ xG loop)
theorem alZ(B:pN X NT NF js scope)(tk:oU tg NT T)(hc:X.calm=true)(hi:PI X tg iter wi)
  (hin:∀b,mY (X.bk (NT++NF) scope b) ifs (ts b)∧PE (X.bk (NT++NF) scope b) elt (te b))
  (hs:∀x,uz iter X.env x=pure x:=by intro _;rfl):PE X (.ListComp elt [⟨tg,iter,ifs,0⟩] scope pos) (Um X.K wi T ts te js):=by
 intro pins s σ H Q I h
 obtain⟨cl,hclos,q2,q3⟩:=Ik (env:=X.env) (scope:=scope) fun y hy e=>I.ok.has y.1 (B.free y hy e)
 rw[eval_ListComp];refine Lj (use:=none) rfl hs hclos B.kind B.names (bu (hi pins s σ H _ I h) fun v s1 h1=>bu h1 fun itv s2 aL=>?_)
 obtain⟨it,fp,tn,J,H2,e,I2,TT,st2,f2,q⟩:=aL
 subst e;refine abh (Q:=fun H'=>Q (.ref s2.heap.objs.size) H') (RR:=fun acc C=>Qd (model X.prog X.w) X.A X.xe none (EP X pins σ Q) acc C) B tk hc hin q2 q3 I2 TT st2 f2 (q _ (I2.hok.fresh (bN _))) fun C H' s' m I' fC hn qd=>?_
 refine⟨m,hn,fun h' sb=>⟨.ref s2.heap.objs.size,H',?_,rfl,qd⟩⟩
 exact I'.turned (t':=s'.toks) (fun b o hb e=>(sb.2 b hb).trans e) fC.1 fC.2.1 fC.2.2.2.1 fC.2.2.2.2.1 fC.2.2.2.2.2
theorem ahS(B:pN X NT NF js scope)(tk:oU tg NT T)(hc:X.calm=true)(hi:PI X tg iter wi)
  (hin:∀b,mY (X.bk (NT++NF) scope b) ifs (ts b)∧PE (X.bk (NT++NF) scope b) elt (te b))
  (hsw:tK (.ListComp elt [⟨tg,iter,ifs,0⟩] scope pos) (some (.Name y pos')) spos.line X.env=pure true)
  (hN:X.N.Nodup)(hI:X.N[i]?=some y)(hy:X.env.scope.names.lookup y=some .local)
  (hs:∀x,uz iter X.env x=pure x:=by intro _;rfl):PS X (.Assign [.Name y pos'] (.ListComp elt [⟨tg,iter,ifs,0⟩] scope pos) spos) (By (Um X.K wi T ts te js) (wI i)):=by
 intro pins s σ H D I h
 obtain⟨cl,hclos,q2,q3⟩:=Ik (env:=X.env) (scope:=scope) fun y hy e=>I.ok.has y.1 (B.free y hy e)
 rw[adR _ _ _ _ hsw];refine aJ (uB (aJ ?_));show aN _ X.A (do let _ ←WX (.ListComp elt [⟨tg,iter,ifs,0⟩] scope pos) scope X.env _ (newList []) false (eval iter X.env) (some (assign (.Name y pos') X.env))) _ _ s;refine aJ (oF (Lj (use:=some (assign (.Name y pos') X.env)) (Q:=fun _ s'=>SP X pins D .next s') rfl hs hclos B.kind B.names
  (bu (hi pins s σ H _ I h) fun v s1 h1=>bu h1 fun itv s2 ⟨it,fp,tn,J,H2,e,I2,TT,st2,f2,q⟩=>?_)) (fun _ s' hq=>aY (aY hq)) fun _ _ e=>e)
 subst e;refine abh (Q:=fun H'=>D.nx (σ.set i (some (.ref s2.heap.objs.size))) H') (RR:=fun acc C=>Qd (model X.prog X.w) X.A X.xe (some (assign (.Name y pos') X.env)) (fun _ s'=>SP X pins D .next s') acc C) B tk hc hin q2 q3 I2 TT st2 f2 (q _ (I2.hok.fresh (bN _))) fun C H' s' m I' fC hn qd=>?_
 show aN _ X.A (assign (.Name y pos') X.env (.ref s2.heap.objs.size)) _ _ _;refine G5 (O3 I' hN hI (.inl hy) (v:=.ref s2.heap.objs.size) rfl (fun s3 I3 aL=>?_) (.inr hy))
 obtain⟨a,sb,ha⟩:=aL
 have Uo:C≠a:=by
  rcases ha with z|z
  ·rw[z];exact fC.2.1
  ·exact fun w=>fC.2.2.2.2.1 y a z w.symm
 refine⟨m,hn.sameBut sb Uo,fun h' sb'=>⟨_,H',?_,qd⟩⟩
 exact I3.turned (t':=s3.toks) (fun b o hb e=>(sb'.2 b hb).trans e) fC.1 fC.2.1 fC.2.2.2.1 fC.2.2.2.2.1 fC.2.2.2.2.2
end
def Uq(z:Str):It:=⟨fun i _=>i<z.cps.size,fun i H x H'=>H'=H∧∃c,z.cps[i]?=some c∧x=.str ⟨#[c]⟩,fun i _=>z.cps.size≤i⟩
theorem ahT{P:bh}{w:aZ}{K:aG}{tg:Expr}{z:Str}{t:Tok}{ty:String}{it:aa}(hty:ty="str_ascii_iterator"∨ty="str_iterator")(hgo:∀i u,xU tg i u=pure ()):
  Turn P w K tg (Uq z) [it] it (fun i h=>h.IsStrIter it ty z t i) where
 mem:=by simp
 obj:=fun i h st b hb=>by
  have e:b=it:=by simpa using hb
  subst e
  obtain⟨o,e,c,d⟩:=st
  exact⟨o,e,fun v q=>by rw[d] at q;cases q⟩
 keep:=fun i h h' st k=>let ⟨o,ho,r⟩:=st;⟨o,k it (by simp) o ho,r⟩
 item:=by
  intro X hP hw hK hc i pins s σ H E I hf st hg;subst hP hw hK
  obtain⟨f0,f1,f2,f3,f4,f5⟩:=hf it (by simp)
  have hi:i<z.cps.size:=hg;have W:Walks X.prog X.w X.A it [it] [it] z.cps.size (SignAt z) (fun i h=>h.IsStrIter it ty z t i):=by
   rcases hty with rfl|rfl
   ·exact Walks.strAscii (I.ok.hd hc) it z t
   ·exact Walks.strWide (I.ok.hd hc) it z t
  refine W.item i s _ _ hi st fun v h' tk hv st' kk=>?_
  obtain⟨c,u,hc',rfl⟩:=hv
  have I1:Inv X pins σ H {s with heap:=h',toks:=tk}:=I.turned (fun b o hb e=>kk b o (by simpa using hb) e) f0 f1 f3 f4 f5
  refine⟨_,rfl,?_⟩
  rw[hgo];exact aY ⟨.str ⟨#[c]⟩,H,I1,⟨u,rfl⟩,⟨rfl,c,hc',rfl⟩,st',fun b hb=>(hf b hb).1⟩
 done:=by
  intro X hP hw hK hc i pins s σ H E I hf st hg;subst hP hw hK
  obtain⟨f0,f1,f2,f3,f4,f5⟩:=hf it (by simp)
  have hi:z.cps.size≤i:=hg;rcases hty with rfl|rfl
  ·exact wpAny_pyNext_ascii_end (I.ok.hd hc) st (by simpa using hi) fun h' eb=>⟨rfl,I.turned (t':=s.toks) (fun b o hb e=>eb b o hb e) f0 f1 f3 f4 f5⟩
  ·exact wpAny_pyNext_wide_end (I.ok.hd hc) st (by simpa using hi) fun h' eb=>⟨rfl,I.turned (t':=s.toks) (fun b o hb e=>eb b o hb e) f0 f1 f3 f4 f5⟩
 self:=fun _ _ _ _ _ st h=>by
  rcases hty with rfl|rfl
  ·exact wpAny_pyIter_striter_ascii st h
  ·exact wpAny_pyIter_striter_wide st h
section
variable{X:Cx}{tg:Expr}
def amB(tl:TE):TI:=fun σ H R=>tl σ H fun x H1=>∃z,x=.str z∧R (Uq z) H1
theorem abi{l:Expr}{tl:TE}(hl:PE X l tl)(hgo:∀i u,xU tg i u=pure ():=by intro _ _;rfl):PI X tg l (amB tl):=by
 intro pins s σ H R I h;refine bu (hl pins s σ H _ I h) fun v s1 aL=>?_
 obtain⟨x,H1,I1,r1,q1⟩:=aL
 obtain⟨z,e,q⟩:=q1
 subst e
 obtain⟨t,rfl⟩:=r1
 have fin:∀(o:Obj)(ty:String),(ty="str_ascii_iterator"∨ty="str_iterator")→Heap.IsStrIter (s1.heap.push o) s1.heap.objs.size ty z t 0→PIE X pins σ tg R (.ref s1.heap.objs.size) {s1 with heap:=s1.heap.push o}:=fun o ty hty st=>by
  refine⟨s1.heap.objs.size,[s1.heap.objs.size],_,_,H1,rfl,I1.kept (t':=s1.toks) fun b o e=>cM _ e,ahT hty hgo,st,fun b hb=>?_,q⟩
  have e:b=s1.heap.objs.size:=by simpa using hb
  subst e;exact I1.uX (bN _) (I1.hok.fresh (bN _))
 cases ha:z.cps.all (·<128)
 ·exact wpAny_pyIter_wide ha (fin _ _ (.inr rfl) ⟨_,iI _ rfl,rfl,rfl⟩)
 ·exact wpAny_pyIter_ascii ha (fin _ _ (.inl rfl) ⟨_,iI _ rfl,rfl,rfl⟩)
theorem agW:cP X (fj .LtE) (fun x y H Q=>∃i j,x=.str i∧y=.str j∧Q (.bl (!(decide (j.cps.toList<i.cps.toList)))) H):=by
 intro pins s σ H x y v u Q I rx ry h
 obtain⟨i,j,rfl,rfl,q⟩:=h
 obtain⟨t,rfl⟩:=rx
 obtain⟨t',rfl⟩:=ry
 exact PySem.P.le_str (fW I q rfl)
theorem Ou:∀{ys:List Str}{us:List Value},Vals (ys.map V.str) us→StrsAre us ys
 |[],_,h=>by cases h;exact .nil
 |y::ys,_,h=>by
  cases h with
  |cons r rr=>
   obtain⟨t,rfl⟩:=r
   exact .cons y t (Ou rr)
theorem ajh:rR X "str.join" (fun x xs H Q=>∃z p ys,x=.str z∧xs=[.ref p]∧bL X.K H p (ys.map V.str)∧(ys.map (·.length)).sum+ys.length*z.length≤16777216∧Q (.str (Txt.join z ys)) H):=by
 intro pins s σ H x xs v us Q I rx r h
 obtain⟨z,p,ys,rfl,rfl,hp,hz,q⟩:=h
 obtain⟨t,rfl⟩:=rx
 obtain⟨u,rfl,ru⟩:=vals1 r
 cases ru
 obtain⟨its,rv,pl,_⟩:=I.list hp
 exact join_list pl.isList (by simpa using Ou rv) hz fun t' k=>⟨.str _,H,I.tok _,⟨_,rfl⟩,q⟩
end
section
variable{X:Cx}
theorem part_of(h:tU v o):∃l:Option (Int×Tok),v=partValue l∧l.map (·.1)=o:=by
 cases h with
 |none=>exact⟨none,rfl,rfl⟩
 |int i t=>exact⟨some (i,t),rfl,rfl⟩
theorem akS:vh X (fun x lo hi H Q=>∃z,x=.str z∧z.length≤bR∧Q (.str (Txt.slice z lo hi)) H):=by
 intro pins s σ H x v vl vu lo hi sl Q I rx hs pl pu h
 obtain⟨z,rfl,hz,q⟩:=h
 obtain⟨t,rfl⟩:=rx
 obtain⟨l,rfl,rfl⟩:=part_of pl
 obtain⟨u,rfl,rfl⟩:=part_of pu
 refine⟨"str",_,F.slot_str_getitem.lookup,Xz s z t,?_⟩
 exact wpAny_getItem_str_slice (l:=l) (u:=u) (st:=none) hs rfl (post_val_or_str ⟨jD (Txt.slice_le z _ _) hz,fun t' k=>⟨.str _,H,I.tok _,⟨t',rfl⟩,q⟩⟩)
theorem Zb:∀{bs:List Bool}{us:List Value},Vals (bs.map V.bl) us→us=bs.map sZ
 |[],_,h=>by cases h;rfl
 |b::bs,_,h=>by
  cases h with
  |cons r rr=>
   cases r;rw[Zb rr];rfl
theorem ahU(hc:X.calm=true):iQ X (.builtin "all") (fun xs H Q=>∃(p:aa)(bs:List Bool),xs=[.ref p]∧bL X.K H p (bs.map V.bl)∧Q (.bl (bs.all id)) H):=by
 intro pins s σ H xs us Q I r h
 obtain⟨p,bs,rfl,hp,q⟩:=h
 obtain⟨u,rfl,ru⟩:=vals1 r
 cases ru
 obtain⟨its,rv,pl,_⟩:=I.list hp
 have hl:=pl.isList;have e0:=Zb rv;subst e0;have hlt:p<s.heap.objs.size:=by obtain⟨_,e,_⟩:=hl;exact bZ e
 refine call_all_walk (LC hl ?_)
 refine⟨s.heap.objs.size,[s.heap.objs.size,p],[s.heap.objs.size],(bs.map sZ).toArray.size,_,_,fun i=>(bs[i]?).getD true,rfl,XM (A:=X.A.in1) (I.ok.hd hc) _ p (dY hlt) (bs.map sZ).toArray,
  ⟨⟨_,iI _ rfl,rfl,rfl⟩,hl.push _⟩,fun i v s' Q' E' hP hQ=>?_,fun h' tk hk=>?_⟩
 ·have hP':(bs.map sZ)[i]?=some v:=by simpa using hP
  rw[gK] at hP';cases e:bs[i]? with
  |none=>rw[e] at hP';cases hP'
  |some b=>
   rw[e] at hP';cases hP';simp only[e,zM] at hQ;exact vD hQ
 ·have e:((dZ (bs.map sZ).toArray.size).all fun i=>(bs[i]?).getD true)=bs.all id:=by
   have:(bs.map sZ).toArray.size=bs.length:=by simp
   rw[this,sU,qQ,qQ];constructor
   ·intro h b hb
    obtain⟨i,hi,rfl⟩:=sI hb
    have:=h i (qR.mpr hi);simpa[gQ hi] using this
   ·intro h i hi;have hi':=qR.mp hi;simp only[gQ hi',zM];exact h _ (xR hi')
  rw[e]
  refine⟨.bl _,H,I.kept fun b x e=>hk b x (fun hm=>?_) (cM _ e),rfl,q⟩
  rw[gB.mp hm] at e;exact vK _ (bZ e)
end
mutual
def RD(K:aG)(H:Hp):ao→V→Prop
 |.none,v=>v=.non
 |.bool b,v=>v=.bl b
 |.int i,v=>v=.int i
 |.str x,v=>v=.str x
 |.tuple ds,v=>∃a vs,v=.ref a∧cU K H a vs∧j0 K H ds vs
 |.list ds,v=>∃a vs,v=.ref a∧bL K H a vs∧j0 K H ds vs
 |.dict _,_=>False
def j0(K:aG)(H:Hp):List ao→List V→Prop
 |[],vs=>vs=[]
 |d::ds,vs=>∃v r,vs=v::r∧RD K H d v∧j0 K H ds r
end
theorem cU.same{K:aG}{H H':Hp}{a:aa}{xs:List V}(e:∀b ys,H b=some (.tup ys)→H' b=some (.tup ys))(ef:∀b o u,H b=some (.lq o u)→H' b=some (.lq o u))(h:cU K H a xs):cU K H' a xs:=by
 rcases h with(h|⟨o,h⟩)|h
 ·exact .inl (.inl (e _ _ h))
 ·exact .inl (.inr ⟨o,ef _ _ _ h⟩)
 ·exact .inr h
mutual
theorem RD.same{K:aG}{H H':Hp}(e:bw H H'):∀{d:ao}{v:V},RD K H d v→RD K H' d v
 |.none,_,h=>h
 |.bool _,_,h=>h
 |.int _,_,h=>h
 |.str _,_,h=>h
 |.tuple ds,v,h=>by
  obtain⟨a,vs,e1,q,r⟩:=h
  exact⟨a,vs,e1,q.same (fun b ys z=>e _ _ z) (fun b o u z=>e _ _ z),j0.same e r⟩
 |.list ds,v,h=>by
  obtain⟨a,vs,e1,q,r⟩:=h
  exact⟨a,vs,e1,e.seq q,j0.same e r⟩
theorem j0.same{K:aG}{H H':Hp}(e:bw H H'):∀{ds:List ao}{vs:List V},j0 K H ds vs→j0 K H' ds vs
 |[],_,h=>h
 |d::ds,vs,h=>by
  obtain⟨v,r,e1,q,t⟩:=h
  exact⟨v,r,e1,RD.same e q,j0.same e t⟩
end
mutual
theorem RD.nodict{K:aG}{H:Hp}:∀{d:ao}{v:V},RD K H d v→d.hasDict=false
 |.none,_,h=>by simp[Cy]
 |.bool _,_,h=>by simp[Cy]
 |.int _,_,h=>by simp[Cy]
 |.str _,_,h=>by simp[Cy]
 |.tuple ds,v,h=>by
  obtain⟨a,vs,e1,q,r⟩:=h
  simpa[Cy] using j0.nodict r
 |.list ds,v,h=>by
  obtain⟨a,vs,e1,q,r⟩:=h
  simpa[Cy] using j0.nodict r
theorem j0.nodict{K:aG}{H:Hp}:∀{ds:List ao}{vs:List V},j0 K H ds vs→VR ds=false
 |[],_,h=>by simp[VR]
 |d::ds,vs,h=>by
  obtain⟨v,r,e1,q,t⟩:=h
  simp[VR,RD.nodict q,j0.nodict t]
end
section
variable{X:Cx}{pins:List (aa×Obj)}{σ:St}{H:Hp}{s:aC}
mutual
theorem RD.reads(I:Inv X pins σ H s):∀{d:ao}{v:V}{u:Value},RD X.K H d v→RelV v u→∃as,Reads s.heap u d as
 |.none,_,_,h,r=>by
  cases(show _=V.non from h)
  cases r
  exact⟨_,.none⟩
 |.bool b,_,_,h,r=>by
  cases(show _=V.bl b from h)
  cases r
  exact⟨_,.bool b⟩
 |.int i,_,_,h,r=>by
  cases(show _=V.int i from h)
  obtain⟨t,rfl⟩:=r
  exact⟨_,.int i t⟩
 |.str x,_,_,h,r=>by
  cases(show _=V.str x from h)
  obtain⟨t,rfl⟩:=r
  exact⟨_,.str x t⟩
 |.tuple ds,v,u,h,r=>by
  obtain⟨a,vs,e1,q,t⟩:=h
  subst e1;cases r
  obtain⟨its,rv,⟨o,e,c,n,d⟩,_⟩:=I.tuple q
  obtain⟨as,R⟩:=j0.reads I t rv
  exact⟨_,.tuple e c d (by simpa using R)⟩
 |.list ds,v,u,h,r=>by
  obtain⟨a,vs,e1,q,t⟩:=h
  subst e1;cases r
  obtain⟨its,rv,⟨o,n,e,c,_,d⟩,_⟩:=I.list q
  obtain⟨as,R⟩:=j0.reads I t rv
  exact⟨_,.list e c d (by simpa using R)⟩
theorem j0.reads(I:Inv X pins σ H s):∀{ds:List ao}{vs:List V}{us:List Value},j0 X.K H ds vs→Vals vs us→∃as,ReadsAll s.heap us ds as
 |[],_,_,h,r=>by
  cases(show _=[] from h)
  cases r
  exact⟨_,.nil⟩
 |d::ds,vs,us,h,r=>by
  obtain⟨v,rr,e1,q,t⟩:=h
  subst e1;cases r with
  |cons r1 r2=>
   obtain⟨as,R⟩:=RD.reads I q r1
   obtain⟨bs,R2⟩:=j0.reads I t r2
   exact⟨_,.cons R R2⟩
end
end
section
variable{X:Cx}
end
def abj(mZ:ju)(N0 NT NF:List Str)(js:List Nat)(scope:ju):Bool:=
 scope.kind==.function&&scope.names.all (fun y=>!(y.2==.local)||scope.names.lookup y.1==some .local)&&scope.names.all (fun y=>!(y.2==.cell))&&
  scope.names.all (fun y=>!(y.2==.free)||(mZ.names.lookup y.1==some .cell||mZ.names.lookup y.1==some .free))&&js.length==NF.length&&
  (js.zip NF).all (fun p=>N0[p.1]?==some p.2&&scope.names.lookup p.2==some .free)&&NT.all (fun x=>scope.names.lookup x==some .local)&&decide (NT++NF).Nodup
theorem qG.ok(h:abj mZ N0 NT NF js scope=true)(ho:X.env.scope=mZ)(hN:X.N=N0):pN X NT NF js scope:=by
 unfold abj at h;simp only[ie] at h
 obtain⟨⟨⟨⟨⟨⟨⟨h1,h2⟩,h3⟩,h4⟩,h5⟩,h6⟩,h7⟩,h8⟩:=h
 refine⟨eq_of_beq h1,fun y hy e=>?_,fun y hy e=>?_,fun y hy e=>?_,by simpa using h5,fun k j x ej ex=>?_,fun x hx=>?_,of_decide_eq_true h8⟩
 ·have:=qQ.mp h2 y hy;rw[e] at this;simpa using this
 ·have:=qQ.mp h3 y hy;rw[e] at this;simp at this
 ·have:=qQ.mp h4 y hy;rw[e] at this;rw[ho];simpa using this
 ·have hm:(j,x)∈js.zip NF:=by
   have:(js.zip NF)[k]?=some (j,x):=by
    rw[List.getElem?_zip_eq_some]
    exact⟨ej,ex⟩
   exact jB this
  have:=qQ.mp h6 _ hm;simp only[ie] at this;rw[hN]
  exact⟨eq_of_beq this.1,eq_of_beq this.2⟩
 ·exact eq_of_beq (qQ.mp h7 x hx)
structure c7(P:bh)(w:aZ)(K:aG)(mg:Str→Option Value)(base:aV)(x:Str)(k:Nat)(ps:List Str)(sp:Sp):Prop where
 ex:∃(f:aa)(fd:dz),mg x=some (.ref f)∧vI K (.ref f)=true∧Binds K fd ps []∧dw P w K mg base eY k f fd ps sp
section
variable{X:Cx}{x:Str}{k:Nat}{ps:List Str}{sp:Sp}{p pos:Pos}{e:Expr}{es:List Expr}{t:TA}
theorem al0(F:c7 X.prog X.w X.K X.mg X.base x k ps sp)(hr:iT k X.A)(hg:Gl X x)(ha:PA X (e::es) t)(hdb:(x==("__debug__":Str))=false:=by decide)
  (he:aW (e::es) X.env=(false,eval e X.env)::aW es X.env:=by rfl)(hpl:(fG pos (aW es X.env)).any (·.1)=false:=by rfl):
  PE X (.Call (.Name x p) (e::es) [] pos) (S7 sp [] E0 t):=by
 obtain⟨f,fd,h1,h2,h3,h4⟩:=F.ex
 exact ai2 h4 hr hg h1 h2 h3 .nil alY ha hdb he hpl
theorem afO:iQ X (.builtin "isinstance") (fun xs H Q=>∃x n t b,xs=[x,.ty n]∧lX X.K H x t∧zT X.K t (.type n)=some b∧Q (.bl b) H):=by
 intro pins s σ H xs us Q I r h
 obtain⟨x,n,t,b,rfl,ty,e,q⟩:=h
 obtain⟨u,u2,rfl,r1,r2⟩:=vals2 r
 cases r2;exact agK I r1 ty e fun tk=>⟨.bl b,H,I.tok tk,rfl,q⟩
end
structure Fx(K:aG)(T:gq)(J:It)(n:Nat)(vs:Nat→List V)(G:Hp→Prop):Prop where
 go:∀i H,i<n→G H→J.go i H
 xm:∀i H x H',i<n→G H→J.xm i H x H'→H'=H∧xx K T x H (vs i)
 stop:∀H,G H→J.stop n H
section
variable{K:aG}{T:gq}{J:It}{n:Nat}{vs:Nat→List V}{G:Hp→Prop}{ts:TT}{te:TE}{fs:St}{H1:Hp}{D:aa}{done:Hp→Prop}
end
theorem aji(h:n≤m)(hm:m≤16777216:=by decide):n≤bR:=by rw[jq];omega
section
variable{K:aG}{T:gq}{J:It}{n:Nat}{vs:Nat→List V}{G:Hp→Prop}{te:TE}{fs:St}{H1:Hp}{D:aa}{done:Hp→Prop}
end
section
variable{X:Cx}
theorem rR.r{id:String}{r:V→List V→Hp→VK→Prop}(h:rR X id r):BR X id r:=h
end
def Ext(p:aa)(H H':Hp):Prop:=∀b o,H b=some o→b≠p→H' b=some o
theorem Ext.refl(p:aa)(H:Hp):Ext p H H:=fun _ _ h _=>h
theorem Ext.trans(a:Ext p H H1)(b:Ext p H1 H2):Ext p H H2:=fun c o h hc=>b c o (a c o h hc) hc
theorem bw.ext(s:bw H H'):Ext p H H':=fun b o h _=>s b o h
theorem Ext.upd:Ext p H (upd H p o):=fun b u h hb=>by rw[cR hb];exact h
theorem bw.upd(h:H p=none):bw H (L2.upd H p o):=fun b u e=>by rw[cR (qb e h)];exact e
def T4(D:aa)(tk tv:TE):TM:=fun σ H Q=>tk σ H fun y H1=>tv σ H1 fun z H2=>∃kvs k,H2 D=some (.dK kvs)∧y=kV k∧kvs.length<bR∧Q (upd H2 D (.dK (putK kvs k z)))
theorem akT(hu:X.A.units+1<fP)(hk:PE X kx tk)(hv:PE X vx tv):PM X (do
      let kv ←eval kx X.env
      let vv ←qg [kv] (eval vx X.env)
      tM {kx.pos with endLine:=vx.pos.endLine,endCol:=vx.pos.endCol}
      qg [kv,vv] (dictSet D kv vv)) (T4 D tk tv):=by
 intro pins s σ H Q I h;refine aJ (bu (hk pins s σ H _ I h) fun kv s1 aL=>?_)
 obtain⟨y,H1,I1,r1,q1⟩:=aL
 refine aJ (nA (bu (hv pins s1 σ H1 _ I1 q1) fun vv s2 aL=>?_))
 obtain⟨z,H2,I2,r2,kvs,k,hD,ey,hl,q2⟩:=aL
 subst ey;refine aJ (uB (nA ?_))
 obtain⟨z1,hd,vs,rel,dd⟩:=J7 I2.hok hD
 have hz:vs.length≤bR:=by rw[←rel.length];exact z1
 have hl2:(putK kvs k z).length≤bR:=by have:=Ib kvs k z;omega
 refine wpAny_dictSet_pairs (hsz:=hz) (wJ r1) dd fun h' uq hs=>⟨_,?_,q2⟩
 have he:∃q,h'.get? D=some q:=let ⟨q,_,_,hq,_⟩:=uq;⟨q,hq⟩
 exact yt I2 (by rw[hD];exact lF) hs he (JS hl2 hd (rel.put k r2) uq)
section
variable{X:Cx}{NT NF:List Str}{js:List Nat}{elt kx vx tg iter e:Expr}{ifs:List Expr}{T:gq}{wi:TI}{ts:Bk→TT}{te tk' tv:Bk→TE}{scope:ju}{pos:Pos}
def tDC(K:aG)(wi:TI)(T:gq)(ts:Bk→TT)(tk' tv:Bk→TE)(js:List Nat):TE:=fun σ H Q=>wi σ H fun J H1=>∀D,H1 D=none→∀b,wW K T (ts b) (T4 D (tk' b) (tv b)) (frees js σ) J (upd H1 D (.dK [])) (Q (.ref D))
theorem akU{pins:List (aa×Obj)}{σ:St}{s2:aC}{H2:Hp}{cl:List (Str×aa)}{it:aa}{fp:List aa}{tn:Nat→aV→Prop}{J:It}{Q:Hp→Prop}{RR:Value→aa→rB→aC→Prop}{E:Value→aC→Prop}
  (B:pN X NT NF js scope)(tk:oU tg NT T)(hc:X.calm=true)(hu:X.A.units+1<fP)
  (hin:∀b,mY (X.bk (NT++NF) scope b) ifs (ts b)∧PE (X.bk (NT++NF) scope b) kx (tk' b)∧PE (X.bk (NT++NF) scope b) vx (tv b))
  (q2:∀n c,cl.lookup n=some c→X.env.cells.lookup n=some c)(q3:∀y∈scope.names,y.2=.free→∃c,cl.lookup y.1=some c)
  (I2:Inv X pins σ H2 s2)(TT:Turn X.prog X.w X.K tg J fp it tn)(st2:tn 0 s2.heap)(f2:∀b∈fp,jJ X pins H2 b)
  (q:∀b,wW X.K T (ts b) (T4 s2.heap.objs.size (tk' b) (tv b)) (frees js σ) J (upd H2 s2.heap.objs.size (.dK [])) Q)
  (hR:∀C H' s' m,Inv X pins σ H' s'→jJ X pins H' C→s'.heap.Ns C m→Q H'→RR (.ref s2.heap.objs.size) C (.ok .next) s'):
  aN (model X.prog X.w) X.A (newDict) (fun acc s₃=>aN (model X.prog X.w) X.A (Wt scope X.env.globals cl [] X.env.qual none .none (some X.env)) (fun cenv s₄=>
   j9 (model X.prog X.w) X.A (.compStart (.DictComp kx vx [⟨tg,iter,ifs,0⟩] scope pos) 0 (.ref it) acc {cenv with scope:=relabel scope X.env}) (RR acc cenv.locals) s₄) E s₃) E s2:=by
 refine nq ?_;have hD:H2 s2.heap.objs.size=none:=I2.hok.fresh (bN _);have I3:Inv X pins σ (upd H2 s2.heap.objs.size (.dK [])) {s2 with heap:=s2.heap.push {cls:=.type "dict",dict:=none,data:=.dict #[]}}:=
  I2.laid (t':=s2.toks) (fun b o e=>cM _ e) (bN _) (P0 s2.heap I2.big)
 have hsz:(s2.heap.push {cls:=.type "dict",dict:=none,data:=.dict #[]}).objs.size=s2.heap.objs.size+1:=vJ ..;refine Vx B.cell (by intro y hy;simp at hy) (fun h₁ hns₁ hsb₁=>?_) B.kind;have ur:∀b∈fp,b<s2.heap.objs.size:=fun b hb=>by
  obtain⟨o,e,_⟩:=TT.obj 0 _ st2 b hb
  exact bZ e
 have f3:∀b∈fp,jJ X pins (upd H2 s2.heap.objs.size (.dK [])) b:=fun b hb=>⟨by rw[cR (dY (ur b hb))];exact(f2 b hb).1,(f2 b hb).2⟩
 have keep:∀b o,(s2.heap.push {cls:=.type "dict",dict:=none,data:=.dict #[]}).get? b=some o→h₁.get? b=some o:=fun b o e=>
  hsb₁.extBut b o (dY (bZ e)) (cM _ e)
 have xF:∀b∈fp,b<(s2.heap.push {cls:=.type "dict",dict:=none,data:=.dict #[]}).objs.size:=fun b hb=>by have:=ur b hb;rw[hsz];exact vG this
 have I4:=I3.blk (s1:={s2 with heap:=h₁,toks:=s2.toks+([]:List (Str×Value)).length}) B q2 q3 f3 xF hns₁ keep rfl I2.bare;have xG:tn 0 h₁:=TT.keep 0 _ _ st2 fun b _ o e=>keep b o (cM _ e)
 obtain⟨i1,i2,i3⟩:=hin ⟨cl,(s2.heap.push {cls:=.type "dict",dict:=none,data:=.dict #[]}).objs.size,{s2 with heap:=s2.heap.push {cls:=.type "dict",dict:=none,data:=.dict #[]}},upd H2 s2.heap.objs.size (.dK []),fp⟩
 have loop:j9 (model X.prog X.w) X.A (.compLoop (.DictComp kx vx [⟨tg,iter,ifs,0⟩] scope pos) 0 (.ref it) (.ref s2.heap.objs.size) (Qa scope cl (s2.heap.push {cls:=.type "dict",dict:=none,data:=.dict #[]}).objs.size X.env))
   (RR (.ref s2.heap.objs.size) (s2.heap.push {cls:=.type "dict",dict:=none,data:=.dict #[]}).objs.size) {s2 with heap:=h₁,toks:=s2.toks+([]:List (Str×Value)).length}:=by
  refine Qc (X:=X.blk (NT++NF) scope cl (s2.heap.push {cls:=.type "dict",dict:=none,data:=.dict #[]}).objs.size {s2 with heap:=s2.heap.push {cls:=.type "dict",dict:=none,data:=.dict #[]}} (upd H2 s2.heap.objs.size (.dK [])) fp)
   (T:=T) (fs:=frees js σ) (done:=Q) rfl (af7 kx vx tg iter ifs scope pos _ _ _) rfl rfl rfl tk rfl B.nd hc (fun x hx=>Vy (B.tg x hx)) i1 (akT hu i2 i3) TT (fun b hb=>?_) I4 xG (q _) fun H' s' σ' J' qd=>?_
  ·exact⟨(f3 b hb).1,dY (xF b hb),fun hb2=>by
    rcases bI.mp (I3.Ay b hb2) with z|z
    ·exact(f3 b hb).2.1 z
    ·exact(f3 b hb).2.2.1 z,.inl hb,fun x c e=>(f3 b hb).2.2.2.2.1 x c (q2 x c e),fun p hp=>(nomatch(show p∈([]:List (aa×Obj)) from hp))⟩
  ·obtain⟨m,hn,_⟩:=J'.loc
   exact hR _ H' s' m (I3.Tc f3 J') (I3.uX (bN _) J'.free) hn qd
 exact codeAny_compStart_dict loop (TT.self _ 0 _ _ _ xG loop)
theorem ahV(B:pN X NT NF js scope)(tk:oU tg NT T)(hc:X.calm=true)(hu:X.A.units+1<fP)(hi:PI X tg iter wi)
  (hin:∀b,mY (X.bk (NT++NF) scope b) ifs (ts b)∧PE (X.bk (NT++NF) scope b) kx (tk' b)∧PE (X.bk (NT++NF) scope b) vx (tv b))
  (hsw:tK (.DictComp kx vx [⟨tg,iter,ifs,0⟩] scope pos) (some (.Name y pos')) spos.line X.env=pure true)
  (hN:X.N.Nodup)(hI:X.N[i]?=some y)(hy:X.env.scope.names.lookup y=some .local)
  (hs:∀x,uz iter X.env x=pure x:=by intro _;rfl):PS X (.Assign [.Name y pos'] (.DictComp kx vx [⟨tg,iter,ifs,0⟩] scope pos) spos) (By (tDC X.K wi T ts tk' tv js) (wI i)):=by
 intro pins s σ H D I h
 obtain⟨cl,hclos,q2,q3⟩:=Ik (env:=X.env) (scope:=scope) fun y hy e=>I.ok.has y.1 (B.free y hy e)
 rw[adR _ _ _ _ hsw];refine aJ (uB (aJ ?_));show aN _ X.A (do let _ ←WX (.DictComp kx vx [⟨tg,iter,ifs,0⟩] scope pos) scope X.env _ (newDict) false (eval iter X.env) (some (assign (.Name y pos') X.env))) _ _ s;refine aJ (oF (Lj (use:=some (assign (.Name y pos') X.env)) (Q:=fun _ s'=>SP X pins D .next s') rfl hs hclos B.kind B.names
  (bu (hi pins s σ H _ I h) fun v s1 h1=>bu h1 fun itv s2 ⟨it,fp,tn,J,H2,e,I2,TT,st2,f2,q⟩=>?_)) (fun _ s' hq=>aY (aY hq)) fun _ _ e=>e)
 subst e;refine akU (hu:=hu) (Q:=fun H'=>D.nx (σ.set i (some (.ref s2.heap.objs.size))) H') (RR:=fun acc C=>Qd (model X.prog X.w) X.A X.xe (some (assign (.Name y pos') X.env)) (fun _ s'=>SP X pins D .next s') acc C) B tk hc (hin:=hin) q2 q3 I2 TT st2 f2 (q _ (I2.hok.fresh (bN _))) fun C H' s' m I' fC hn qd=>?_
 show aN _ X.A (assign (.Name y pos') X.env (.ref s2.heap.objs.size)) _ _ _;refine G5 (O3 I' hN hI (.inl hy) (v:=.ref s2.heap.objs.size) rfl (fun s3 I3 aL=>?_) (.inr hy))
 obtain⟨a,sb,ha⟩:=aL
 have Uo:C≠a:=by
  rcases ha with z|z
  ·rw[z];exact fC.2.1
  ·exact fun w=>fC.2.2.2.2.1 y a z w.symm
 refine⟨m,hn.sameBut sb Uo,fun h' sb'=>⟨_,H',?_,qd⟩⟩
 exact I3.turned (t':=s3.toks) (fun b o hb e=>(sb'.2 b hb).trans e) fC.1 fC.2.1 fC.2.2.2.1 fC.2.2.2.2.1 fC.2.2.2.2.2
end
section
variable{X:Cx}
theorem ajj{K:aG}{t:Value}{c d:Value}{p q:Bool}(e1:zT K t c=some p)(e2:zT K t d=some q):Mz K t [c,d]=some (p||q):=by
 unfold Mz;rw[e1];cases p with
 |true=>rfl
 |false=>
  unfold Mz;rw[e2];cases q with
  |true=>rfl
  |false=>rfl
end
structure Fy(K:aG)(T:gq)(J:It)(n:Nat)(vs:Nat→List V)(G:Hp→Prop):Prop where
 go:∀i H,i<n→G H→J.go i H
 xm:∀i H x H',i<n→G H→J.xm i H x H'→bw H H'∧xx K T x H' (vs i)
 stop:∀H,G H→J.stop n H
section
variable{K:aG}{T:gq}{J:It}{n:Nat}{vs:Nat→List V}{G:Hp→Prop}{ts:TT}{te:TE}{fs:St}{H1:Hp}{D:aa}{done:Hp→Prop}
end
theorem Inv.Dq{X:Cx}{pins:List (aa×Obj)}{σ:St}{H H':Hp}{s:aC}{h':aV}{t':Nat}{ch:List aa}(I:Inv X pins σ H s)(k:∀b o,b∉ch→s.heap.get? b=some o→h'.get? b=some o)(hf:∀b∈ch,jJ X pins H b)
  (hs:bw H H')(hfr:∀b o,s.heap.get? b=some o→H b=none→H' b=none)(hn:∀b u,H' b=some u→H b=some u∨fB X.prog X.w H' h' b u):Inv X pins σ H' {s with heap:=h',toks:=t'}:=by
 have Gb:∀b u,H b=some u→b∉ch:=fun b u e z=>by rw[(hf b z).1] at e;cases e
 refine I.step (g':=s.gens) (d':=s.drawn) (ch:=ch) (fun b hb=>⟨(hf b hb).2.2.2.1,(hf b hb).2.1,(hf b hb).2.2.2.2.1,(hf b hb).2.2.2.2.2⟩) (fun b o _ _ hc e _=>k b o hc e) (fun b o _ _ hc e _=>⟨o.slots,k b o hc e⟩) (fun b o _ e n=>hfr b o e n)
  (fun b o hc e=>⟨o,k b o hc e⟩) (fun _ _ e=>hs _ _ e) (fun _ _ _ e=>hs _ _ e) (fun b ps e=>⟨#[],by rw[hs _ _ e];simp⟩) (fun m hm=>?_) (fun b u e=>?_) I.bare
 ·obtain⟨o,es,ep,ho,r⟩:=hm
  exact⟨o,es,ep,k _ o (fun z=>(hf _ z).2.1 rfl) ho,r⟩
 ·rcases hn b u e with z|z
  ·refine(I.hok b u z).stay (fun c v hc q=>k c v ?_ q) (fun _ q=>hs _ _ q) fun _ _ q=>hs _ _ q
   rcases hc with y|y
   ·rw[y];exact Gb b u z
   ·exact Gb c _ y
  ·exact z
def Ur(K:aG)(a b:aa):It:=⟨fun i H=>∃xs ys,bL K H a xs∧bL K H b ys∧i<min xs.length ys.length,
 fun i H v H'=>∃p x y,H p=none∧v=.ref p∧H'=upd H p (.tup [x,y])∧∀xs ys,bL K H a xs→bL K H b ys→xs[i]?=some x∧ys[i]?=some y,
 fun i H=>∃xs ys,bL K H a xs∧bL K H b ys∧i=min xs.length ys.length⟩
theorem ahW{P:bh}{w:aZ}{K:aG}{es:List Expr}{k:Nat}{ps:Pos}{a b z TI TO i1 i2:aa}(D:ZipApart z TI TO i1 i2 a b):
  Turn P w K (.Tuple es k ps) (Ur K a b) [z,TI,TO,i1,i2] z (fun i h=>IsZip h z TI TO .none∧IsPair h TI (.ref i1) (.ref i2)∧(∃c d,IsPair h TO c d)∧h.IsListIter i1 a i∧h.IsListIter i2 b i) where
 mem:=by simp
 obj:=fun i h st c hc=>by
  obtain⟨h1,h2,⟨_,_,h3⟩,⟨o4,e4,_,d4⟩,⟨o5,e5,_,d5⟩⟩:=st
  simp only[bI,jg,or_false] at hc;rcases hc with rfl|rfl|rfl|rfl|rfl
  ·exact⟨_,h1,fun v q=>by cases q⟩
  ·exact⟨_,h2,fun v q=>by cases q⟩
  ·exact⟨_,h3,fun v q=>by cases q⟩
  ·exact⟨_,e4,fun v q=>by rw[d4] at q;cases q⟩
  ·exact⟨_,e5,fun v q=>by rw[d5] at q;cases q⟩
 keep:=fun i h h' st kk=>by
  obtain⟨h1,h2,⟨c,d,h3⟩,h4,h5⟩:=st
  exact⟨kk z (by simp) _ h1,kk TI (by simp) _ h2,⟨c,d,kk TO (by simp) _ h3⟩,h4.at fun o e=>kk i1 (by simp) o e,h5.at fun o e=>kk i2 (by simp) o e⟩
 item:=by
  intro X hP hw hK hc i pins s σ H E I hf st hg;subst hP hw hK
  obtain⟨xs,ys,ha,hb,hi⟩:=hg
  obtain⟨its,r1,p1,_⟩:=I.list ha
  obtain⟨its2,r2,p2,_⟩:=I.list hb
  have l1:=r1.length;have l2:=r2.length;have W:=afP (prog:=X.prog) (w:=X.w) (A:=X.A) (I.ok.hd hc) z TI TO i1 i2 a b D its.toArray its2.toArray
  obtain⟨s1,s2,s3,s4,s5⟩:=st
  refine W.item i s _ E (by simp;omega) ⟨s1,s2,s3,s4,s5,p1.isList,p2.isList⟩ fun T vals h' tk hv hT ht hm kk=>?_
  obtain⟨x,y,hx,hy,rfl⟩:=hv
  refine⟨_,rfl,W.go es k ps i T _ _ E hm fun h2 st2 rT=>?_⟩
  have gx:xs[i]?=some (xs.getD i .non):=by
   have:i<xs.length:=by omega
   simp[qX,this]
  have gy:ys[i]?=some (ys.getD i .non):=by
   have:i<ys.length:=by omega
   simp[qX,this]
  obtain⟨u1,hu1,q1⟩:=r1.get gx
  obtain⟨u2,hu2,q2⟩:=r2.get gy
  have ex:u1=x:=by
   have:its[i]?=some x:=by simpa using hx
   rw[hu1] at this;exact fX this
  have ey:u2=y:=by
   have:its2[i]?=some y:=by simpa using hy
   rw[hu2] at this;exact fX this
  subst ex ey;have wf:∀c,c∈[z,TO,i1,i2]→jJ X pins H c:=fun c hc=>hf c (by simp at hc⊢;rcases hc with rfl|rfl|rfl|rfl<;>simp)
  have Gh:H T=none:=I.hok.fresh hT;have nT:T∉[z,TO,i1,i2]:=W.apart i T _ hm;have kT:h2.get? T=h'.get? T:=by
   obtain⟨o,e,_⟩:=id ht
   rw[rT T o nT e];exact e.symm
  obtain⟨oT,eT,cT,nT',dT⟩:=id ht
  refine⟨.ref T,upd H T (.tup [xs.getD i .non,ys.getD i .non]),I.Dq (fun c o hc e=>rT c o hc (kk c o hc e)) wf (bw.upd Gh) (fun c o e n=>?_) (fun c u e=>?_),rfl,⟨T,_,_,Gh,rfl,rfl,fun xs' ys' h1 h2=>?_⟩,?_,fun c hc=>?_⟩
  ·rw[cR]
   ·exact n
   ·intro z;subst z;exact absurd (bZ e) (Il.mpr hT)
  ·by_cases Gi:c=T
   ·subst Gi;rw[eU] at e;cases e;refine .inr ⟨by show 2≤bR;decide,[u1,u2],.cons q1 (.cons q2 .nil),oT,kT.trans eT,cT,nT',by simpa using dT⟩
   ·rw[cR Gi] at e;exact .inl e
  ·rw[I.Jc h1 ha,I.Jc h2 hb]
   exact⟨gx,gy⟩
  ·exact⟨st2.1,st2.2.1,st2.2.2.1,st2.2.2.2.1,st2.2.2.2.2.1⟩
  ·rw[cR]
   ·exact(hf c hc).1
   ·intro z;subst z
    obtain⟨o,e,_⟩:∃o,s.heap.get? c=some o∧True:=by
     simp only[bI,jg,or_false] at hc
     obtain⟨c1,d1,s3⟩:=s3
     obtain⟨o4,e4,_⟩:=s4
     obtain⟨o5,e5,_⟩:=s5
     rcases hc with rfl|rfl|rfl|rfl|rfl
     ·exact⟨_,s1,trivial⟩
     ·exact⟨_,s2,trivial⟩
     ·exact⟨_,s3,trivial⟩
     ·exact⟨_,e4,trivial⟩
     ·exact⟨_,e5,trivial⟩
    exact absurd (bZ e) (Il.mpr hT)
 done:=by
  intro X hP hw hK hc i pins s σ H E I hf st hg;subst hP hw hK
  obtain⟨xs,ys,ha,hb,hi⟩:=hg
  obtain⟨its,r1,p1,_⟩:=I.list ha
  obtain⟨its2,r2,p2,_⟩:=I.list hb
  have l1:=r1.length;have l2:=r2.length;have W:=afP (prog:=X.prog) (w:=X.w) (A:=X.A) (I.ok.hd hc) z TI TO i1 i2 a b D its.toArray its2.toArray
  obtain⟨s1,s2,s3,s4,s5⟩:=st
  have e:i=min its.toArray.size its2.toArray.size:=by simp;omega
  subst e;refine W.done s _ E ⟨s1,s2,s3,s4,s5,p1.isList,p2.isList⟩ fun h' tk kk=>⟨rfl,?_⟩
  have wf:∀c,c∈[z,TO,i1,i2]→jJ X pins H c:=fun c hc=>hf c (by simp at hc⊢;rcases hc with rfl|rfl|rfl|rfl<;>simp)
  exact I.Dq kk wf (bw.refl H) (fun _ _ _ n=>n) fun _ _ e=>.inl e
 self:=fun _ _ _ _ _ st h=>aeF st.1 h
def amC(K:aG)(t:TA):TI:=fun σ H R=>t σ H fun vs H1=>∃a b xs ys,vs=[.ref a,.ref b]∧bL K H1 a xs∧bL K H1 b ys∧R (Ur K a b) H1
theorem akV{X:Cx}{es:List Expr}{k:Nat}{ps:Pos}{x y:Expr}{t:TA}{p pos:Pos}(hg:Gl X "zip")(hm:X.mg "zip"=none)(ha:PA X [x,y] t)(hs:aW [x,y] X.env=[(false,eval x X.env),(false,eval y X.env)]:=by rfl)(hs2:aW [y] X.env=[(false,eval y X.env)]:=by rfl):
  PI X (.Tuple es k ps) (.Call (.Name "zip" p) [x,y] [] pos) (amC X.K t):=by
 intro pins s σ H R I h;refine Call_ (tQ I hg hm aoI (GJ (bu (ha pos pins s σ H _ I h) fun us s1 aL=>?_) (by rw[hs,hs2]) (by rw[hs2];rfl)))
 obtain⟨vs,H1,I1,r1,q1⟩:=aL
 obtain⟨a,b,xs,ys,e,h1,h2,q⟩:=q1
 subst e;cases r1 with
 |cons r rr=>
  cases rr with
  |cons r' rr=>
   cases rr;cases r;cases r'
   obtain⟨its,v1,p1,_⟩:=I1.list h1
   obtain⟨its2,v2,p2,_⟩:=I1.list h2
   have lt1:a<s1.heap.objs.size:=by obtain⟨_,e,_⟩:=p1.isList;exact bZ e
   have ur:b<s1.heap.objs.size:=by obtain⟨_,e,_⟩:=p2.isList;exact bZ e
   refine call_zip_2 p1.isList p2.isList fun h' g1 g2 g3 g4 g5 hsz kk=>?_
   refine aeF g1 ?_;have I2:Inv X pins σ H1 {s1 with heap:=h'}:=I1.kept (t':=s1.toks) kk
   refine⟨s1.heap.objs.size+4,[s1.heap.objs.size+4,s1.heap.objs.size+2,s1.heap.objs.size+3,s1.heap.objs.size,s1.heap.objs.size+1],_,_,H1,rfl,I2,ahW (zipApart_new lt1 ur),⟨g1,g2,⟨_,_,g3⟩,g4,g5⟩,fun c hc=>?_,q⟩
   refine I1.uX ?_ (I1.hok.fresh ?_)
   all_goals
    simp only[bI,jg,or_false] at hc;rcases hc with rfl|rfl|rfl|rfl|rfl<;>omega
theorem af8(I:Inv X pins σ H s)(rx:RelV x u)(ty:lX X.K H x t)(e:Mz X.K t its=some b)
  (hc:s.heap.IsTuple c its.toArray)(h:∀tk,Q (.bool b) {s with toks:=tk}):aN (model X.prog X.w) A (call (.builtin "isinstance") [u,.ref c]) Q E s:=by
 obtain⟨⟨oc,od,oda,osl⟩,g1,g2,g3,g4⟩:=hc
 simp only at g2 g4;subst g2 g4;cases ty with
 |non=>cases(show u=p7 from rx);exact sW aej I.iG lF g1 e (fun z=>nomatch z) h
 |bl y=>cases(show u=sZ y from rx);exact sW aek I.iG lF g1 e (fun z=>nomatch z) h
 |int i=>obtain⟨t,q⟩:=(show ∃t,u=CZ i t from rx);cases q;exact sW aeA I.iG lF g1 e (fun z=>nomatch z) h
 |str y=>obtain⟨t,q⟩:=(show ∃t,u=Iz y t from rx);cases q;exact sW aeB I.iG lF g1 e (fun z=>nomatch z) h
 |flt y=>obtain⟨t,q⟩:=(show ∃t,u=Xm y t from rx);cases q;exact sW aeb I.iG lF g1 e (fun z=>nomatch z) h
 |@lst a xs ea=>
  cases(show u=eO a from rx)
  obtain⟨_,_,n,_,h1⟩:=(show fB X.prog X.w H s.heap a (.lst xs) from I.hok a _ ea)
  exact sW LK I.iG ⟨_,h1,rfl⟩ g1 e (fun z=>nomatch z) h
 |@lq a ob xs ea=>
  cases(show u=eO a from rx)
  obtain⟨_,_,_,n,_,h1⟩:=(show fB X.prog X.w H s.heap a (.lq ob (.lst xs)) from I.hok a _ ea)
  exact sW LK I.iG ⟨_,h1,rfl⟩ g1 e (fun z=>nomatch z) h
 |@tup a xs ea=>
  cases(show u=eO a from rx)
  obtain⟨_,_,_,p⟩:=(show fB X.prog X.w H s.heap a (.tup xs) from I.hok a _ ea)
  obtain⟨o,h1,h2,_⟩:=p
  exact sW aec I.iG ⟨o,h1,h2⟩ g1 e (fun z=>nomatch z) h
 |@dK a kvs ea=>
  cases(show u=eO a from rx)
  obtain⟨_,_,vs,_,p⟩:=(show fB X.prog X.w H s.heap a (.dK kvs) from I.hok a _ ea)
  obtain⟨o,es,ep,h1,h2,_⟩:=p
  exact sW LQ I.iG ⟨o,h1,h2.1⟩ g1 e (fun z=>nomatch z) h
 |@dT a kvs ea=>
  cases(show u=eO a from rx)
  obtain⟨_,_,xs,_,o,es,ep,h1,h2,_⟩:=(show fB X.prog X.w H s.heap a (.dT kvs) from I.hok a _ ea)
  exact sW LQ I.iG ⟨o,h1,h2.1⟩ g1 e (fun z=>nomatch z) h
 |@ins a C dx fs ea cl ha hn htk hm=>
  cases(show u=eO a from rx)
  obtain⟨mA,O,_⟩:=aal I.hok ea
  obtain⟨od,J,_⟩:=O.look
  exact sW (aeC (cl.get _) cl.hd ha hn htk hm) I.iG J g1 e (fun z=>nomatch z) h
theorem afr:iQ X (.builtin "isinstance") (fun xs H Q=>∃x c m n t p q,xs=[x,.ref c]∧H c=some (.tup [.ty m,.ty n])∧lX X.K H x t∧zT X.K t (.type m)=some p∧zT X.K t (.type n)=some q∧Q (.bl (p||q)) H):=by
 intro pins s σ H xs us Q I r h
 obtain⟨x,c,m,n,t,p,q,rfl,hc,ty,e1,e2,k⟩:=h
 obtain⟨u,u2,rfl,r1,r2⟩:=vals2 r
 cases r2
 obtain⟨_,its,rv,ob,g1,g2,g3⟩:=(show fB X.prog X.w H s.heap c (.tup [.ty m,.ty n]) from I.hok c _ hc)
 cases rv with
 |cons a1 rv=>
  cases rv with
  |cons a2 rv=>
   cases rv;cases a1;cases a2;exact af8 I r1 ty (ajj e1 e2) ⟨ob,g1,g2,g3⟩ fun tk=>⟨.bl (p||q),H,I.tok tk,rfl,k⟩
end L2
namespace L2
open PySem PySem.Spec PyProof.Rows PySem.W
section
variable{N:Nat}{lt:Nat→Nat→Bool}{α β:Type}
def eX(N:Nat)(lt:Nat→Nat→Bool):KasT α→(α→Prop)→Prop
 |.ret a,R=>R a
 |.ask i j k,R=>i<N∧j<N∧eX N lt (k (lt i j)) R
theorem eX.mono:∀{t:KasT α},eX N lt t R→(∀a,R a→S a)→eX N lt t S
 |.ret a,h,f=>f a h
 |.ask i j k,h,f=>⟨h.1,h.2.1,eX.mono h.2.2 f⟩
theorem eX.bind:∀{t:KasT α},eX N lt t (fun a=>eX N lt (f a) R)→eX N lt (t.bind f) R
 |.ret a,h=>h
 |.ask i j k,h=>⟨h.1,h.2.1,eX.bind h.2.2⟩
theorem eX.wp(ask:∀i j,i<N→j<N→∀C:Bool→aC→Prop,C (lt i j) s→cmp i j C s)(q:∀a,R a→Q a s):∀{t:KasT α},eX N lt t R→t.kasWp cmp Q s
 |.ret a,h=>q a h
 |.ask i j k,h=>ask i j h.1 h.2.1 _ (eX.wp ask q h.2.2)
def KP(N:Nat)(p:Array Nat):Prop:=p.toList.Perm (dZ N)
theorem KP.ix(h:KP N p)(h0:0<N)(i:Nat):p.getD i 0<N:=by
 by_cases hi:i<p.size
 ·have:p.getD i 0∈p.toList:=by simp[af9,hi]
  exact qR.mp (h.mem_iff.mp this)
 ·simpa[af9,hi] using h0
theorem KP.rev(h:KP N p)(i j:Nat):KP N (kas_rev p i j):=((mirror_perm p i j _).toList).trans h
theorem KP.bub(h:KP N p)(i j:Nat):KP N (bubble p i j):=((bubble_perm p i j).toList).trans h
theorem RQ(h:KP N p)(h0:0<N):∀f n,eX N lt (kas_asc p f n) fun _=>True
 |0,n=>trivial
 |f+1,n=>by
  refine⟨h.ix h0 _,h.ix h0 _,?_⟩
  dsimp only;split
  ·exact trivial
  ·exact RQ h h0 f (n+1)
theorem Jx(h0:0<N):∀f (p:Array Nat) n q,KP N p→eX N lt (kas_desc f p n q) fun r=>KP N r.1
 |0,p,n,q,h=>h
 |f+1,p,n,q,h=>by
  refine⟨h.ix h0 _,h.ix h0 _,?_⟩
  dsimp only;split
  ·split
   ·exact Jx h0 f _ _ _ (h.rev _ _)
   ·exact Jx h0 f _ _ _ h
  ·refine⟨h.ix h0 _,h.ix h0 _,?_⟩
   dsimp only;split
   ·exact h
   ·exact Jx h0 f _ _ _ h
theorem Zc(h0:0<N)(h:KP N p)(n nrem:Nat):eX N lt (kas_tail3 n nrem p) fun r=>KP N r.2:=
 eX.bind (eX.mono (RQ (h.rev 0 n) h0 _ _) fun _ _=>h.rev 0 n)
theorem Xu(h0:0<N)(h:KP N p)(n nrem:Nat):eX N lt (kas_descPart n nrem p) fun r=>KP N r.2:=by
 refine eX.bind (eX.mono (Jx h0 _ p _ _ h) fun r hr=>?_);split
 ·exact Zc h0 (KP.rev hr _ _) _ _
 ·exact Zc h0 hr _ _
theorem ahX(h0:0<N)(h:KP N p)(nrem:Nat):eX N lt (kas_count nrem p) fun r=>KP N r.2:=by
 refine eX.bind (eX.mono (RQ h h0 _ _) fun n _=>?_);split
 ·exact h
 ·split
  ·refine⟨h.ix h0 _,h.ix h0 _,?_⟩
   dsimp only;split
   ·exact h
   ·exact Xu h0 (h.rev _ _) _ _
  ·exact Xu h0 h _ _
theorem Qe(h0:0<N)(h:KP N p)(k:Nat):∀f l r,eX N lt (kas_place p k f l r) fun _=>True
 |0,l,r=>trivial
 |f+1,l,r=>by
  unfold kas_place;split
  ·exact trivial
  ·refine⟨h.ix h0 _,h.ix h0 _,?_⟩
   dsimp only;split
   ·exact Qe h0 h k f _ _
   ·exact Qe h0 h k f _ _
theorem abk(h0:0<N):∀f (p:Array Nat) k,KP N p→eX N lt (kas_bin f p k) (KP N)
 |0,p,k,h=>h
 |f+1,p,k,h=>eX.bind (eX.mono (Qe h0 h k _ _ _) fun l _=>abk h0 f _ _ (h.bub _ _))
theorem aaq(h0:0<N):eX N lt (kas_sort N) (KP N):=by
 refine eX.bind (eX.mono (ahX h0 (p:=List.toArray (dZ N)) (zU _) N) fun r hr=>?_);split
 ·exact abk h0 _ _ _ hr
 ·exact hr
end
def kLt:Key→Key→Bool
 |.inl i,.inl j=>decide (i<j)
 |.inr x,.inr y=>decide (x.cps.toList<y.cps.toList)
 |_,_=>false
def iU:List Key→List Key→Bool
 |a::r,b::t=>if a=b then iU r t else kLt a b
 |_,_=>false
def cB:Key→Bool
 |.inl _=>true
 |.inr _=>false
section
variable{prog:bh}{w:aZ}{A:cI}{E:Value→aC→Prop}{s:aC}{Q:Bool→aC→Prop}
theorem ahY(ra:RelV (kV a) u)(rb:RelV (kV b) v)(ht:cB a=cB b)(h:Q (kLt a b) s):aN (model prog w) A (oneLt' f u v) Q E s:=by
 cases a with
 |inl i=>
  cases b with
  |inr y=>cases ht
  |inl j=>
   obtain⟨t,rfl⟩:=ra
   obtain⟨t',rfl⟩:=rb
   cases f with
   |true=>exact oneLt_int h
   |false=>exact kat_one _ _ (lt_int h)
 |inr x=>
  cases b with
  |inl y=>cases ht
  |inr y=>
   obtain⟨t,rfl⟩:=ra
   obtain⟨t',rfl⟩:=rb
   cases f with
   |true=>exact oneLt_str h
   |false=>exact kat_one _ _ (lt_str h)
theorem aar(ht:cB a=cB b):rQ (kV a) (kV b)=decide (a=b):=by
 cases a with
 |inl i=>
  cases b with
  |inr y=>cases ht
  |inl j=>show(i==j)=_;rw[sU];simp
 |inr x=>
  cases b with
  |inl y=>cases ht
  |inr y=>show(x==y)=_;rw[sU];simp
theorem Jh(a:Key):pM (kV a)=true:=by cases a<;>rfl
theorem Zd:∀{ks js:List Key}{us vs:List Value}{i:Nat},Vals (ks.map kV) us→Vals (js.map kV) vs→ks.map cB=js.map cB→Q (iU ks js) s→KatLex prog w A true false Q (us.zip vs) i s
 |[],[],_,_,_,ra,rb,_,h=>by
  cases ra;cases rb;exact kat_nil h
 |[],_::_,_,_,_,_,_,e,_=>by cases e
 |_::_,[],_,_,_,_,_,e,_=>by cases e
 |a::ks,b::js,us,vs,i,ra,rb,e,h=>by
  cases ra with
  |cons r1 ra=>
   cases rb with
   |cons r2 rb=>
    have e1:cB a=cB b:=(Hu e).1;have e2:=(Hu e).2;refine kat_cons (RM r1 r2 (Jh a) (Jh b) prog w _ _ ?_);rw[aar e1];unfold iU at h;by_cases hab:a=b
    ·rw[if_pos hab] at h;rw[decide_eq_true hab];exact kat_yes (Zd ra rb e2 h)
    ·rw[if_neg hab] at h;rw[decide_eq_false hab];exact kat_no (ahY r1 r2 e1 h)
end
section
variable{prog:bh}{w:aZ}{A:cI}{E:Value→aC→Prop}{s:aC}{vs:List Value}{κ:SortKind}{lt:Nat→Nat→Bool}{Rl:List Nat→Prop}
def Kp(a:aa)(h h':aV):Prop:=∀b o,b≠a→h.get? b=some o→h'.get? b=some o
theorem aga(ho:s.heap.get? a=some (seqObj "list" vs.toArray n))(h64:vs.length<64)(hg:2≤vs.length→eX vs.length lt (kas_sort vs.length) fun p=>KP vs.length p∧Rl p.toList)(hsm:vs.length<2→Rl (dZ vs.length))
  (hk:2≤vs.length→∀s':aC,Kp a s.heap s'.heap→∀Q:SortKind→aC→Prop,Q κ s'→aN (model prog w) A (keyKind' vs.toArray) Q (fun _ _=>False) s')
  (hl:2≤vs.length→∀s':aC,Kp a s.heap s'.heap→∀i j,i<vs.length→j<vs.length→∀C:Bool→aC→Prop,C (lt i j) s'→kas_ask prog w A κ vs i j C s')
  (h:∀(p:List Nat)(h':aV)(c:Nat),p.Perm (dZ vs.length)→Rl p→Kp a s.heap h'→h'.get? a=some (seqObj "list" (p.map fun i=>vs.getD i p7).toArray c)→P (.done (.ret .none)) {s with heap:=h'}):
  aN (model prog w) A (nF.«list.sort» ⟨[.ref a],[]⟩) P E s:=by
 have lta:a<s.heap.objs.size:=bZ ho
 obtain⟨e1,ho1⟩:∃e1,(s.heap.update a (lG fun _=>(#[]:Array Value))).get? a=some (seqObj "list" #[] e1):=⟨_,get?_update_seq ho fun _=>#[]⟩
 have sz:vs.length≤bR:=by rw[jq];omega
 have kp:Kp a s.heap (((s.heap.update a (lG fun _=>(#[]:Array Value))).push (seqObj "tuple" vs.toArray 0)).push (seqObj "list" #[] 0)):=fun b o hb e=>
  cM _ (cM _ (((uy s.heap a _).2 b hb).trans e))
 have Gj:(((s.heap.update a (lG fun _=>(#[]:Array Value))).push (seqObj "tuple" vs.toArray 0)).push (seqObj "list" #[] 0)).get? a=some (seqObj "list" #[] e1):=cM _ (cM _ ho1);rw[list_sort_plain];refine aJ (listItems_at ho rfl (aJ (listUpdate_at ho rfl (aJ (seqEpoch_at ho1 rfl (aJ (wpAny_newTuple (aJ (Nf (nA ?_) (lD _))) (by show vs.length≤_;exact sz))))) (by rw[fJ];exact sz) (lD _))));show aN (model prog w) A _ P E {s with heap:=((s.heap.update a (lG fun _=>(#[]:Array Value))).push (seqObj "tuple" vs.toArray 0)).push (seqObj "list" #[] 0)};dsimp only;have fin:∀(p:List Nat),p.Perm (dZ vs.length)→Rl p→∀out:Array Value,out=(p.map fun i=>vs.getD i p7).toArray→
   P (.done (.ret .none)) {s with heap:=(((s.heap.update a (lG fun _=>(#[]:Array Value))).push (seqObj "tuple" vs.toArray 0)).push (seqObj "list" #[] 0)).update a (lG fun _=>out)}:=fun p hp hrl out eo=>by
  subst eo;refine h p _ _ hp hrl (fun b o hb e=>((uy _ a _).2 b hb).trans (kp b o hb e)) (get?_update_seq Gj _)
 by_cases h2:vs.toArray.size<2
 ·rw[if_pos h2,if_pos h2];refine aJ (aY ?_);rw[StateT.run_pure];refine aJ (aY ?_);dsimp only;have hz:(pairsOf vs).size≤bR:=by rw[pairsOf_size];exact sz
  refine aJ (seqEpoch_at Gj rfl (aJ (listUpdate_at Gj rfl ?_ (hsz2:=by rw[Array.size_map];show(pairsOf vs).size≤_;omega))));simp only[bne_self_eq_false,qO,if_false];refine aY (fin (dZ vs.length) (zU _) (hsm (by simpa using h2)) _ ?_);apply Array.toList_inj.mp
  show((vs.toArray.zip vs.toArray).map (·.2)).toList=_
  rw[Array.toList_map,Array.toList_zip,List.map_snd_zip (bN _)];show vs=_;refine xT (by simp) fun i h1 h3=>?_
  simp[qX,h1]
 ·have h2':2≤vs.length:=by simpa using h2
  rw[if_neg h2,if_neg h2];refine aJ (oF (hk h2' _ kp (fun k s'=>k=κ∧s'={s with heap:=((s.heap.update a (lG fun _=>(#[]:Array Value))).push (seqObj "tuple" vs.toArray 0)).push (seqObj "list" #[] 0)}) ⟨rfl,rfl⟩) (fun k s0 hk0=>?_) fun _ _ x=>x.elim)
  obtain⟨rfl,rfl⟩:=hk0
  refine aJ (oF (kat_run (ks:=vs) (vs:=vs) (Q:=fun st' s'=>∃p:Array Nat,(KP vs.length p∧Rl p.toList)∧arrOf st'=p.map (kas_item (vs.toArray.zip vs.toArray))∧failedOf st'=none∧s'={s with heap:=((s.heap.update a (lG fun _=>(#[]:Array Value))).push (seqObj "tuple" vs.toArray 0)).push (seqObj "list" #[] 0)})
   rfl h2' h64 (G:=fun p s'=>(KP vs.length p∧Rl p.toList)∧s'={s with heap:=((s.heap.update a (lG fun _=>(#[]:Array Value))).push (seqObj "tuple" vs.toArray 0)).push (seqObj "list" #[] 0)}) (fun p st' s' a1 a2 a3 a4=>⟨p,a4.1,a2,a3,a4.2⟩) (eX.wp (lt:=lt) (hl h2' _ kp) (fun p hp=>⟨hp,rfl⟩) (hg h2'))) ?_ fun _ _ e=>e)
  rintro⟨⟨⟩,st'⟩ s' ⟨p,⟨hp,hrl⟩,har,hf,rfl⟩
  dsimp only;have hout:=kat_snds (ks:=vs) (vs:=vs) rfl har;have hps:p.toList.length=vs.length:=by rw[hp.length_eq,lC]
  rw[hout];refine aJ (seqEpoch_at Gj rfl (aJ (listUpdate_at Gj rfl ?_ (lD _) (by rw[fJ,aX,hps];omega))));rw[hf];simp only[bne_self_eq_false,qO,if_false];exact aY (fin p.toList hp hrl _ rfl)
end
def ach(h:aV)(d:aa)(es:Array DictEntry)(ep:Nat):Prop:=∃o,h.get? d=some o∧o.ExactDict∧o.data=.dict es ep
section
variable{prog:bh}{w:aZ}{A:cI}{E:Value→aC→Prop}{s:aC}{d it:aa}{es:Array DictEntry}{ep i:Nat}
theorem ach.ty(h:ach s.heap d es ep):s.TypeIs (.ref d) "dict":=let ⟨o,ho,hc,_⟩:=h;⟨o,ho,hc.1⟩
theorem afQ(K:KdlSrc prog w T r d n P OK)(hh:A.handled=none)(hok:OK s.heap)(hn:n≤bR)
  (h:∀(h':aV)(tk:Nat)(acc:Array Value),s.heap.objs.size≤h'.objs.size→(∀b o,s.heap.get? b=some o→h'.get? b=some o)→ItemsOf P acc n→R acc.toList {s with heap:=h',toks:=tk}):
  aN (model prog w) A (collect (.ref r)) R E s:=by
 have hlt:=K.there _ hok;unfold collect;refine aJ (wpAny_runValue (zQ entry_proto_collect' ?_));rw[zB adq _];show aN _ A.in1 (newList [] >>= fun l=>again (.builtin "list.__iadd__" ⟨[l,.ref r],[]⟩)) _ _ s;refine aJ (nq ?_);refine aY ⟨yc Lk _,zQ entry_list_iadd' ?_⟩;rw[zB Lk _];have hS:(s.heap.push {cls:=.type "list",data:=.seq ([]:List Value).toArray}).get? s.heap.objs.size=some {cls:=.type "list",data:=.seq #[]}:=iI _ rfl;show aN _ A.in1 (Lf (.ref s.heap.objs.size) (.ref r) (.ref s.heap.objs.size)) _ _ _;have key:=kdl_extend (A:=A) (s:={s with heap:=s.heap.push {cls:=.type "list",data:=.seq ([]:List Value).toArray}}) (R:=fun(q:rB)(s':aC)=>∃(h':aV)(tk:Nat)(acc':Array Value)(c':Nat),q=.ok (.ret (.ref s.heap.objs.size))∧s'={s with heap:=h',toks:=tk}∧(∀b o,s.heap.get? b=some o→h'.get? b=some o)∧h'.get? s.heap.objs.size=some {cls:=.type "list",dict:=none,data:=.seq acc' c',slots:=#[]}∧ItemsOf P acc' n)
  K hh (K.keep _ _ hok fun b _ o e=>cM _ e) s.heap.objs.size (z9 hlt.1) (z9 hlt.2) (.ref s.heap.objs.size) 0 hS (fun h' tk acc' c' hk hS' hacc=>⟨h',tk,acc',c',rfl,rfl,fun b o e=>hk b o (dY (bZ e)) (cM _ e),hS',hacc⟩) hn
 refine oF key (fun fin s' x=>?_) fun e s' x=>?_
 ·cases fin with
  |done f=>
   obtain⟨h',tk,acc',c',e,rfl,hk,hS',hacc⟩:=x
   cases e;show aN _ A (load s.heap.objs.size >>= _) _ _ _
   exact aJ (Ii hS' (aY (h h' tk acc' (vM (bZ hS')) hk hacc)))
  |again c₁=>
   refine⟨x.1,HF x.2 fun q s₂ y=>?_⟩
   obtain⟨h',tk,acc',c',rfl,rfl,hk,hS',hacc⟩:=y
   show aN _ A (load s.heap.objs.size >>= _) _ _ _;exact aJ (Ii hS' (aY (h h' tk acc' (vM (bZ hS')) hk hacc)))
 ·obtain⟨_,_,_,_,e',_⟩:=x;cases e'
end
theorem Pg:∀{us:List Value}{ns:List Str},StrsAre us ns→Vals (ns.map V.str) us
 |_,_,.nil=>.nil
 |_,_,.cons _ t r=>.cons ⟨t,rfl⟩ (Pg r)
section
variable{X:Cx}
theorem iT.bK(r:iT k A):A.units+1<fP:=by have:=r.un;omega
abbrev Row:=aa×List Key
def TupAt(h:aV)(r:Row):Prop:=∃its,Vals (r.2.map kV) its∧IsTup h r.1 its.toArray
theorem TupAt.keep(t:TupAt h r)(k:∀b o,h.get? b=some o→h'.get? b=some o):TupAt h' r:=by
 obtain⟨its,v,o,e,c⟩:=t
 exact⟨its,v,o,k _ _ e,c⟩
theorem aas:∀{rows:List Row},(∀r∈rows,TupAt h r∧r.2.map cB=b::sh)→∃fs,KatTups h (rows.map fun r=>eO r.1) fs∧fs.length=rows.length∧∀f∈fs,∃k,RelV (kV k) f∧cB k=b
 |[],_=>⟨[],KatTups.nil,rfl,by simp⟩
 |r::rows,ha=>by
  obtain⟨fs,t,l,g⟩:=aas (rows:=rows) fun q hq=>ha q (dM _ hq)
  obtain⟨⟨its,v,o,e,c,n,d⟩,s⟩:=ha r dm
  obtain⟨a,ks⟩:=r
  cases ks with
  |nil=>cases s
  |cons k ks=>
   cases v with
   |@cons _ u _ us v1 v2=>
    refine⟨u::fs,KatTups.cons e c d (by simp) t,by simp[l],fun f hf=>?_⟩
    rcases bI.mp hf with rfl|hf
    ·exact⟨k,v1,(Hu s).1⟩
    ·exact g f hf
theorem agX(r:RelV (kV k) f)(e:cB k=b):Looks M h (typeOf f) (if b=true then .type "int" else .type "str"):=by
 subst e;cases k with
 |inl i=>obtain⟨t,rfl⟩:=r;exact Looks.of_pure rfl
 |inr i=>obtain⟨t,rfl⟩:=r;exact Looks.of_pure rfl
theorem Qf(rows:List Row)(hi:i<rows.length):(rows.map fun r=>eO r.1).getD i p7=.ref rows[i].1:=by simp[qX,hi]
def rowAt(rows:List Row)(i:Nat):List Key:=((rows[i]?).map (·.2)).getD []
theorem agY{prog:bh}{w:aZ}{A:cI}{s':aC}{rows:List Row}{b:Bool}{sh:List Bool}(ha:∀r∈rows,TupAt s'.heap r∧r.2.map cB=b::sh)(h0:0<rows.length)(Q:SortKind→aC→Prop)(q:Q (tuples' true) s'):
  aN (model prog w) A (keyKind' (rows.map fun r=>eO r.1).toArray) Q (fun _ _=>False) s':=by
 obtain⟨fs,t,l,g⟩:=aas ha
 refine kat_kind (T:=if b=true then .type "int" else .type "str") t (by omega) (fun v hv=>?_) (by cases b<;>rfl) (by cases b<;>exact q)
 obtain⟨k,r,e⟩:=g v hv
 exact agX r e
theorem ajk(ha:∀r∈rows,TupAt s'.heap r∧r.2.map cB=sh)(hi:i<rows.length)(hj:j<rows.length)(C:Bool→aC→Prop)(q:C (iU (rowAt rows i) (rowAt rows j)) s'):
  kas_ask prog w A (tuples' true) (rows.map fun r=>eO r.1) i j C s':=by
 obtain⟨⟨its,v,o,e,c,n,d⟩,s1⟩:=ha rows[i] (xR hi)
 obtain⟨⟨its2,v2,o2,e2,c2,n2,d2⟩,s2⟩:=ha rows[j] (xR hj)
 unfold kas_ask;rw[Qf rows hi,Qf rows hj];have l1:=v.length;have l2:=v2.length;have l3:rows[i].2.length=rows[j].2.length:=by
  have:=congrArg qU (s1.trans s2.symm);simpa using this
 refine kat_lt e d e2 d2 ?_;have ez:decide (its.toArray.size<its2.toArray.size)=false:=by
  rw[decide_eq_false];simp only[fJ];rw[aX] at l1 l2;omega
 rw[ez];have q':C (iU rows[i].2 rows[j].2) s':=by
  unfold rowAt at q;rw[gQ hi,gQ hj] at q;exact q
 exact Zd (by simpa using v) (by simpa using v2) (s1.trans s2.symm) q'
theorem agZ{rows:List Row}{p:List Nat}(h:p.Perm (dZ rows.length)):(p.map fun i=>rows.getD i (0,[])).Perm rows:=by
 have e:(dZ rows.length).map (fun i=>rows.getD i (0,[]))=rows:=xT (by simp) fun i h1 h2=>by simp[qX,h2]
 exact(h.map _).trans (by rw[e])
theorem ag0{rows:List Row}{p:List Nat}(h:p.Perm (dZ rows.length)):(p.map fun i=>(rows.map fun r=>eO r.1).getD i p7)=(p.map fun i=>rows.getD i (0,[])).map fun r=>eO r.1:=by
 rw[fO];refine zE fun i hi=>?_
 have hlt:=qR.mp (h.mem_iff.mp hi);rw[Qf rows hlt];simp[qX,hlt]
theorem Yq:∀(rows:List Row),Vals (rows.map fun r=>V.ref r.1) (rows.map fun r=>eO r.1)
 |[]=>.nil
 |r::rows=>.cons rfl (Yq rows)
end
section
variable{K:aG}{T:gq}{J:It}{n:Nat}{vs:Nat→List V}{G:Hp→Prop}{ts:TT}{em:TM}{fs:St}{H0 H1:Hp}{D:aa}{done:Hp→Prop}
end
theorem ahZ(A:cI)(s:aC)(ra:RelV (kV a) u)(rb:RelV (kV b) v)(ht:cB a=cB b):XC A s u v (decide (a=b)):=by
 rw[←aar ht];exact RM ra rb (Jh a) (Jh b)
theorem Ze(A:cI)(s:aC)(ra:RelV (kV a) u)(rb:RelV (kV b) v)(ht:cB a=cB b)(prog:bh)(w:aZ)(E:Value→aC→Prop)(Q:Value→aC→Prop)(h:Q (.bool (kLt a b)) s):
  aN (model prog w) A (Ie .Lt u v) Q E s:=by
 cases a with
 |inl i=>
  cases b with
  |inr y=>cases ht
  |inl j=>
   obtain⟨t,rfl⟩:=ra
   obtain⟨t',rfl⟩:=rb
   exact(lt_int h:aN (model prog w) A (fj .Lt _ _) Q E s)
 |inr x=>
  cases b with
  |inl y=>cases ht
  |inr y=>
   obtain⟨t,rfl⟩:=ra
   obtain⟨t',rfl⟩:=rb
   exact(lt_str h:aN (model prog w) A (fj .Lt _ _) Q E s)
section
open PySem.SeqAt
open PySem.AutoSeq1 (wpAny_loadPart')
open PySem.MeetsSeq PySem.MeetsSeq2 PySem.MeetsSeq3
theorem ae9(l b:aa)(items items2:Array Value)(n n2:Nat)(dd dd2:Option aa)(sl sl2:Array (Option Value))(ns ms:List Key)(hi:Vals (ns.map kV) items.toList)(hj:Vals (ms.map kV) items2.toList)(hty:ns.map cB=ms.map cB):
  Meets (nF.«tuple.__lt__» ⟨[.ref l,.ref b],[]⟩)
   (fun _ R s=>s.heap.get? l=some {cls:=.type "tuple",dict:=dd,data:=.seq items n,slots:=sl}∧s.heap.get? b=some {cls:=.type "tuple",dict:=dd2,data:=.seq items2 n2,slots:=sl2}∧R (.ok (.ret (.bool (iU ns ms)))) s):=
 .of_wp fun prog w A R s h=>by
  obtain⟨hp,g,d,tk,os⟩:=s;obtain⟨hl,hb,h⟩:=h
  have f2:=AutoSeq1.sub_tuple_tuple;have z0:ns.length=ms.length:=by have:=congrArg qU hty;simpa using this
  have z1:items.size=ns.length:=by have:=hi.length;rw[aX] at this;simpa using this.symm
  have z2:items2.size=ms.length:=by have:=hj.length;rw[aX] at this;simpa using this.symm
  wp_walk using wpAny_loadPart' hl,wpAny_loadPart' hb,wpAny_forIn_list _ (fun rest b s'=>b.1=none∧s'=⟨hp,g,d,tk,os⟩∧∃(vs ws:List Value)(ns' ms':List Key),rest=vs.zip ws∧
   Vals (ns'.map kV) vs∧Vals (ms'.map kV) ws∧ns'.map cB=ms'.map cB∧R (.ok (.ret (.bool (iU ns' ms')))) ⟨hp,g,d,tk,os⟩) _
  case turn=>
   rintro⟨y,x⟩ rest b s' ⟨hb',rfl,vs,ws,ns',ms',hz,KZ,hwi,hlen,hR⟩
   cases ns' with
   |nil=>cases KZ;rw[List.zip_nil_left] at hz;cases hz
   |cons a ns'=>
    cases ms' with
    |nil=>cases hlen
    |cons c ms'=>
     cases KZ with
     |cons r1 aci=>
      cases hwi with
      |cons r2 acj=>
       rw[VH] at hz;injection hz with hyx hrest
       injection hyx with hy hx
       subst hy hx;have t1:cB a=cB c:=(Hu hlen).1;have t2:=(Hu hlen).2;unfold iU at hR;refine aJ (ahZ A.in1 ⟨hp,g,d,tk,os⟩ r1 r2 t1 prog w _ _ ?_);by_cases hac:a=c
       ·rw[if_pos hac] at hR;rw[decide_eq_true hac];wp_walk
        exact⟨rfl,rfl,_,_,_,_,hrest,aci,acj,t2,hR⟩
       ·rw[if_neg hac] at hR;rw[decide_eq_false hac];have hri:=Ze A.in1 ⟨hp,g,d,tk,os⟩ r1 r2 t1 prog w;wp_walk using hri
        exact⟨_,rfl,by simpa using hR⟩
  case fin=>
   rintro⟨b1,b2⟩ s' ⟨hb',rfl,vs,ws,ns',ms',hz,KZ,hwi,hlen,hR⟩
   simp only at hb';subst hb';have hv:iU ns' ms'=decide (items.size<items2.size):=by
    rw[decide_eq_false (by omega)];cases ns' with
    |nil=>unfold iU;rfl
    |cons a ns'=>
     cases ms' with
     |nil=>cases hlen
     |cons c ms'=>
      cases KZ with
      |cons r1 aci=>
       cases hwi with
       |cons r2 acj=>
        rw[VH] at hz;cases hz
   rw[hv] at hR;wp_walk
   exact⟨_,rfl,by simpa[an6] using hR⟩
  case h=>
   exact⟨rfl,rfl,items.toList,items2.toList,ns,ms,rfl,hi,hj,hty,h⟩
end
theorem XN(hl:IsTup s.heap l items)(hb:IsTup s.heap b items2)(hi:Vals (ns.map kV) items.toList)(hj:Vals (ms.map kV) items2.toList)(hty:ns.map cB=ms.map cB)
  (hu:A.units<fP)(h:Q (.bool (iU ns ms)) s):aN (model prog w) A (fj .Lt (.ref l) (.ref b)) Q E s:=by
 obtain⟨⟨cls,dd,data,sl⟩,ho,hc,n,hd⟩:=id hl
 obtain⟨⟨cls2,dd2,data2,sl2⟩,ho2,hc2,n2,hd2⟩:=id hb
 simp only at hc hd hc2 hd2;subst hc hd hc2 hd2;exact richCompare_meets_room (op:=.Lt) ⟨_,ho,rfl⟩ ⟨_,ho2,rfl⟩ PySem.F.slot_tuple_lt PySem.F.entry_tuple_lt (PySem.F.args_tuple_lt_2 _ _) (ae9 l b items items2 n n2 dd dd2 sl sl2 ns ms hi hj hty)
  ⟨ho,ho2,show sZ (iU ns ms)≠Value.notImplemented∧Q (.bool (iU ns ms)) s from⟨(fun x=>nomatch x),h⟩⟩ hu
mutual
def RX(H:Hp):ao→V→Prop
 |.none,v=>v=.non
 |.bool b,v=>v=.bl b
 |.int i,v=>v=.int i
 |.str x,v=>v=.str x
 |.list ds,v=>∃a vs,v=.ref a∧H a=some (.lst vs)∧mF H ds vs
 |.tuple ds,v=>∃a vs,v=.ref a∧H a=some (.tup vs)∧mF H ds vs
 |.dict _,_=>False
def mF(H:Hp):List ao→List V→Prop
 |[],vs=>vs=[]
 |d::ds,vs=>∃v r,vs=v::r∧RX H d v∧mF H ds r
end
mutual
theorem RX.same(s:bw H H'):∀{d:ao}{v:V},RX H d v→RX H' d v
 |.none,_,h=>h
 |.bool _,_,h=>h
 |.int _,_,h=>h
 |.str _,_,h=>h
 |.list ds,_,h=>by
  obtain⟨a,vs,e,q,r⟩:=h
  exact⟨a,vs,e,s _ _ q,mF.same s r⟩
 |.tuple ds,_,h=>by
  obtain⟨a,vs,e,q,r⟩:=h
  exact⟨a,vs,e,s _ _ q,mF.same s r⟩
theorem mF.same(s:bw H H'):∀{ds:List ao}{vs:List V},mF H ds vs→mF H' ds vs
 |[],_,h=>h
 |d::ds,vs,h=>by
  obtain⟨v,r,e,q,t⟩:=h
  exact⟨v,r,e,RX.same s q,mF.same s t⟩
end
mutual
theorem RX.rd{K:aG}{H:Hp}:∀{d:ao}{v:V},RX H d v→RD K H d v
 |.none,_,h=>h
 |.bool _,_,h=>h
 |.int _,_,h=>h
 |.str _,_,h=>h
 |.list ds,_,h=>by
  obtain⟨a,vs,e,q,r⟩:=h
  exact⟨a,vs,e,bL.of q,mF.rd r⟩
 |.tuple ds,_,h=>by
  obtain⟨a,vs,e,q,r⟩:=h
  exact⟨a,vs,e,cU.of q,mF.rd r⟩
theorem mF.rd{K:aG}{H:Hp}:∀{ds:List ao}{vs:List V},mF H ds vs→j0 K H ds vs
 |[],_,h=>h
 |d::ds,vs,h=>by
  obtain⟨v,r,e,q,t⟩:=h
  exact⟨v,r,e,RX.rd q,mF.rd t⟩
end
def Gk:ao→Value
 |.none=>.type "NoneType"
 |.bool _=>.type "bool"
 |.int _=>.type "int"
 |.str _=>.type "str"
 |.list _=>.type "list"
 |.tuple _=>.type "tuple"
 |.dict _=>.type "dict"
theorem RX.ty{K:aG}{H:Hp}{d:ao}{v:V}(h:RX H d v):lX K H v (Gk d):=by
 cases d with
 |none=>cases(show v=.non from h);exact .non
 |bool b=>cases(show v=.bl b from h);exact .bl b
 |int i=>cases(show v=.int i from h);exact .int i
 |str x=>cases(show v=.str x from h);exact .str x
 |list ds=>obtain⟨a,vs,rfl,e,_⟩:=h;exact .lst e
 |tuple ds=>obtain⟨a,vs,rfl,e,_⟩:=h;exact .tup e
 |dict ds=>exact(show False from h).elim
section
variable{X:Cx}
theorem agb(hu:X.A.units<fP):cP X (fj .Lt) (fun x y H Q=>∃a b ks js,x=.ref a∧y=.ref b∧H a=some (.tup (ks.map kV))∧H b=some (.tup (js.map kV))∧ks.map cB=js.map cB∧Q (.bl (iU ks js)) H):=by
 intro pins s σ H x y v u Q I rx ry h
 obtain⟨a,b,ks,js,rfl,rfl,ha,hb,ht,q⟩:=h
 cases rx;cases ry
 obtain⟨_,its,r1,p1⟩:=(show fB X.prog X.w H s.heap a (.tup (ks.map kV)) from I.hok a _ ha)
 obtain⟨_,its2,r2,p2⟩:=(show fB X.prog X.w H s.heap b (.tup (js.map kV)) from I.hok b _ hb)
 exact XN p1 p2 (by simpa using r1) (by simpa using r2) ht hu (fW I q rfl)
theorem Ov(hu:X.A.units<fP):cP X (fj .Lt) (fun x y H Q=>(∃a b,x=kV a∧y=kV b∧cB a=cB b∧Q (.bl (kLt a b)) H)∨∃a b ks js,x=.ref a∧y=.ref b∧H a=some (.tup (ks.map kV))∧H b=some (.tup (js.map kV))∧ks.map cB=js.map cB∧Q (.bl (iU ks js)) H):=by
 refine cP.or ?_ (agb hu);intro pins s σ H x y v u Q I rx ry h
 obtain⟨a,b,rfl,rfl,ht,q⟩:=h
 exact Ze X.A s rx ry ht _ _ _ _ (fW I q rfl)
end
structure Ord(lt:Nat→Nat→Bool):Prop where
 ack:∀a b,lt a b=true→lt b a=false
 trans:∀a b c,lt b a=false→lt c b=false→lt c a=false
section
variable{N:Nat}{lt:Nat→Nat→Bool}(O:Ord lt)
abbrev at0(p:Array Nat)(i:Nat):Nat:=p.getD i 0
def Up(lt:Nat→Nat→Bool)(p:Array Nat)(n:Nat):Prop:=∀i j,i<j→j<n→lt (at0 p j) (at0 p i)=false
def Dn(lt:Nat→Nat→Bool)(p:Array Nat)(n:Nat):Prop:=∀i j,i<j→j<n→lt (at0 p i) (at0 p j)=false
theorem RT(p:Array Nat)(i:Nat):at0 p i=(p[i]?).getD 0:=sG
theorem abl(hj:j≤p.size)(k:Nat):at0 (kas_rev p i j) k=if i≤k∧k<j then at0 p (i+j-1-k) else at0 p k:=by
 rw[RT,RT,RT];unfold kas_rev;rw[getElem?_mirror_all hj];split<;>rfl
theorem KP.size(h:KP N p):p.size=N:=by
 have:=h.length_eq;rw[lC] at this;simpa using this
include O
theorem Up.succ(h:Up lt p n)(hn:1≤n)(hs:lt (at0 p n) (at0 p (n-1))=false):Up lt p (n+1):=fun i j hij hj=>by
 by_cases e:j<n
 ·exact h i j hij e
 ·have ej:j=n:=by omega
  subst ej;by_cases ei:i=j-1
  ·rw[ei];exact hs
  ·exact O.trans _ _ _ (h i (j-1) (by omega) (by omega)) hs
theorem Dn.succ(h:Dn lt p n)(hn:1≤n)(hs:lt (at0 p (n-1)) (at0 p n)=false):Dn lt p (n+1):=fun i j hij hj=>by
 by_cases e:j<n
 ·exact h i j hij e
 ·have ej:j=n:=by omega
  subst ej;by_cases ei:i=j-1
  ·rw[ei];exact hs
  ·exact O.trans _ _ _ hs (h i (j-1) (by omega) (by omega))
theorem Dn.turn(h:Dn lt p n)(hn:n≤p.size):Up lt (kas_rev p 0 n) n:=fun a b hab hb=>by
 rw[abl hn,abl hn,if_pos ⟨by omega,by omega⟩,if_pos ⟨by omega,by omega⟩];exact h _ _ (by omega) (by omega)
end
theorem ajl(h:kLt a b=true):kLt b a=false:=by
 cases a with
 |inl i=>
  cases b with
  |inr y=>cases h
  |inl j=>have:=of_decide_eq_true h;exact decide_eq_false (by omega)
 |inr x=>
  cases b with
  |inl y=>cases h
  |inr y=>exact KeyOrd.klt_asymm (O:=strKind.toKeyOrd) (a:=x.cps.toList) (b:=y.cps.toList) h
theorem akW(t1:cB a=cB b)(t2:cB b=cB c)(h:kLt a c=true):kLt a b=true∨kLt b c=true:=by
 cases a with
 |inl i=>
  cases b with
  |inr y=>cases t1
  |inl j=>
   cases c with
   |inr y=>cases t2
   |inl k=>
    have h1:=of_decide_eq_true h;by_cases h2:i<j
    ·exact .inl (decide_eq_true h2)
    ·exact .inr (decide_eq_true (by omega))
 |inr x=>
  cases b with
  |inl y=>cases t1
  |inr y=>
   cases c with
   |inl k=>cases t2
   |inr z=>exact strKind.negTrans x.cps.toList y.cps.toList z.cps.toList h
theorem str_of_list{x y:Str}(h:x.cps.toList=y.cps.toList):x=y:=by
 cases x;cases y;simp at h;simp[h]
theorem akX(t:cB a=cB b)(h1:kLt a b=false)(h2:kLt b a=false):a=b:=by
 cases a with
 |inl i=>
  cases b with
  |inr y=>cases t
  |inl j=>
   have g1:=of_decide_eq_false h1;have g2:=of_decide_eq_false h2;have:i=j:=by omega
   rw[this]
 |inr x=>
  cases b with
  |inl y=>cases t
  |inr y=>
   have:=strKind.total x.cps.toList y.cps.toList h1 h2;rw[str_of_list this]
def uN(rows:List Row)(i:Nat):List Key:=(rows.getD i (rows.headD (0,[]))).2
def lN(rows:List Row)(i j:Nat):Bool:=iU (uN rows i) (uN rows j)
def runK{α:Type}(lt:Nat→Nat→Bool):KasT α→α
 |.ret a=>a
 |.ask i j k=>runK lt (k (lt i j))
theorem eX.run:∀{t:KasT α},eX N lt t R→eX N lt t (fun a=>R a∧a=runK lt t)∧R (runK lt t)
 |.ret a,h=>⟨⟨h,rfl⟩,h⟩
 |.ask i j k,h=>let r:=eX.run h.2.2;⟨⟨h.1,h.2.1,r.1⟩,r.2⟩
def um(ks:List (List Key)):List Nat:=if ks.length<2 then dZ ks.length else(runK (fun i j=>iU (ks.getD i (ks.headD [])) (ks.getD j (ks.headD []))) (kas_sort ks.length)).toList
def Fo(ks:List (List Key)):List (List Key):=(um ks).map fun i=>ks.getD i (ks.headD [])
theorem ag1(ks:List (List Key)):(um ks).Perm (dZ ks.length):=by
 unfold um;split
 ·exact zU _
 ·exact(eX.run (aaq (lt:=fun i j=>iU (ks.getD i (ks.headD [])) (ks.getD j (ks.headD []))) (by omega))).2
theorem ag2(ks:List (List Key)):(Fo ks).Perm ks:=by
 have:=(ag1 ks).map fun i=>ks.getD i (ks.headD [])
 refine this.trans (aeQ ?_);refine xT (by simp) fun i h1 h2=>?_
 simp[h2]
theorem Ji(rows:List Row)(i:Nat):uN rows i=(rows.map (·.2)).getD i ((rows.map (·.2)).headD []):=by
 unfold uN;cases h:rows[i]? with
 |none=>cases rows<;>simp_all [qX]
 |some r=>simp[qX,h]
theorem ag3(hn:n=rows.length)(h2:2≤n):eX n (lN rows) (kas_sort n) fun p=>KP n p∧p.toList=um (rows.map (·.2)):=by
 subst hn;have e:lN rows=fun i j=>iU ((rows.map (·.2)).getD i ((rows.map (·.2)).headD [])) ((rows.map (·.2)).getD j ((rows.map (·.2)).headD [])):=by
  funext i j;rw[lN,Ji,Ji]
 refine(eX.run (aaq (lt:=lN rows) (N:=rows.length) (by omega))).1.mono fun p hp=>⟨hp.1,?_⟩
 unfold um;rw[if_neg (by rw[aX];omega),hp.2,e,aX]
theorem agc{rows:List Row}{n:Nat}(hn:n=rows.length)(h:n<2):dZ n=um (rows.map (·.2)):=by
 subst hn;unfold um;rw[if_pos (by rw[aX];exact h),aX]
theorem ajm{rows:List Row}{p:List Nat}(h:p.Perm (dZ rows.length))(hr:p=um (rows.map (·.2))):(p.map fun i=>rows.getD i (0,[])).map (·.2)=Fo (rows.map (·.2)):=by
 unfold Fo;rw[←hr,fO];refine zE fun i hi=>?_
 have hlt:=qR.mp (h.mem_iff.mp hi);simp[qX,hlt]
section
variable{X:Cx}
theorem ah0(ha:∀r∈rows,TupAt s'.heap r∧r.2.map cB=sh)(hi:i<rows.length)(hj:j<rows.length)(C:Bool→aC→Prop)(q:C (lN rows i j) s'):
  kas_ask prog w A (tuples' true) (rows.map fun r=>eO r.1) i j C s':=by
 refine ajk ha hi hj C ?_;have e1:uN rows i=rowAt rows i:=by simp[uN,rowAt,qX,hi]
 have e2:uN rows j=rowAt rows j:=by simp[uN,rowAt,qX,hj]
 unfold lN at q;rw[e1,e2] at q;exact q
end
abbrev uY:=List (Option ao)
def rG(H:Hp)(Γ:uY)(σ:St):Prop:=σ.length=Γ.length∧∀(i:Nat)(d:ao),Γ[i]?=some (some d)→∃v,σ[i]?=some (some v)∧RX H d v
theorem rG.same(h:rG H Γ σ)(s:bw H H'):rG H' Γ σ:=⟨h.1,fun i d e=>let ⟨v,a,b⟩:=h.2 i d e;⟨v,a,b.same s⟩⟩
theorem rG.set(h:rG H Γ σ)(hv:RX H d v):rG H (Γ.set i (some d)) (σ.set i (some v)):=by
 refine⟨by rw[vH,vH];exact h.1,fun j e he=>?_⟩
 by_cases hj:i=j
 ·subst hj;rw[Ck] at he;simp only[if_true] at he;split at he
  ·rename_i hl;cases he
   refine⟨v,?_,hv⟩
   rw[Ck];simp only[if_true];rw[if_pos (by rw[h.1];exact hl)]
  ·cases he
 ·rw[vA hj] at he;rw[vA hj];exact h.2 j e he
def er(Z:List aa)(H:Hp):Hp:=fun b=>if b∈Z then none else H b
theorem jb(h:er Z H b=some o):H b=some o:=by
 unfold er at h;split at h
 ·cases h
 ·exact h
theorem Bj(Z:List aa)(H:Hp):bw (er Z H) H:=fun b o h=>jb h
theorem Q3(s:bw H H'):bw (er Z H) (er Z H'):=fun b o h=>by
 unfold er at h⊢;split at h
 ·cases h
 ·rename_i n;rw[if_neg n];exact s _ _ h
theorem DX(H:Hp):er [] H=H:=by
 funext b;simp[er]
def JT(t:TE)(Γ:uY)(d:ao):Prop:=∀Z σ H (Q:VK),(∀b,b∈Z→H b≠none)→rG (er Z H) Γ σ→(∀v H',bw H H'→RX (er Z H') d v→Q v H')→t σ H Q
def aat(t:TA)(Γ:uY)(ds:List ao):Prop:=∀Z σ H (Q:List V→Hp→Prop),(∀b,b∈Z→H b≠none)→rG (er Z H) Γ σ→(∀vs H',bw H H'→mF (er Z H') ds vs→Q vs H')→t σ H Q
section
variable{Γ:uY}{K:aG}
theorem JT.run(h:JT t Γ d)(e:rG H Γ σ)(q:∀v H',bw H H'→RX H' d v→Q v H'):t σ H Q:=
 h [] σ H Q (fun _ m=>by cases m) (by rw[DX];exact e) fun v H' s r=>q v H' s (by rw[DX] at r;exact r)
end
end L2
namespace HT
open PySem PySem.Spec PyProof.Rows
section
variable{prog:bh}{w:aZ}{A:cI}{E:Value→aC→Prop}{s:aC}
theorem ad5{t sl:aa}{items:Array Value}{vl vu:Value}{lo hi:Option Int}{Q:Value→aC→Prop}(ht:IsTup s.heap t items)(hs:s.heap.IsSliceOf sl vl vu .none)(pl:tU vl lo)(pu:tU vu hi)
  (hw:bY items.size 0 lo=0∧bY items.size items.size hi=items.size)(h:Q (.ref t) s):aN (model prog w) A (vX (.ref t) (.ref sl)) Q E s:=by
 obtain⟨os,hos,hcs,hds⟩:=id hs
 have hTs:s.TypeIs (.ref sl) "slice":=⟨os,hos,hcs⟩
 unfold vX
 try with_reducible refine nA ?_
 first|refine aJ (aY ?_)|skip
 refine aJ (aem ht.typeIs (by decide) ?_);refine aJ (Ca (name:=fD "__getitem__") ht.typeIs Le
  (qP Le ht.typeIs entry_tuple_getitem ?_ (args_tuple_getitem _ _)))
 show aN _ _ (adz (.ref t) >>= _) _ _ s;refine aJ (tupleItemsOf_ ht ?_);refine aJ (HH hTs ?_);rw[if_pos (by decide)];refine aJ (V8 hs pl pu ?_);have hyes:((((bY items.size 0 lo:Nat):Int)==0&&(1:Int)==1&&(bY items.size items.size hi-bY items.size 0 lo)==items.size)=true):=by
  rw[hw.1,hw.2];simp
 show aN _ _ (if(((bY items.size 0 lo:Nat):Int)==0&&(1:Int)==1&&(bY items.size items.size hi-bY items.size 0 lo)==items.size)=true then _ else _) _ _ s;rw[if_pos hyes];unfold aob;refine aJ (aJ (HH ht.typeIs (aY ?_)));rw[if_pos (by decide)];refine aJ (yh ?_);exact aY ⟨_,rfl,aY h⟩
end
end HT
namespace L2
open PySem PySem.Spec PyProof.Rows PySem.W
section
variable{X:Cx}
def amD(K:aG):V→Option Int→Option Int→Hp→VK→Prop:=fun x lo hi H Q=>∃a xs,x=.ref a∧cU K H a xs∧(rK xs lo hi=xs→Q (.ref a) H)∧∀p,H p=none→Q (.ref p) (upd H p (.tup (rK xs lo hi)))
theorem ajn:vh X (amD X.K):=by
 intro pins s σ H x v vl vu lo hi sl Q I rx hs pl pu h
 obtain⟨a,xs,rfl,hx,q1,q2⟩:=h
 by_cases hw:HT.bY xs.length 0 lo=0∧HT.bY xs.length xs.length hi=xs.length
 ·cases rx
  obtain⟨its,r,ht,hz⟩:=I.tuple hx
  have hlen:its.toArray.size=xs.length:=by rw[fJ];exact r.length.symm
  refine⟨"tuple",_,PyProof.Rows.slot_tuple_getitem.lookup,ht.typeIs,?_⟩
  refine HT.ad5 ht hs pl pu (by rw[hlen];exact hw) ?_
  refine⟨.ref a,H,I,rfl,q1 ?_⟩
  unfold rK;rw[hw.1,hw.2];simp
 ·exact akG pins s σ H _ v vl vu lo hi sl Q I rx hs pl pu ⟨a,xs,rfl,hx,hw,q2⟩
end
end L2
namespace HT
open PySem PySem.Spec PyProof.Rows
open Sem (wp)
open Builtin
end HT
namespace L2
open PySem PySem.Spec PyProof.Rows PySem.W
section
variable{X:Cx}
end
section
variable{Γ:uY}{K:aG}
end
section
variable{Γ:uY}{K:aG}
end
section
variable{Γ:uY}{K:aG}
end
section
variable{X:Cx}
theorem agd(hu:X.A.units+64<fP):cP X (fj .NotEq) (fun x y H Q=>∃d e,RX H d x∧RX H e y∧mJ d=true∧mJ e=true∧Q (.bl (!PyData.eqv d e)) H):=by
 intro pins s σ H x y v u Q I rx ry h
 obtain⟨d,e,hd,he,h1,h2,q⟩:=h
 obtain⟨as,ra⟩:=RD.reads I (hd.rd (K:=X.K)) rx
 obtain⟨bs,rb⟩:=RD.reads I (he.rd (K:=X.K)) ry
 exact ne_dataH ra rb h1 h2 hu ⟨.bl _,H,I,rfl,q⟩
end
section
variable{Γ:uY}{K:aG}
def akY(t:TE)(Γ:uY)(d:ao):Prop:=∀σ H (Q:VK),rG H Γ σ→(∀v H',bw H H'→RX H' d v→Q v H')→t σ H Q
theorem JT.r(h:JT t Γ d):akY t Γ d:=fun σ H Q e q=>h.run e q
theorem aat.run(h:aat t Γ ds)(e:rG H Γ σ)(q:∀vs H',bw H H'→mF H' ds vs→Q vs H'):t σ H Q:=
 h [] σ H Q (fun _ m=>by cases m) (by rw[DX];exact e) fun v H' s r=>q v H' s (by rw[DX] at r;exact r)
end
theorem Jy{xs:Array Nat}(h:xs.toList.Pairwise (·<·)){i k d:Nat}(hik:i<k)(hk:k<xs.size):xs.getD i d<xs.getD k d:=by
 have h1:=GK.mp h i k (by simpa using HJ hik hk) (by simpa using hk) hik;have hi:i<xs.size:=HJ hik hk;rw[sG,sG,m9 hk,m9 hi];simpa using h1
theorem Qg{xs:Array Nat}{j:Nat}(h:xs.toList.Pairwise (·<·)):∀f lo hi,lo≤hi→hi≤xs.size→hi-lo≤f→(∀i,i<lo→xs.getD i j<j)→(∀i,hi≤i→i<xs.size→j≤xs.getD i j)→
  G7 xs j f lo hi≤xs.size∧(∀i,i<G7 xs j f lo hi→xs.getD i j<j)∧∀i,G7 xs j f lo hi≤i→i<xs.size→j≤xs.getD i j
 |0,lo,hi,h1,h2,h3,h4,h5=>by
  unfold G7
  exact⟨by omega,h4,fun i a b=>h5 i (by omega) b⟩
 |f+1,lo,hi,h1,h2,h3,h4,h5=>by
  unfold G7;by_cases hlt:lo<hi
  ·rw[if_pos hlt];dsimp only;by_cases hm:xs.getD ((lo+hi) / 2) j<j
   ·rw[if_pos hm];refine Qg h f _ _ (by omega) h2 (by omega) (fun i hi'=>?_) h5;by_cases e:i=(lo+hi) / 2
    ·rw[e];exact hm
    ·exact HJ (Jy h (by omega) (by omega)) hm
   ·rw[if_neg hm];refine Qg h f _ _ (by omega) (by omega) (by omega) h4 (fun i hi' hs=>?_);by_cases e:i=(lo+hi) / 2
    ·rw[e];omega
    ·have:=Jy (d:=j) h (show(lo+hi) / 2<i by omega) hs;omega
  ·rw[if_neg hlt]
   exact⟨by omega,h4,fun i a b=>h5 i (by omega) b⟩
theorem Ph(j:Nat)(h:xs.toList.Pairwise (·<·)):jn xs j≤xs.size∧(∀i,i<jn xs j→xs.getD i j<j)∧∀i,jn xs j≤i→i<xs.size→j≤xs.getD i j:=
 Qg h xs.size 0 xs.size (lD _) (bN _) (by omega) (fun i hi=>by omega) (fun i a b=>by omega)
theorem aau(h:xs.toList.Pairwise (·<·)):jn xs 0=0:=by
 obtain⟨_,b,_⟩:=Ph 0 h
 cases e:jn xs 0 with
 |zero=>rfl
 |succ n=>have:=b 0 (by omega);omega
theorem XQ{xs:Array Nat}(h:xs.toList.Pairwise (·<·)){i:Nat}(hi:i<xs.size):jn xs (xs[i]+1)=i+1:=by
 obtain⟨a,b,c⟩:=Ph (xs[i]+1) h
 have e:∀k d,(hk:k<xs.size)→xs.getD k d=xs[k]:=fun k d hk=>by rw[sG,m9 hk];rfl
 have mono:∀p q,(hp:p<xs.size)→(hq:q<xs.size)→p<q→xs[p]<xs[q]:=fun p q hp hq pq=>by
  have:=Jy (d:=0) h pq hq
  rwa [e p 0 hp,e q 0 hq] at this
 by_cases h1:jn xs (xs[i]+1)≤i
 ·have:=c i h1 hi;rw[e i _ hi] at this;omega
 ·by_cases h2:jn xs (xs[i]+1)=i+1
  ·exact h2
  ·have hs:i+1<xs.size:=by omega
   have:=b (i+1) (by omega);rw[e _ _ hs] at this;have:=mono i (i+1) hi hs (by omega);omega
structure gm(b:Bool)(t:uF):Prop where
 led:t.led=b
 Us:t.dummies=#[]
 Ut:t.place.toList.Pairwise (·<·)
theorem gm.standIn(h:gm b t)(n:Nat):gm b (t.standIn n):=⟨h.led,rfl,by simpa[SetTable.standIn] using Lp⟩
theorem gm.orStandIn(h:gm b t)(n:Nat):gm b (t.orStandIn n):=by
 unfold SetTable.orStandIn;split
 ·exact h
 ·exact h.standIn n
theorem has_none(j:Nat):afs #[] j=false:=rfl
theorem XR(hd:t.dummies=#[])(f:Nat→Int)(h:Int):∀fuel (p:SetTable.Probe) j d,p.dummy=none→V0 t f h fuel p=some (.empty j d)→d=none∧t.slot j=.empty
 |0,p,j,d,_,e=>by simp[V0] at e
 |fuel+1,p,j,d,hp,e=>by
  unfold V0 at e;have adv:(t.advance p).dummy=none:=by
   unfold SetTable.advance;split<;>exact hp
  cases hs:t.slot p.j with
  |empty=>
   rw[hs] at e;simp only[Ma,aoB] at e
   exact⟨by rw[←e.2];exact hp,by rw[←e.1];exact hs⟩
  |dummy=>
   unfold afa at hs;rw[hd] at hs;simp only[has_none] at hs;split at hs
   ·cases hs
   ·simp at hs
  |live i=>
   rw[hs] at e;simp only at e;split at e
   ·cases e
   ·exact XR hd f h fuel _ j d adv e
theorem age{xs:Array Nat}{j:Nat}(h:xs.toList.Pairwise (·<·))(hn:xs[jn xs j]?≠some j):(SetTable.insertAt xs (jn xs j) j).toList.Pairwise (·<·):=by
 obtain⟨a,b,c⟩:=Ph j h
 rw[SetTable.toList_insertAt];have h':=h;rw[←List.take_append_drop (jn xs j) xs.toList,Lr] at h'
 obtain⟨h1,h2,h3⟩:=h'
 have e:∀k d,(hk:k<xs.size)→xs.getD k d=xs.toList[k]'(by simpa using hk):=fun k d hk=>by rw[sG,m9 hk];simp
 have lo:∀x,x∈xs.toList.take (jn xs j)→x<j:=fun x hx=>by
  obtain⟨i,hi,rfl⟩:=sI hx
  have hi':i<jn xs j:=by simp at hi;omega
  have:=b i hi';rw[e i j (by omega)] at this;rw[V1];exact this
 have hi:∀x,x∈xs.toList.drop (jn xs j)→j<x:=fun x hx=>by
  obtain⟨i,hi,rfl⟩:=sI hx
  have hs:jn xs j+i<xs.size:=by simp at hi;omega
  have h0:=c (jn xs j) (bN _) (by omega);have ne:xs.getD (jn xs j) j≠j:=fun z=>hn (by
   have hb:jn xs j<xs.size:=by omega
   rw[sG,m9 hb] at z;rw[m9 hb];simpa using z)
  rw[aen,←e _ j hs];by_cases z:i=0
  ·subst z;simp only[Nx];omega
  ·have:=Jy (d:=j) h (show jn xs j<jn xs j+i by omega) hs;omega
 rw[Lr]
 refine⟨h1,sJ.mpr ⟨hi,h2⟩,fun x hx y hy=>?_⟩
 rcases bI.mp hy with rfl|hy
 ·exact lo x hx
 ·exact h3 x hx y hy
theorem gm.layNew(h:gm b t)(es:Array (Int×Value))(hs:Int)(x:Value):gm b (layNew t es hs x).2.1:=by
 unfold PySem.layNew;cases hf:t.freeSlot hs with
 |none=>exact h.standIn _
 |some q=>
  obtain⟨slot,wd⟩:=q
  have free:t.slot slot=.empty:=by
   unfold SetTable.freeSlot at hf;split at hf
   ·rename_i j d hp
    obtain⟨rfl,hj⟩:=XR h.Us _ _ _ _ _ _ rfl hp
    simp only[Ma,afb] at hf;rw[←hf.1];exact hj
   ·cases hf
  have hn:t.place[jn t.place slot]?≠some slot:=fun z=>by
   unfold afa at free;simp[z] at free
  show gm b ((t.put slot).1.orStandIn _);refine gm.orStandIn (t:=(t.put slot).1) ⟨h.led,?_,age h.Ut hn⟩ _
  show(if afs t.dummies slot then _ else t.dummies)=#[]
  rw[h.Us];rfl
theorem gm.relayAll(h:gm b t)(es:Array (Int×Value))(n:Nat):gm b (relayAll t es n).2.1:=by
 unfold Hl;split
 ·rename_i t' order hr;dsimp only;split
  ·unfold SetTable.relaid SetTable.laid at hr;cases ho:SetTable.layClean (SetTable.sizeAbove n-1) (es.map (·.1)) with
   |none=>simp[ho] at hr
   |some owner=>
    simp only[ho,Option.bind_eq_bind,iZ,Option.pure_def,Ma,afb] at hr;rw[←hr.1]
    refine⟨h.led,rfl,?_⟩
    simp only[List.map_filterMap];refine aoG _ (fun x y hxy=>?_) Lp;intro u hu v hv;simp only[GP] at hu hv
    obtain⟨p,⟨_,_,rfl⟩,rfl⟩:=hu
    obtain⟨q,⟨_,_,rfl⟩,rfl⟩:=hv
    exact hxy
  ·exact h.standIn _
 ·exact h.standIn _
theorem gm.plain(h:gm b t)(v:Bool):gm b {t with plain:=v}:=⟨h.led,h.Us,h.Ut⟩
theorem gm.fresh(b:Bool):gm b (.fresh 0 0 b):=⟨rfl,rfl,.nil⟩
end L2
namespace L2
open PySem PySem.Spec PySem.W
section
variable{prog:bh}{w:aZ}{T:Type}[DecidableEq T](knd:xX prog w T)
def bt(w:aZ):Bool:=!(w.params.followText "set-order")
inductive jQ:List (Int×Value)→List T→Prop
 |nil:jQ [] []
 |cons {e:Int×Value} {k:T} {es:List (Int×Value)} {ks:List T}:(knd.is k e.2=true∧e.1=knd.hash k∧e.2.scannable=true)→jQ es ks→jQ (e::es) (k::ks)
def nU(h:aV)(a:aa)(ks:List T):Prop:=∃o es ep t,h.get? a=some o∧o.ExactSet∧o.data=.set es ep t∧(∃ks',jQ knd es.toList ks'∧ks'.Perm ks)∧es.size<qe∧t.fits es.size=true∧gm (bt w) t
def kJ(ks:List T)(k:T):List T:=if k∈ks then ks else ks++[k]
variable{knd}
theorem jQ.elems(h:jQ knd es ks):ElemsOf knd es:=by
 induction h with
 |nil=>intro e he;cases he
 |cons a _ ih=>
  intro e he;rcases bI.mp he with rfl|he
  ·exact⟨⟨_,a.1,a.2.1⟩,a.2.2⟩
  ·exact ih e he
theorem jQ.len(h:jQ knd es ks):es.length=ks.length:=by
 induction h with
 |nil=>rfl
 |cons _ _ ih=>simp[ih]
theorem jQ.perm(p:es'.Perm es):∀{ks:List T},jQ knd es ks→∃ks',jQ knd es' ks'∧ks'.Perm ks:=by
 induction p with
 |nil=>intro ks h;exact⟨ks,h,.refl _⟩
 |cons x _ ih=>
  intro ks h;cases h with
  |cons a r=>
   obtain⟨ks',h1,h2⟩:=ih r
   exact⟨_::ks',.cons a h1,h2.cons _⟩
 |swap x y l=>
  intro ks h;cases h with
  |cons a r=>
   cases r with
   |cons b r=>exact⟨_::_::_,.cons b (.cons a r),.swap ..⟩
 |trans _ _ ih1 ih2=>
  intro ks h
  obtain⟨k2,h1,p1⟩:=ih2 h
  obtain⟨k3,h2,p2⟩:=ih1 h1
  exact⟨k3,h2,p2.trans p1⟩
theorem jQ.push(h:jQ knd es ks)(hk:knd.is k x=true)(hx:x.scannable=true):jQ knd (es++[(knd.hash k,x)]) (ks++[k]):=by
 induction h with
 |nil=>exact .cons ⟨hk,rfl,hx⟩ .nil
 |cons a _ ih=>exact .cons a ih
theorem jQ.mem(h:jQ knd es ks)(hm:x∈es)(hp:knd.is k x.2=true):k∈ks:=by
 induction h with
 |nil=>cases hm
 |cons a _ ih=>
  rcases bI.mp hm with rfl|hm
  ·cases knd.inj _ _ _ hp a.1;exact dm ..
  ·exact dM _ (ih hm)
theorem jQ.none(h:jQ knd es ks)(e:es.findIdx? (fun e=>knd.is k e.2)=.none):k∉ks:=by
 have e':=List.findIdx?_eq_none_iff.mp e;clear e;induction h with
 |nil=>intro h;cases h
 |cons a _ ih=>
  intro hm;rcases bI.mp hm with rfl|hm
  ·have:=e' _ (dm ..);rw[a.1] at this;cases this
  ·exact ih (fun x hx=>e' x (dM _ hx)) hm
variable{A:cI}{E:Value→aC→Prop}{s:aC}
theorem aav{h:aV}{a:aa}{o:Obj}{es es':Array (Int×Value)}{ep:Nat}{t t':uF}{ks:List T}(ho:h.get? a=some o)(ex:o.ExactSet)(hd:o.data=.set es ep t)(e:∃ks',jQ knd es'.toList ks'∧ks'.Perm ks)
  (hb:es'.size<qe)(hf:t'.fits es'.size=true)(tb:gm (bt w) t'):
  ∃o',(h.update a (Ow es' t')).get? a=some o'∧o'.ExactSet∧o'.data=.set es' (ep+1) t'∧nU knd (h.update a (Ow es' t')) a ks:=by
 have g:=zy (Ow es' t') ho (by rw[putSet_of es' t' hd];rfl);rw[putSet_of es' t' hd] at g
 exact⟨_,g,ex,rfl,_,es',ep+1,t',g,ex,rfl,e,hb,hf,tb⟩
theorem ajo{a:aa}{k:T}{x:Value}{ks:List T}{Q:Bool→aC→Prop}(hk:knd.is k x=true)(hx:x.scannable=true)(hS:nU knd s.heap a ks)(room:ks.length+1<qe)
  (h:∀b h',z8 a s.heap h'→nU knd h' a (kJ ks k)→Q b {s with heap:=h'}):aN (model prog w) A (setAddHashed a x (knd.hash k)) Q E s:=by
 obtain⟨o,es,ep,t,ho,ex,hd,⟨k0,ek,pk⟩,hb,hf,tb⟩:=hS
 have sz:es.size=ks.length:=by rw[←kO,ek.len,pk.length_eq]
 have el:=ek.elems;have mono:∀{u:Unit→aC→Prop}{s1:aC}(g:Bool),u () s1→∀r:Sem Unit,(r=rule "set.scan.the-table-gave-way"∨r=pure ())→aN (model prog w) A r u E s1:=fun g hu r hr=>by
  rcases hr with rfl|rfl
  ·exact yh hu
  ·exact aY hu
 unfold setAddHashed setAddHashedIn;refine nA (aJ (Cm ho hd hf ?_));simp only[byScan_of hx hb el,if_true];unfold setAddByScan;refine aJ (aJ (yh (aJ (wpAny_setScan_of hk ho hd hf el ?_))));cases hr:es.toList.findIdx? (fun e=>knd.is k e.2) with
 |some j=>
  obtain⟨hj,hp,_⟩:=List.findIdx?_eq_some_iff_getElem.mp hr
  have hm:k∈ks:=pk.mem_iff.mp (ek.mem (xR hj) hp);refine aY (aY (h _ s.heap (V2 a s.heap) ?_));rw[kJ,if_pos hm]
  exact⟨o,es,ep,t,ho,ex,hd,⟨k0,ek,pk⟩,hb,hf,tb⟩
 |none=>
  have hm:k∉ks:=fun z=>ek.none hr (pk.mem_iff.mpr z)
  have pn:=layNew_perm t es (knd.hash k) x;have fn:=layNew_fits t es (knd.hash k) x;have tn:=tb.layNew es (knd.hash k) x;dsimp only;generalize layNew t es (knd.hash k) x=L at pn fn tn⊢
  obtain⟨es1,t1,wd,gv⟩:=L
  dsimp only at pn fn tn⊢;rw[aeo] at pn
  obtain⟨k1,e1,p1⟩:=(ek.push hk hx).perm pn
  have ak:kJ ks k=ks++[k]:=by rw[kJ,if_neg hm]
  have q1:∃ks',jQ knd es1.toList ks'∧ks'.Perm (kJ ks k):=⟨k1,e1,by rw[ak];exact p1.trans (pk.append_right _)⟩
  have xH:es1.size=es.size+1:=by rw[←kO,pn.length_eq,gf,kO];rfl
  have b1:es1.size<qe:=by omega
  refine aJ (mono gv ?_ _ (by cases gv<;>first|exact .inl rfl|exact .inr rfl));have tail:∀t2:uF,t2.fits es1.size=true→gm (bt w) t2→aN (model prog w) A (do
    storeSet a es1 t2
    if(!wd&&t2.tooFull)=true then do
      (match(Hl t2 es1 (zV es1.size)).2.2 with|true=>rule "set.scan.the-table-gave-way" |false=>pure ())
      storeSet a (Hl t2 es1 (zV es1.size)).1 (Hl t2 es1 (zV es1.size)).2.1
      pure (some true)
     else pure (some true)) (fun r s'=>aN (model prog w) A (match r with|some added=>pure added|none=>setAddHashedIn a x (knd.hash k) 99999) Q E s') E s:=fun t2 f2 tb2=>by
   obtain⟨o1,g1,ex1,d1,S1⟩:=aav (knd:=knd) ho ex hd q1 b1 f2 tb2
   refine aJ (aep ho hd ?_ (V3 b1));have yM:=uy s.heap a (Ow es1 t2);split
   ·have pr:=relayAll_perm t2 es1 (zV es1.size);have fr:=relayAll_fits t2 es1 (zV es1.size);have tr:=tb2.relayAll es1 (zV es1.size);generalize Hl t2 es1 (zV es1.size)=L2 at pr fr tr⊢
    obtain⟨es2,t3,gv2⟩:=L2
    dsimp only at pr fr tr⊢
    obtain⟨k2,e2,p2⟩:=q1
    obtain⟨k3,e3,p3⟩:=e2.perm pr
    have sz2:es2.size=es1.size:=by rw[←kO,pr.length_eq,kO]
    have b2:es2.size<qe:=by omega
    refine aJ (mono gv2 ?_ _ (by cases gv2<;>first|exact .inl rfl|exact .inr rfl));refine aJ (aep g1 d1 ?_ (V3 b2))
    obtain⟨_,_,_,_,S2⟩:=aav (knd:=knd) g1 ex1 d1 ⟨k3,e3,p3.trans p2⟩ b2 fr tr
    exact aY (aY (h _ _ (yM.trans (uy ..)) S2))
   ·exact aY (aY (h _ _ yM S1))
  split
  ·refine aJ ?_;rw[hashByValue_scannable 8 hx];refine aY ?_;by_cases hv:plainKind x=true
   ·simp only[hv,if_true];exact tail t1 fn tn
   ·simp only[hv,qO,if_false];exact tail _ (SetTable.fits_plain_off fn) (tn.plain false)
  ·refine aJ (aY ?_);simp only[if_true];exact tail t1 fn tn
end
section
variable{T:Type}[DecidableEq T]
def dedup(ks:List T):List T:=ks.foldl kJ []
theorem agf(ks:List T)(k:T):dedup (ks++[k])=kJ (dedup ks) k:=by simp[dedup,aeq]
theorem ah1{ks:List T}{k x:T}:x∈kJ ks k↔x∈ks∨x=k:=by
 unfold kJ;split
 ·rename_i h
  exact⟨.inl,fun z=>z.elim id fun e=>e▸h⟩
 ·simp
theorem Wu{x:T}:∀(ks as:List T),x∈ks.foldl kJ as↔x∈as∨x∈ks
 |[],as=>by simp
 |k::ks,as=>by rw[xV,Wu,ah1,bI,or_assoc]
theorem ag4{ks:List T}{x:T}:x∈dedup ks↔x∈ks:=by
 rw[dedup,Wu];simp
theorem agg{ks:List T}{k:T}(h:ks.Nodup):(kJ ks k).Nodup:=by
 unfold kJ;split
 ·exact h
 ·rename_i hk;exact j6.mpr ⟨h,by simp,fun a ha b hb=>by rw[gB] at hb;rintro rfl;exact hk (hb▸ha)⟩
theorem V9:∀(ks as:List T),as.Nodup→(ks.foldl kJ as).Nodup
 |[],_,h=>h
 |k::ks,_,h=>V9 ks _ (agg h)
theorem afR(ks:List T):(dedup ks).Nodup:=V9 ks [] .nil
theorem ah2(ks:List T)(k:T):(kJ ks k).length≤ks.length+1:=by
 unfold kJ;split<;>simp
theorem Wv:∀(ks as:List T),(ks.foldl kJ as).length≤as.length+ks.length
 |[],_=>by simp
 |k::ks,as=>by
  have h1:=Wv ks (kJ as k);have h2:=ah2 as k;simp only[xV,dH];omega
theorem Yr(ks:List T):(dedup ks).length≤ks.length:=by simpa[dedup] using Wv ks []
end
section
variable{prog:bh}{w:aZ}{T:Type}[DecidableEq T]{knd:xX prog w T}{A:cI}{E:Value→aC→Prop}{s:aC}
theorem nU.at(H:nU knd h a ks)(e:∀o,h.get? a=some o→h'.get? a=some o):nU knd h' a ks:=
 let ⟨o,es,ep,t,ho,r⟩:=H
 ⟨o,es,ep,t,e o ho,r⟩
theorem nU.lt(H:nU knd h a ks):a<h.objs.size:=let ⟨_,_,_,_,ho,_⟩:=H;bZ ho
theorem nU.ty(H:nU knd s.heap a ks):s.TypeIs (.ref a) "set":=let ⟨o,_,_,_,ho,ex,_⟩:=H;⟨o,ho,ex.1⟩
end
section
variable{prog:bh}{w:aZ}{T:Type}[DecidableEq T]{knd:xX prog w T}{A:cI}{E:Value→aC→Prop}{s:aC}
def qH(w:aZ):Obj:={cls:=.type "set",dict:=none,data:=.set #[] 0 (.fresh 0 0 (bt w))}
theorem akZ(g:h.get? a=some (qH w)):nU knd h a []:=⟨_,#[],0,_,g,⟨rfl,rfl,rfl⟩,rfl,⟨[],.nil,.refl _⟩,by decide,rfl,gm.fresh _⟩
end
theorem Zf:Manifest.owners.lookup (String.ofList "rotareti_tes".toList.reverse)=some Manifest.sig_set_iterator:=by kernel_rfl
theorem rm:Slot "set_iterator" "__next__" "set_iterator.__next__":=.of (owner:="set_iterator") (n:="__next__") (by rw[typeLookup_type,adS];kernel_rfl) (by decide +kernel) (by decide +kernel) (by decide +kernel) (by first|exact .inl (by decide +kernel)|exact .inr (by decide +kernel)) (by rw[Ww];kernel_rfl)
theorem aaw:Slot "set_iterator" "__iter__" "set_iterator.__iter__":=.of (owner:="set_iterator") (n:="__iter__") (by rw[typeLookup_type,adS];kernel_rfl) (by decide +kernel) (by decide +kernel) (by decide +kernel) (by first|exact .inl (by decide +kernel)|exact .inr (by decide +kernel)) (by rw[Ww];kernel_rfl)
theorem IK:Qh table "set_iterator.__next__"=some nF.«set_iterator.__next__»:=entryFor_of_tree (by kernel_rfl)
theorem ag5:Qh table "set_iterator.__iter__"=some nF.«dict_keyiterator.__iter__»:=entryFor_alias (id':="dict_keyiterator.__iter__") (by kernel_rfl) rfl (by decide +kernel) (by kernel_rfl)
theorem agh:Qh table "set.__iter__"=some nF.«frozenset.__iter__»:=entryFor_alias (id':="frozenset.__iter__") (by kernel_rfl) rfl (by decide +kernel) (by kernel_rfl)
theorem IV(a:Value):DY "set_iterator.__next__" ⟨[a],[]⟩:=by
 unfold DY;rw[signature?_of (id:="set_iterator.__next__") (n:="__txen__".toList) (o:="rotareti_tes".toList) (by kernel_rfl) Zf];kernel_rfl
theorem ag6(a:Value):DY "set_iterator.__iter__" ⟨[a],[]⟩:=by
 unfold DY;rw[signature?_of (id:="set_iterator.__iter__") (n:="__reti__".toList) (o:="rotareti_tes".toList) (by kernel_rfl) Zf];kernel_rfl
section
variable{prog:bh}{w:aZ}{A:cI}{E:Value→aC→Prop}{s:aC}{it S:aa}{es:Array (Int×Value)}{ep i n:Nat}{t:uF}{first:Value}
def lZ(b:Bool)(h:aV)(a:aa)(es:Array (Int×Value))(ep:Nat)(t:uF):Prop:=∃o,h.get? a=some o∧o.ExactSet∧o.data=.set es ep t∧t.fits es.size=true∧gm b t
theorem lZ.at(H:lZ b h a es ep t)(e:∀o,h.get? a=some o→h'.get? a=some o):lZ b h' a es ep t:=let ⟨o,ho,r⟩:=H;⟨o,e o ho,r⟩
def j4(h:aV)(it S:aa)(first:Value)(i n ep:Nat):Prop:=∃o,h.get? it=some o∧o.cls=.type "set_iterator"∧o.data=.fields #[first,jL i,.ref S,jL n,jL ep]
theorem j4.at(H:j4 h it S first i n ep)(e:∀o,h.get? it=some o→h'.get? it=some o):j4 h' it S first i n ep:=let ⟨o,ho,r⟩:=H;⟨o,e o ho,r⟩
theorem j4.ty(H:j4 s.heap it S first i n ep):s.TypeIs (.ref it) "set_iterator":=let ⟨o,ho,c,_⟩:=H;⟨o,ho,c⟩
theorem j4.set{h:aV}{j:Nat}{x:Value}{vs:Array Value}{o:Obj}(ho:h.get? it=some o)(hc:o.cls=.type "set_iterator")(hd:o.data=.fields vs):
  ∃o',(h.update it (Obj.mapFields (·.setIfInBounds j x))).get? it=some o'∧o'.cls=.type "set_iterator"∧o'.data=.fields (vs.setIfInBounds j x):=
 ⟨_,zy _ ho (Obj.isFreed_of_fields (aee hd _)),(Obj.cls_mapFields ..).trans hc,by rw[aee hd]⟩
theorem Q4(hit:j4 s.heap it S first i n ep)(h:Q (.ref it) s):aN (model prog w) A (DP (.ref it)) Q E s:=by
 refine aer hit.ty aaw (qP aaw hit.ty ag5 (show aN _ _ (ret (.ref it)) _ _ s from ?_) (ag6 _));exact aY ⟨_,rfl,"set_iterator",_,hit.ty,rm.lookup,h⟩
theorem aax{Q:Option Value→aC→Prop}{slot:Nat}{R:Option (Value×Nat)}(hit:j4 s.heap it S (jL slot) i n ep)(hs:lZ (bt w) s.heap S es ep t)(hn:n=es.size)(ne:S≠it)
  (nx:∀{B:cI}{E':Value→aC→Prop}{C:Option (Value×Nat)→aC→Prop},C R s→aN (model prog w) B (Dr S slot i ep) C E' s){x:Value}{nxt:Nat}(hR:R=some (x,nxt))
  (h:∀h',j4 h' it S (jL nxt) (i+1) n ep→z8 it s.heap h'→Q (some x) {s with heap:=h'}):aN (model prog w) A (pF (.ref it)) Q E s:=by
 obtain⟨o,ho,hc,hd⟩:=id hit
 obtain⟨os,hos,exs,hds,hf,tb⟩:=id hs
 unfold pF;refine aJ (Ng (Ca (name:=fD "__next__") hit.ty rm (qP rm hit.ty IK ?_ (IV _))));unfold nF.«set_iterator.__next__»;refine aJ (aY (aJ (MF ho hd ?_)));dsimp only[jL];refine aJ (GX hos hds hf ?_);subst hn;subst hR;rw[if_neg (by simp)];refine aJ (nx ?_);dsimp only;refine aJ (Cz ho hd (by simp) ?_)
 obtain⟨o1,g1,c1,d1⟩:=j4.set (j:=0) (x:=.int nxt 0) ho hc hd
 refine aJ (Cz g1 d1 (by simp) ?_)
 obtain⟨o2,g2,c2,d2⟩:=j4.set (j:=1) (x:=.int (i+1) 0) g1 c1 d1
 refine aY ⟨_,rfl,aY (h _ ⟨o2,g2,c2,?_⟩ ((uy ..).trans (uy ..)))⟩;rw[d2];simp[jL]
theorem aay(hh:A.handled=none)(h:∀h',(∀b o,s'.heap.get? b=some o→h'.get? b=some o)→Q none {s' with heap:=h'}):
  aN (model prog w) A.in1 (do let e ←newExc (.type "StopIteration") [];(raiseNew e:Sem Fin)) (fun fin s1=>∃v,fin=Fin.done (Flow.ret v)∧aN (model prog w) A (pure (some v)) Q E s1)
   (fun e s1=>aN (model prog w) A (do if(←isInstance e (CW "StopIteration"))=true then pure none else throw e) Q E s1) s':=by
 refine aJ ?_;simp only[newExc,newTuple];refine aJ (nq ?_ (by size_fits));refine aJ (m:=firstArgMember _ _) (wpAny_of_eq (a:=p7) (by first|rfl|(simp only[firstArgMember];rfl)) ?_);refine nq ?_ (by size_fits);simp only[raiseNew];refine aJ (wpAny_handled ?_);rw[show A.in1.handled=none from hh];refine aJ (aY (wpAny_throw ?_));refine aJ (aeG (T:="StopIteration") (b:=true) ⟨_,iI _ rfl,rfl⟩ isSubtype_stop ?_);exact aY (h _ fun b o e=>cM _ (cM _ e))
theorem abm{Q:Option Value→aC→Prop}{slot:Nat}(hh:A.handled=none)(hit:j4 s.heap it S (jL slot) i n ep)(hs:lZ (bt w) s.heap S es ep t)(hn:n=es.size)
  (nx:∀{B:cI}{E':Value→aC→Prop}{C:Option (Value×Nat)→aC→Prop},C none s→aN (model prog w) B (Dr S slot i ep) C E' s)
  (h:∀h',(∀b o,b≠it→s.heap.get? b=some o→h'.get? b=some o)→Q none {s with heap:=h'}):aN (model prog w) A (pF (.ref it)) Q E s:=by
 obtain⟨o,ho,hc,hd⟩:=id hit
 obtain⟨os,hos,exs,hds,hf,tb⟩:=id hs
 unfold pF;refine aJ (Ng (Ca (name:=fD "__next__") hit.ty rm (qP rm hit.ty IK ?_ (IV _))));unfold nF.«set_iterator.__next__»;refine aJ (aY (aJ (MF ho hd ?_)));dsimp only[jL];refine aJ (GX hos hds hf ?_);subst hn;rw[if_neg (by simp)];refine aJ (nx ?_);dsimp only;refine aJ (Cz ho hd (by simp) ?_);exact aay hh fun h' kk=>h h' fun b o hb e=>kk b o (((uy ..).2 b hb).trans e)
end
section
variable{prog:bh}{w:aZ}{A:cI}{E:Value→aC→Prop}{s:aC}{it S:aa}{es:Array (Int×Value)}{ep i n:Nat}{t:uF}{first:Value}
theorem Jz(h:Q (!bt w) s):aN (model prog w) A XS Q E s:=by
 unfold XS;refine aJ (Mj (aY ?_));have h':Q (w.params.followText "set-order") s:=by simpa[bt] using h
 exact h'
theorem Ox:∀{l:List α}{j:Nat}(h:j<l.length),(l[j]::l.eraseIdx j).Perm l
 |[],j,h=>by cases h
 |a::l,0,h=>.refl _
 |a::l,j+1,h=>by
  have:=Ox (l:=l) (j:=j) (by simpa using h);simp only[List.getElem_cons_succ,List.eraseIdx_cons_succ]
  exact(MJ ..).trans (this.cons a)
theorem Ys(hs:lZ (bt w) s.heap S es ep t)(hb:bt w=true)(nd:(!t.plain&&decide (es.size>1))=false)
  (h:C (match es[jn t.place slot]?,t.place[jn t.place slot]? with|some (_,x),some j=>some (x,j+1)|_,_=>none) s):aN (model prog w) A (Dr S slot i ep) C E s:=by
 obtain⟨o,ho,ex,hd,hf,tb⟩:=hs
 unfold Dr;refine aJ (Cm ho hd hf ?_);refine aJ (Jz ?_);rw[hb];simp only[afc,qO,if_false];refine Mt (fun z=>?_) (fun _=>?_)
 ·have z':(!t.plain&&decide (es.size>1))=true:=z;rw[nd] at z';cases z'
 refine aJ (show aN _ _ (if(!t.led&&!es.isEmpty)=true then _ else _) _ _ _ from ?_);rw[tb.led,hb];simp only[afc,Wr,qO,if_false];exact aY (aY h)
theorem Yt(hs:lZ (bt w) s.heap S es ep t)(hb:bt w=false)
  (h:C (((ym (w.params.setOrder S ep) es)[i]?).map fun e=>(e.2,slot)) s):aN (model prog w) A (Dr S slot i ep) C E s:=by
 obtain⟨o,ho,ex,hd,hf,tb⟩:=hs
 unfold Dr;refine aJ (Cm ho hd hf ?_);refine aJ (Jz ?_);rw[hb];simp only[aeW,if_true,bne_self_eq_false,qO,if_false];refine aJ ?_;unfold setWalk;refine aJ (Cm ho hd hf ?_);refine aJ (Jz ?_);rw[hb];simp only[aeW,if_true];refine aJ (Mj (aY ?_));exact aY h
theorem aaz(f:Nat→Nat):∀(m k:Nat)(left:List α)(out:Array α),left.length=m→(Xb f m k left out).toList.Perm (out.toList++left)
 |0,k,left,out,h=>by
  unfold Xb;rw[adF.mp h];simp
 |m+1,k,left,out,h=>by
  unfold Xb;have hl:f k%left.length<left.length:=Nat.mod_lt _ (by omega);rw[gQ hl];dsimp only
  refine(aaz f m (k+1) _ _ (by rw[adY];simp[hl];omega)).trans ?_
  rw[aeo,lB];refine adT _ ?_;exact Ox hl
theorem Pj(f:Nat→Nat)(xs:Array α):(ym f xs).toList.Perm xs.toList:=by
 have:=aaz f xs.size 0 xs.toList #[] (by simp);simpa[ym] using this
theorem ah3(hm:m≠0)(h:∀j d,j<m→Q j {s with drawn:=d}):aN (model prog w) A (choose src m) Q E s:=fun Γ p _=>⟨hm,h _ _ (Nat.mod_lt _ (Nat.pos_of_ne_zero hm))⟩
theorem Zg:∀(m:Nat)(xs:List α)(s:aC)(Q:List α→aC→Prop),xs.length=m→(∀ys d,ys.Perm xs→Q ys {s with drawn:=d})→aN (model prog w) A (drawOrder m xs) Q E s
 |0,xs,s,Q,hl,h=>by
  unfold drawOrder;rw[adF.mp hl] at h;exact aY (h [] s.drawn (.refl _))
 |m+1,[],s,Q,hl,h=>by cases hl
 |m+1,x::xs,s,Q,hl,h=>by
  unfold drawOrder;refine aJ (ah3 (by simp) fun j d hj=>?_);rw[gQ hj];dsimp only;refine aJ (Zg m _ _ _ (by rw[adY,if_pos hj];simpa using hl) fun ys d' hp=>?_);exact aY (h _ d' ((hp.cons _).trans (Ox hj)))
end
section
variable{prog:bh}{w:aZ}{A:cI}{E:Value→aC→Prop}{s:aC}{it S pl:aa}{es:Array (Int×Value)}{ep i n:Nat}{t:uF}{ps:List Nat}
def BW(h:aV)(pl:aa)(ps:List Nat):Prop:=∃o c,h.get? pl=some o∧o.data=.seq (ps.map fun k:Nat=>jL k).toArray c
theorem BW.at(H:BW h pl ps)(e:∀o,h.get? pl=some o→h'.get? pl=some o):BW h' pl ps:=let ⟨o,c,ho,r⟩:=H;⟨o,c,e o ho,r⟩
theorem ajp(hit:j4 s.heap it S (.ref pl) i n ep)(hs:lZ (bt w) s.heap S es ep t)(hp:BW s.heap pl ps)(hn:n=es.size)(hk:ps[i]?=some k)(he:es[k]?=some e)
  (h:∀h',j4 h' it S (.ref pl) (i+1) n ep→z8 it s.heap h'→Q (some e.2) {s with heap:=h'}):aN (model prog w) A (pF (.ref it)) Q E s:=by
 obtain⟨o,ho,hc,hd⟩:=id hit
 obtain⟨os,hos,exs,hds,hf,tb⟩:=id hs
 obtain⟨op,cp,hop,hdp⟩:=hp
 unfold pF;refine aJ (Ng (Ca (name:=fD "__next__") hit.ty rm (qP rm hit.ty IK ?_ (IV _))));unfold nF.«set_iterator.__next__»;refine aJ (aY (aJ (MF ho hd ?_)));dsimp only[jL];refine aJ (GX hos hds hf ?_);subst hn;rw[if_neg (by simp)];refine aJ (Ho hop hdp ?_);dsimp only;rw[show((ps.map fun k:Nat=>jL k).toArray)[((i:Int)).toNat]?=some (.int (k:Int) 0) by simp[hk,jL]];dsimp only;refine aJ ?_;unfold setNextDrawn;refine aJ (Cm hos hds hf ?_);simp only[zG,bne_self_eq_false,qO,if_false,he];refine aY (aJ (Cz ho hd (by simp) ?_))
 obtain⟨o1,g1,c1,d1⟩:=j4.set (j:=1) (x:=.int (i+1) 0) ho hc hd
 refine aY ⟨_,rfl,aY (h _ ⟨o1,g1,c1,?_⟩ (uy ..))⟩;rw[d1];simp[jL]
theorem ak0(hh:A.handled=none)(hit:j4 s.heap it S (.ref pl) i n ep)(hs:lZ (bt w) s.heap S es ep t)(hp:BW s.heap pl ps)(hn:n=es.size)(hk:ps.length≤i)
  (h:∀h',(∀b o,b≠it→s.heap.get? b=some o→h'.get? b=some o)→Q none {s with heap:=h'}):aN (model prog w) A (pF (.ref it)) Q E s:=by
 obtain⟨o,ho,hc,hd⟩:=id hit
 obtain⟨os,hos,exs,hds,hf,tb⟩:=id hs
 obtain⟨op,cp,hop,hdp⟩:=hp
 unfold pF;refine aJ (Ng (Ca (name:=fD "__next__") hit.ty rm (qP rm hit.ty IK ?_ (IV _))));unfold nF.«set_iterator.__next__»;refine aJ (aY (aJ (MF ho hd ?_)));dsimp only[jL];refine aJ (GX hos hds hf ?_);subst hn;rw[if_neg (by simp)];refine aJ (Ho hop hdp ?_);dsimp only;rw[show((ps.map fun k:Nat=>jL k).toArray)[((i:Int)).toNat]?=none by simp[hk]];dsimp only;refine aJ (Cz ho hd (by simp) ?_)
 obtain⟨o1,g1,c1,d1⟩:=j4.set (j:=0) (x:=.int 0 0) ho hc hd
 refine aJ (Cz g1 d1 (by simp) ?_);exact aay hh fun h' kk=>h h' fun b o hb e=>kk b o ((((uy ..).trans (uy ..)).2 b hb).trans e)
theorem ag7(hh:A.handled=none)(ne:S≠it)(hb:bt w=true)(nd:(!t.plain&&decide (es.size>1))=false)(hz:t.place.size=es.size)(rs:t.place.toList.Pairwise (·<·)):
  Walks prog w A it [it,S] [it] es.size (fun i v=>(es.toList.map (·.2))[i]?=some v) (fun i h=>j4 h it S (jL (if i=0 then 0 else t.place.getD (i-1) 0+1:Nat)) i es.size ep∧lZ (bt w) h S es ep t) where
 sub:=fun b hb=>by simp at hb;simp[hb]
 frame:=fun _ _ _ st hk=>⟨st.1.at fun o e=>hk it (by simp) o e,st.2.at fun o e=>hk S (by simp) o e⟩
 item:=fun i s Q E hi st hQ=>by
  have hp:i<t.place.size:=by omega
  have bl:jn t.place (if i=0 then 0 else t.place.getD (i-1) 0+1)=i:=by
   by_cases z:i=0
   ·subst z;exact aau rs
   ·rw[if_neg z];have h1:i-1<t.place.size:=by omega
    have:=XQ rs h1;rw[sG,m9 h1,zM,this];omega
  refine aax (R:=some (es[i].2,t.place[i]+1)) st.1 st.2 rfl ne (fun c=>Ys st.2 hb nd ?_) rfl fun h' hit' same=>hQ _ h' s.toks (by simp[hi]) ⟨?_,st.2.at fun o e=>(same.2 S ne).trans e⟩ fun b o hb e=>(same.2 b fun z=>hb (by simp[z])).trans e
  ·rw[bl,m9 hi,m9 hp];exact c
  ·have e1:(if i+1=0 then 0 else t.place.getD (i+1-1) 0+1)=t.place[i]+1:=by
    rw[if_neg (by omega),aef,sG,m9 hp,zM]
   rw[e1];exact hit'
 done:=fun s Q E st hQ=>by
  have bl:jn t.place (if es.size=0 then 0 else t.place.getD (es.size-1) 0+1)=es.size:=by
   by_cases z:es.size=0
   ·rw[if_pos z,z];exact aau rs
   ·rw[if_neg z];have h1:es.size-1<t.place.size:=by omega
    have:=XQ rs h1;rw[sG,m9 h1,zM,this];omega
  refine abm hh st.1 st.2 rfl (fun c=>Ys st.2 hb nd ?_) fun h' kk=>hQ h' s.toks fun b o hb e=>kk b o (fun z=>hb (by simp[z])) e
  rw[bl,adM (bN _)];exact c
 self:=fun _ _ _ _ st hQ=>Q4 st.1 hQ
theorem ag8(hh:A.handled=none)(ne:S≠it)(hb:bt w=false):
  Walks prog w A it [it,S] [it] es.size (fun i v=>((ym (w.params.setOrder S ep) es).toList.map (·.2))[i]?=some v) (fun i h=>j4 h it S (jL (0:Nat)) i es.size ep∧lZ (bt w) h S es ep t) where
 sub:=fun b hb=>by simp at hb;simp[hb]
 frame:=fun _ _ _ st hk=>⟨st.1.at fun o e=>hk it (by simp) o e,st.2.at fun o e=>hk S (by simp) o e⟩
 item:=fun i s Q E hi st hQ=>by
  have hl:(ym (w.params.setOrder S ep) es).size=es.size:=by rw[←kO,(Pj _ es).length_eq,kO]
  have hp:i<(ym (w.params.setOrder S ep) es).size:=by omega
  refine aax (R:=some ((ym (w.params.setOrder S ep) es)[i].2,0)) st.1 st.2 rfl ne (fun c=>Yt st.2 hb ?_) rfl fun h' hit' same=>hQ _ h' s.toks (by simp[hp]) ⟨hit',st.2.at fun o e=>(same.2 S ne).trans e⟩ fun b o hb e=>(same.2 b fun z=>hb (by simp[z])).trans e
  rw[m9 hp];exact c
 done:=fun s Q E st hQ=>by
  have hl:(ym (w.params.setOrder S ep) es).size=es.size:=by rw[←kO,(Pj _ es).length_eq,kO]
  refine abm hh st.1 st.2 rfl (fun c=>Yt st.2 hb ?_) fun h' kk=>hQ h' s.toks fun b o hb e=>kk b o (fun z=>hb (by simp[z])) e
  rw[adM (by omega)];exact c
 self:=fun _ _ _ _ st hQ=>Q4 st.1 hQ
theorem agi(hh:A.handled=none)(ne:S≠it)(np:pl≠it)(pp:ps.Perm (dZ es.size)):
  Walks prog w A it [it,S,pl] [it] es.size (fun i v=>(ps.map fun k=>(es.getD k (0,.none)).2)[i]?=some v) (fun i h=>j4 h it S (.ref pl) i es.size ep∧lZ (bt w) h S es ep t∧BW h pl ps) where
 sub:=fun b hb=>by simp at hb;simp[hb]
 frame:=fun _ _ _ st hk=>⟨st.1.at fun o e=>hk it (by simp) o e,st.2.1.at fun o e=>hk S (by simp) o e,st.2.2.at fun o e=>hk pl (by simp) o e⟩
 item:=fun i s Q E hi st hQ=>by
  have hl:ps.length=es.size:=by rw[pp.length_eq,lC]
  have hp:i<ps.length:=by omega
  have hk:ps[i]<es.size:=qR.mp (pp.mem_iff.mp (xR hp));refine ajp (k:=ps[i]) (e:=es[ps[i]]) st.1 st.2.1 st.2.2 rfl (gQ hp) (m9 hk) fun h' hit' same=>hQ _ h' s.toks ?_ ⟨hit',st.2.1.at fun o e=>(same.2 S ne).trans e,st.2.2.at fun o e=>(same.2 pl np).trans e⟩ fun b o hb e=>(same.2 b fun z=>hb (by simp[z])).trans e
  rw[gK,gQ hp,mL,sG,m9 hk];rfl
 done:=fun s Q E st hQ=>by
  have hl:ps.length=es.size:=by rw[pp.length_eq,lC]
  exact ak0 hh st.1 st.2.1 st.2.2 rfl (by omega) fun h' kk=>hQ h' s.toks fun b o hb e=>kk b o (fun z=>hb (by simp[z])) e
 self:=fun _ _ _ _ st hQ=>Q4 st.1 hQ
end
section
variable{prog:bh}{w:aZ}{A:cI}{E:Value→aC→Prop}{s:aC}{S:aa}{es:Array (Int×Value)}{ep:Nat}{t:uF}
theorem ag9(hs:lZ (bt w) s.heap S es ep t)(h:Q (bt w&&(!t.plain&&decide (es.size>1))) s):aN (model prog w) A (setDrawn S) Q E s:=by
 obtain⟨os,hos,exs,hds,hf,tb⟩:=id hs
 unfold setDrawn;refine aJ (Cm hos hds hf ?_);refine aJ (Jz (aY ?_));rw[Bool.not_not];exact h
theorem ah4(hh:A.handled=none)(hs:lZ (bt w) s.heap S es ep t)(hb:es.size<qe)
  (h:∀(I:aa)(h1:aV)(d:yI)(fp:List aa)(out:List Value)(St:Nat→aV→Prop),Walks prog w A I fp [I] es.size (fun i v=>out[i]?=some v) St→St 0 h1→out.Perm (es.toList.map (·.2))→(∀b o,s.heap.get? b=some o→h1.get? b=some o)→s.heap.objs.size≤I→
   (∀b∈fp,b=S∨s.heap.objs.size≤b)→Q (.ref I) {s with heap:=h1,drawn:=d}):aN (model prog w) A (DP (.ref S)) Q E s:=by
 obtain⟨os,hos,exs,hds,hf,tb⟩:=id hs
 have hT:s.TypeIs (.ref S) "set":=⟨os,hos,exs.1⟩
 have lt:S<s.heap.objs.size:=bZ hos;have hz:t.place.size=es.size:=by
  have:=hf;simp only[SetTable.fits,ie,beq_iff_eq] at this;exact this.1
 refine aer hT aeR (qP aeR hT agh ?_ (F.args_set_iter_1 _));unfold nF.«frozenset.__iter__» aoH aoC;refine aJ (aJ (aY (aY ?_)));refine aJ (aJ (GX hos hds hf (aY ?_)));refine aJ (ag9 hs ?_);by_cases hd:(bt w&&(!t.plain&&decide (es.size>1)))=true
 ·rw[if_pos hd];refine aJ (Zg _ _ _ _ (lC ..) fun ps d pp=>?_);have pl:ps.length=es.size:=by rw[pp.length_eq,lC]
  unfold newTuple;refine aJ (nq ?_ (show(List.map (fun i:Nat=>jL i) ps).toArray.size≤bR by rw[fJ,aX,pl,jq];unfold qe at hb;omega));have g1:(s.heap.push {cls:=.type "tuple",data:=.seq (ps.map fun k:Nat=>jL k).toArray}).get? S=some os:=cM _ hos;refine aJ (aes (s:={s with heap:=s.heap.push _,drawn:=d}) g1 hds hf ?_);refine aJ ?_;unfold newFields;refine nq ?_;refine aY ⟨_,rfl,"set_iterator",_,⟨_,iI _ rfl,rfl⟩,rm.lookup,?_⟩;have xH:(s.heap.push {cls:=.type "tuple",data:=.seq (ps.map fun k:Nat=>jL k).toArray}).objs.size=s.heap.objs.size+1:=vJ ..;refine h _ _ d [_,S,s.heap.objs.size] _ _ (agi (ep:=ep) (t:=t) hh ?_ ?_ pp) ⟨⟨_,iI _ rfl,rfl,rfl⟩,⟨os,cM _ g1,exs,hds,hf,tb⟩,⟨_,0,cM _ (iI _ rfl),rfl⟩⟩ ?_ (fun b o e=>cM _ (cM _ e)) ?_ ?_
  ·rw[xH];exact dY (vG lt)
  ·rw[xH];exact dY (Ml _)
  ·have e2:(dZ es.size).map (fun k=>(es.getD k (0,p7)).2)=es.toList.map (·.2):=by
    refine xT (by simp) fun j h1 h2=>?_
    have hj:j<es.size:=by simpa using h1
    simp[sG,m9 hj]
   rw[←e2];exact pp.map _
  ·rw[xH];exact vO _
  ·intro b hb';simp only[bI,jg,or_false] at hb';rcases hb' with rfl|rfl|rfl
   ·right;rw[xH];exact vO _
   ·exact .inl rfl
   ·exact .inr (bN _)
 ·rw[if_neg hd];refine aJ (aY ?_);refine aJ (aes hos hds hf ?_);refine aJ ?_;unfold newFields;refine nq ?_;refine aY ⟨_,rfl,"set_iterator",_,⟨_,iI _ rfl,rfl⟩,rm.lookup,?_⟩;have acn:∀b,b∈[s.heap.objs.size,S]→b=S∨s.heap.objs.size≤b:=fun b hb'=>by
   simp only[bI,jg,or_false] at hb';rcases hb' with rfl|rfl
   ·exact .inr (bN _)
   ·exact .inl rfl
  cases hbt:bt w with
  |true=>
   rw[hbt] at hd;have nd:(!t.plain&&decide (es.size>1))=false:=by simpa using hd
   exact h _ _ s.drawn [_,S] _ _ (ag7 (ep:=ep) hh (dY lt) hbt nd hz tb.Ut) ⟨⟨_,iI _ rfl,rfl,rfl⟩,⟨os,cM _ hos,exs,hds,hf,tb⟩⟩ (.refl _) (fun b o e=>cM _ e) (bN _) acn
  |false=>
   exact h _ _ s.drawn [_,S] _ _ (ag8 (ep:=ep) (t:=t) hh (dY lt) hbt) ⟨⟨_,iI _ rfl,rfl,rfl⟩,⟨os,cM _ hos,exs,hds,hf,tb⟩⟩ ((Pj _ es).map _) (fun b o e=>cM _ e) (bN _) acn
end
end L2
namespace L2
open PySem PySem.Spec PySem.W PyProof.Rows
section
variable{prog:bh}{w:aZ}{A:cI}{E:Value→aC→Prop}{s:aC}{S:aa}{es:Array (Int×Value)}{ep:Nat}{t:uF}
theorem ah5(hT:s.TypeIs (.ref S) "set")(h:Q false s):aN (model prog w) A (adt (.ref S)) Q E s:=by
 unfold adt;refine aJ (wpAny_specialOf hT PySem.F.slot_set_len.lookup ?_);generalize hid:("set.__len__":String)=nm
 wp_delta
 rw[show splitId nm=some ("set","__len__") by subst hid;decide +kernel];subst hid;refine aJ (aeG (T:="set") (b:=true) hT (by rw[Ww];kernel_rfl) ?_);refine Mt (fun z=>absurd z (by decide)) fun _=>Mt (fun _=>?_) fun z=>absurd (by decide +kernel) z
 exact aJ (HH hT (aY h))
theorem aha{out:List Value}{acc:Array Value}(h:ItemsOf (fun i v=>out[i]?=some v) acc out.length):acc=out.toArray:=by
 refine Array.ext (by simpa using h.1) fun j h1 h2=>?_
 have this:out[j]?=some acc[j]:=h.2 j acc[j] (m9 h1);have hj:j<out.length:=by simpa using h2
 rw[gQ hj] at this;simpa using(fX this).symm
theorem agj{R:rB→aC→Prop}(hh:A.handled=none)(hs:lZ (bt w) s.heap S es ep t)(hb:es.size<qe){L:aa}(ne:L≠S){c0:Nat}(hL:s.heap.get? L=some {cls:=.type "list",data:=.seq #[] c0})(res:Value)
  (hR:∀(h':aV)(d:yI)(tk:Nat)(us:List Value)(c':Nat),us.Perm (es.toList.map (·.2))→(∀b o,b≠L→s.heap.get? b=some o→h'.get? b=some o)→h'.get? L=some {cls:=.type "list",dict:=none,data:=.seq us.toArray c',slots:=#[]}→
   R (.ok (.ret res)) {s with heap:=h',drawn:=d,toks:=tk}):
  aN (model prog w) A.in1 (Lf (.ref L) (.ref S) res) (fun fin s'=>match fin with|.done f=>R (.ok f) s'|.again c'=>c'.quiet=true∧j9 (model prog w) A c' R s') (fun e s'=>R (.error e) s') s:=by
 obtain⟨os,hos,exs,hds,hf,tb⟩:=id hs
 have hT:s.TypeIs (.ref S) "set":=⟨os,hos,exs.1⟩
 have ltL:L<s.heap.objs.size:=bZ hL;unfold Lf;refine aJ (HH hT ?_);rw[show(Vq (.ref L) (.ref S)||CW "set"==CW "list"||CW "set"==CW "tuple")=false by
  rw[show Vq (.ref L) (.ref S)=false by simp[Vq,ne]];decide]
 simp only[qO,if_false];refine aJ (ah4 (A:=A.in1) hh hs hb fun I h1 d fp out St W st pm kp geI okf=>?_);have lo:out.length=es.size:=by rw[pm.length_eq,aX,kO]
 have bz:L∉fp:=fun z=>(okf L z).elim ne fun z'=>absurd ltL (Il.mpr z')
 have run:∀(h2:aV)(c1 tk:Nat),St 0 h2→(∀b o,b≠L→s.heap.get? b=some o→h2.get? b=some o)→h2.get? L=some {cls:=.type "list",data:=.seq #[] c1}→
   j9 (model prog w) A (.builtin "list.extend.loop" ⟨[.ref L,.ref I,res],[]⟩) R {s with heap:=h2,drawn:=d,toks:=tk}:=fun h2 c1 tk st2 k2 g2=>by
  refine codeAny_extend_loopS W.toS (V3 hb) L bz res es.size 0 _ #[] c1 rfl (lD _) st2 g2 (ItemsOf.nil _) fun s3 acc c3 mv g3 io=>?_
  rw[←lo] at io;have ea:=aha io;subst ea;rw[Moved.eq_with mv];refine hR s3.heap d s3.toks out c3 pm (fun b o nb e=>mv.heap b o (fun z=>?_) (k2 b o nb e)) g3;rcases bI.mp z with z|z
  ·exact nb z
  ·exact absurd (bZ e) (by rw[gB.mp z];exact Il.mpr geI)
 have gL:=kp L _ hL;have gS:Shared.TypeIs {s with heap:=h1,drawn:=d} (.ref S) "set":=⟨os,kp S _ hos,exs.1⟩
 refine aJ (nA (ah5 gS ?_));refine Mt (fun _=>?_) fun _=>aY ⟨yc adA _,run h1 c0 s.toks st (fun b o _ e=>kp b o e) gL⟩
 refine aJ (yh (aJ (show aN _ _ (Pk L (·.push .none) >>= fun _=>Pk L (·.pop)) _ _ _ from ?_)));refine aJ (Hh gL rfl ?_);have u2:=zy (lG (·.push p7)) gL rfl;refine Hh (hz:=by seq_fits) u2 rfl ?_;have u3:=zy (lG (·.pop)) u2 rfl;have far:∀b o,b≠L→h1.get? b=some o→((h1.update L (lG (·.push p7))).update L (lG (·.pop))).get? b=some o:=fun b o nb e=>
  (sH _ _ (jX nb)).trans ((sH _ _ (jX nb)).trans e)
 exact aY ⟨yc adA _,run _ _ s.toks (W.frame 0 _ _ st fun b hb' o e=>far b o (fun z=>bz (z▸hb')) e) (fun b o nb e=>far b o nb (kp b o e)) u3⟩
theorem afS(hh:A.handled=none)(hs:lZ (bt w) s.heap S es ep t)(hb:es.size<qe)
  (h:∀(h':aV)(d:yI)(tk:Nat)(us:List Value),us.Perm (es.toList.map (·.2))→s.heap.objs.size≤h'.objs.size→(∀b o,s.heap.get? b=some o→h'.get? b=some o)→R us {s with heap:=h',drawn:=d,toks:=tk}):
  aN (model prog w) A (collect (.ref S)) R E s:=by
 have ltS:S<s.heap.objs.size:=let ⟨_,e,_⟩:=hs;bZ e
 unfold collect;refine aJ (wpAny_runValue (zQ entry_proto_collect' ?_));rw[zB adq _];show aN _ A.in1 (newList [] >>= fun l=>again (.builtin "list.__iadd__" ⟨[l,.ref S],[]⟩)) _ _ s;refine aJ (nq (aY ⟨yc Lk _,zQ entry_list_iadd' ?_⟩));rw[zB Lk _];have g0:(s.heap.push {cls:=.type "list",data:=.seq ([]:List Value).toArray}).get? s.heap.objs.size=some {cls:=.type "list",data:=.seq #[]}:=iI _ rfl;show aN _ A.in1 (Lf (.ref s.heap.objs.size) (.ref S) (.ref s.heap.objs.size)) _ _ _;have key:=agj (prog:=prog) (A:=A) (s:={s with heap:=s.heap.push {cls:=.type "list",data:=.seq ([]:List Value).toArray}})
  (R:=fun(q:rB)(s':aC)=>∃(h':aV)(d:yI)(tk:Nat)(us:List Value)(c':Nat),q=.ok (.ret (.ref s.heap.objs.size))∧s'={s with heap:=h',drawn:=d,toks:=tk}∧us.Perm (es.toList.map (·.2))∧(∀b o,s.heap.get? b=some o→h'.get? b=some o)∧h'.get? s.heap.objs.size=some {cls:=.type "list",dict:=none,data:=.seq us.toArray c',slots:=#[]})
  hh (hs.at fun o e=>cM _ e) hb (z9 ltS) g0 (.ref s.heap.objs.size) (fun h' d tk us c' pm kk g=>⟨h',d,tk,us,c',rfl,rfl,pm,fun b o e=>kk b o (dY (bZ e)) (cM _ e),g⟩)
 refine oF key (fun fin s' x=>?_) fun e s' x=>?_
 ·cases fin with
  |done f=>
   obtain⟨h',d,tk,us,c',e,rfl,pm,kk,g⟩:=x
   cases e;show aN _ A (load s.heap.objs.size >>= _) _ _ _;exact aJ (Ii g (aY (h h' d tk us pm (vM (bZ g)) kk)))
  |again c1=>
   refine⟨x.1,HF x.2 fun q s2 y=>?_⟩
   obtain⟨h',d,tk,us,c',rfl,rfl,pm,kk,g⟩:=y
   show aN _ A (load s.heap.objs.size >>= _) _ _ _;exact aJ (Ii g (aY (h h' d tk us pm (vM (bZ g)) kk)))
 ·obtain⟨_,_,_,_,_,e',_⟩:=x
  cases e'
end
section
variable{prog:bh}{w:aZ}{A:cI}{E:Value→aC→Prop}{s:aC}{S:aa}{es:Array (Int×Value)}{ep:Nat}{t:uF}
theorem agk{Ok:List Value→Prop}{Q:Value→aC→Prop}(hh:A.handled=none)(hs:lZ (bt w) s.heap S es ep t)(few:es.size<64)
  (srt:∀us:List Value,us.Perm (es.toList.map (·.2))→∀(B:cI)(s1:aC)(a:aa)(n:Nat)(P:Fin→aC→Prop)(E':Value→aC→Prop),s1.heap.get? a=some (seqObj "list" us.toArray n)→
   (∀out:Array Value,Ok out.toList→P (.done (.ret .none)) {s1 with heap:=sortedHeap s1.heap a us out})→aN (model prog w) B (nF.«list.sort» ⟨[.ref a],[]⟩) P E' s1)
  (h:∀(D:aa)(h':aV)(d:yI)(tk c:Nat)(out:Array Value),Ok out.toList→s.heap.objs.size≤D→(∀b o,s.heap.get? b=some o→h'.get? b=some o)→h'.get? D=some (seqObj "list" out c)→Q (.ref D) {s with heap:=h',drawn:=d,toks:=tk}):
  aN (model prog w) A (call (.builtin "sorted") [.ref S]) Q E s:=by
 refine Vk kind_sorted plain_sorted entry_sorted (args_sorted1 _) ?_;unfold nF.«sorted»;refine aJ (m:=XX "sorted" 1 1 _) (aY (aJ (afS (A:=A.in1) hh hs (by unfold qe;omega) fun h1 d tk us pm ge kk=>?_)));have lu:us.length=es.size:=by rw[pm.length_eq,aX,kO]
 refine aJ (Nf ?_ (by rw[jq];omega));have gL:(h1.push (seqObj "list" us.toArray 0)).get? h1.objs.size=some (seqObj "list" us.toArray 0):=iI _ rfl;refine aJ (nA (qP slot_list_sort ⟨_,gL,rfl⟩ entry_list_sort (srt us pm _ {s with heap:=h1.push (seqObj "list" us.toArray 0),drawn:=d,toks:=tk} _ 0 _ _ gL fun out ok=>⟨_,rfl,?_⟩) (args_list_sort _)))
 obtain⟨c,gD⟩:=sortedHeap_at (out:=out) gL
 refine aY ⟨_,rfl,h h1.objs.size _ d tk c out ok ge (fun b o e=>?_) gD⟩;have lb:b<h1.objs.size:=bZ (kk b o e)
 show(sortedHeap (h1.push (seqObj "list" us.toArray 0)) h1.objs.size us out).get? b=some o
 rw[sortedHeap_old (dY lb) (by rw[vJ];exact vG lb)];exact cM _ (kk b o e)
end
theorem Inv.drew(d:yI)(I:Inv X pins σ H s):Inv X pins σ H {s with drawn:=d}:=
 I.call (g':=s.gens) (t':=s.toks) (d':=d) (ch:=[]) (Un.kept fun _ _ e=>e) (I.hok.kept fun _ _ e=>e) I.bare (fun _ z=>nomatch z)
section
variable{X:Cx}{T:Type}[DecidableEq T]{knd:xX X.prog X.w T}{l:Expr}{tl:TE}{p1 p2 pos1 pos2:Pos}
end
section
variable{prog:bh}{w:aZ}
theorem ah6(h:jQ (Hv prog w) es ks):(es.map (·.2)).map strOf=ks∧∀v,v∈es.map (·.2)→∃x t,v=.str x t:=by
 induction h with
 |nil=>exact⟨rfl,fun v hv=>by cases hv⟩
 |@cons e k es ks a _ ih=>
  obtain⟨t,ht⟩:=ad3 (show WQ k e.2=true from a.1)
  refine⟨by rw[cJ,cJ,ih.1,ht];rfl,fun v hv=>?_⟩
  rcases bI.mp hv with rfl|hv
  ·exact⟨k,t,ht⟩
  ·exact ih.2 v hv
end
section
variable{X:Cx}{l:Expr}{tl:TE}{p1 p2 pos1 pos2:Pos}
end
section
variable{prog:bh}{w:aZ}{A:cI}{E:Value→aC→Prop}{s:aC}{R:rB→aC→Prop}{I S:aa}{fp wr:List aa}{n:Nat}{Pv:Nat→Value→Prop}{St:Nat→aV→Prop}{bt:Nat→Nat→Bool}
def al1(v:Value)(c:Nat):Obj:={cls:=.type "list",dict:=none,data:=.seq #[v,v] c,slots:=#[]}
end
section
variable{prog:bh}{w:aZ}{A:cI}{E:Value→aC→Prop}{s:aC}
theorem aft{id:String}{b:nF}{as:List Value}{kw:List (Str×Value)}{Q:Value→aC→Prop}(hk:builtinKind id=none)(hp:plainId id=true)(hb:Qh table id=some b)(ha:DY id ⟨as,kw⟩)
  (hc:aN (model prog w) A.in1 (b ⟨as,kw⟩) (fun fin s'=>match fin with
   |.done f=>(match(Except.ok f:rB) with|.ok (.ret v)=>Q v s'|.ok _=>False|.error e=>E e s')
   |.again c'=>c'.quiet=true∧j9 (model prog w) A c' (fun r s'=>match r with|.ok (.ret v)=>Q v s'|.ok _=>False|.error e=>E e s') s') E s):aN (model prog w) A (call (.builtin id) as kw) Q E s:=by
 refine wpAny_call (codeAny_call_builtin hp hb ?_);simp only[checkBuiltinCall,hk];cases hg:Manifest.signature? id with
 |none=>exact aY hc
 |some sg=>
  simp only[DY,hg] at ha;show aN _ A.in1 (aeX id sg ⟨as,kw⟩) _ _ s;rw[show aeX id sg ⟨as,kw⟩=pure () from ha];exact aY hc
end
section
variable{X:Cx}{l de:Expr}{tl td:TE}{p pos kp:Pos}
end
end L2
namespace L2
open PySem PySem.Spec PyProof.Rows PySem.W
def di:ao→Option Key
 |.int i=>some (.inl i)
 |.str x=>some (.inr x)
 |_=>none
def keysOf:List ao→Option (List Key)
 |[]=>some []
 |d::r=>match di d,keysOf r with
  |some k,some t=>some (k::t)
  |_,_=>none
def tZ:ao→Option (List Key)
 |.tuple ds=>keysOf ds
 |_=>none
def cO{κ:Type}(f:ao→Option κ):List (ao×ao)→Option (List κ)
 |[]=>some []
 |p::r=>match f p.1,cO f r with
  |some k,some t=>some (k::t)
  |_,_=>none
def xJ(H:Hp)(a:aa)(kvs:List (ao×ao))(vs:List V):Prop:=
 (∃ks,cO di kvs=some ks∧H a=some (.dK (ks.zip vs)))∨∃ks,(kvs≠[]∧cO tZ kvs=some ks)∧H a=some (.dT (ks.zip vs))
mutual
def RZ(H:Hp):ao→V→Prop
 |.none,v=>v=.non
 |.bool b,v=>v=.bl b
 |.int i,v=>v=.int i
 |.str x,v=>v=.str x
 |.list ds,v=>∃a vs,v=.ref a∧H a=some (.lst vs)∧cD H ds vs
 |.tuple ds,v=>∃a vs,v=.ref a∧H a=some (.tup vs)∧cD H ds vs
 |.dict kvs,v=>∃a vs,v=.ref a∧xJ H a kvs vs∧iH H kvs vs
def cD(H:Hp):List ao→List V→Prop
 |[],vs=>vs=[]
 |d::ds,vs=>∃v r,vs=v::r∧RZ H d v∧cD H ds r
def iH(H:Hp):List (ao×ao)→List V→Prop
 |[],vs=>vs=[]
 |p::r,vs=>∃v t,vs=v::t∧RZp H p v∧iH H r t
def RZp(H:Hp):ao×ao→V→Prop
 |(_,d),v=>RZ H d v
end
theorem xJ.same(s:bw H H')(h:xJ H a kvs vs):xJ H' a kvs vs:=by
 rcases h with⟨ks,e,h⟩|⟨ks,e,h⟩
 ·exact .inl ⟨ks,e,s _ _ h⟩
 ·exact .inr ⟨ks,e,s _ _ h⟩
mutual
theorem RZ.same(s:bw H H'):∀{d:ao}{v:V},RZ H d v→RZ H' d v
 |.none,_,h=>h
 |.bool _,_,h=>h
 |.int _,_,h=>h
 |.str _,_,h=>h
 |.list ds,_,h=>by
  obtain⟨a,vs,e,q,r⟩:=h
  exact⟨a,vs,e,s _ _ q,cD.same s r⟩
 |.tuple ds,_,h=>by
  obtain⟨a,vs,e,q,r⟩:=h
  exact⟨a,vs,e,s _ _ q,cD.same s r⟩
 |.dict kvs,_,h=>by
  obtain⟨a,vs,e,q,r⟩:=h
  exact⟨a,vs,e,q.same s,iH.same s r⟩
theorem cD.same(s:bw H H'):∀{ds:List ao}{vs:List V},cD H ds vs→cD H' ds vs
 |[],_,h=>h
 |d::ds,vs,h=>by
  obtain⟨v,r,e,q,t⟩:=h
  exact⟨v,r,e,RZ.same s q,cD.same s t⟩
theorem iH.same(s:bw H H'):∀{kvs:List (ao×ao)}{vs:List V},iH H kvs vs→iH H' kvs vs
 |[],_,h=>h
 |(k,d)::ds,vs,h=>by
  obtain⟨v,r,e,q,t⟩:=h
  exact⟨v,r,e,RZ.same s q,iH.same s t⟩
end
theorem iM:∀{ds:List ao}{vs:List V},cD H ds vs→vs.length=ds.length
 |[],_,h=>by cases(show _=[] from h);rfl
 |e::ds,vs,h=>by
  obtain⟨u,r,e1,q,s⟩:=h
  subst e1;rw[dH,dH,iM s]
theorem Ds:∀{ds:List (ao×ao)}{vs:List V},iH H ds vs→vs.length=ds.length
 |[],_,h=>by cases(show _=[] from h);rfl
 |e::ds,vs,h=>by
  obtain⟨u,r,e1,q,s⟩:=h
  subst e1;rw[dH,dH,Ds s]
theorem uJ:∀{ds:List ao}{vs:List V}{i:Nat}{d:ao},cD H ds vs→ds[i]?=some d→∃v,vs[i]?=some v∧RZ H d v
 |[],_,_,_,_,e=>by simp at e
 |x::ds,vs,i,d,h,e=>by
  obtain⟨u,r,e1,q,s⟩:=h
  subst e1;cases i with
  |zero=>cases e;exact⟨u,rfl,q⟩
  |succ i=>
   obtain⟨v,e2,h2⟩:=uJ (i:=i) s (by simpa using e)
   exact⟨v,by simpa using e2,h2⟩
theorem yu:∀{ds es:List ao}{vs ws:List V},cD H ds vs→cD H es ws→cD H (ds++es) (vs++ws)
 |[],_,_,_,h,g=>by cases(show _=[] from h);exact g
 |d::ds,_,_,_,h,g=>by
  obtain⟨u,r,e1,q,s⟩:=h
  subst e1
  exact⟨u,_,rfl,q,yu s g⟩
theorem Zh:∀{ds:List ao}{vs:List V}(n:Nat),cD H ds vs→cD H (ds.take n) (vs.take n)
 |_,_,0,_=>by rw[aeY,aeY];rfl
 |[],_,n+1,h=>by cases(show _=[] from h);rfl
 |d::ds,_,n+1,h=>by
  obtain⟨u,r,e1,q,s⟩:=h
  subst e1
  exact⟨u,_,rfl,q,Zh n s⟩
theorem Zi:∀{ds:List ao}{vs:List V}(n:Nat),cD H ds vs→cD H (ds.drop n) (vs.drop n)
 |_,_,0,h=>h
 |[],_,n+1,h=>by cases(show _=[] from h);rfl
 |d::ds,_,n+1,h=>by
  obtain⟨u,r,e1,q,s⟩:=h
  subst e1;exact Zi n s
theorem aaA(hv:RZ H d v):∀{ds:List ao}{vs:List V}(i:Nat),cD H ds vs→cD H (ds.set i d) (vs.set i v)
 |[],_,_,h=>by cases(show _=[] from h);rfl
 |x::ds,_,i,h=>by
  obtain⟨u,r,e1,q,s⟩:=h
  subst e1;cases i with
  |zero=>exact⟨v,r,rfl,hv,s⟩
  |succ i=>exact⟨u,_,rfl,q,aaA hv i s⟩
def jM:ao→Bool
 |.none=>true
 |.bool _=>true
 |.int _=>true
 |.str _=>true
 |_=>false
def toV:ao→V
 |.none=>.non
 |.bool b=>.bl b
 |.int i=>.int i
 |.str x=>.str x
 |_=>.non
theorem ajq(f:jM d=true)(h:RZ H d v):v=toV d:=by
 cases d<;>first|exact h|cases f
theorem ajr(f:jM d=true):RZ H d (toV d):=by
 cases d<;>first|rfl|cases f
theorem Qi:∀{ds:List ao}{vs:List V},ds.all jM=true→cD H ds vs→vs=ds.map toV
 |[],_,_,h=>h
 |d::ds,vs,f,h=>by
  obtain⟨u,r,e1,q,s⟩:=h
  rw[M9,ie] at f;rw[e1,ajq f.1 q,Qi f.2 s];rfl
theorem ah7(ns:List Int):cD H (ns.map lH) (ns.map V.int):=by
 induction ns with
 |nil=>rfl
 |cons n r ih=>exact⟨_,_,rfl,rfl,ih⟩
theorem Zj(ns:List Str):cD H (ns.map cL) (ns.map V.str):=by
 induction ns with
 |nil=>rfl
 |cons n r ih=>exact⟨_,_,rfl,rfl,ih⟩
mutual
def jK:ao→Bool
 |.list _=>false
 |.tuple ds=>gH ds
 |.dict _=>false
 |_=>true
def gH:List ao→Bool
 |[]=>true
 |d::r=>jK d&&gH r
end
mutual
theorem RZ.jK(t:∀a vs,H a=some (.tup vs)→H' a=some (.tup vs)):∀{d:ao}{v:V},jK d=true→RZ H d v→RZ H' d v
 |.none,_,_,h=>h
 |.bool _,_,_,h=>h
 |.int _,_,_,h=>h
 |.str _,_,_,h=>h
 |.list ds,_,n,h=>nomatch n
 |.tuple ds,_,n,h=>by
  obtain⟨a,vs,e,q,r⟩:=h
  exact⟨a,vs,e,t _ _ q,cD.jK t n r⟩
 |.dict _,_,n,_=>nomatch n
theorem cD.jK(t:∀a vs,H a=some (.tup vs)→H' a=some (.tup vs)):∀{ds:List ao}{vs:List V},gH ds=true→cD H ds vs→cD H' ds vs
 |[],_,_,h=>h
 |d::ds,vs,n,h=>by
  obtain⟨v,r,e,q,w⟩:=h
  have n':L2.jK d=true∧gH ds=true:=by rw[gH,ie] at n;exact n
  exact⟨v,r,e,RZ.jK t n'.1 q,cD.jK t n'.2 w⟩
end
mutual
def pZ:ao→Bool
 |.list ds=>jG ds
 |.tuple ds=>jG ds
 |.dict _=>false
 |_=>true
def jG:List ao→Bool
 |[]=>true
 |d::r=>pZ d&&jG r
end
mutual
theorem RZ.rx:∀{d:ao}{v:V},pZ d=true→RZ H d v→RX H d v
 |.none,_,_,h=>h
 |.bool _,_,_,h=>h
 |.int _,_,_,h=>h
 |.str _,_,_,h=>h
 |.list ds,_,n,h=>by
  obtain⟨a,vs,e,q,r⟩:=h
  exact⟨a,vs,e,q,cD.rx n r⟩
 |.tuple ds,_,n,h=>by
  obtain⟨a,vs,e,q,r⟩:=h
  exact⟨a,vs,e,q,cD.rx n r⟩
 |.dict _,_,n,_=>nomatch n
theorem cD.rx:∀{ds:List ao}{vs:List V},jG ds=true→cD H ds vs→mF H ds vs
 |[],_,_,h=>h
 |d::ds,vs,n,h=>by
  obtain⟨v,r,e,q,t⟩:=h
  have n':pZ d=true∧jG ds=true:=by rw[jG,ie] at n;exact n
  exact⟨v,r,e,RZ.rx n'.1 q,cD.rx n'.2 t⟩
end
inductive Vl where
 |im (d:ao)
 |ow (d:ao)
 |ce (n:Nat)
 |sc (ns:List Int)
abbrev En:=List (Option Vl)
abbrev Ce:=List (List Int)
def own1:Option Vl→Option V→List aa
 |some (.ow _),some (.ref a)=>[a]
 |_,_=>[]
def bM:En→St→List aa
 |x::e,v::s=>own1 x v++bM e s
 |_,_=>[]
theorem lJ:∀{env:En}{σ:St},a∈bM env σ↔∃(i:Nat)(d:ao),env[i]?=some (some (Vl.ow d))∧σ[i]?=some (some (V.ref a))
 |[],σ=>by
  constructor
  ·intro h;simp[bM] at h
  ·rintro⟨i,d,e,_⟩;simp at e
 |x::e,[]=>by
  constructor
  ·intro h;simp[bM] at h
  ·rintro⟨i,d,_,e⟩;simp at e
 |x::e,v::s=>by
  rw[bM,cQ,lJ (env:=e) (σ:=s)];constructor
  ·rintro(h|⟨i,d,h1,h2⟩)
   ·unfold own1 at h;split at h
    ·rw[gB] at h;subst h
     exact⟨0,_,rfl,rfl⟩
    ·simp at h
   ·exact⟨i+1,d,by simpa using h1,by simpa using h2⟩
  ·rintro⟨i,d,h1,h2⟩
   cases i with
   |zero=>
    simp at h1 h2;subst h1 h2;exact .inl (gB.mpr rfl)
   |succ i=>exact .inr ⟨i,d,by simpa using h1,by simpa using h2⟩
theorem Dt:∀{env:En}{σ:St}{i j:Nat}{d e:ao},(bM env σ).Nodup→env[i]?=some (some (Vl.ow d))→σ[i]?=some (some (V.ref a))→env[j]?=some (some (Vl.ow e))→σ[j]?=some (some (V.ref a))→i=j
 |[],_,i,_,_,_,_,h,_,_,_=>by simp at h
 |_::_,[],i,_,_,_,_,_,h,_,_=>by simp at h
 |x::en,v::s,i,j,d,e,nd,h1,h2,h3,h4=>by
  rw[bM,j6] at nd;cases i with
  |zero=>
   cases j with
   |zero=>rfl
   |succ j=>
    simp at h1 h2;subst h1 h2;have:a∈bM en s:=lJ.mpr ⟨j,e,by simpa using h3,by simpa using h4⟩;exact absurd rfl (nd.2.2 a (gB.mpr rfl) a this)
  |succ i=>
   cases j with
   |zero=>
    simp at h3 h4;subst h3 h4;have:a∈bM en s:=lJ.mpr ⟨i,d,by simpa using h1,by simpa using h2⟩;exact absurd rfl (nd.2.2 a (gB.mpr rfl) a this)
   |succ j=>rw[Dt (i:=i) (j:=j) nd.2.1 (by simpa using h1) (by simpa using h2) (by simpa using h3) (by simpa using h4)]
def Uu(x y:Option Vl):Prop:=y=x∨∃d,x=some (.ow d)∧y=some (.im d)
def Fz:En→En→Prop
 |[],[]=>True
 |x::r,y::t=>Uu x y∧Fz r t
 |_,_=>False
theorem Fz.refl:∀e:En,Fz e e
 |[]=>trivial
 |x::r=>⟨.inl rfl,Fz.refl r⟩
theorem Fz.trans:∀{a b c:En},Fz a b→Fz b c→Fz a c
 |[],[],[],_,_=>trivial
 |x::r,y::t,z::w,h,g=>by
  refine⟨?_,Fz.trans h.2 g.2⟩
  rcases h.1 with e|⟨d,e1,e2⟩
  ·rw[←e];exact g.1
  ·rcases g.1 with e|⟨d',e3,e4⟩
   ·exact .inr ⟨d,e1,e.trans e2⟩
   ·rw[e2] at e3;cases e3
 |[],[],_::_,_,g=>nomatch g
 |[],_::_,_,h,_=>nomatch h
 |_::_,[],_,h,_=>nomatch h
 |_::_,_::_,[],_,g=>nomatch g
theorem Fz.len:∀{a b:En},Fz a b→b.length=a.length
 |[],[],_=>rfl
 |_::_,_::_,h=>by rw[dH,dH,Fz.len h.2]
 |[],_::_,h=>nomatch h
 |_::_,[],h=>nomatch h
theorem Fz.at:∀{a b:En}{i:Nat}{y:Vl},Fz a b→b[i]?=some (some y)→a[i]?=some (some y)∨∃d,a[i]?=some (some (.ow d))∧y=.im d
 |[],[],i,y,_,e=>by simp at e
 |x::r,z::t,0,y,h,e=>by
  simp at e;rcases h.1 with q|⟨d,q1,q2⟩
  ·left;rw[←q,e];rfl
  ·right;rw[e] at q2;cases q2;exact⟨d,by rw[q1];rfl,rfl⟩
 |x::r,z::t,i+1,y,h,e=>by
  simpa using Fz.at (i:=i) h.2 (by simpa using e)
 |[],_::_,_,_,h,_=>nomatch h
 |_::_,[],_,_,h,_=>nomatch h
theorem ajs(h:Uu x y)(v:Option V):Xc (own1 y v) (own1 x v):=by
 rcases h with e|⟨d,e1,e2⟩
 ·rw[e];exact zJ _
 ·rw[e2];exact List.nil_sublist _
theorem Fz.own:∀{a b:En}{σ:St},Fz a b→Xc (bM b σ) (bM a σ)
 |[],[],σ,_=>by cases σ<;>exact zJ _
 |x::r,y::t,[],h=>zJ _
 |x::r,y::t,v::s,h=>by
  rw[bM,bM];exact GZ (ajs h.1 v) (Fz.own h.2)
 |[],_::_,_,h=>nomatch h
 |_::_,[],_,h=>nomatch h
abbrev aU(Z Θ:List aa)(env:En)(σ:St):List aa:=Z++(Θ++bM env σ)
def jY(E H:Hp)(a:aa):ao→Prop
 |.list ds=>∃vs,H a=some (.lst vs)∧cD E ds vs
 |.dict kvs=>∃vs,xJ H a kvs vs∧iH E kvs vs
 |_=>False
theorem jY.same(s:bw E E')(h:∀o,H a=some o→H' a=some o)(r:jY E H a d):jY E' H' a d:=by
 cases d<;>first|exact r.elim|skip
 ·obtain⟨vs,e,q⟩:=r
  exact⟨vs,h _ e,q.same s⟩
 ·obtain⟨vs,e,q⟩:=r
  refine⟨vs,?_,q.same s⟩
  rcases e with⟨ks,k,e⟩|⟨ks,k,e⟩
  ·exact .inl ⟨ks,k,h _ e⟩
  ·exact .inr ⟨ks,k,h _ e⟩
theorem jY.rz(h:∀o,H a=some o→E a=some o)(r:jY E H a d):RZ E d (.ref a):=by
 cases d<;>first|exact r.elim|skip
 ·obtain⟨vs,e,q⟩:=r
  exact⟨a,vs,rfl,h _ e,q⟩
 ·obtain⟨vs,e,q⟩:=r
  refine⟨a,vs,rfl,?_,q⟩
  rcases e with⟨ks,k,e⟩|⟨ks,k,e⟩
  ·exact .inl ⟨ks,k,h _ e⟩
  ·exact .inr ⟨ks,k,h _ e⟩
structure aQ(Θ:List aa)(H H':Hp):Prop where
 keep:∀a o,H a=some o→a∉Θ→H' a=some o
 dom:∀a,H a≠none→H' a≠none
theorem aQ.refl(Θ:List aa)(H:Hp):aQ Θ H H:=⟨fun _ _ e _=>e,fun _ e=>e⟩
theorem aQ.trans(a:aQ Θ H H1)(b:aQ Θ H1 H2):aQ Θ H H2:=⟨fun c o e n=>b.keep _ _ (a.keep _ _ e n) n,fun c e=>b.dom _ (a.dom _ e)⟩
theorem aQ.none(k:aQ Θ H H')(h:H' a=none):H a=none:=by
 cases e:H a with
 |none=>rfl
 |some o=>exact absurd h (k.dom a (by rw[e];exact vC _))
theorem aQ.of(s:bw H H'):aQ Θ H H':=⟨fun a o e _=>s _ _ e,fun a h=>by
 cases e:H a with
 |none=>exact absurd e h
 |some o=>rw[s _ _ e];exact vC _⟩
theorem aQ.upd(h:H p=nC):aQ Θ H (L2.upd H p o):=aQ.of (bw.upd h)
theorem kj(k:aQ Θ H H')(ht:∀a∈Θ,a∈Z)(hz:∀a,a∈Z'→a∈Z∨H a=none):bw (er Z H) (er Z' H'):=fun b o h=>by
 unfold er at h⊢;split at h
 ·cases h
 ·rename_i n;rw[if_neg,k.keep _ _ h (fun m=>n (ht b m))];intro m;rcases hz b m with q|q
  ·exact n q
  ·rw[q] at h;cases h
def BK(K:aG)(E H:Hp)(Θ:List aa):Vl→V→Prop
 |.im d,v=>RZ E d v
 |.ow d,v=>∃a,v=.ref a∧jY E H a d
 |.ce n,v=>∃a,v=.ref a∧Θ[n]?=some a
 |.sc ns,v=>∃a,v=.ref a∧bL K E a (ns.map V.int)
def NT(o:Option HO):Prop:=∃u,o=some u∧∀vs,u≠.tup vs
theorem NT.ne(h:NT o):o≠none:=by
 obtain⟨u,rfl,_⟩:=h
 exact vC _
theorem jY.nt(r:jY E H a d):NT (H a):=by
 cases d<;>first|exact r.elim|skip
 ·obtain⟨vs,e,q⟩:=r
  exact⟨_,e,fun _ z=>nomatch z⟩
 ·obtain⟨vs,e,q⟩:=r
  rcases e with⟨ks,k,e⟩|⟨ks,k,e⟩
  ·exact⟨_,e,fun _ z=>nomatch z⟩
  ·exact⟨_,e,fun _ z=>nomatch z⟩
theorem jY.there(r:jY E H a d):H a≠none:=r.nt.ne
structure oJ(Θ:List aa)(C:Ce)(H:Hp):Prop where
 len:C.length=Θ.length
 at_:∀(n:Nat)(a:aa)(ns:List Int),Θ[n]?=some a→C[n]?=some ns→H a=some (.lst (ns.map V.int))
structure Sm(K:aG)(Z Θ:List aa)(env:En)(C:Ce)(σ:St)(H:Hp):Prop where
 len:σ.length=env.length
 nd:(aU Z Θ env σ).Nodup
 dom:∀a∈Z,NT (H a)
 slot:∀(i:Nat)(x:Vl),env[i]?=some (some x)→∃v,σ[i]?=some (some v)∧BK K (er (aU Z Θ env σ) H) H Θ x v
 cell:oJ Θ C H
theorem oJ.dom(c:oJ Θ C H):∀a∈Θ,NT (H a):=fun a m=>by
 obtain⟨n,hn,e⟩:=sI m
 have e1:Θ[n]?=some a:=by rw[gQ hn,e]
 have h2:n<C.length:=by rw[c.len];exact hn
 exact⟨_,c.at_ n a C[n] e1 (gQ h2),fun _ z=>nomatch z⟩
section
variable{K:aG}{Z Θ:List aa}{env env':En}{C C':Ce}{σ:St}{H H':Hp}
theorem Sm.K1(S:Sm K Z Θ env C σ H):∀a∈aU Z Θ env σ,NT (H a):=fun a m=>by
 rcases cQ.mp m with m|m
 ·exact S.dom a m
 ·rcases cQ.mp m with m|m
  ·exact S.cell.dom a m
  ·obtain⟨i,d,e1,e2⟩:=lJ.mp m
   obtain⟨v,e3,b,e4,r⟩:=S.slot i _ e1
   rw[e2] at e3;cases e3;cases e4;exact r.nt
theorem Sm.yV(S:Sm K Z Θ env C σ H):∀a∈aU Z Θ env σ,H a≠none:=fun a m=>(S.K1 a m).ne
theorem Sm.qL(S:Sm K Z Θ env C σ H):∀a∈Θ,a∈aU Z Θ env σ:=fun a m=>dX _ (gJ _ m)
theorem BK.same(s:bw E E')(h:∀d a,x=.ow d→v=.ref a→∀o,H a=some o→H' a=some o)(r:BK K E H Θ x v):BK K E' H' Θ x v:=by
 cases x with
 |im d=>exact RZ.same s r
 |ow d=>obtain⟨a,e,q⟩:=r;exact⟨a,e,q.same s (h d a rfl e)⟩
 |ce n=>exact r
 |sc ns=>obtain⟨a,e,q⟩:=r;exact⟨a,e,s.seq q⟩
theorem Sm.nG(S:Sm K Z Θ env C σ H)(m:a∈bM env σ):a∉Z∧a∉Θ:=by
 have h:=S.nd;rw[j6] at h
 obtain⟨_,h2,h3⟩:=h
 rw[j6] at h2
 refine⟨fun z=>h3 a z a (dX _ m) rfl,fun z=>h2.2.2 a z a m rfl⟩
theorem Sm.go(S:Sm K Z Θ env C σ H)(k:aQ Θ H H')(c:oJ Θ C' H'):Sm K Z Θ env C' σ H' where
 len:=S.len
 nd:=S.nd
 dom:=fun a m=>by
  obtain⟨u,e,n⟩:=S.dom a m
  have h:=S.nd;rw[j6] at h
  exact⟨u,k.keep _ _ e fun z=>h.2.2 a m a (gJ _ z) rfl,n⟩
 slot:=fun i x e=>by
  obtain⟨v,e1,r⟩:=S.slot i x e
  refine⟨v,e1,r.same (kj k S.qL fun a m=>.inl m) fun d a ex ev o ho=>k.keep _ _ ho ?_⟩
  subst ex ev
  exact(S.nG (lJ.mpr ⟨i,d,e,e1⟩)).2
 cell:=c
theorem Sm.fz(S:Sm K Z Θ env C σ H)(f:Fz env env'):Sm K Z Θ env' C σ H:=by
 have sub:Xc (aU Z Θ env' σ) (aU Z Θ env σ):=GZ (zJ _) (GZ (zJ _) f.own);have sm:bw (er (aU Z Θ env σ) H) (er (aU Z Θ env' σ) H):=kj (aQ.refl [] H) (fun _ m=>nomatch m) fun a m=>.inl (sub.subset m)
 refine⟨by rw[f.len];exact S.len,sub.nodup S.nd,S.dom,fun i x e0=>?_,S.cell⟩
 rcases f.at e0 with e|⟨d,e,ex⟩
 ·obtain⟨v,e1,r⟩:=S.slot i x e
  exact⟨v,e1,r.same sm fun _ _ _ _ _ ho=>ho⟩
 ·subst ex
  obtain⟨v,e1,a,ev,r⟩:=S.slot i _ e
  subst ev
  refine⟨_,e1,jY.rz (H:=H) (fun o ho=>?_) (r.same sm fun _ ho=>ho)⟩
  unfold er;rw[if_neg]
  ·exact ho
  ·intro m;have hm:a∈bM env σ:=lJ.mpr ⟨i,d,e,e1⟩;rcases cQ.mp m with m|m
   ·exact(S.nG hm).1 m
   ·rcases cQ.mp m with m|m
    ·exact(S.nG hm).2 m
    ·obtain⟨j,d',e3,e4⟩:=lJ.mp m
     have nd:=S.nd;rw[j6] at nd;have nd2:=nd.2.1;rw[j6] at nd2;rcases f.at e3 with e5|⟨_,_,e5⟩
     ·have:=Dt nd2.2.1 e e1 e5 e4;subst this;rw[e0] at e3;cases e3
     ·cases e5
end
section
variable{K:aG}{Z Θ:List aa}{env env':En}{C C':Ce}{σ:St}{H H':Hp}{a p:aa}
theorem Sm.pop(S:Sm K (a::Z) Θ env C σ H):Sm K Z Θ env C σ H:=by
 have sm:bw (er (aU (a::Z) Θ env σ) H) (er (aU Z Θ env σ) H):=kj (aQ.refl [] H) (fun _ m=>nomatch m) fun b m=>.inl (dM _ m)
 exact⟨S.len,(jH.mp S.nd).2,fun b m=>S.dom b (dM _ m),fun i x e=>let ⟨v,e1,r⟩:=S.slot i x e;⟨v,e1,r.same sm fun _ _ _ _ _ h=>h⟩,S.cell⟩
theorem Sm.push(S:Sm K Z Θ env C σ H)(hp:H p=none)(o:HO)(ho:∀vs,o≠.tup vs):Sm K (p::Z) Θ env C σ (upd H p o):=by
 have k:aQ Θ H (upd H p o):=aQ.upd hp;have sm:bw (er (aU Z Θ env σ) H) (er (aU (p::Z) Θ env σ) (upd H p o)):=kj k S.qL fun b m=>by
  rcases bI.mp m with rfl|m
  ·exact .inr hp
  ·exact .inl m
 have c:oJ Θ C (upd H p o):=⟨S.cell.len,fun n b ns e1 e2=>by
  have:=S.cell.at_ n b ns e1 e2;rw[cR (qb this hp)];exact this⟩
 refine⟨S.len,jH.mpr ⟨fun m=>S.yV p m hp,S.nd⟩,fun b m=>?_,fun i x e=>?_,c⟩
 ·rcases bI.mp m with rfl|m
  ·exact⟨o,eU,ho⟩
  ·obtain⟨u,e,n⟩:=S.dom b m
   exact⟨u,by rw[cR (qb e hp)];exact e,n⟩
 ·obtain⟨v,e1,r⟩:=S.slot i x e
  refine⟨v,e1,r.same sm fun d b ex ev o' ho=>?_⟩
  rw[cR (qb ho hp)];exact ho
theorem Sm.yM(S:Sm K Z Θ env C σ H)(s:bw H H'):Sm K Z Θ env C σ H':=
 S.go (aQ.of s) ⟨S.cell.len,fun n b ns e1 e2=>s _ _ (S.cell.at_ n b ns e1 e2)⟩
def Res(K:aG)(Z Θ:List aa)(env:En)(C:Ce)(σ:St)(H H':Hp):Vl→V→Prop
 |.im d,v=>Sm K Z Θ env C σ H'∧RZ (er (aU Z Θ env σ) H') d v
 |.ow d,v=>∃a,v=.ref a∧H a=none∧Sm K (a::Z) Θ env C σ H'∧jY (er (aU (a::Z) Θ env σ) H') H' a d
 |.ce n,v=>Sm K Z Θ env C σ H'∧∃a,v=.ref a∧Θ[n]?=some a
 |.sc ns,v=>Sm K Z Θ env C σ H'∧∃a,v=.ref a∧bL K (er (aU Z Θ env σ) H') a (ns.map V.int)
def zm(E T:Hp):ao→V→Prop
 |.list ds,v=>∃a vs,v=.ref a∧T a=some (.lst vs)∧cD E ds vs
 |.dict kvs,v=>∃a vs,v=.ref a∧xJ T a kvs vs∧iH E kvs vs
 |d,v=>RZ E d v
theorem zm.same(s:bw E E')(t:bw T T')(h:zm E T d v):zm E' T' d v:=by
 cases d<;>first|exact RZ.same s h|skip
 ·obtain⟨a,vs,e,q,r⟩:=h
  exact⟨a,vs,e,t _ _ q,r.same s⟩
 ·obtain⟨a,vs,e,q,r⟩:=h
  exact⟨a,vs,e,q.same t,r.same s⟩
theorem RZ.bor(t:bw E T)(h:RZ E d v):zm E T d v:=by
 cases d<;>first|exact h|skip
 ·obtain⟨a,vs,e,q,r⟩:=h
  exact⟨a,vs,e,t _ _ q,r⟩
 ·obtain⟨a,vs,e,q,r⟩:=h
  exact⟨a,vs,e,q.same t,r⟩
abbrev fK(Z Θ:List aa)(env:En)(σ:St)(H:Hp)(d:ao)(v:V):Prop:=zm (er (aU Z Θ env σ) H) (er Θ H) d v
theorem tV(h:∀a,a∈Z'→a∈Z):bw (er Z H) (er Z' H):=kj (aQ.refl [] H) (fun _ m=>nomatch m) fun b m=>.inl (h b m)
theorem abQ:bw (er (aU Z Θ env σ) H) (er Θ H):=tV fun a m=>dX _ (gJ _ m)
theorem Fz.sub(f:Fz env env'):∀a,a∈aU Z Θ env' σ→a∈aU Z Θ env σ:=fun a m=>
 (GZ (zJ _) (GZ (zJ _) f.own)).subset m
theorem Td(S:Sm K Z Θ env C σ H)(k:aQ Θ H H')(f:Fz env env'):bw (er (aU Z Θ env σ) H) (er (aU Z Θ env' σ) H'):=kj k S.qL fun a m=>.inl (f.sub a m)
theorem abn(k:aQ Θ H H'):bw (er Θ H) (er Θ H'):=kj k (fun _ m=>m) fun a m=>.inl m
theorem fK.go(h:fK Z Θ env σ H d v)(S:Sm K Z Θ env C σ H)(k:aQ Θ H H')(f:Fz env env'):fK Z Θ env' σ H' d v:=zm.same (Td S k f) (abn k) h
def dat:Vl→Option ao
 |.im d=>some d
 |.ow d=>some d
 |.ce _=>none
 |.sc _=>none
theorem Res.sm(h:Res K Z Θ env C σ H H' r v):Sm K Z Θ env C σ H':=by
 cases r with
 |im d=>exact h.1
 |ow d=>obtain⟨a,_,_,S,_⟩:=h;exact S.pop
 |ce n=>exact h.1
 |sc ns=>exact h.1
theorem Res.bor(h:Res K Z Θ env C σ H H' r v)(e:dat r=some d):fK Z Θ env σ H' d v:=by
 cases r with
 |im d'=>cases e;exact RZ.bor abQ h.2
 |ow d'=>
  cases e
  obtain⟨a,rfl,_,S,r⟩:=h
  have na:a∉Θ:=fun m=>(jH.mp S.nd).1 (dX _ (gJ _ m))
  have sm:bw (er (aU (a::Z) Θ env σ) H') (er (aU Z Θ env σ) H'):=tV fun b m=>dM _ m
  have ha:∀o,H' a=some o→er Θ H' a=some o:=fun o ho=>by unfold er;rw[if_neg na];exact ho
  cases d<;>first|exact r.elim|skip
  ·obtain⟨vs,e,q⟩:=r
   exact⟨a,vs,rfl,ha _ e,q.same sm⟩
  ·obtain⟨vs,e,q⟩:=r
   refine⟨a,vs,rfl,?_,q.same sm⟩
   rcases e with⟨ks,k,e⟩|⟨ks,k,e⟩
   ·exact .inl ⟨ks,k,ha _ e⟩
   ·exact .inr ⟨ks,k,ha _ e⟩
 |ce n=>cases e
 |sc ns=>cases e
def still:Vl→Vl
 |.ow d=>.im d
 |r=>r
theorem Res.still(h:Res K Z Θ env C σ H H' r v):Res K Z Θ env C σ H H' (still r) v:=by
 cases r with
 |ow d=>
  obtain⟨a,rfl,hn,S,r⟩:=h
  refine⟨S.pop,jY.rz (H:=H') (fun o ho=>?_) (r.same (tV fun b m=>dM _ m) fun _ h=>h)⟩
  unfold er;rw[if_neg (show ¬a∈aU Z Θ env σ from(jH.mp S.nd).1)];exact ho
 |im d=>exact h
 |ce n=>exact h
 |sc ns=>exact h
theorem Res.from(h:Res K Z Θ env C σ H H' r v)(k:aQ Θ H0 H):Res K Z Θ env C σ H0 H' r v:=by
 cases r with
 |ow d=>
  obtain⟨a,e,hn,S,r⟩:=h
  exact⟨a,e,k.none hn,S,r⟩
 |im d=>exact h
 |ce n=>exact h
 |sc ns=>exact h
theorem Ea(S:Sm K Z Θ env C σ H)(h:H a=some (.tup vs)):er (aU Z Θ env σ) H a=some (.tup vs):=by
 unfold er;rw[if_neg]
 ·exact h
 ·intro m
  obtain⟨u,e,n⟩:=S.K1 a m
  rw[h] at e;exact n vs (fX e).symm
def rst(r:Vl)(env env':En):En:=match r with
 |.im d=>if jK d then env else env'
 |_=>env'
theorem Res.rst(S:Sm K Z Θ env C σ H)(k:aQ Θ H H')(h:Res K Z Θ env' C' σ H H' r v):Res K Z Θ (rst r env env') C' σ H H' r v:=by
 cases r with
 |im d=>
  by_cases f:L2.jK d=true
  ·have:L2.rst (.im d) env env'=env:=if_pos f;rw[this];have S':=S.go k h.1.cell
   exact⟨S',h.2.jK (fun a vs e=>Ea S' (jb e)) f⟩
  ·have:L2.rst (.im d) env env'=env':=if_neg f;rw[this];exact h
 |ow d=>exact h
 |ce n=>exact h
 |sc ns=>exact h
theorem Fz.rst(r:Vl)(f:Fz env env'):Fz env (rst r env env'):=by
 cases r with
 |im d=>
  show Fz env (if L2.jK d then env else env');split
  ·exact Fz.refl _
  ·exact f
 |ow d=>exact f
 |ce n=>exact f
 |sc ns=>exact f
theorem iK(S:Sm K Z Θ env C σ H)(f:jM d=true)(hv:v=toV d):Res K Z Θ env C σ H H (.im d) v:=⟨S,by rw[hv];exact ajr f⟩
theorem uH(S:Sm K Z Θ env C σ H)(r:cD (er (aU Z Θ env σ) H) ds vs)(hp:H p=none):Res K Z Θ env C σ H (upd H p (.lst vs)) (.ow (.list ds)) (.ref p):=by
 refine⟨p,rfl,hp,S.push hp _ (fun _ z=>nomatch z),vs,eU,r.same (kj (aQ.upd (Θ:=Θ) hp) S.qL fun b m=>?_)⟩
 rcases bI.mp m with rfl|m
 ·exact .inr hp
 ·exact .inl m
theorem ajt(S:Sm K Z Θ env C σ H)(ho:∀vs,o≠.tup vs)(d:xJ (upd H p o) p kvs vs)(r:iH (er (aU Z Θ env σ) H) kvs vs)(hp:H p=none):Res K Z Θ env C σ H (upd H p o) (.ow (.dict kvs)) (.ref p):=by
 refine⟨p,rfl,hp,S.push hp _ ho,vs,d,r.same (kj (aQ.upd (Θ:=Θ) hp) S.qL fun b m=>?_)⟩
 rcases bI.mp m with rfl|m
 ·exact .inr hp
 ·exact .inl m
theorem JB(S:Sm K Z Θ env C σ H)(r:cD (er (aU Z Θ env σ) H) ds vs)(hp:H p=none):Res K Z Θ env C σ H (upd H p (.tup vs)) (.im (.tuple ds)) (.ref p):=by
 have S':=S.yM (bw.upd (o:=.tup vs) hp)
 refine⟨S',p,vs,rfl,?_,r.same (kj (aQ.upd (Θ:=Θ) hp) S.qL fun b m=>.inl m)⟩
 unfold er;rw[if_neg (fun m=>S.yV p m hp),eU]
end
theorem hide{P:Prop}(h:∀G:Prop,(P→G)→G):P:=h P id
inductive aco{α β:Type}(o:Option α)(g:α→Option β)(y:β):Prop
 |mk (x:α) (h1:o=some x) (h2:g x=some y):aco o g y
theorem ir(h:o.bind g=some y):aco o g y:=by
 cases o with
 |none=>cases h
 |some x=>exact⟨x,rfl,h⟩
def imO:Vl→Option ao
 |.im y=>some y
 |_=>none
theorem Eb(h:imO x=some y):x=.im y:=by
 cases x<;>cases h;rfl
def strD:ao→Option Str
 |.str z=>some z
 |_=>none
theorem aju(h:strD d=some z):d=.str z:=by
 cases d<;>cases h;rfl
def intD:ao→Option Int
 |.int k=>some k
 |_=>none
theorem JC(h:intD d=some k):d=.int k:=by
 cases d<;>cases h;rfl
abbrev FE:=En→Ce→Option (Vl×En×Ce)
abbrev FB:=En→Ce→Option (ao×En×Ce)
abbrev FT:=En→Ce→Option (Bool×Ce)
abbrev xK:=En→Ce→Option (List ao×En×Ce)
abbrev FA:=En→Ce→Option (List Vl×En×Ce)
inductive tE(K:aG)(f:FE)(σ:St)(H:Hp)(Q:VK):Prop
 |mk (Z Θ:List aa) (env:En) (C:Ce) (r:Vl) (env':En) (C':Ce) (S:Sm K Z Θ env C σ H) (hf:f env C=some (r,env',C')) (q:∀v H',aQ Θ H H'→Fz env env'→Res K Z Θ env' C' σ H H' r v→Q v H'):tE K f σ H Q
inductive dF(K:aG)(f:FB)(σ:St)(H:Hp)(Q:VK):Prop
 |mk (Z Θ:List aa) (env:En) (C:Ce) (d:ao) (env':En) (C':Ce) (S:Sm K Z Θ env C σ H) (hf:f env C=some (d,env',C')) (q:∀v H',aQ Θ H H'→Fz env env'→Sm K Z Θ env' C' σ H'→fK Z Θ env' σ H' d v→Q v H'):dF K f σ H Q
inductive fH(K:aG)(f:FT)(σ:St)(H:Hp)(Q:Bool→Hp→Prop):Prop
 |mk (Z Θ:List aa) (env:En) (C:Ce) (b:Bool) (C':Ce) (S:Sm K Z Θ env C σ H) (hf:f env C=some (b,C')) (q:∀H',aQ Θ H H'→Sm K Z Θ env C' σ H'→Q b H'):fH K f σ H Q
inductive yW(E T:Hp):List ao→List V→Prop
 |nil:yW E T [] []
 |cons {d:ao} {v:V} {ds:List ao} {vs:List V}:zm E T d v→yW E T ds vs→yW E T (d::ds) (v::vs)
abbrev J8(Z Θ:List aa)(env:En)(σ:St)(H:Hp)(ds:List ao)(vs:List V):Prop:=yW (er (aU Z Θ env σ) H) (er Θ H) ds vs
inductive vo(K:aG)(f:xK)(σ:St)(H:Hp)(Q:List V→Hp→Prop):Prop
 |mk (Z Θ:List aa) (env:En) (C:Ce) (ds:List ao) (env':En) (C':Ce) (S:Sm K Z Θ env C σ H) (hf:f env C=some (ds,env',C')) (q:∀vs H',aQ Θ H H'→Fz env env'→Sm K Z Θ env' C' σ H'→J8 Z Θ env' σ H' ds vs→Q vs H'):vo K f σ H Q
theorem PE.weak(h:PE X e t)(w:∀σ H Q,t' σ H Q→t σ H Q):PE X e t':=fun pins s σ H Q I q=>h pins s σ H Q I (w σ H Q q)
theorem PT.weak(h:PT X e t)(w:∀σ H Q,t' σ H Q→t σ H Q):PT X e t':=fun pins s σ H Q I q=>h pins s σ H Q I (w σ H Q q)
theorem PA.weak(h:PA X e t)(w:∀σ H Q,t' σ H Q→t σ H Q):PA X e t':=fun p pins s σ H Q I q=>h p pins s σ H Q I (w σ H Q q)
theorem PS.weak(h:PS X e t)(w:∀D σ H,t' D σ H→t D σ H):PS X e t':=fun pins s σ H D I q=>h pins s σ H D I (w D σ H q)
theorem jl.weak(h:jl X e t)(w:∀D σ H,t' D σ H→t D σ H):jl X e t':=fun pins s σ H D I q=>h pins s σ H D I (w D σ H q)
theorem PW.weak(h:PW X e t)(w:∀σ H Q,t' σ H Q→t σ H Q):PW X e t':=fun wh pins s σ H Q I q=>h wh pins s σ H Q I (w σ H Q q)
def fVar(i:Nat):FE:=fun env C=>match env[i]? with
 |some (some (.im d))=>some (.im d,env,C)
 |some (some (.ow d))=>some (.im d,env.set i (some (.im d)),C)
 |some (some (.ce n))=>some (.ce n,env,C)
 |some (some (.sc ns))=>some (.sc ns,env,C)
 |_=>none
def au(i:Nat):FB:=fun env C=>match env[i]? with
 |some (some x)=>(dat x).map fun d=>(d,env,C)
 |_=>none
def fCst(d:ao):FE:=fun env C=>some (.im d,env,C)
def aj(f:FE):FB:=fun env C=>match f env C with
 |some (r,e',C')=>(dat r).map fun d=>(d,e',C')
 |none=>none
theorem abo:∀{env:En}{i:Nat}{d:ao},env[i]?=some (some (.ow d))→Fz env (env.set i (some (.im d)))
 |[],i,d,e=>by simp at e
 |x::r,0,d,e=>by simp at e;subst e;exact⟨.inr ⟨d,rfl,rfl⟩,Fz.refl r⟩
 |x::r,i+1,d,e=>⟨.inl rfl,abo (by simpa using e)⟩
section
variable{X:Cx}{e:Expr}{i:Nat}
theorem aO(h:PE X e (pR i)):PE X e (tE X.K (fVar i)):=h.weak fun σ H Q aL=>by
 obtain⟨Z,Θ,env,C,r,env',C',S,hf,q⟩:=aL
 unfold fVar at hf;split at hf;all_goals first|(rename_i d hd;cases hf)|cases hf
 ·obtain⟨v,e1,r⟩:=S.slot i _ hd
  exact⟨v,e1,q v H (aQ.refl _ _) (Fz.refl _) ⟨S,r⟩⟩
 ·have f:=abo hd
  obtain⟨v,e1,r⟩:=S.slot i _ hd
  have S':=S.fz f
  refine⟨v,e1,q v H (aQ.refl _ _) f ⟨S',?_⟩⟩
  have hi:i<env.length:=by
   have:=gZ.mp hd;exact this.1
  obtain⟨v',e2,r'⟩:=S'.slot i (.im d) (by rw[Ck,if_pos rfl,if_pos hi])
  rw[e1] at e2;cases e2;exact r'
 ·obtain⟨v,e1,r⟩:=S.slot i _ hd
  exact⟨v,e1,q v H (aQ.refl _ _) (Fz.refl _) ⟨S,r⟩⟩
 ·obtain⟨v,e1,r⟩:=S.slot i _ hd
  exact⟨v,e1,q v H (aQ.refl _ _) (Fz.refl _) ⟨S,r⟩⟩
theorem aH(h:PE X e (pR i)):PE X e (dF X.K (au i)):=h.weak fun σ H Q aL=>by
 obtain⟨Z,Θ,env,C,d,env',C',S,hf,q⟩:=aL
 unfold au at hf;split at hf
 ·rename_i x hx
  obtain⟨v,e1,r⟩:=S.slot i _ hx
  have ex:dat x=some d∧env=env'∧C=C':=by
   cases hd:dat x with
   |none=>rw[hd] at hf;cases hf
   |some d'=>rw[hd] at hf;cases hf;exact⟨rfl,rfl,rfl⟩
  obtain⟨ex,rfl,rfl⟩:=ex
  refine⟨v,e1,q v H (aQ.refl _ _) (Fz.refl _) S ?_⟩
  cases x with
  |im d'=>cases ex;exact RZ.bor abQ r
  |ow d'=>
   cases ex
   obtain⟨a,rfl,r⟩:=r
   have na:=(S.nG (lJ.mpr ⟨i,_,hx,e1⟩)).2;have ha:∀o,H a=some o→er Θ H a=some o:=fun o ho=>by unfold er;rw[if_neg na];exact ho
   cases d<;>first|exact r.elim|skip
   ·obtain⟨vs,e,q⟩:=r
    exact⟨a,vs,rfl,ha _ e,q⟩
   ·obtain⟨vs,e,q⟩:=r
    refine⟨a,vs,rfl,?_,q⟩
    rcases e with⟨ks,k,e⟩|⟨ks,k,e⟩
    ·exact .inl ⟨ks,k,ha _ e⟩
    ·exact .inr ⟨ks,k,ha _ e⟩
  |ce n=>cases ex
  |sc ns=>cases ex
 ·cases hf
theorem aK(h:PE X e (tC v))(f:jM d=true:=by rfl)(hv:v=toV d:=by rfl):PE X e (tE X.K (fCst d)):=h.weak fun σ H Q aL=>by
 obtain⟨Z,Θ,env,C,r,env',C',S,hf,q⟩:=aL
 cases hf;exact q v H (aQ.refl _ _) (Fz.refl _) (iK S f hv)
theorem aq(h:PE X e (tE X.K f)):PE X e (dF X.K (aj f)):=h.weak fun σ H Q aL=>by
 obtain⟨Z,Θ,env,C,d,env',C',S,hf,q⟩:=aL
 unfold aj at hf;split at hf
 ·rename_i r e' C1 hr;cases hd:dat r with
  |none=>rw[hd] at hf;cases hf
  |some d'=>
   rw[hd] at hf;cases hf
   exact⟨Z,Θ,env,C,r,env',C',S,hr,fun v H' k f R=>q v H' k f R.sm (R.bor hd)⟩
 ·cases hf
end
def LIM:Nat:=1000000
theorem qY(h:n≤LIM):n≤bR:=by rw[jq];unfold LIM at h;omega
def f9(K:aG)(r:R2)(op:ao→ao→Option Vl):Prop:=
 ∀(Z Θ:List aa)(env:En)(C:Ce)(σ:St)(H:Hp)(x y:V)(dx dy:ao)(res:Vl),Sm K Z Θ env C σ H→fK Z Θ env σ H dx x→fK Z Θ env σ H dy y→op dx dy=some res→
  ∀Q:VK,(∀v H',aQ Θ H H'→Res K Z Θ env C σ H H' res v→Q v H')→r x y H Q
def aD(op:ao→ao→Option Vl)(fa fb:FB):FE:=fun env C=>match fa env C with
 |some (x,e1,C1)=>match fb e1 C1 with
  |some (y,e2,C2)=>match op x y with
   |some r=>some (r,rst r env e2,C2)
   |none=>none
  |none=>none
 |none=>none
theorem Jj{K:aG}{r:R2}{op:ao→ao→Option Vl}(L:f9 K r op){fa fb:FB}:∀σ H Q,tE K (aD op fa fb) σ H Q→Gf r (dF K fa) (dF K fb) σ H Q:=by
 rintro σ H Q ⟨Z,Θ,env,C,res,env',C',S,hf,q⟩;unfold aD at hf;split at hf
 ·rename_i x e1 C1 h1;split at hf
  ·rename_i y e2 C2 h2;split at hf
   ·rename_i r0 h3;cases hf
    refine⟨Z,Θ,env,C,x,e1,C1,S,h1,fun v H1 k1 f1 S1 b1=>⟨Z,Θ,e1,C1,y,e2,C',S1,h2,fun u H2 k2 f2 S2 b2=>?_⟩⟩
    refine L Z Θ e2 C' σ H2 v u x y res S2 (b1.go S1 k2 f2) b2 h3 Q fun z H3 k3 R=>?_
    have k:=(k1.trans k2).trans k3;exact q z H3 k ((f1.trans f2).rst res) ((R.from (k1.trans k2)).rst S k)
   ·cases hf
  ·cases hf
 ·cases hf
section
variable{X:Cx}{a b:Expr}{fa fb:FB}{pos:Pos}{r:R2}{op:ao→ao→Option Vl}
theorem bC(ho:cP X (pB o) r)(L:f9 X.K r op)(ha:PE X a (dF X.K fa))(hb:PE X b (dF X.K fb)):PE X (.BinOp a o b pos) (tE X.K (aD op fa fb)):=(alL ho ha hb).weak (Jj L)
theorem tW(ho:cP X (fj o) r)(L:f9 X.K r op)(ha:PE X a (dF X.K fa))(hb:PE X b (dF X.K fb))(hm:CK o b=false):PE X (.Compare a [o] [b] pos) (tE X.K (aD op fa fb)):=(ai0 ho ha hb hm).weak (Jj L)
theorem cz(ho:qK X r)(L:f9 X.K r op)(ha:PE X a (dF X.K fa))(hb:PE X b (dF X.K fb))(hs:Jw b):PE X (.Subscript a b pos) (tE X.K (aD op fa fb)):=(S8 ho ha hb hs).weak (Jj L)
end
theorem f9.or{K:aG}{r r':R2}{op op':ao→ao→Option Vl}(h:f9 K r op)(h':f9 K r' op'):f9 K (fun x y H Q=>r x y H Q∨r' x y H Q) (fun x y=>match op x y with|some z=>some z|none=>op' x y):=by
 intro Z Θ env C σ H x y dx dy res S bx dO e Q q;cases h1:op dx dy with
 |some z=>
  simp only[h1] at e;cases e;exact .inl (h Z Θ env C σ H x y dx dy _ S bx dO h1 Q q)
 |none=>
  simp only[h1] at e;exact .inr (h' Z Θ env C σ H x y dx dy res S bx dO e Q q)
section
variable{K:aG}{Z Θ:List aa}{env:En}{C:Ce}{σ:St}{H:Hp}{x:V}
theorem fK.int(h:fK Z Θ env σ H (.int i) x):x=.int i:=h
theorem fK.str(h:fK Z Θ env σ H (.str i) x):x=.str i:=h
theorem fK.tup(h:fK Z Θ env σ H (.tuple ds) x):∃a vs,x=.ref a∧H a=some (.tup vs)∧cD (er (aU Z Θ env σ) H) ds vs:=by
 obtain⟨a,vs,e,q,r⟩:=h
 exact⟨a,vs,e,jb q,r⟩
theorem fK.lst(h:fK Z Θ env σ H (.list ds) x):∃a vs,x=.ref a∧H a=some (.lst vs)∧cD (er (aU Z Θ env σ) H) ds vs:=by
 obtain⟨a,vs,e,q,r⟩:=h
 exact⟨a,vs,e,jb q,r⟩
theorem fK.dct(h:fK Z Θ env σ H (.dict kvs) x):∃a vs,x=.ref a∧xJ H a kvs vs∧iH (er (aU Z Θ env σ) H) kvs vs:=by
 obtain⟨a,vs,e,q,r⟩:=h
 exact⟨a,vs,e,q.same (Bj _ _),r⟩
theorem fK.flat(f:jM d=true)(h:fK Z Θ env σ H d x):x=toV d:=by
 cases d<;>first|exact h|cases f
theorem fK.rx(n:pZ d=true)(h:fK Z Θ env σ H d x):RX H d x:=by
 cases d<;>first|exact h|skip
 ·obtain⟨a,vs,e,q,r⟩:=h
  exact⟨a,vs,e,jb q,(r.same (Bj _ _)).rx n⟩
 ·obtain⟨a,vs,e,q,r⟩:=h
  exact⟨a,vs,e,jb q,(r.same (Bj _ _)).rx n⟩
 ·cases n
end
section
variable{X:Cx}
def bO:ao→ao→Option Vl
 |.int i,.int j=>some (.im (.int (i+j)))
 |.str x,.str y=>if x.length+y.length≤LIM then some (.im (.str (x++y))) else none
 |.list xs,.list ys=>if xs.length+ys.length≤LIM then some (.ow (.list (xs++ys))) else none
 |.tuple xs,.tuple ys=>if xs.isEmpty then some (.im (.tuple ys)) else if xs.length+ys.length≤LIM then some (.im (.tuple (xs++ys))) else none
 |_,_=>none
def abR(K:aG):R2:=fun x y H Q=>∃a b ys,x=.ref a∧y=.ref b∧cU K H a []∧cU K H b ys∧Q (.ref b) H
theorem ajv:cP X (pB .Add) (abR X.K):=by
 intro pins s σ H x y v u Q I rx ry h
 obtain⟨a,b,ys,rfl,rfl,ha,hb,q⟩:=h
 cases rx;cases ry
 obtain⟨its,r1,p1,_⟩:=I.tuple ha
 obtain⟨its2,r2,p2,_⟩:=I.tuple hb
 obtain⟨⟨cls,dd,data,sl⟩,ho,hc,n,hd⟩:=id p1
 obtain⟨⟨cls2,dd2,data2,sl2⟩,ho2,hc2,n2,hd2⟩:=id p2
 simp only at hc hd hc2 hd2;subst hc hd hc2 hd2;exact W7 ⟨_,ho,rfl⟩ ⟨_,ho2,rfl⟩ V7 WR Vt Vs (Vo _ _)
  (tuple_addW0 a b its.toArray its2.toArray n n2 dd dd2 sl sl2 (by cases r1;rfl)) ⟨ho,ho2,⟨.ref b,H,I,rfl,q⟩⟩
def abS(K:aG):R2:=fun x y H Q=>(((pX fun i j=>.int (i+j)) x y H Q∨∃i j,x=.str i∧y=.str j∧i.length+j.length≤bR∧Q (.str (i++j)) H)∨acf x y H Q)∨abR K x y H Q∨abN K x y H Q
theorem dB:cP X (pB .Add) (abS X.K):=((aky.or af2).or akN).or (ajv.or ai7)
theorem dD{K:aG}:f9 K (abS K) bO:=by
 intro Z Θ env C σ H x y dx dy res S bx dO e Q q;unfold bO at e;split at e
 ·cases e;cases bx.int;cases dO.int;exact .inl (.inl (.inl ⟨_,_,rfl,rfl,q _ _ (aQ.refl _ _) (iK S rfl rfl)⟩))
 ·split at e
  ·rename_i hl;cases e;cases bx.str;cases dO.str;exact .inl (.inl (.inr ⟨_,_,rfl,rfl,qY hl,q _ _ (aQ.refl _ _) (iK S rfl rfl)⟩))
  ·cases e
 ·split at e
  ·rename_i hl;cases e
   obtain⟨a,vs,rfl,ha,r1⟩:=bx.lst
   obtain⟨b,ws,rfl,hb,r2⟩:=dO.lst
   exact .inl (.inr ⟨a,b,vs,ws,rfl,rfl,ha,hb,by rw[iM r1,iM r2];exact qY hl,fun p hp=>q _ _ (aQ.upd hp) (uH S (yu r1 r2) hp)⟩)
  ·cases e
 ·split at e
  ·rename_i xs ys he;cases e;have:xs=[]:=List.isEmpty_iff.mp he;subst this;have by2:=dO
   obtain⟨a,vs,rfl,ha,r1⟩:=bx.tup
   obtain⟨b,ws,rfl,hb,r2⟩:=dO.tup
   cases(show vs=[] from r1)
   exact .inr (.inl ⟨a,b,ws,rfl,rfl,cU.of ha,cU.of hb,q _ _ (aQ.refl _ _) ⟨S,by2⟩⟩)
  split at e
  ·rename_i xs ys he hl;cases e
   obtain⟨a,vs,rfl,ha,r1⟩:=bx.tup
   obtain⟨b,ws,rfl,hb,r2⟩:=dO.tup
   have l1:=iM r1;have l2:=iM r2;have hv:vs≠[]:=fun z=>by
    subst z;cases xs with
    |nil=>exact he rfl
    |cons _ _=>cases l1
   refine .inr (.inr ⟨a,b,vs,ws,rfl,rfl,cU.of ha,cU.of hb,hv,by rw[l1,l2];exact qY hl,fun z=>?_,fun _ p hp=>q _ _ (aQ.upd hp) (JB S (yu r1 r2) hp)⟩);subst z;have:ys=[]:=List.eq_nil_of_length_eq_zero l2.symm;subst this;rw[mK] at q;refine q _ _ (aQ.refl _ _) ⟨S,?_⟩;exact bx
  ·cases e
 ·cases e
def nJ:ao→ao→Option Vl
 |.int i,.int j=>some (.im (.int (i-j)))
 |_,_=>none
theorem Q5{K:aG}{g:Int→Int→V}{op:ao→ao→Option Vl}(h:∀dx dy res,op dx dy=some res→∃i j d,dx=.int i∧dy=.int j∧res=.im d∧jM d=true∧g i j=toV d):f9 K (pX g) op:=by
 intro Z Θ env C σ H x y dx dy res S bx dO e Q q
 obtain⟨i,j,d,rfl,rfl,rfl,f,hv⟩:=h _ _ _ e
 cases bx.int;cases dO.int
 exact⟨_,_,rfl,rfl,q _ _ (aQ.refl _ _) (iK S f hv)⟩
theorem JV{K:aG}{Cn:Int→Int→Prop}{g:Int→Int→V}{op:ao→ao→Option Vl}(h:∀dx dy res,op dx dy=some res→∃i j d,dx=.int i∧dy=.int j∧res=.im d∧jM d=true∧g i j=toV d∧Cn i j):f9 K (rI Cn g) op:=by
 intro Z Θ env C σ H x y dx dy res S bx dO e Q q
 obtain⟨i,j,d,rfl,rfl,rfl,f,hv,c⟩:=h _ _ _ e
 cases bx.int;cases dO.int
 exact⟨_,_,rfl,rfl,c,q _ _ (aQ.refl _ _) (iK S f hv)⟩
theorem wB{K:aG}:f9 K (pX fun i j=>.int (i-j)) nJ:=Q5 fun dx dy res e=>by
 unfold nJ at e;split at e<;>cases e
 exact⟨_,_,_,rfl,rfl,rfl,rfl,rfl⟩
def jw:ao→ao→Option Vl
 |.int i,.int j=>if 0<j then some (.im (.int (i%j))) else none
 |_,_=>none
theorem pI{K:aG}:f9 K (rI (fun _ j=>0<j) fun i j=>.int (i%j)) jw:=JV fun dx dy res e=>by
 unfold jw at e;split at e
 ·split at e
  ·rename_i h;cases e;exact⟨_,_,_,rfl,rfl,rfl,rfl,rfl,h⟩
  ·cases e
 ·cases e
def wC:ao→ao→Option Vl
 |.int i,.int j=>if 0<j∧j<1073741824 then some (.im (.int (i / j))) else none
 |_,_=>none
theorem Q6{K:aG}:f9 K (rI ab7 fun i j=>.int (i / j)) wC:=JV fun dx dy res e=>by
 unfold wC at e;split at e
 ·split at e
  ·rename_i h;cases e;exact⟨_,_,_,rfl,rfl,rfl,rfl,rfl,h⟩
  ·cases e
 ·cases e
def oM:ao→ao→Option Vl
 |.int i,.int j=>if 0≤j∧j≤1000000∧i.natAbs<2^64 then some (.im (.int (i^j.toNat))) else none
 |_,_=>none
theorem Ec{K:aG}:f9 K (rI ab8 fun i j=>.int (i^j.toNat)) oM:=JV fun dx dy res e=>by
 unfold oM at e;split at e
 ·split at e
  ·rename_i h;cases e;exact⟨_,_,_,rfl,rfl,rfl,rfl,rfl,h⟩
  ·cases e
 ·cases e
def fQ:ao→ao→Option Vl
 |.int i,.int j=>if(-(2^64)<i∧i<2^64)∨(-(2^64)<j∧j<2^64) then some (.im (.int (i*j))) else none
 |_,_=>none
theorem kZ{K:aG}:f9 K (rI Kl fun i j=>.int (i*j)) fQ:=JV fun dx dy res e=>by
 unfold fQ at e;split at e
 ·split at e
  ·rename_i h;cases e;exact⟨_,_,_,rfl,rfl,rfl,rfl,rfl,h⟩
  ·cases e
 ·cases e
end
section
variable{X:Cx}
def zp:ao→ao→Option Bool
 |.int i,.int j=>some (i==j)
 |.str x,.str y=>some (x==y)
 |.bool a,.bool b=>some (a==b)
 |d,e=>if pZ d&&pZ e&&(mJ d&&mJ e) then some (Im d e) else none
def mj(d e:ao):Option Vl:=(zp d e).map fun b=>.im (.bool b)
def mC(d e:ao):Option Vl:=(zp d e).map fun b=>.im (.bool (!b))
theorem agl(hu:X.A.units+64<fP):cP X (fj .Eq) (fun x y H Q=>∃d e,RX H d x∧RX H e y∧mJ d=true∧mJ e=true∧Q (.bl (Im d e)) H):=by
 intro pins s σ H x y v u Q I rx ry h
 obtain⟨d,e,hd,he,h1,h2,q⟩:=h
 obtain⟨as,ra⟩:=RD.reads I (hd.rd (K:=X.K)) rx
 obtain⟨bs,rb⟩:=RD.reads I (he.rd (K:=X.K)) ry
 exact PySem.SeqAt.compareEq_shaped ra rb h1 h2 hu ⟨.bl _,H,I,rfl,q⟩
def acp:R2:=fun x y H Q=>rEq x y H Q∨∃d e,RX H d x∧RX H e y∧mJ d=true∧mJ e=true∧Q (.bl (Im d e)) H
def acq:R2:=fun x y H Q=>rNe x y H Q∨∃d e,RX H d x∧RX H e y∧mJ d=true∧mJ e=true∧Q (.bl (!PyData.eqv d e)) H
theorem uK(hu:X.A.units+64<fP):cP X (fj .Eq) acp:=alN.or (agl hu)
theorem Ba(hu:X.A.units+64<fP):cP X (fj .NotEq) acq:=alO.or (agd hu)
theorem Yu(h:zp d e=some b):(jM d=true∧jM e=true∧TV (toV d) (toV e)=true∧b=decide (toV d=toV e))∨(pZ d=true∧pZ e=true∧mJ d=true∧mJ e=true∧b=Im d e):=by
 unfold zp at h;split at h
 ·cases h;exact .inl ⟨rfl,rfl,rfl,QT.symm⟩
 ·cases h;exact .inl ⟨rfl,rfl,rfl,QV.symm⟩
 ·cases h;exact .inl ⟨rfl,rfl,rfl,RG.symm⟩
 ·split at h
  ·rename_i q;cases h;rw[ie,ie,ie] at q;exact .inr ⟨q.1.1,q.1.2,q.2.1,q.2.2,rfl⟩
  ·cases h
theorem uO{K:aG}:f9 K acp mj:=by
 intro Z Θ env C σ H x y dx dy res S bx dO e Q q;unfold mj at e;cases h:zp dx dy with
 |none=>rw[h] at e;cases e
 |some b=>
  rw[h] at e;cases e;have fin:=q (.bl b) H (aQ.refl _ _) (iK S rfl rfl);rcases Yu h with⟨f1,f2,sc,eb⟩|⟨n1,n2,s1,s2,eb⟩
  ·rw[bx.flat f1,dO.flat f2];rw[eb] at fin;exact .inl ⟨sc,fin⟩
  ·rw[eb] at fin;exact .inr ⟨dx,dy,bx.rx n1,dO.rx n2,s1,s2,fin⟩
theorem Bm{K:aG}:f9 K acq mC:=by
 intro Z Θ env C σ H x y dx dy res S bx dO e Q q;unfold mC at e;cases h:zp dx dy with
 |none=>rw[h] at e;cases e
 |some b=>
  rw[h] at e;cases e;have fin:=q (.bl (!b)) H (aQ.refl _ _) (iK S rfl rfl);rcases Yu h with⟨f1,f2,sc,eb⟩|⟨n1,n2,s1,s2,eb⟩
  ·rw[bx.flat f1,dO.flat f2];rw[eb] at fin;exact .inl ⟨sc,fin⟩
  ·rw[eb] at fin;exact .inr ⟨dx,dy,bx.rx n1,dO.rx n2,s1,s2,fin⟩
def strLt(x y:Str):Bool:=decide (x.cps.toList<y.cps.toList)
def abT(xs ys:List ao):Option Bool:=match keysOf xs,keysOf ys with
 |some ks,some js=>if ks.map cB=js.map cB then some (iU ks js) else none
 |_,_=>none
def uZ:ao→ao→Option Vl
 |.int i,.int j=>some (.im (.bool (decide (i<j))))
 |.str x,.str y=>some (.im (.bool (strLt x y)))
 |.tuple xs,.tuple ys=>(abT xs ys).map fun b=>.im (.bool b)
 |_,_=>none
theorem Ak:∀{ds:List ao}{ks:List Key}{vs:List V},keysOf ds=some ks→cD E ds vs→vs=ks.map kV
 |[],ks,vs,h,r=>by cases h;exact r
 |d::ds,ks,vs,h,r=>by
  unfold keysOf at h;split at h
  ·rename_i k t h1 h2;cases h
   obtain⟨u,w,e1,q,s⟩:=r
   rw[e1,Ak h2 s];have:u=kV k:=by
    cases d<;>first|(cases h1;exact q)|cases h1
   rw[this];rfl
  ·cases h
def amE:R2:=fun x y H Q=>(∃a b,x=kV a∧y=kV b∧cB a=cB b∧Q (.bl (kLt a b)) H)∨∃a b ks js,x=.ref a∧y=.ref b∧H a=some (.tup (ks.map kV))∧H b=some (.tup (js.map kV))∧ks.map cB=js.map cB∧Q (.bl (iU ks js)) H
theorem Te{K:aG}:f9 K amE uZ:=by
 intro Z Θ env C σ H x y dx dy res S bx dO e Q q;unfold uZ at e;split at e
 ·cases e;cases bx.int;cases dO.int;exact .inl ⟨.inl _,.inl _,rfl,rfl,rfl,q _ _ (aQ.refl _ _) (iK S rfl rfl)⟩
 ·cases e;cases bx.str;cases dO.str;exact .inl ⟨.inr _,.inr _,rfl,rfl,rfl,q _ _ (aQ.refl _ _) (iK S rfl rfl)⟩
 ·rename_i xs ys;unfold abT at e;split at e
  ·rename_i ks js h1 h2;split at e
   ·rename_i ht;cases e
    obtain⟨a,vs,rfl,ha,r1⟩:=bx.tup
    obtain⟨b,ws,rfl,hb,r2⟩:=dO.tup
    rw[Ak h1 r1] at ha;rw[Ak h2 r2] at hb;exact .inr ⟨a,b,ks,js,rfl,rfl,ha,hb,ht,q _ _ (aQ.refl _ _) (iK S rfl rfl)⟩
   ·cases e
  ·cases e
 ·cases e
def oV:ao→ao→Option Vl
 |.int i,.int j=>some (.im (.bool (decide (i≤j))))
 |.str x,.str y=>some (.im (.bool (!strLt y x)))
 |_,_=>none
def acr:R2:=fun x y H Q=>(pX fun i j=>.bl (decide (i≤j))) x y H Q∨∃i j,x=.str i∧y=.str j∧Q (.bl (!(decide (j.cps.toList<i.cps.toList)))) H
theorem yE:cP X (fj .LtE) acr:=alP.or agW
theorem yN{K:aG}:f9 K acr oV:=by
 intro Z Θ env C σ H x y dx dy res S bx dO e Q q;unfold oV at e;split at e
 ·cases e;cases bx.int;cases dO.int;exact .inl ⟨_,_,rfl,rfl,q _ _ (aQ.refl _ _) (iK S rfl rfl)⟩
 ·cases e;cases bx.str;cases dO.str;exact .inr ⟨_,_,rfl,rfl,q _ _ (aQ.refl _ _) (iK S rfl rfl)⟩
 ·cases e
def u5:ao→ao→Option Vl
 |.int i,.int j=>some (.im (.bool (decide (j<i))))
 |_,_=>none
def Km:ao→ao→Option Vl
 |.int i,.int j=>some (.im (.bool (decide (j≤i))))
 |_,_=>none
theorem Et{K:aG}:f9 K (pX fun i j=>.bl (decide (j<i))) u5:=Q5 fun dx dy res e=>by
 unfold u5 at e;split at e<;>cases e
 exact⟨_,_,_,rfl,rfl,rfl,rfl,rfl⟩
theorem al2{K:aG}:f9 K (pX fun i j=>.bl (decide (j≤i))) Km:=Q5 fun dx dy res e=>by
 unfold Km at e;split at e<;>cases e
 exact⟨_,_,_,rfl,rfl,rfl,rfl,rfl⟩
def isNone:ao→Bool
 |.none=>true
 |_=>false
def J9(d e:ao):Option Vl:=if isNone e then some (.im (.bool (isNone d))) else none
def Ed(d e:ao):Option Vl:=if isNone e then some (.im (.bool (!isNone d))) else none
theorem Jk(h:fK Z Θ env σ H d x):decide (x=V.non)=isNone d:=by
 cases d<;>first
  |(cases(show x=_ from h);rfl)
  |(obtain⟨a,vs,e,_⟩:=h;subst e;rfl)
theorem ak1{K:aG}:f9 K (fun x y H Q=>y=.non∧Q (.bl (decide (x=.non))) H) J9:=by
 intro Z Θ env C σ H x y dx dy res S bx dO e Q q;unfold J9 at e;split at e
 ·rename_i hn;cases e;have hy:y=.non:=of_decide_eq_true ((Jk dO).trans hn)
  exact⟨hy,by rw[Jk bx];exact q _ _ (aQ.refl _ _) (iK S rfl rfl)⟩
 ·cases e
theorem ajw{K:aG}:f9 K (fun x y H Q=>y=.non∧Q (.bl (!decide (x=.non))) H) Ed:=by
 intro Z Θ env C σ H x y dx dy res S bx dO e Q q;unfold Ed at e;split at e
 ·rename_i hn;cases e;have hy:y=.non:=of_decide_eq_true ((Jk dO).trans hn)
  exact⟨hy,by rw[Jk bx];exact q _ _ (aQ.refl _ _) (iK S rfl rfl)⟩
 ·cases e
end
section
variable{X:Cx}{pins:List (aa×Obj)}{σ:St}{H:Hp}{s:aC}{a b:aa}
theorem Inv.K3(I:Inv X pins σ H s)(h:H a=some (.dK [])):Inv X pins σ (upd H a (.dT [])) s:=by
 obtain⟨z,hm,vs,r,o,es,ep,h1,h2,h3,h4,h5,h6⟩:=I.hok a _ h
 cases r;have e0:es.toList=[]:=by
  cases hh:es.toList with
  |nil=>rfl
  |cons x xs=>rw[hh] at h5;cases h5
 have:=yt (t':=s.toks) (ob:=.dT []) I (by rw[h];trivial) (V2 a s.heap) ⟨_,h1⟩ ⟨lD _,hm,[],.nil,o,es,ep,h1,h2,h3,e0,oA⟩;exact this
theorem Inv.Uv(I:Inv X pins σ (upd H a (.dT [])) s)(h:H a=some (.dK [])):Inv X pins σ H s:=by
 obtain⟨z,hm,xs,r,o,es,ep,h1,h2,h3,h4,h5⟩:=I.hok a _ eU
 cases r;have e0:es=#[]:=by
  cases es;simp at h4;rw[h4]
 subst e0;have:=yt (t':=s.toks) (ob:=.dK []) I (by rw[eU];trivial) (V2 a s.heap) ⟨_,h1⟩ (JS (lD _) hm .nil ⟨o,#[],ep,h1,h2,h3,fun i hi=>absurd hi (by simp),.nil,oA⟩);rw[aaf] at this;have e:upd H a (.dK [])=H:=by
  funext b;by_cases hb:b=a
  ·subst hb;rw[eU,h]
  ·exact cR hb
 rw[e] at this;exact this
end
def oX(H:Hp)(a:aa)(y:V)(r:Option V):Prop:=lY H a y r∨(H a=some (.dK [])∧(∃(b:aa)(ks:List Key),y=.ref b∧H b=some (.tup (ks.map kV)))∧r=none)
section
variable{X:Cx}{pins:List (aa×Obj)}{σ:St}{H:Hp}{s:aC}{a:aa}{y v:V}{u r:Value}{o:Option V}{A:cI}{E:Value→aC→Prop}
theorem oX.re(ha:H a=some (.dK [])){b:aa}{ks:List Key}(hb:H b=some (.tup (ks.map kV))):lY (upd H a (.dT [])) a (.ref b) none:=by
 have:(upd H a (.dT [])) b=some (.tup (ks.map kV)):=by rw[cR (SJ hb ha (fun z=>nomatch z))];exact hb
 exact lY.t (kvs:=[]) (k:=ks) eU this
theorem al3(hu:A.units+1<fP)(I:Inv X pins σ H s)(g:oX H a y o)(ry:RelV y u)(h:∀s',Inv X pins σ H s'→Q (.bool o.isSome) s'):aN (model X.prog X.w) A (fj .In u (.ref a)) Q E s:=by
 rcases g with g|⟨ha,⟨b,ks,rfl,hb⟩,rfl⟩
 ·exact acg hu I g ry h
 ·exact acg hu (I.K3 ha) (oX.re ha hb) ry fun s' I'=>h s' (I'.Uv ha)
theorem ah8(hu:A.units+1<fP)(I:Inv X pins σ H s)(g:oX H a y o)(ry:RelV y u)(h:∀s',Inv X pins σ H s'→Q (.bool (!o.isSome)) s'):aN (model X.prog X.w) A (fj .NotIn u (.ref a)) Q E s:=by
 rcases g with g|⟨ha,⟨b,ks,rfl,hb⟩,rfl⟩
 ·exact aao hu I g ry h
 ·exact aao hu (I.K3 ha) (oX.re ha hb) ry fun s' I'=>h s' (I'.Uv ha)
theorem ak2(hu:X.A.units+1<fP):cP X (fj .In) (fun y x H Q=>∃a o,x=.ref a∧oX H a y o∧Q (.bl o.isSome) H):=by
 intro pins s σ H x y v u Q I rx ry h
 obtain⟨a,o,rfl,g,q⟩:=h
 cases ry;exact al3 hu I g rx fun s' I'=>⟨.bl _,H,I',rfl,q⟩
theorem ahb(hu:X.A.units+1<fP):cP X (fj .NotIn) (fun y x H Q=>∃a o,x=.ref a∧oX H a y o∧Q (.bl (!o.isSome)) H):=by
 intro pins s σ H x y v u Q I rx ry h
 obtain⟨a,o,rfl,g,q⟩:=h
 cases ry;exact ah8 hu I g rx fun s' I'=>⟨.bl _,H,I',rfl,q⟩
theorem ajx(hu:X.A.units+1<fP):qK X (fun x y H Q=>∃a v,x=.ref a∧lY H a y (some v)∧Q v H):=by
 intro value slice pins s σ H x y v u Q I rx ry h hs
 obtain⟨a,z,rfl,g,q⟩:=h
 cases rx;have hT:=afM I g;have h2:aN (model X.prog X.w) X.A (vX (.ref a) u) (EP X pins σ Q) X.xe s:=agP hu I g ry fun w' s' I' r'=>⟨z,H,I',r',q⟩
 unfold subscriptTail;refine aJ ?_;rw[getitemInPython_of_ne hT.not_modules];refine aJ (wpAny_specialOf hT PySem.F.slot_dict_getitem.lookup ?_);have fin:aN (model X.prog X.w) X.A (Xr slice false (.ref a) u) (fun r s₃=>aN (model X.prog X.w) X.A (letTemporaryGo value (.ref a) r >>= fun _=>pure r) (EP X pins σ Q) X.xe s₃) X.xe s:=by
  rw[hs];exact wpAny_operating (oF h2 (fun r s₃ h₃=>aJ (wpAny_letTemporaryGo (aY h₃))) fun _ _ x=>x)
 first
  |exact aY (aJ fin)
  |exact aJ (aY (aJ fin))
  |exact aJ fin
end
def qw{κ:Type}[DecidableEq κ](f:ao→Option κ)(k:κ):List (ao×ao)→Option ao
 |[]=>none
 |p::r=>if f p.1=some k then some p.2 else qw f k r
def oN(kvs:List (ao×ao))(d:ao):Option (Option ao):=match di d with
 |some k=>if(cO di kvs).isSome then some (qw di k kvs) else none
 |none=>match tZ d with
  |some ks=>if(cO tZ kvs).isSome then some (qw tZ ks kvs) else none
  |none=>none
theorem Qj[DecidableEq κ]:∀{kvs:List (ao×ao)}{ks:List κ}{vs:List V},cO f kvs=some ks→iH E kvs vs→
  (∃d v,qw f k kvs=some d∧mX (ks.zip vs) k=some v∧RZ E d v)∨(qw f k kvs=none∧mX (ks.zip vs) k=none)
 |[],ks,vs,h,r=>by
  cases h
  cases(show vs=[] from r)
  exact .inr ⟨rfl,rfl⟩
 |(p,d)::kvs,ks,vs,h,r=>by
  unfold cO at h;split at h
  ·rename_i k' t h1 h2;cases h
   obtain⟨v,w,rfl,q,s⟩:=r
   by_cases e:k'=k
   ·subst e;refine .inl ⟨d,v,?_,?_,q⟩
    ·unfold qw;rw[if_pos h1]
    ·exact Jf (p:=(k',v)) rfl
   ·have e1:qw f k ((p,d)::kvs)=qw f k kvs:=by
     show(if f p=some k then some d else qw f k kvs)=_
     rw[if_neg];intro z;rw[h1] at z;exact e (fX z)
    have e2:mX ((k'::t).zip (v::w)) k=mX (t.zip w) k:=Jg (p:=(k',v)) e;rw[e1,e2];exact Qj h2 s
  ·cases h
theorem vU:∀{kvs:List (ao×ao)}{ks:List κ},cO f kvs=some ks→ks.length=kvs.length
 |[],ks,h=>by cases h;rfl
 |p::kvs,ks,h=>by
  unfold cO at h;split at h
  ·rename_i k' t h1 h2;cases h;rw[dH,dH,vU h2]
  ·cases h
theorem abp(h:di d=some k)(r:RZ E d v):v=kV k:=by
 cases d<;>first|(cases h;exact r)|cases h
theorem abq(h:di d=some k)(g:tZ d=some ks):False:=by
 cases d<;>first|(cases h;done)|(cases g;done)
section
variable{K:aG}{Z Θ:List aa}{env:En}{C:Ce}{σ:St}{H:Hp}{x y:V}
theorem vV(h:cO di kvs=some ks)(g:cO tZ kvs=some js):kvs=[]:=by
 cases kvs with
 |nil=>rfl
 |cons p r=>
  unfold cO at h g;split at h
  ·rename_i h1 h2;split at g
   ·rename_i h3 h4
    exact(abq h1 h3).elim
   ·cases g
  ·cases h
theorem fK.get(h:fK Z Θ env σ H (.dict kvs) x)(hy:fK Z Θ env σ H d y)(e:oN kvs d=some o):
  ∃a r,x=.ref a∧oX H a y r∧((∃v,r=some v∧∃d',o=some d'∧RZ (er (aU Z Θ env σ) H) d' v∧lY H a y (some v))∨(r=none∧o=none)):=by
 obtain⟨a,vs,rfl,dt,rd⟩:=h.dct
 unfold oN at e;split at e
 ·rename_i k hk;split at e
  ·rename_i hs;cases e;have yk:y=kV k:=by
    cases d<;>first|(cases hk;exact hy)|cases hk
   have dk:∃ks,cO di kvs=some ks∧H a=some (.dK (ks.zip vs)):=by
    rcases dt with h|⟨ks,⟨ne,h2⟩,_⟩
    ·exact h
    ·obtain⟨ks',h1⟩:=xP.mp hs
     exact absurd (vV h1 h2) ne
   obtain⟨ks,h1,ha⟩:=dk
   have g:=lY.k (k:=k) ha;rw[←yk] at g;rcases Qj (k:=k) h1 rd with⟨d',v,e1,e2,r⟩|⟨e1,e2⟩
   ·rw[e2] at g
    exact⟨a,some v,rfl,.inl g,.inl ⟨v,rfl,d',e1,r,g⟩⟩
   ·rw[e2] at g
    exact⟨a,none,rfl,.inl g,.inr ⟨rfl,e1⟩⟩
  ·cases e
 ·split at e
  ·rename_i ks hks;split at e
   ·rename_i hs;cases e
    obtain⟨b,hb,rfl⟩:∃b,H b=some (.tup (ks.map kV))∧y=.ref b:=by
     cases d<;>first|cases hks|skip
     obtain⟨b,ws,rfl,hb,r⟩:=hy.tup
     rw[Ak hks r] at hb
     exact⟨b,hb,rfl⟩
    rcases dt with⟨js,h1,ha⟩|⟨js,⟨ne,h1⟩,ha⟩
    ·obtain⟨js',h2⟩:=xP.mp hs
     have:=vV h1 h2;subst this;cases h1
     exact⟨a,none,rfl,.inr ⟨ha,⟨b,ks,rfl,hb⟩,rfl⟩,.inr ⟨rfl,rfl⟩⟩
    ·have g:=lY.t (k:=ks) ha hb;rcases Qj (k:=ks) h1 rd with⟨d',v,e1,e2,r⟩|⟨e1,e2⟩
     ·rw[e2] at g
      exact⟨a,some v,rfl,.inl g,.inl ⟨v,rfl,d',e1,r,g⟩⟩
     ·rw[e2] at g
      exact⟨a,none,rfl,.inl g,.inr ⟨rfl,e1⟩⟩
   ·cases e
  ·cases e
end
def inD(d:ao)(ds:List ao):Bool:=ds.any fun e=>rQ (toV e) (toV d)
def inB(d:ao):ao→Option Bool
 |.list ds=>if jM d&&ds.all jM then some (inD d ds) else none
 |.tuple ds=>if jM d&&ds.all jM then some (inD d ds) else none
 |.dict kvs=>(oN kvs d).map (·.isSome)
 |_=>none
def jP(d e:ao):Option Vl:=(inB d e).map fun b=>.im (.bool b)
def pD(d e:ao):Option Vl:=(inB d e).map fun b=>.im (.bool (!b))
def acs(K:aG):R2:=fun x y H Q=>KQ K false x y H Q∨∃a o,y=.ref a∧oX H a x o∧Q (.bl o.isSome) H
def aaB(K:aG):R2:=fun x y H Q=>KQ K true x y H Q∨∃a o,y=.ref a∧oX H a x o∧Q (.bl (!o.isSome)) H
theorem uL(hu:X.A.units+1<fP):cP X (fj .In) (acs X.K):=agN.or (ak2 hu)
theorem IW(hu:X.A.units+1<fP):cP X (fj .NotIn) (aaB X.K):=afo.or (ahb hu)
theorem Pn(f:jM d=true):pM (toV d)=true:=by
 cases d<;>first|rfl|cases f
theorem abU:inV (toV d) (ds.map toV)=inD d ds:=by
 unfold inV inD;rw[afu];rfl
theorem aaC{ds:List ao}(f:ds.all jM=true):(ds.map toV).all pM=true:=by
 rw[List.all_map,qQ];intro d hd;exact Pn (qQ.mp f d hd)
theorem Zk{K:aG}{Z Θ:List aa}{env:En}{σ:St}{H:Hp}{x y:V}{dx dy:ao}{b:Bool}(bx:fK Z Θ env σ H dx x)(dO:fK Z Θ env σ H dy y)(e:inB dx dy=some b):
  (∃p xs,y=.ref p∧(bL K H p xs∨cU K H p xs)∧pM x=true∧xs.all pM=true∧inV x xs=b)∨∃a o,y=.ref a∧oX H a x o∧o.isSome=b:=by
 unfold inB at e;split at e
 ·split at e
  ·rename_i ds hf;rw[ie] at hf;cases e
   obtain⟨a,vs,rfl,ha,r⟩:=dO.lst
   rw[Qi hf.2 r] at ha;rw[bx.flat hf.1];exact .inl ⟨a,_,rfl,.inl (bL.of ha),Pn hf.1,aaC hf.2,abU⟩
  ·cases e
 ·split at e
  ·rename_i ds hf;rw[ie] at hf;cases e
   obtain⟨a,vs,rfl,ha,r⟩:=dO.tup
   rw[Qi hf.2 r] at ha;rw[bx.flat hf.1];exact .inl ⟨a,_,rfl,.inr (cU.of ha),Pn hf.1,aaC hf.2,abU⟩
  ·cases e
 ·rename_i kvs;cases hl:oN kvs dx with
  |none=>rw[hl] at e;cases e
  |some o=>
   rw[hl] at e;cases e
   obtain⟨a,r,rfl,g,q⟩:=dO.get bx hl
   refine .inr ⟨a,r,rfl,g,?_⟩;rcases q with⟨v,rfl,d',rfl,_⟩|⟨rfl,rfl⟩<;>rfl
 ·cases e
theorem uP{K:aG}:f9 K (acs K) jP:=by
 intro Z Θ env C σ H x y dx dy res S bx dO e Q q;unfold jP at e;cases h:inB dx dy with
 |none=>rw[h] at e;cases e
 |some b=>
  rw[h] at e;cases e;have fin:=q (.bl b) H (aQ.refl _ _) (iK S rfl rfl);rcases Zk (K:=K) bx dO h with⟨p,xs,e1,e2,e3,e4,e5⟩|⟨a,o,e1,e2,e3⟩
  ·rw[←e5] at fin;exact .inl ⟨p,xs,e1,e2,e3,e4,fin⟩
  ·rw[←e3] at fin;exact .inr ⟨a,o,e1,e2,fin⟩
theorem Jl{K:aG}:f9 K (aaB K) pD:=by
 intro Z Θ env C σ H x y dx dy res S bx dO e Q q;unfold pD at e;cases h:inB dx dy with
 |none=>rw[h] at e;cases e
 |some b=>
  rw[h] at e;cases e;have fin:=q (.bl (!b)) H (aQ.refl _ _) (iK S rfl rfl);rcases Zk (K:=K) bx dO h with⟨p,xs,e1,e2,e3,e4,e5⟩|⟨a,o,e1,e2,e3⟩
  ·rw[←e5] at fin;exact .inl ⟨p,xs,e1,e2,e3,e4,fin⟩
  ·rw[←e3] at fin;exact .inr ⟨a,o,e1,e2,fin⟩
def vp:ao→ao→Option ao
 |.list ds,.int i=>cX ds i
 |.tuple ds,.int i=>cX ds i
 |.str z,.int i=>if z.length≤LIM then(cX z.cps.toList i).map fun c=>.str ⟨#[c]⟩ else none
 |.dict kvs,d=>match oN kvs d with
  |some (some e)=>some e
  |_=>none
 |_,_=>none
def bf(d e:ao):Option Vl:=(vp d e).map .im
def acu(K:aG):R2:=fun x y H Q=>rIx K x y H Q∨∃a v,x=.ref a∧lY H a y (some v)∧Q v H
theorem cg(hu:X.A.units+1<fP):qK X (acu X.K):=akJ.or (ajx hu)
theorem aaD(r:cD E ds vs)(e:cX ds i=some d):∃v,cX vs i=some v∧RZ E d v:=by
 unfold cX at e⊢;rw[iM r];cases h:mD ds.length i with
 |none=>rw[h] at e;cases e
 |some j=>
  rw[h] at e;exact uJ r e
theorem cA{K:aG}:f9 K (acu K) bf:=by
 intro Z Θ env C σ H x y dx dy res S bx dO e Q q;unfold bf at e;cases h:vp dx dy with
 |none=>rw[h] at e;cases e
 |some d=>
  rw[h] at e;cases e;unfold vp at h;split at h
  ·obtain⟨a,vs,rfl,ha,r⟩:=bx.lst
   cases dO.int
   obtain⟨v,e1,r1⟩:=aaD r h
   exact .inl (.inl ⟨a,vs,_,v,rfl,rfl,bL.of ha,e1,q _ _ (aQ.refl _ _) ⟨S,r1⟩⟩)
  ·obtain⟨a,vs,rfl,ha,r⟩:=bx.tup
   cases dO.int
   obtain⟨v,e1,r1⟩:=aaD r h
   exact .inl (.inr (.inl ⟨a,vs,_,v,rfl,rfl,cU.of ha,e1,q _ _ (aQ.refl _ _) ⟨S,r1⟩⟩))
  ·split at h
   ·rename_i z i hz;cases bx.str;cases dO.int;cases hc:cX z.cps.toList i with
    |none=>rw[hc] at h;cases h
    |some c=>
     rw[hc] at h;cases h;exact .inl (.inr (.inr ⟨z,i,c,rfl,rfl,qY hz,hc,q _ _ (aQ.refl _ _) (iK S rfl rfl)⟩))
   ·cases h
  ·split at h
   ·rename_i kvs e' hl;cases h
    obtain⟨a,r,rfl,g,hq⟩:=bx.get dO hl
    rcases hq with⟨v,rfl,d',e1,r1,g1⟩|⟨_,e1⟩
    ·cases e1;exact .inr ⟨a,v,rfl,g1,q _ _ (aQ.refl _ _) ⟨S,r1⟩⟩
    ·cases e1
   ·cases h
  ·cases h
def truD:ao→Option Bool
 |.none=>some false
 |.bool b=>some b
 |.int i=>some (i != 0)
 |.str x=>if x.length≤LIM then some ((x.length:Int) != 0) else none
 |.list ds=>some (!ds.isEmpty)
 |.tuple ds=>some (!ds.isEmpty)
 |.dict kvs=>if(cO di kvs).isSome then some (!kvs.isEmpty) else none
def fTru(f:FB):FT:=fun env C=>match f env C with
 |some (d,_,C')=>match truD d with
  |some b=>some (b,C')
  |none=>none
 |none=>none
def fTst(f:FE):FT:=fun env C=>match f env C with
 |some (.im (.bool b),_,C')=>some (b,C')
 |_=>none
def uQ(f:FT):FT:=fun env C=>match f env C with
 |some (b,C')=>some (!b,C')
 |none=>none
def mW(f g:FT):FT:=fun env C=>match f env C with
 |some (true,C')=>g env C'
 |some (false,C')=>some (false,C')
 |none=>none
def rN(f g:FT):FT:=fun env C=>match f env C with
 |some (true,C')=>some (true,C')
 |some (false,C')=>g env C'
 |none=>none
theorem ak3{K:aG}{Z Θ:List aa}{env:En}{σ:St}{H:Hp}{x:V}{d:ao}{b:Bool}(h:fK Z Θ env σ H d x)(e:truD d=some b):TX K x H b:=by
 cases d with
 |none=>cases e;cases(show x=_ from h);rfl
 |bool c=>cases e;cases(show x=_ from h);rfl
 |int i=>cases e;cases(show x=_ from h);rfl
 |str z=>
  simp only[truD] at e;split at e
  ·rename_i hz;cases e;cases(show x=_ from h);exact⟨qY hz,rfl⟩
  ·cases e
 |list ds=>
  cases e
  obtain⟨a,vs,rfl,ha,r⟩:=h.lst
  refine .inl ⟨vs,bL.of ha,?_⟩;have:=iM r;cases ds<;>cases vs<;>first|rfl|cases this
 |tuple ds=>
  cases e
  obtain⟨a,vs,rfl,ha,r⟩:=h.tup
  refine .inr (.inl ⟨vs,cU.of ha,?_⟩);have:=iM r;cases ds<;>cases vs<;>first|rfl|cases this
 |dict kvs=>
  simp only[truD] at e;split at e
  ·rename_i hs;cases e
   obtain⟨a,vs,rfl,da,r⟩:=h.dct
   rcases da with⟨ks,h1,ha⟩|⟨ks,⟨ne,h2⟩,ha⟩
   ·refine .inr (.inr ⟨_,ha,?_⟩);have l1:=vU h1;have l2:=Ds r;cases kvs<;>cases ks<;>cases vs<;>first|rfl|cases l1|cases l2
   ·obtain⟨ks',h1⟩:=xP.mp hs
    exact absurd (vV h1 h2) ne
  ·cases e
section
variable{X:Cx}{a b:Expr}{pos:Pos}
theorem qm(h:PE X a (dF X.K f))(he:∀whole,isTrue a X.env whole=(do let v ←whole;tM a.pos;qg [v] (truthy v)):=by intro _;rfl):PT X a (fH X.K (fTru f)):=
 (ahJ h he).weak fun σ H Q aL=>by
  obtain⟨Z,Θ,env,C,b,C',S,hf,q⟩:=aL
  unfold fTru at hf;split at hf
  ·rename_i d e1 C1 h1;split at hf
   ·rename_i b' hb;cases hf
    exact⟨Z,Θ,env,C,d,e1,C',S,h1,fun v H' k f S' bo=>⟨b,ak3 bo hb,q H' k (S.go k S'.cell)⟩⟩
   ·cases hf
  ·cases hf
theorem Zm{K:aG}{t:TE}{f:FE}(w:∀σ H Q,tE K f σ H Q→t σ H Q):∀σ H Q,fH K (fTst f) σ H Q→SX t σ H Q:=by
 rintro σ H Q ⟨Z,Θ,env,C,b,C',S,hf,q⟩;unfold fTst at hf;split at hf
 ·rename_i b' e1 C1 h1;cases hf;refine w _ _ _ ⟨Z,Θ,env,C,.im (.bool b),e1,C',S,h1,fun v H' k f R=>?_⟩
  obtain⟨S',r⟩:=R
  exact⟨b,r,q H' k (S.go k S'.cell)⟩
 ·cases hf
theorem gj(ho:cP X (fj o) r)(L:f9 X.K r op)(ha:PE X a (dF X.K fa))(hb:PE X b (dF X.K fb))(hm:CK o b=false):
  PT X (.Compare a [o] [b] pos) (fH X.K (fTst (aD op fa fb))):=(ai1 ho ha hb hm).weak (Zm (Jj L))
theorem Ef(h:PT X a (fH X.K f)):PT X (.UnaryOp .Not a pos) (fH X.K (uQ f)):=(ako h).weak fun σ H Q aL=>by
 obtain⟨Z,Θ,env,C,b,C',S,hf,q⟩:=aL
 unfold uQ at hf;split at hf
 ·rename_i b' C1 h1;cases hf
  exact⟨Z,Θ,env,C,b',C',S,h1,q⟩
 ·cases hf
theorem ah9{K:aG}{f g:FT}:∀σ H Q,fH K (mW f g) σ H Q→ab3 (fH K f) (fH K g) σ H Q:=by
 rintro σ H Q ⟨Z,Θ,env,C,b,C',S,hf,q⟩;unfold mW at hf;split at hf
 ·rename_i C1 h1
  exact⟨Z,Θ,env,C,true,C1,S,h1,fun H1 k1 S1=>wV ⟨Z,Θ,env,C1,b,C',S1,hf,fun H2 k2 S2=>q H2 (k1.trans k2) S2⟩⟩
 ·rename_i C1 h1;cases hf
  exact⟨Z,Θ,env,C,false,C',S,h1,fun H1 k1 S1=>wU (q H1 k1 S1)⟩
 ·cases hf
theorem ajy{K:aG}{f g:FT}:∀σ H Q,fH K (rN f g) σ H Q→tOr (fH K f) (fH K g) σ H Q:=by
 rintro σ H Q ⟨Z,Θ,env,C,b,C',S,hf,q⟩;unfold rN at hf;split at hf
 ·rename_i C1 h1;cases hf
  exact⟨Z,Θ,env,C,true,C',S,h1,fun H1 k1 S1=>wV (q H1 k1 S1)⟩
 ·rename_i C1 h1
  exact⟨Z,Θ,env,C,false,C1,S,h1,fun H1 k1 S1=>wU ⟨Z,Θ,env,C1,b,C',S1,hf,fun H2 k2 S2=>q H2 (k1.trans k2) S2⟩⟩
 ·cases hf
variable{rest:List Expr}
theorem Du(h:PT X a (fH X.K f)):PW X (.BoolOp .And [a] pos) (fH X.K f):=pw_and1 h
theorem Eg(h:PT X a (fH X.K f)):PW X (.BoolOp .Or [a] pos) (fH X.K f):=pw_or1 h
theorem uM(h:PT X a (fH X.K f))(hb:PW X (.BoolOp .And (b::rest) pos) (fH X.K g)):PW X (.BoolOp .And (a::b::rest) pos) (fH X.K (mW f g)):=(pw_and h hb).weak ah9
theorem Bo(h:PT X a (fH X.K f))(hb:PW X (.BoolOp .Or (b::rest) pos) (fH X.K g)):PW X (.BoolOp .Or (a::b::rest) pos) (fH X.K (rN f g)):=(pw_or h hb).weak ajy
end
def wX(op op':ao→ao→Option Vl)(fa fb fc:FB):FE:=fun env C=>match fa env C with
 |some (x,e1,C1)=>match fb e1 C1 with
  |some (y,e2,C2)=>match op x y with
   |some (.im (.bool true))=>match fc e2 C2 with
    |some (z,e3,C3)=>match op' y z with
     |some (.im (.bool b))=>some (.im (.bool b),env,C3)
     |_=>none
    |none=>none
   |some (.im (.bool false))=>some (.im (.bool false),env,C2)
   |_=>none
  |none=>none
 |none=>none
theorem Zn{K:aG}{r r':R2}{op op':ao→ao→Option Vl}(L:f9 K r op)(L':f9 K r' op'){fa fb fc:FB}:∀σ H Q,tE K (wX op op' fa fb fc) σ H Q→RJ r r' (dF K fa) (dF K fb) (dF K fc) σ H Q:=by
 rintro σ H Q ⟨Z,Θ,env,C,res,env',C',S,hf,q⟩;unfold wX at hf;split at hf
 ·rename_i x e1 C1 h1;split at hf
  ·rename_i y e2 C2 h2
   refine⟨Z,Θ,env,C,x,e1,C1,S,h1,fun v H1 k1 f1 S1 b1=>⟨Z,Θ,e1,C1,y,e2,C2,S1,h2,fun u H2 k2 f2 S2 b2=>?_⟩⟩
   split at hf
   ·rename_i h3;split at hf
    ·rename_i z e3 C3 h4;split at hf
     ·rename_i b h5;cases hf;refine L Z Θ e2 C2 σ H2 v u x y _ S2 (b1.go S1 k2 f2) b2 h3 _ fun w H3 k3 R=>⟨true,R.2,wV ⟨Z,Θ,e2,C2,z,e3,C',R.1,h4,fun w2 H4 k4 f4 S4 b4=>?_⟩⟩
      refine L' Z Θ e3 C' σ H4 u w2 y z _ S4 ((b2.go S2 k3 (Fz.refl _)).go R.1 k4 f4) b4 h5 Q fun w3 H5 k5 R5=>?_
      have k:=(((k1.trans k2).trans k3).trans k4).trans k5;exact q w3 H5 k (Fz.refl _) ⟨S.go k R5.1.cell,R5.2⟩
     ·cases hf
    ·cases hf
   ·rename_i h3;cases hf;refine L Z Θ e2 C' σ H2 v u x y _ S2 (b1.go S1 k2 f2) b2 h3 _ fun w H3 k3 R=>⟨false,R.2,wU ?_⟩
    have k:=(k1.trans k2).trans k3;exact q _ H3 k (Fz.refl _) ⟨S.go k R.1.cell,rfl⟩
   ·cases hf
  ·cases hf
 ·cases hf
section
variable{X:Cx}{a b c:Expr}{pos:Pos}{r r':R2}{o o':CmpOp}{op op':ao→ao→Option Vl}{fa fb fc:FB}
theorem ak4(ho:cP X (fj o) r)(L:f9 X.K r op)(ho':cP X (fj o') r')(L':f9 X.K r' op')(ha:PE X a (dF X.K fa))(hb:PE X b (dF X.K fb))(hc:PE X c (dF X.K fc))
  (hm:O6 [o,o'] [b,c]=false:=by with_unfolding_all rfl):PE X (.Compare a [o,o'] [b,c] pos) (tE X.K (wX op op' fa fb fc)):=(ahH ho ho' ha hb hc hm).weak (Zn L L')
theorem ak5(ho:cP X (fj o) r)(L:f9 X.K r op)(ho':cP X (fj o') r')(L':f9 X.K r' op')(ha:PE X a (dF X.K fa))(hb:PE X b (dF X.K fb))(hc:PE X c (dF X.K fc))
  (hm:O6 [o,o'] [b,c]=false:=by with_unfolding_all rfl):PT X (.Compare a [o,o'] [b,c] pos) (fH X.K (fTst (wX op op' fa fb fc))):=(ahI ho ho' ha hb hc hm).weak (Zm (Zn L L'))
end
def uc(f g:FE):FE:=fun env C=>match f env C with
 |some (.im (.bool true),_,C')=>g env C'
 |some (.im (.bool false),_,C')=>some (.im (.bool false),env,C')
 |_=>none
def Ka(f:FE):FE:=fun env C=>match f env C with
 |some (.im (.bool b),_,C')=>some (.im (.bool (!b)),env,C')
 |_=>none
def rO(c:FT)(f g:FE):FE:=fun env C=>match c env C with
 |some (true,C')=>f env C'
 |some (false,C')=>g env C'
 |none=>none
def fNeg(f:FB):FE:=fun env C=>match f env C with
 |some (.int i,_,C')=>some (.im (.int (-i)),env,C')
 |_=>none
section
variable{X:Cx}{a b c:Expr}{pos:Pos}{rest:List Expr}
theorem Eh{o}(h:PE X a (tE X.K f)):PE X (.BoolOp o [a] pos) (tE X.K f):=akp h
theorem Bb(ha:PE X a (tE X.K f))(hb:PE X (.BoolOp .And (b::rest) pos) (tE X.K g)):PE X (.BoolOp .And (a::b::rest) pos) (tE X.K (uc f g)):=(akq ha hb).weak fun σ H Q aL=>by
 obtain⟨Z,Θ,env,C,r,env',C',S,hf,q⟩:=aL
 unfold uc at hf;split at hf
 ·rename_i e1 C1 h1
  refine⟨Z,Θ,env,C,_,e1,C1,S,h1,fun v H1 k1 f1 R1=>⟨true,R1.2,wV ⟨Z,Θ,env,C1,r,env',C',S.go k1 R1.1.cell,hf,fun w H2 k2 f2 R2=>q w H2 (k1.trans k2) f2 (R2.from k1)⟩⟩⟩
 ·rename_i e1 C1 h1;cases hf
  exact⟨Z,Θ,env,C,_,e1,C',S,h1,fun v H1 k1 f1 R1=>⟨false,R1.2,wU (q _ H1 k1 (Fz.refl _) ⟨S.go k1 R1.1.cell,rfl⟩)⟩⟩
 ·cases hf
theorem ak6(ha:PE X a (tE X.K f)):PE X (.UnaryOp .Not a pos) (tE X.K (Ka f)):=(akr ha).weak fun σ H Q aL=>by
 obtain⟨Z,Θ,env,C,r,env',C',S,hf,q⟩:=aL
 unfold Ka at hf;split at hf
 ·rename_i b e1 C1 h1;cases hf
  exact⟨Z,Θ,env,C,_,e1,C',S,h1,fun v H1 k1 f1 R1=>⟨b,R1.2,q _ H1 k1 (Fz.refl _) ⟨S.go k1 R1.1.cell,rfl⟩⟩⟩
 ·cases hf
theorem Kc(hc:PT X c (fH X.K t))(ha:PE X a (tE X.K f))(hb:PE X b (tE X.K g)):PE X (.IfExp c a b pos) (tE X.K (rO t f g)):=(ahE hc ha hb).weak fun σ H Q aL=>by
 obtain⟨Z,Θ,env,C,r,env',C',S,hf,q⟩:=aL
 unfold rO at hf;split at hf
 ·rename_i C1 h1
  exact⟨Z,Θ,env,C,true,C1,S,h1,fun H1 k1 S1=>wV ⟨Z,Θ,env,C1,r,env',C',S1,hf,fun w H2 k2 f2 R2=>q w H2 (k1.trans k2) f2 (R2.from k1)⟩⟩
 ·rename_i C1 h1
  exact⟨Z,Θ,env,C,false,C1,S,h1,fun H1 k1 S1=>wU ⟨Z,Θ,env,C1,r,env',C',S1,hf,fun w H2 k2 f2 R2=>q w H2 (k1.trans k2) f2 (R2.from k1)⟩⟩
 ·cases hf
theorem RV(ha:PE X a (dF X.K f)):PE X (.UnaryOp .USub a pos) (tE X.K (fNeg f)):=(alM akz ha).weak fun σ H Q aL=>by
 obtain⟨Z,Θ,env,C,r,env',C',S,hf,q⟩:=aL
 unfold fNeg at hf;split at hf
 ·rename_i i e1 C1 h1;cases hf
  exact⟨Z,Θ,env,C,_,e1,C',S,h1,fun v H1 k1 f1 S1 b1=>⟨i,b1,q _ H1 k1 (Fz.refl _) ⟨S.go k1 S1.cell,rfl⟩⟩⟩
 ·cases hf
end
def uR(K:aG)(E:Hp)(Θ:List aa):Vl→V→Prop
 |.im d,v=>RZ E d v
 |.ow _,_=>False
 |.ce n,v=>∃a,v=.ref a∧Θ[n]?=some a
 |.sc ns,v=>∃a,v=.ref a∧bL K E a (ns.map V.int)
inductive qt(K:aG)(E:Hp)(Θ:List aa):List Vl→List V→Prop
 |nil:qt K E Θ [] []
 |cons {x:Vl} {v:V} {xs:List Vl} {vs:List V}:uR K E Θ x v→qt K E Θ xs vs→qt K E Θ (x::xs) (v::vs)
theorem uR.same{K:aG}{E E':Hp}{Θ:List aa}(s:bw E E'){x:Vl}{v:V}(h:uR K E Θ x v):uR K E' Θ x v:=by
 cases x with
 |im d=>exact RZ.same s h
 |ow d=>exact h
 |ce n=>exact h
 |sc ns=>obtain⟨a,e,q⟩:=h;exact⟨a,e,s.seq q⟩
theorem qt.same{K:aG}{E E':Hp}{Θ:List aa}(s:bw E E'){xs:List Vl}{vs:List V}(h:qt K E Θ xs vs):qt K E' Θ xs vs:=by
 induction h with
 |nil=>exact .nil
 |cons a _ ih=>exact .cons (a.same s) ih
inductive xM(K:aG)(f:FA)(σ:St)(H:Hp)(Q:List V→Hp→Prop):Prop
 |mk (Z Θ:List aa) (env:En) (C:Ce) (xs:List Vl) (env':En) (C':Ce) (S:Sm K Z Θ env C σ H) (hf:f env C=some (xs,env',C')) (q:∀vs H',aQ Θ H H'→Fz env env'→Sm K Z Θ env' C' σ H'→qt K (er (aU Z Θ env' σ) H') Θ xs vs→Q vs H'):xM K f σ H Q
def aNil:FA:=fun env C=>some ([],env,C)
def aCons(f:FE)(g:FA):FA:=fun env C=>match f env C with
 |some (r,e1,C1)=>match g e1 C1 with
  |some (xs,e2,C2)=>some (still r::xs,e2,C2)
  |none=>none
 |none=>none
def bNil:xK:=fun env C=>some ([],env,C)
def bCons(f:FB)(g:xK):xK:=fun env C=>match f env C with
 |some (d,e1,C1)=>match g e1 C1 with
  |some (ds,e2,C2)=>some (d::ds,e2,C2)
  |none=>none
 |none=>none
theorem Res.arg{K:aG}{Z Θ:List aa}{env:En}{C:Ce}{σ:St}{H H':Hp}{r:Vl}{v:V}(h:Res K Z Θ env C σ H H' r v):Sm K Z Θ env C σ H'∧uR K (er (aU Z Θ env σ) H') Θ (L2.still r) v:=by
 have g:=h.still;cases r with
 |im d=>exact g
 |ow d=>exact g
 |ce n=>exact g
 |sc ns=>exact g
theorem yW.same(s:bw E E')(t:bw T T')(h:yW E T ds vs):yW E' T' ds vs:=by
 induction h with
 |nil=>exact .nil
 |cons a _ ih=>exact .cons (a.same s t) ih
section
variable{X:Cx}{e:Expr}{es:List Expr}{pos:Pos}
theorem aR:PA X [] (xM X.K aNil):=pH.weak fun σ H Q aL=>by
 obtain⟨Z,Θ,env,C,xs,env',C',S,hf,q⟩:=aL
 cases hf;exact q [] H (aQ.refl _ _) (Fz.refl _) S .nil
theorem az{f:FE}{g:FA}(h:PE X e (tE X.K f))(hr:PA X es (xM X.K g))(hs:aW (e::es) X.env=(false,eval e X.env)::aW es X.env:=by rfl):PA X (e::es) (xM X.K (aCons f g)):=(mU h hr hs).weak fun σ H Q aL=>by
 obtain⟨Z,Θ,env,C,xs,env',C',S,hf,q⟩:=aL
 unfold aCons at hf;split at hf
 ·rename_i r e1 C1 h1;split at hf
  ·rename_i ys e2 C2 h2;cases hf
   refine⟨Z,Θ,env,C,r,e1,C1,S,h1,fun v H1 k1 f1 R1=>?_⟩
   obtain⟨S1,a1⟩:=R1.arg
   exact⟨Z,Θ,e1,C1,ys,env',C',S1,h2,fun vs H2 k2 f2 S2 a2=>q _ H2 (k1.trans k2) (f1.trans f2) S2 (.cons (a1.same (Td S1 k2 f2)) a2)⟩
  ·cases hf
 ·cases hf
theorem eV:PA X [] (vo X.K bNil):=pH.weak fun σ H Q aL=>by
 obtain⟨Z,Θ,env,C,xs,env',C',S,hf,q⟩:=aL
 cases hf;exact q [] H (aQ.refl _ _) (Fz.refl _) S .nil
theorem cW(h:PE X e (dF X.K f))(hr:PA X es (vo X.K g))(hs:aW (e::es) X.env=(false,eval e X.env)::aW es X.env:=by rfl):PA X (e::es) (vo X.K (bCons f g)):=(mU h hr hs).weak fun σ H Q aL=>by
 obtain⟨Z,Θ,env,C,xs,env',C',S,hf,q⟩:=aL
 unfold bCons at hf;split at hf
 ·rename_i d e1 C1 h1;split at hf
  ·rename_i ys e2 C2 h2;cases hf
   exact⟨Z,Θ,env,C,d,e1,C1,S,h1,fun v H1 k1 f1 S1 b1=>⟨Z,Θ,e1,C1,ys,env',C',S1,h2,fun vs H2 k2 f2 S2 b2=>q _ H2 (k1.trans k2) (f1.trans f2) S2 (.cons (b1.go S1 k2 f2) b2)⟩⟩
  ·cases hf
 ·cases hf
end
def allIm:List Vl→Option (List ao)
 |[]=>some []
 |.im d::r=>match allIm r with
  |some ds=>some (d::ds)
  |none=>none
 |_=>none
theorem Qk{K:aG}{E:Hp}{Θ:List aa}:∀{xs:List Vl}{ds:List ao}{vs:List V},allIm xs=some ds→qt K E Θ xs vs→cD E ds vs
 |[],ds,vs,h,a=>by cases h;cases a;rfl
 |.im d::r,ds,vs,h,a=>by
  unfold allIm at h;split at h
  ·rename_i t ht;cases h;cases a with
   |cons a1 a2=>exact⟨_,_,rfl,a1,Qk ht a2⟩
  ·cases h
 |.ow _::r,ds,vs,h,a=>by cases h
 |.ce _::r,ds,vs,h,a=>by cases h
 |.sc _::r,ds,vs,h,a=>by cases h
def fLst(g:FA):FE:=fun env C=>match g env C with
 |some (xs,e',C')=>match allIm xs with
  |some ds=>if ds.length≤LIM then some (.ow (.list ds),e',C') else none
  |none=>none
 |none=>none
def fTup(g:FA):FE:=fun env C=>match g env C with
 |some (xs,e',C')=>match allIm xs with
  |some ds=>if ds.length≤LIM then some (.im (.tuple ds),e',C') else none
  |none=>none
 |none=>none
section
variable{X:Cx}{e:Expr}{es:List Expr}{pos:Pos}
theorem jk{g:FA}(h:PA X es (xM X.K g)):PE X (.List es pos) (tE X.K (fLst g)):=(akC h).weak fun σ H Q aL=>by
 obtain⟨Z,Θ,env,C,r,env',C',S,hf,q⟩:=aL
 unfold fLst at hf;split at hf
 ·rename_i xs e1 C1 h1;split at hf
  ·rename_i ds hd;split at hf
   ·rename_i hl;cases hf
    refine⟨Z,Θ,env,C,xs,env',C',S,h1,fun vs H1 k1 f1 S1 a1=>?_⟩
    have r:=Qk hd a1
    exact⟨by rw[iM r];exact qY hl,fun p hp=>q _ _ (k1.trans (aQ.upd hp)) f1 ((uH S1 r hp).from k1)⟩
   ·cases hf
  ·cases hf
 ·cases hf
theorem lg{x1}{g:FA}(h:PA X es (xM X.K g)):PE X (.Tuple es x1 pos) (tE X.K (fTup g)):=(RL h).weak fun σ H Q aL=>by
 obtain⟨Z,Θ,env,C,r,env',C',S,hf,q⟩:=aL
 unfold fTup at hf;split at hf
 ·rename_i xs e1 C1 h1;split at hf
  ·rename_i ds hd;split at hf
   ·rename_i hl;cases hf
    refine⟨Z,Θ,env,C,xs,env',C',S,h1,fun vs H1 k1 f1 S1 a1=>?_⟩
    have r:=Qk hd a1
    exact⟨by rw[iM r];exact qY hl,fun p hp=>q _ _ (k1.trans (aQ.upd hp)) f1 ((JB S1 r hp).from k1)⟩
   ·cases hf
  ·cases hf
 ·cases hf
def yF:FE:=fun env C=>some (.ow (.dict []),env,C)
theorem Zo:PE X (.Dict [] [] pos) (tE X.K yF):=ahO.weak fun σ H Q aL=>by
 obtain⟨Z,Θ,env,C,r,env',C',S,hf,q⟩:=aL
 cases hf;exact fun p hp=>q _ _ (aQ.upd hp) (Fz.refl _) (ajt (vs:=[]) S (fun _ z=>nomatch z) (.inl ⟨[],rfl,eU⟩) rfl hp)
end
def n6(K:aG)(r:List V→Hp→VK→Prop)(op:List ao→Option Vl):Prop:=
 ∀(Z Θ:List aa)(env:En)(C:Ce)(σ:St)(H:Hp)(xs:List V)(ds:List ao)(res:Vl),Sm K Z Θ env C σ H→J8 Z Θ env σ H ds xs→op ds=some res→
  ∀Q:VK,(∀v H',aQ Θ H H'→Res K Z Θ env C σ H H' res v→Q v H')→r xs H Q
def fFun(op:List ao→Option Vl)(g:xK):FE:=fun env C=>match g env C with
 |some (ds,e',C')=>match op ds with
  |some r=>some (r,rst r env e',C')
  |none=>none
 |none=>none
theorem Zq{K:aG}{r:List V→Hp→VK→Prop}{op:List ao→Option Vl}(L:n6 K r op){g:xK}:∀σ H Q,tE K (fFun op g) σ H Q→Uk r (vo K g) σ H Q:=by
 rintro σ H Q ⟨Z,Θ,env,C,res,env',C',S,hf,q⟩;unfold fFun at hf;split at hf
 ·rename_i ds e1 C1 h1;split at hf
  ·rename_i r0 h2;cases hf
   refine⟨Z,Θ,env,C,ds,e1,C',S,h1,fun vs H1 k1 f1 S1 b1=>L Z Θ e1 C' σ H1 vs ds res S1 b1 h2 Q fun z H2 k2 R=>?_⟩
   exact q z H2 (k1.trans k2) (f1.rst res) ((R.from k1).rst S (k1.trans k2))
  ·cases hf
 ·cases hf
section
variable{X:Cx}{x:Str}{p pos:Pos}{e:Expr}{es:List Expr}{g:xK}{id T:String}{r:List V→Hp→VK→Prop}{op:List ao→Option Vl}
theorem gR(hc:iQ X (.builtin id) r)(L:n6 X.K r op)(hg:Gl X x)(hm:X.mg x=none)(hv:sX x=some (.builtin id))(ha:PA X (e::es) (vo X.K g))(hn:x≠"__name__":=by decide)(hdb:(x==("__debug__":Str))=false:=by decide)
  (he:aW (e::es) X.env=(false,eval e X.env)::aW es X.env:=by rfl)(hpl:(fG pos (aW es X.env)).any (·.1)=false:=by rfl):PE X (.Call (.Name x p) (e::es) [] pos) (tE X.K (fFun op g)):=(Je hc hg hm hv ha hn hdb he hpl).weak (Zq L)
theorem vW(hc:iQ X (.type T) r)(L:n6 X.K r op)(hg:Gl X x)(hm:X.mg x=none)(hv:sX x=some (.type T))(ha:PA X (e::es) (vo X.K g))(hn:x≠"__name__":=by decide)(hdb:(x==("__debug__":Str))=false:=by decide)
  (he:aW (e::es) X.env=(false,eval e X.env)::aW es X.env:=by rfl)(hpl:(fG pos (aW es X.env)).any (·.1)=false:=by rfl):PE X (.Call (.Name x p) (e::es) [] pos) (tE X.K (fFun op g)):=(agM hc hg hm hv ha hn hdb he hpl).weak (Zq L)
end
abbrev FN:=List Vl→Ce→Option (Vl×Ce)
def spT(K:aG)(f:FN):Sp:=fun vs H Q _=>∃Z Θ C xs r C',Sm K Z Θ [] C [] H∧qt K (er (aU Z Θ [] []) H) Θ xs vs∧f xs C=some (r,C')∧
 ∀v H',aQ Θ H H'→Res K Z Θ [] C' [] H H' r v→Q v H'
def fCal(f:FN)(g:FA):FE:=fun env C=>match g env C with
 |some (xs,e',C1)=>match f xs C1 with
  |some (r,C2)=>some (r,rst r env e',C2)
  |none=>none
 |none=>none
theorem rD(h:∀a,a∈P↔a∈P'):er P H=er P' H:=by
 funext b;unfold er;by_cases hb:b∈P
 ·rw[if_pos hb,if_pos ((h b).mp hb)]
 ·rw[if_neg hb,if_neg (fun z=>hb ((h b).mpr z))]
theorem Q7(a:aa):a∈aU (Z++bM env σ) Θ [] []↔a∈aU Z Θ env σ:=by
 simp only[aU,bM,cQ,mK];constructor
 ·rintro((h|h)|h)
  ·exact .inl h
  ·exact .inr (.inr h)
  ·exact .inr (.inl h)
 ·rintro(h|h|h)
  ·exact .inl (.inl h)
  ·exact .inr h
  ·exact .inl (.inr h)
section
variable{K:aG}{Z Θ:List aa}{env:En}{C C':Ce}{σ:St}{H H':Hp}{a:aa}
theorem Sm.yO(S:Sm K Z Θ env C σ H)(ha:H a=none)(k:aQ Θ H H')(h':NT (H' a))(c:oJ Θ C' H'):Sm K (a::Z) Θ env C' σ H':=by
 have sm:bw (er (aU Z Θ env σ) H) (er (aU (a::Z) Θ env σ) H'):=kj k S.qL fun b m=>by
  rcases bI.mp m with rfl|m
  ·exact .inr ha
  ·exact .inl m
 refine⟨S.len,jH.mpr ⟨fun m=>S.yV a m ha,S.nd⟩,fun b m=>?_,fun i x e=>?_,c⟩
 ·rcases bI.mp m with rfl|m
  ·exact h'
  ·obtain⟨u,e,n⟩:=S.dom b m
   exact⟨u,k.keep _ _ e fun z=>by
    have h:=S.nd;rw[j6] at h;exact h.2.2 b m b (gJ _ z) rfl,n⟩
 ·obtain⟨v,e1,r⟩:=S.slot i x e
  refine⟨v,e1,r.same sm fun d b ex ev o' ho=>k.keep _ _ ho ?_⟩
  subst ex ev
  exact(S.nG (lJ.mpr ⟨i,d,e,e1⟩)).2
theorem Sm.bare(S:Sm K Z Θ env C σ H):Sm K (Z++bM env σ) Θ [] C [] H:=by
 refine⟨rfl,?_,fun b m=>?_,fun i x e=>by simp at e,S.cell⟩
 ·have h:=S.nd
  show((Z++bM env σ)++(Θ++[])).Nodup
  rw[mK,lB];have p:(Z++(Θ++bM env σ)).Perm (Z++(bM env σ++Θ)):=adT Z List.perm_append_comm;exact p.nodup h
 ·rcases cQ.mp m with m|m
  ·exact S.dom b m
  ·exact S.K1 b (dX _ (dX _ m))
theorem Res.back(S:Sm K Z Θ env C σ H)(k:aQ Θ H H')(h:Res K (Z++bM env σ) Θ [] C' [] H H' r v):Res K Z Θ env C' σ H H' r v:=by
 have e1:er (aU (Z++bM env σ) Θ [] []) H'=er (aU Z Θ env σ) H':=rD Q7;cases r with
 |im d=>
  obtain⟨S',r⟩:=h
  rw[e1] at r
  exact⟨S.go k S'.cell,r⟩
 |ow d=>
  obtain⟨a,rfl,hn,S',r⟩:=h
  have e2:er (aU (a::(Z++bM env σ)) Θ [] []) H'=er (aU (a::Z) Θ env σ) H':=rD fun b=>by
   show b∈a::aU (Z++bM env σ) Θ [] []↔b∈a::aU Z Θ env σ;rw[bI,bI,Q7]
  rw[e2] at r
  exact⟨a,rfl,hn,S.yO hn k (S'.dom a dm) S'.cell,r⟩
 |ce n=>exact⟨S.go k h.1.cell,h.2⟩
 |sc ns=>
  obtain⟨S',a,rfl,q⟩:=h
  rw[e1] at q
  exact⟨S.go k S'.cell,a,rfl,q⟩
end
section
variable{X:Cx}{x:Str}{k:Nat}{ps:List Str}{p pos:Pos}{e:Expr}{es:List Expr}{f:FN}{g:FA}
theorem aia{K:aG}:∀σ H Q,tE K (fCal f g) σ H Q→S7 (spT K f) [] E0 (xM K g) σ H Q:=by
 rintro σ H Q ⟨Z,Θ,env,C,res,env',C',S,hf,q⟩;unfold fCal at hf;split at hf
 ·rename_i xs e1 C1 h1;split at hf
  ·rename_i r C2 h2;cases hf
   refine⟨Z,Θ,env,C,xs,e1,C1,S,h1,fun vs H1 k1 f1 S1 a1=>?_⟩
   show spT K f (vs++[]) H1 Q E0;rw[mK];have e2:er (aU (Z++bM e1 σ) Θ [] []) H1=er (aU Z Θ e1 σ) H1:=rD Q7;rw[←e2] at a1
   exact⟨Z++bM e1 σ,Θ,C1,xs,res,C',S1.bare,a1,h2,fun v H2 k2 R=>q v H2 (k1.trans k2) (f1.rst res) (((R.back S1 k2).from k1).rst S (k1.trans k2))⟩
  ·cases hf
 ·cases hf
theorem bH(F:c7 X.prog X.w X.K X.mg X.base x k ps (spT X.K f))(hr:iT k X.A)(hg:Gl X x)(ha:PA X (e::es) (xM X.K g))(hdb:(x==("__debug__":Str))=false:=by decide)
  (he:aW (e::es) X.env=(false,eval e X.env)::aW es X.env:=by rfl)(hpl:(fG pos (aW es X.env)).any (·.1)=false:=by rfl):PE X (.Call (.Name x p) (e::es) [] pos) (tE X.K (fCal f g)):=(al0 F hr hg ha hdb he hpl).weak aia
end
theorem Pq:∀{env:En}{σ:St},(∀(i j:Nat)(d e:ao)(a:aa),env[i]?=some (some (Vl.ow d))→σ[i]?=some (some (V.ref a))→env[j]?=some (some (Vl.ow e))→σ[j]?=some (some (V.ref a))→i=j)→(bM env σ).Nodup
 |[],σ,_=>by cases σ<;>exact oA
 |_::_,[],_=>oA
 |x::en,v::s,h=>by
  rw[bM,j6]
  refine⟨?_,Pq fun i j d e a h1 h2 h3 h4=>?_,fun a ha b hb e=>?_⟩
  ·unfold own1;split
   ·exact jH.mpr ⟨by simp,oA⟩
   ·exact oA
  ·have:=h (i+1) (j+1) d e a (by simpa using h1) (by simpa using h2) (by simpa using h3) (by simpa using h4);omega
  ·subst e;unfold own1 at ha;split at ha
   ·rw[gB] at ha;subst ha
    obtain⟨j,d,h1,h2⟩:=lJ.mp hb
    have:=h 0 (j+1) _ d a rfl rfl (by simpa using h1) (by simpa using h2);omega
   ·simp at ha
theorem get_set{α:Type}{l:List α}{i j:Nat}{x y:α}(h:(l.set i x)[j]?=some y):(j=i∧y=x∧i<l.length)∨(j≠i∧l[j]?=some y):=by
 by_cases e:i=j
 ·subst e;rw[Ck,if_pos rfl] at h;split at h
  ·rename_i hl;cases h;exact .inl ⟨rfl,rfl,hl⟩
  ·cases h
 ·rw[vA e] at h;exact .inr ⟨fun z=>e z.symm,h⟩
theorem aaE{α:Type}{l:List α}{i:Nat}{x:α}(h:i<l.length):(l.set i x)[i]?=some x:=by
 rw[Ck,if_pos rfl,if_pos h]
theorem wg{env:En}{σ:St}{i:Nat}{x:Vl}{v:V}{a:aa}(h:a∈bM (env.set i (some x)) (σ.set i (some v))):a∈bM env σ∨(∃d,x=.ow d)∧v=.ref a:=by
 obtain⟨j,d,h1,h2⟩:=lJ.mp h
 rcases get_set h1 with⟨rfl,e,_⟩|⟨n,h1⟩
 ·rcases get_set h2 with⟨_,e2,_⟩|⟨n,_⟩
  ·cases e;cases e2;exact .inr ⟨⟨d,rfl⟩,rfl⟩
  ·exact absurd rfl n
 ·rcases get_set h2 with⟨e,_,_⟩|⟨_,h2⟩
  ·exact absurd e n
  ·exact .inl (lJ.mpr ⟨j,d,h1,h2⟩)
section
variable{K:aG}{Z Θ:List aa}{env:En}{C:Ce}{σ:St}{H:Hp}{a:aa}{i:Nat}{v:V}
theorem Sm.dG(S:Sm K Z Θ env C σ H):Z.Nodup∧Θ.Nodup∧(bM env σ).Nodup∧(∀b∈Z,b∉Θ):=by
 have h:=S.nd;rw[j6,j6] at h
 obtain⟨h1,⟨h2,h3,_⟩,h4⟩:=h
 exact⟨h1,h2,h3,fun b m m'=>h4 b m b (gJ _ m') rfl⟩
theorem zq(h1:Z.Nodup)(h2:Θ.Nodup)(h3:O.Nodup)(h4:∀b∈Z,b∉Θ)(h5:∀b∈O,b∉Z∧b∉Θ):(Z++(Θ++O)).Nodup:=by
 rw[j6,j6]
 refine⟨h1,⟨h2,h3,fun b m c m' e=>?_⟩,fun b m c m' e=>?_⟩
 ·subst e;exact(h5 b m').2 m
 ·subst e;rcases cQ.mp m' with m'|m'
  ·exact h4 b m m'
  ·exact(h5 b m').1 m
theorem Sm.yX(S:Sm K Z Θ env C σ H){x:Vl}(hx:∀d,x≠.ow d)(r:BK K (er (aU Z Θ env σ) H) H Θ x v):Sm K Z Θ (env.set i (some x)) C (σ.set i (some v)) H:=by
 have sub:∀b,b∈bM (env.set i (some x)) (σ.set i (some v))→b∈bM env σ:=fun b m=>by
  rcases wg m with m|⟨⟨d,e⟩,_⟩
  ·exact m
  ·exact absurd e (hx d)
 have dG:=S.dG;have sm:bw (er (aU Z Θ env σ) H) (er (aU Z Θ (env.set i (some x)) (σ.set i (some v))) H):=tV fun b m=>by
  rcases cQ.mp m with m|m
  ·exact gJ _ m
  ·rcases cQ.mp m with m|m
   ·exact dX _ (gJ _ m)
   ·exact dX _ (dX _ (sub b m))
 refine⟨by rw[vH,vH];exact S.len,?_,S.dom,fun j y e=>?_,S.cell⟩
 ·refine zq dG.1 dG.2.1 (Pq fun p q d e b h1 h2 h3 h4=>?_) dG.2.2.2 fun b m=>S.nG (sub b m)
  rcases get_set h1 with⟨rfl,e1,_⟩|⟨n1,h1⟩
  ·cases e1;exact absurd rfl (hx d)
  ·rcases get_set h3 with⟨rfl,e1,_⟩|⟨n2,h3⟩
   ·cases e1;exact absurd rfl (hx e)
   ·rcases get_set h2 with⟨e2,_,_⟩|⟨_,h2⟩
    ·exact absurd e2 n1
    ·rcases get_set h4 with⟨e4,_,_⟩|⟨_,h4⟩
     ·exact absurd e4 n2
     ·exact Dt dG.2.2.1 h1 h2 h3 h4
 ·rcases get_set e with⟨rfl,e1,hl⟩|⟨n,e⟩
  ·cases e1
   exact⟨v,aaE (by rw[S.len];exact hl),r.same sm fun d b ex _=>absurd ex (hx d)⟩
  ·obtain⟨u,e1,r1⟩:=S.slot j y e
   exact⟨u,by rw[vA (jX n)];exact e1,r1.same sm fun _ _ _ _ _ h=>h⟩
theorem Sm.acv(S:Sm K (a::Z) Θ env C σ H){d:ao}(r:jY (er (aU (a::Z) Θ env σ) H) H a d):Sm K Z Θ (env.set i (some (.ow d))) C (σ.set i (some (.ref a))) H:=by
 have sub:∀b,b∈bM (env.set i (some (.ow d))) (σ.set i (some (.ref a)))→b∈bM env σ∨b=a:=fun b m=>by
  rcases wg m with m|⟨_,e⟩
  ·exact .inl m
  ·cases e;exact .inr rfl
 have dG:=S.dG;have Gm:=jH.mp dG.1;have sm:bw (er (aU (a::Z) Θ env σ) H) (er (aU Z Θ (env.set i (some (.ow d))) (σ.set i (some (.ref a)))) H):=tV fun b m=>by
  rcases cQ.mp m with m|m
  ·exact gJ _ (dM _ m)
  ·rcases cQ.mp m with m|m
   ·exact dX _ (gJ _ m)
   ·rcases sub b m with m|rfl
    ·exact dX _ (dX _ m)
    ·exact gJ _ dm
 have acw:a∉bM env σ:=fun m=>(S.nG m).1 dm
 refine⟨by rw[vH,vH];exact S.len,?_,fun b m=>S.dom b (dM _ m),fun j y e=>?_,S.cell⟩
 ·refine zq Gm.2 dG.2.1 (Pq fun p q d1 e b h1 h2 h3 h4=>?_) (fun b m=>dG.2.2.2 b (dM _ m)) fun b m=>?_
  ·rcases get_set h1 with⟨rfl,e1,_⟩|⟨n1,h1⟩
   ·rcases get_set h3 with⟨e3,_,_⟩|⟨n2,h3⟩
    ·exact e3.symm
    ·rcases get_set h2 with⟨_,e2,_⟩|⟨n,_⟩
     ·cases e2;rcases get_set h4 with⟨e4,_,_⟩|⟨_,h4⟩
      ·exact e4.symm
      ·exact absurd (lJ.mpr ⟨q,e,h3,h4⟩) acw
     ·exact absurd rfl n
   ·rcases get_set h2 with⟨e2,_,_⟩|⟨_,h2'⟩
    ·exact absurd e2 n1
    ·have mp:=lJ.mpr ⟨p,d1,h1,h2'⟩;rcases get_set h3 with⟨rfl,e3,_⟩|⟨n2,h3⟩
     ·rcases get_set h4 with⟨_,e4,_⟩|⟨n,_⟩
      ·cases e4;exact absurd mp acw
      ·exact absurd rfl n
     ·rcases get_set h4 with⟨e4,_,_⟩|⟨_,h4⟩
      ·exact absurd e4 n2
      ·exact Dt dG.2.2.1 h1 h2' h3 h4
  ·rcases sub b m with m|rfl
   ·obtain⟨p,q⟩:=S.nG m
    exact⟨fun z=>p (dM _ z),q⟩
   ·exact⟨Gm.1,dG.2.2.2 b dm⟩
 ·rcases get_set e with⟨rfl,e1,hl⟩|⟨n,e⟩
  ·cases e1
   exact⟨_,aaE (by rw[S.len];exact hl),a,rfl,r.same sm fun _ h=>h⟩
  ·obtain⟨u,e1,r1⟩:=S.slot j y e
   exact⟨u,by rw[vA (jX n)];exact e1,r1.same sm fun _ _ _ _ _ h=>h⟩
theorem Res.set(h:Res K Z Θ env C σ H0 H r v):Sm K Z Θ (env.set i (some r)) C (σ.set i (some v)) H:=by
 cases r with
 |im d=>exact h.1.yX (fun _ e=>nomatch e) h.2
 |ow d=>obtain⟨a,rfl,_,S,r⟩:=h;exact S.acv r
 |ce n=>exact h.1.yX (fun _ e=>nomatch e) h.2
 |sc ns=>exact h.1.yX (fun _ e=>nomatch e) h.2
end
inductive Fl where
 |nx|rt (r:Vl)|bk|ct
abbrev FS:=En→Ce→Option (Fl×En×Ce)
structure jR(Θ Θ':List aa)(H:Hp):Prop where
 ex:∃Δ,Θ'=Θ++Δ∧∀a∈Δ,H a=none
theorem jR.refl(Θ:List aa)(H:Hp):jR Θ Θ H:=⟨[],by rw[mK],fun _ m=>nomatch m⟩
structure dI(K:aG)(Z Θ:List aa)(env:En)(σ:St)(H:Hp)(Θ':List aa)(env':En)(C':Ce)(σ':St)(H':Hp):Prop where
 th:jR Θ Θ' H
 kp:aQ (Θ++bM env σ) H H'
 own:∀a∈bM env' σ',a∈bM env σ∨H a=none
 sm:Sm K Z Θ' env' C' σ' H'
def Kd(K:aG)(Z Θ:List aa)(C:Ce)(own:List aa)(H H':Hp):Vl→V→Prop
 |.im d,v=>Sm K Z Θ [] C [] H'∧RZ (er (aU Z Θ [] []) H') d v
 |.ow d,v=>∃a,v=.ref a∧(a∈own∨H a=none)∧Sm K (a::Z) Θ [] C [] H'∧jY (er (aU (a::Z) Θ [] []) H') H' a d
 |.ce n,v=>Sm K Z Θ [] C [] H'∧∃a,v=.ref a∧Θ[n]?=some a
 |.sc ns,v=>Sm K Z Θ [] C [] H'∧∃a,v=.ref a∧bL K (er (aU Z Θ [] []) H') a (ns.map V.int)
structure Uw(K:aG)(Z Θ:List aa)(env:En)(σ:St)(H:Hp)(Θ':List aa)(C':Ce)(r:Vl)(v:V)(H':Hp):Prop where
 th:jR Θ Θ' H
 kp:aQ (Θ++bM env σ) H H'
 ok:Kd K Z Θ' C' (bM env σ) H H' r v
def Ko(K:aG)(Z Θ:List aa)(env:En)(σ:St)(H:Hp)(env':En)(C':Ce)(D:Ends):Fl→Prop
 |.nx=>∀Θ' σ' H',dI K Z Θ env σ H Θ' env' C' σ' H'→D.nx σ' H'
 |.bk=>∀Θ' σ' H',dI K Z Θ env σ H Θ' env' C' σ' H'→D.bk σ' H'
 |.ct=>∀Θ' σ' H',dI K Z Θ env σ H Θ' env' C' σ' H'→D.ct σ' H'
 |.rt r=>∀Θ' v H',Uw K Z Θ env σ H Θ' C' r v H'→D.rt v H'
inductive tS(K:aG)(f:FS)(D:Ends)(σ:St)(H:Hp):Prop
 |mk (Z Θ:List aa) (env:En) (C:Ce) (fl:Fl) (env':En) (C':Ce) (S:Sm K Z Θ env C σ H) (hf:f env C=some (fl,env',C')) (q:Ko K Z Θ env σ H env' C' D fl):tS K f D σ H
section
variable{K:aG}{Z Θ Θ1 Θ2:List aa}{env e1 e2:En}{C C1 C2:Ce}{σ σ1 σ2:St}{H H1 H2:Hp}
theorem jR.trans(h:jR Θ Θ1 H)(k:∀a,H a≠none→H1 a≠none)(g:jR Θ1 Θ2 H1):jR Θ Θ2 H:=by
 obtain⟨Δ,e,n⟩:=h.ex
 obtain⟨Δ',e',n'⟩:=g.ex
 refine⟨Δ++Δ',by rw[e',e,lB],fun a m=>?_⟩
 rcases cQ.mp m with m|m
 ·exact n a m
 ·cases h:H a with
  |none=>rfl
  |some o=>exact absurd (n' a m) (k a (by rw[h];exact vC _))
theorem Zr(th:jR Θ Θ1 H)(k1:aQ (Θ++bM env σ) H H1)(ow:∀a∈bM e1 σ1,a∈bM env σ∨H a=none)(k2:aQ (Θ1++bM e1 σ1) H1 H2):aQ (Θ++bM env σ) H H2:=by
 refine⟨fun a o e n=>k2.keep a o (k1.keep a o e n) fun m=>n ?_,fun a e=>k2.dom a (k1.dom a e)⟩
 have hn:H a≠none:=by rw[e];exact vC _
 rcases cQ.mp m with m|m
 ·obtain⟨Δ,e',n'⟩:=th.ex
  rw[e'] at m;rcases cQ.mp m with m|m
  ·exact gJ _ m
  ·exact absurd (n' a m) hn
 ·rcases ow a m with m|m
  ·exact dX _ m
  ·exact absurd m hn
theorem dI.trans(p:dI K Z Θ env σ H Θ1 e1 C1 σ1 H1)(q:dI K Z Θ1 e1 σ1 H1 Θ2 e2 C2 σ2 H2):dI K Z Θ env σ H Θ2 e2 C2 σ2 H2 where
 th:=p.th.trans p.kp.dom q.th
 kp:=Zr p.th p.kp p.own q.kp
 own:=fun a m=>by
  rcases q.own a m with m|m
  ·exact p.own a m
  ·exact .inr (p.kp.none m)
 sm:=q.sm
theorem dI.ret(p:dI K Z Θ env σ H Θ1 e1 C1 σ1 H1)(q:Uw K Z Θ1 e1 σ1 H1 Θ2 C2 r v H2):Uw K Z Θ env σ H Θ2 C2 r v H2 where
 th:=p.th.trans p.kp.dom q.th
 kp:=Zr p.th p.kp p.own q.kp
 ok:=by
  have h:=q.ok;cases r with
  |im d=>exact h
  |ow d=>
   obtain⟨a,e,m,S,r⟩:=h
   refine⟨a,e,?_,S,r⟩
   rcases m with m|m
   ·exact p.own a m
   ·exact .inr (p.kp.none m)
  |ce n=>exact h
  |sc ns=>exact h
theorem Ko.trans(p:dI K Z Θ env σ H Θ1 e1 C1 σ1 H1)(h:Ko K Z Θ env σ H e2 C2 D fl):Ko K Z Θ1 e1 σ1 H1 e2 C2 D fl:=by
 cases fl with
 |nx=>exact fun Θ' σ' H' q=>h Θ' σ' H' (p.trans q)
 |bk=>exact fun Θ' σ' H' q=>h Θ' σ' H' (p.trans q)
 |ct=>exact fun Θ' σ' H' q=>h Θ' σ' H' (p.trans q)
 |rt r=>exact fun Θ' v H' q=>h Θ' v H' (p.ret q)
theorem uI(k:aQ Θ H H1):aQ (Θ++O) H H1:=⟨fun a o e n=>k.keep a o e fun m=>n (gJ _ m),k.dom⟩
theorem dI.qM(k:aQ Θ H H1)(f:Fz env e1)(S:Sm K Z Θ e1 C1 σ H1):dI K Z Θ env σ H Θ e1 C1 σ H1:=
 ⟨jR.refl _ _,uI k,fun a m=>.inl (f.own.subset m),S⟩
end
def fNext:FS:=fun env C=>some (.nx,env,C)
def fSeq(f g:FS):FS:=fun env C=>match f env C with
 |some (.nx,e1,C1)=>g e1 C1
 |r=>r
def jx(c:FT)(f g:FS):FS:=fun env C=>match c env C with
 |some (true,C1)=>f env C1
 |some (false,C1)=>g env C1
 |none=>none
def fRet(f:FE):FS:=fun env C=>match f env C with
 |some (r,e1,C1)=>some (.rt r,e1,C1)
 |none=>none
def fRetV(i:Nat):FS:=fun env C=>match env[i]? with
 |some (some x)=>some (.rt x,env,C)
 |_=>none
def fSet(i:Nat)(f:FE):FS:=fun env C=>match f env C with
 |some (r,e1,C1)=>some (.nx,e1.set i (some r),C1)
 |none=>none
section
variable{X:Cx}{st:cZ}{rest:List cZ}{pos:Pos}
theorem dI.same{K:aG}{Z Θ:List aa}{env:En}{C:Ce}{σ:St}{H:Hp}(S:Sm K Z Θ env C σ H):dI K Z Θ env σ H Θ env C σ H:=dI.qM (aQ.refl _ _) (Fz.refl _) S
theorem lM:jl X [] (tS X.K fNext):=aiX.weak fun D σ H aL=>by
 obtain⟨Z,Θ,env,C,fl,env',C',S,hf,q⟩:=aL
 cases hf;exact q Θ σ H (dI.same S)
theorem cj(h:PS X st (tS X.K f)):jl X [st] (tS X.K f):=aiY h
theorem aib{K:aG}{f g:FS}:∀D σ H,tS K (fSeq f g) D σ H→ab4 (tS K f) (tS K g) D σ H:=by
 rintro D σ H ⟨Z,Θ,env,C,fl,env',C',S,hf,q⟩;unfold fSeq at hf;split at hf
 ·rename_i e1 C1 h1
  exact⟨Z,Θ,env,C,.nx,e1,C1,S,h1,fun Θ1 σ1 H1 p=>⟨Z,Θ1,e1,C1,fl,env',C',p.sm,hf,q.trans p⟩⟩
 ·rename_i hne
  refine⟨Z,Θ,env,C,fl,env',C',S,hf,?_⟩
  cases fl with
  |nx=>exact absurd hf (hne _ _)
  |bk=>exact q
  |ct=>exact q
  |rt r=>exact q
theorem bG(h:PS X st (tS X.K f))(hr:jl X rest (tS X.K g)):jl X (st::rest) (tS X.K (fSeq f g)):=(ahF h hr).weak aib
theorem lO(hc:PT X c (fH X.K t))(ha:jl X a (tS X.K f))(hb:jl X b (tS X.K g)):PS X (.If c a b pos) (tS X.K (jx t f g)):=(alH hc ha hb).weak fun D σ H aL=>by
 obtain⟨Z,Θ,env,C,fl,env',C',S,hf,q⟩:=aL
 unfold jx at hf;split at hf
 ·rename_i C1 h1
  exact⟨Z,Θ,env,C,true,C1,S,h1,fun H1 k1 S1=>wV ⟨Z,Θ,env,C1,fl,env',C',S1,hf,q.trans (dI.qM k1 (Fz.refl _) S1)⟩⟩
 ·rename_i C1 h1
  exact⟨Z,Θ,env,C,false,C1,S,h1,fun H1 k1 S1=>wU ⟨Z,Θ,env,C1,fl,env',C',S1,hf,q.trans (dI.qM k1 (Fz.refl _) S1)⟩⟩
 ·cases hf
theorem Sm.none{K:aG}{Z Θ:List aa}{env:En}{C:Ce}{σ:St}{H:Hp}(S:Sm K Z Θ env C σ H):Sm K Z Θ [] C [] H:=by
 have dG:=S.dG
 exact⟨rfl,zq dG.1 dG.2.1 oA dG.2.2.2 (fun _ m=>nomatch m),S.dom,fun i x e=>by simp at e,S.cell⟩
theorem Dh:bw (er (aU Z Θ env σ) H) (er (aU Z Θ [] []) H):=tV fun b m=>by
 rcases cQ.mp m with m|m
 ·exact gJ _ m
 ·rcases cQ.mp m with m|m
  ·exact dX _ (gJ _ m)
  ·nomatch m
theorem Res.ret{K:aG}{Z Θ:List aa}{env:En}{C:Ce}{σ:St}{H H':Hp}{O:List aa}{r:Vl}{v:V}(h:Res K Z Θ env C σ H H' r v):Kd K Z Θ C O H H' r v:=by
 cases r with
 |im d=>exact⟨h.1.none,h.2.same Dh⟩
 |ow d=>obtain⟨a,e,n,S,r⟩:=h;exact⟨a,e,.inr n,S.none,r.same Dh fun _ h=>h⟩
 |ce n=>exact⟨h.1.none,h.2⟩
 |sc ns=>obtain⟨S,a,e,q⟩:=h;exact⟨S.none,a,e,Dh.seq q⟩
theorem gW(h:PE X e (tE X.K f)):PS X (.Return (some e) pos) (tS X.K (fRet f)):=(aa9 h).weak fun D σ H aL=>by
 obtain⟨Z,Θ,env,C,fl,env',C',S,hf,q⟩:=aL
 unfold fRet at hf;split at hf
 ·rename_i r e1 C1 h1;cases hf
  exact⟨Z,Θ,env,C,r,env',C',S,h1,fun v H1 k f R=>q Θ v H1 ⟨jR.refl _ _,uI k,R.ret⟩⟩
 ·cases hf
theorem qi(h:PE X e (pR i)):PS X (.Return (some e) pos) (tS X.K (fRetV i)):=(aa9 h).weak fun D σ H aL=>by
 obtain⟨Z,Θ,env,C,fl,env',C',S,hf,q⟩:=aL
 unfold fRetV at hf;split at hf
 ·rename_i x hx;cases hf
  obtain⟨v,e1,r⟩:=S.slot i x hx
  refine⟨v,e1,q Θ v H ⟨jR.refl _ _,aQ.refl _ _,?_⟩⟩
  cases x with
  |im d=>exact⟨S.none,RZ.same Dh r⟩
  |ow d=>
   obtain⟨a,rfl,r⟩:=r
   have m:a∈bM env σ:=lJ.mpr ⟨i,d,hx,e1⟩;have sm:bw (er (aU Z Θ env σ) H) (er (aU (a::Z) Θ [] []) H):=tV fun b mb=>by
    rcases cQ.mp mb with mb|mb
    ·rcases bI.mp mb with rfl|mb
     ·exact dX _ (dX _ m)
     ·exact gJ _ mb
    ·rcases cQ.mp mb with mb|mb
     ·exact dX _ (gJ _ mb)
     ·nomatch mb
   have dG:=S.dG
   refine⟨a,rfl,.inl m,⟨rfl,zq (jH.mpr ⟨(S.nG m).1,dG.1⟩) dG.2.1 oA (fun b mb=>?_) (fun _ m=>nomatch m),fun b mb=>?_,fun i x e=>by simp at e,S.cell⟩,r.same sm fun _ h=>h⟩
   ·rcases bI.mp mb with rfl|mb
    ·exact(S.nG m).2
    ·exact dG.2.2.2 b mb
   ·rcases bI.mp mb with rfl|mb
    ·exact r.nt
    ·exact S.dom b mb
  |ce n=>exact⟨S.none,r⟩
  |sc ns=>obtain⟨a,e,q⟩:=r;exact⟨S.none,a,e,Dh.seq q⟩
 ·cases hf
theorem Ql{K:aG}{i:Nat}{t:TE}{f:FE}(w:∀σ H Q,tE K f σ H Q→t σ H Q):∀D σ H,tS K (fSet i f) D σ H→By t (wI i) D σ H:=by
 rintro D σ H ⟨Z,Θ,env,C,fl,env',C',S,hf,q⟩;unfold fSet at hf;split at hf
 ·rename_i r e1 C1 h1;cases hf;refine w _ _ _ ⟨Z,Θ,env,C,r,e1,C',S,h1,fun v H1 k f R=>q Θ _ H1 ⟨jR.refl _ _,uI k,fun a m=>?_,R.set⟩⟩;rcases wg m with m|⟨⟨d,e⟩,e2⟩
  ·exact .inl (f.own.subset m)
  ·subst e
   obtain⟨b,e3,n,_⟩:=R
   rw[e2] at e3;cases e3;exact .inr n
 ·cases hf
theorem eN(hN:X.N.Nodup)(hi:X.N[i]?=some x)(hx:Loc X.env.scope x)(he:PE X e (tE X.K f))(hs:tK e (some (.Name x pos')) pos.line X.env=pure false:=by rfl)(hf:X.fn x=true∨X.env.scope.names.lookup x=some .local:=by first|exact .inl rfl|exact .inr rfl|assumption):
  PS X (.Assign [.Name x pos'] e pos) (tS X.K (fSet i f)):=(aba hN hi hx he hs hf).weak (Ql fun _ _ _ h=>h)
end
abbrev FG:=ao→En→Option En
abbrev Gn:=List ao→En→Option En
def BX(K:aG)(g:TG)(fg:FG):Prop:=∀(Z Θ:List aa)(env:En)(C:Ce)(σ:St)(H:Hp)(v:V)(d:ao)(env':En),Sm K Z Θ env C σ H→RZ (er (aU Z Θ env σ) H) d v→fg d env=some env'→
 ∀Q:St→Hp→Prop,(∀σ',Sm K Z Θ env' C σ' H→(∀a∈bM env' σ',a∈bM env σ)→Q σ' H)→g v σ H Q
def Kq(K:aG)(g:vg)(fg:Gn):Prop:=∀(Z Θ:List aa)(env:En)(C:Ce)(σ:St)(H:Hp)(vs:List V)(ds:List ao)(env':En),Sm K Z Θ env C σ H→cD (er (aU Z Θ env σ) H) ds vs→fg ds env=some env'→
 ∀Q:St→Hp→Prop,(∀σ',Sm K Z Θ env' C σ' H→(∀a∈bM env' σ',a∈bM env σ)→Q σ' H)→g vs σ H Q
def gNm(i:Nat):FG:=fun d env=>some (env.set i (some (.im d)))
def gsNil:Gn:=fun ds env=>match ds with
 |[]=>some env
 |_=>none
def gsCons(g:FG)(u:Gn):Gn:=fun ds env=>match ds with
 |d::r=>match g d env with
  |some e1=>u r e1
  |none=>none
 |[]=>none
def gTp(n:Nat)(u:Gn):FG:=fun d env=>match d with
 |.tuple ds=>if ds.length=n then u ds env else none
 |_=>none
theorem abr(h:∀a∈bM e1 σ1,a∈bM env σ):bw (er (aU Z Θ env σ) H) (er (aU Z Θ e1 σ1) H):=tV fun b m=>by
 rcases cQ.mp m with m|m
 ·exact gJ _ m
 ·rcases cQ.mp m with m|m
  ·exact dX _ (gJ _ m)
  ·exact dX _ (dX _ (h b m))
section
variable{K:aG}
theorem ji:BX K (wI i) (gNm i):=by
 intro Z Θ env C σ H v d env' S r e Q q;cases e;refine q _ (S.yX (fun _ z=>nomatch z) r) fun a m=>?_
 rcases wg m with m|⟨⟨_,z⟩,_⟩
 ·exact m
 ·cases z
theorem JD:Kq K Tz gsNil:=by
 intro Z Θ env C σ H vs ds env' S r e Q q;unfold gsNil at e;split at e
 ·cases e
  exact⟨r,q _ S fun _ m=>m⟩
 ·cases e
theorem qZ(h:BX K g fg)(hu:Kq K u fu):Kq K (SN g u) (gsCons fg fu):=by
 intro Z Θ env C σ H vs ds env' S r e Q q;unfold gsCons at e;split at e
 ·rename_i d r'
  obtain⟨v,ws,rfl,r1,r2⟩:=r
  split at e
  ·rename_i e1 h1
   refine⟨v,ws,rfl,h Z Θ env C σ H v d e1 S r1 h1 _ fun σ1 S1 o1=>?_⟩
   exact hu Z Θ e1 C σ1 H ws r' env' S1 (r2.same (abr o1)) e Q fun σ2 S2 o2=>q σ2 S2 fun a m=>o1 a (o2 a m)
  ·cases e
 ·cases e
theorem JW(hu:Kq K u fu):BX K (TF K n u) (gTp n fu):=by
 intro Z Θ env C σ H v d env' S r e Q q;unfold gTp at e;split at e
 ·rename_i ds;split at e
  ·rename_i hl
   obtain⟨a,vs,rfl,ha,r⟩:=r
   exact⟨a,vs,rfl,cU.of (jb ha),(iM r).trans hl,hu Z Θ env C σ H vs ds env' S r e Q q⟩
  ·cases e
 ·cases e
end
def fUnp(f:FE)(g:FG):FS:=fun env C=>match f env C with
 |some (r,e1,C1)=>match still r with
  |.im d=>match g d e1 with
   |some e2=>some (.nx,e2,C1)
   |none=>none
  |_=>none
 |none=>none
theorem Res.ud{K:aG}{Z Θ:List aa}{env:En}{C:Ce}{σ:St}{H H':Hp}{r:Vl}{v:V}{d:ao}(h:Res K Z Θ env C σ H H' r v)(e:L2.still r=.im d):Sm K Z Θ env C σ H'∧RZ (er (aU Z Θ env σ) H') d v:=by
 have g:=h.still;rw[e] at g;exact g
section
variable{X:Cx}{pos:Pos}
theorem RW{tg e:Expr}{f:FE}{g:TG}{fg:FG}(he:PE X e (tE X.K f))(hg:PG X tg g)(L:BX X.K g fg)(hs:xY [tg] e pos.line X.env=pure false:=by rfl)(hw:xZ [tg] e X.env=pure none:=by rfl)(h1:(tG [tg] X.env).map (·.2)=[assign tg X.env]:=by rfl):
  PS X (.Assign [tg] e pos) (tS X.K (fUnp f fg)):=(RB he hg hs hw h1).weak fun D σ H aL=>by
 obtain⟨Z,Θ,env,C,fl,env',C',S,hf,q⟩:=aL
 unfold fUnp at hf;split at hf
 ·rename_i r e1 C1 h1;split at hf
  ·rename_i d hd;split at hf
   ·rename_i e2 h2;cases hf
    refine⟨Z,Θ,env,C,r,e1,C',S,h1,fun v H1 k f R=>?_⟩
    obtain⟨S1,r1⟩:=R.ud hd
    exact L Z Θ e1 C' σ H1 v d env' S1 r1 h2 D.nx fun σ' S' o=>q Θ σ' H1 ⟨jR.refl _ _,uI k,fun a m=>.inl (f.own.subset (o a m)),S'⟩
   ·cases hf
  ·cases hf
 ·cases hf
end
inductive nM(K:aG)(E H:Hp)(Θ:List aa):List aa→List Vl→List V→Prop
 |nil:nM K E H Θ [] [] []
 |cons {as:List aa} {x:Vl} {v:V} {xs:List Vl} {vs:List V}:uR K E Θ x v→nM K E H Θ as xs vs→nM K E H Θ as (x::xs) (v::vs)
 |own {as:List aa} {a:aa} {d:ao} {xs:List Vl} {vs:List V}:jY E H a d→nM K E H Θ as xs vs→nM K E H Θ (as++[a]) (.ow d::xs) (.ref a::vs)
theorem nM.same{K:aG}{E E' H:Hp}{Θ as:List aa}{xs:List Vl}{vs:List V}(s:bw E E')(h:nM K E H Θ as xs vs):nM K E' H Θ as xs vs:=by
 induction h with
 |nil=>exact .nil
 |cons a _ ih=>exact .cons (a.same s) ih
 |own r _ ih=>exact .own (r.same s fun _ h=>h) ih
theorem nM.heap{K:aG}{E H H':Hp}{Θ as:List aa}{xs:List Vl}{vs:List V}(s:bw H H')(h:nM K E H Θ as xs vs):nM K E H' Θ as xs vs:=by
 induction h with
 |nil=>exact .nil
 |cons a _ ih=>exact .cons a ih
 |own r _ ih=>exact .own (r.same (bw.refl _) fun o ho=>s _ _ ho) ih
inductive xN(K:aG)(f:FA)(σ:St)(H:Hp)(Q:List V→Hp→Prop):Prop
 |mk (Z Θ:List aa) (env:En) (C:Ce) (xs:List Vl) (env':En) (C':Ce) (S:Sm K Z Θ env C σ H) (hf:f env C=some (xs,env',C')) (q:∀vs as H',aQ Θ H H'→Fz env env'→(∀a∈as,H a=none)→Sm K (as++Z) Θ env' C' σ H'→nM K (er (aU (as++Z) Θ env' σ) H') H' Θ as xs vs→Q vs H'):xN K f σ H Q
def oCons(f:FE)(g:FA):FA:=fun env C=>match f env C with
 |some (r,e1,C1)=>match g e1 C1 with
  |some (xs,e2,C2)=>some (r::xs,e2,C2)
  |none=>none
 |none=>none
section
variable{K:aG}{Z Z' Θ:List aa}{env:En}{C:Ce}{σ:St}{H:Hp}
theorem jr:a∈aU Z Θ env σ↔a∈Z∨a∈Θ∨a∈bM env σ:=by rw[cQ,cQ]
theorem Sm.perm(S:Sm K Z Θ env C σ H)(p:Z.Perm Z'):Sm K Z' Θ env C σ H:=by
 have e:er (aU Z Θ env σ) H=er (aU Z' Θ env σ) H:=rD fun a=>by rw[jr,jr,p.mem_iff]
 refine⟨S.len,(List.Perm.append_right _ p).nodup S.nd,fun a m=>S.dom a (p.mem_iff.mpr m),fun i x h=>?_,S.cell⟩
 rw[←e];exact S.slot i x h
end
section
variable{X:Cx}{e:Expr}{es:List Expr}{pos:Pos}
theorem qu:PA X [] (xN X.K aNil):=pH.weak fun σ H Q aL=>by
 obtain⟨Z,Θ,env,C,xs,env',C',S,hf,q⟩:=aL
 cases hf;exact q [] [] H (aQ.refl _ _) (Fz.refl _) (fun _ m=>nomatch m) S .nil
theorem iz(h:PE X e (tE X.K f))(hr:PA X es (xN X.K g))(hs:aW (e::es) X.env=(false,eval e X.env)::aW es X.env:=by rfl):PA X (e::es) (xN X.K (oCons f g)):=(mU h hr hs).weak fun σ H Q aL=>by
 obtain⟨Z,Θ,env,C,xs,env',C',S,hf,q⟩:=aL
 unfold oCons at hf;split at hf
 ·rename_i r e1 C1 h1;split at hf
  ·rename_i ys e2 C2 h2;cases hf
   refine⟨Z,Θ,env,C,r,e1,C1,S,h1,fun v H1 k1 f1 R1=>?_⟩
   have plain:∀{x:Vl},Sm X.K Z Θ e1 C1 σ H1→uR X.K (er (aU Z Θ e1 σ) H1) Θ x v→r=x→xN X.K g σ H1 fun xs H2=>Q (v::xs) H2:=fun{x} S1 a1 ex=>by
    subst ex
    refine⟨Z,Θ,e1,C1,ys,env',C',S1,h2,fun vs as H2 k2 f2 n2 S2 a2=>q _ as H2 (k1.trans k2) (f1.trans f2) (fun a m=>k1.none (n2 a m)) S2 (.cons (a1.same (kj k2 S1.qL fun a m=>?_)) a2)⟩
    rcases cQ.mp m with m|m
    ·rcases cQ.mp m with m|m
     ·exact .inr (n2 a m)
     ·exact .inl (gJ _ m)
    ·exact .inl (f2.sub (Z:=Z) a (dX _ m))
   cases r with
   |im d=>exact plain (x:=.im d) R1.1 R1.2 rfl
   |ce n=>exact plain (x:=.ce n) R1.1 R1.2 rfl
   |sc ns=>exact plain (x:=.sc ns) R1.1 R1.2 rfl
   |ow d=>
    obtain⟨a,rfl,hn,S1,r1⟩:=R1
    refine⟨a::Z,Θ,e1,C1,ys,env',C',S1,h2,fun vs as H2 k2 f2 n2 S2 a2=>?_⟩
    have ez:as++a::Z=(as++[a])++Z:=by rw[lB];rfl
    rw[ez] at S2 a2;have na:a∉Θ:=fun m=>(S1.dG.2.2.2 a dm) m
    refine q _ (as++[a]) H2 (k1.trans k2) (f1.trans f2) (fun b m=>?_) S2 (.own (r1.same (kj k2 S1.qL fun b m=>?_) fun o ho=>k2.keep _ _ ho na) a2)
    ·rcases cQ.mp m with m|m
     ·exact k1.none (n2 b m)
     ·rw[gB.mp m];exact hn
    ·rcases cQ.mp m with m|m
     ·rcases cQ.mp m with m|m
      ·rcases cQ.mp m with m|m
       ·exact .inr (n2 b m)
       ·rw[gB.mp m];exact .inl dm
      ·exact .inl (gJ _ (dM _ m))
     ·exact .inl (f2.sub (Z:=a::Z) b (dX _ m))
  ·cases hf
 ·cases hf
end
def setM{α:Type}:List Nat→List α→List (Option α)→List (Option α)
 |i::is,x::xs,e=>setM is xs (e.set i (some x))
 |_,_,e=>e
theorem Q8{K:aG}{Z Θ:List aa}{C:Ce}{H:Hp}{E:Hp}:∀{as:List aa}{xs:List Vl}{vs:List V},nM K E H Θ as xs vs→∀{is:List Nat}{env:En}{σ:St},is.length=xs.length→bw E (er (aU (as++Z) Θ env σ) H)→Sm K (as++Z) Θ env C σ H→
  Sm K Z Θ (setM is xs env) C (setM is vs σ) H∧∀a∈bM (setM is xs env) (setM is vs σ),a∈bM env σ∨a∈as:=by
 intro as xs vs h;induction h with
 |nil=>
  intro is env σ hl _ S;cases is with
  |nil=>exact⟨S,fun a m=>.inl m⟩
  |cons _ _=>cases hl
 |@cons as x v xs vs a1 _ ih=>
  intro is env σ hl sm S;cases is with
  |nil=>cases hl
  |cons i is=>
   have hx:∀d,x≠.ow d:=fun d z=>by subst z;exact a1
   have sl:BK K (er (aU (as++Z) Θ env σ) H) H Θ x v:=by
    have a2:=a1.same sm;cases x with
    |im d=>exact a2
    |ow d=>exact absurd rfl (hx d)
    |ce n=>exact a2
    |sc ns=>exact a2
   have S1:Sm K (as++Z) Θ (env.set i (some x)) C (σ.set i (some v)) H:=S.yX hx sl;have o1:∀b∈bM (env.set i (some x)) (σ.set i (some v)),b∈bM env σ:=fun b m=>by
    rcases wg m with m|⟨⟨d,z⟩,_⟩
    ·exact m
    ·exact absurd z (hx d)
   obtain⟨S2,o2⟩:=ih (is:=is) (by simpa using hl) (sm.trans (abr o1)) S1
   refine⟨S2,fun b m=>?_⟩
   rcases o2 b m with m|m
   ·exact .inl (o1 b m)
   ·exact .inr m
 |@own as a d xs vs r _ ih=>
  intro is env σ hl sm S;cases is with
  |nil=>cases hl
  |cons i is=>
   have pm:((as++[a])++Z).Perm (a::(as++Z)):=by
    rw[lB];exact List.perm_middle
   have S0:=S.perm pm;have ee:er (aU ((as++[a])++Z) Θ env σ) H=er (aU (a::(as++Z)) Θ env σ) H:=rD fun b=>by rw[jr,jr,pm.mem_iff]
   rw[ee] at sm;have S1:Sm K (as++Z) Θ (env.set i (some (.ow d))) C (σ.set i (some (.ref a))) H:=S0.acv (r.same sm fun _ h=>h);have o1:∀b∈bM (env.set i (some (.ow d))) (σ.set i (some (.ref a))),b∈bM env σ∨b=a:=fun b m=>by
    rcases wg m with m|⟨_,z⟩
    ·exact .inl m
    ·cases z;exact .inr rfl
   obtain⟨S2,o2⟩:=ih (is:=is) (by simpa using hl) (sm.trans (tV fun b m=>by
    rcases cQ.mp m with m|m
    ·exact gJ _ (dM _ m)
    ·rcases cQ.mp m with m|m
     ·exact dX _ (gJ _ m)
     ·rcases o1 b m with m|rfl
      ·exact dX _ (dX _ m)
      ·exact gJ _ dm)) S1
   refine⟨S2,fun b m=>?_⟩
   rcases o2 b m with m|m
   ·rcases o1 b m with m|rfl
    ·exact .inl m
    ·exact .inr (dX _ (gB.mpr rfl))
   ·exact .inr (gJ _ m)
theorem JF{K:aG}{E H:Hp}{Θ as:List aa}{xs:List Vl}{vs:List V}(h:nM K E H Θ as xs vs):vs.length=xs.length:=by
 induction h with
 |nil=>rfl
 |cons _ _ ih=>rw[dH,dH,ih]
 |own _ _ ih=>rw[dH,dH,ih]
def fPar(is:List Nat)(g:FA):FS:=fun env C=>match g env C with
 |some (xs,e1,C1)=>if is.length=xs.length∧xs.length≤LIM then some (.nx,setM is xs e1,C1) else none
 |none=>none
def Ux(is:List Nat):vg:=match is with
 |[]=>Tz
 |i::r=>SN (wI i) (Ux r)
theorem aaF:∀{is:List Nat}{vs:List V}{σ:St}{H:Hp}{Q:St→Hp→Prop},is.length=vs.length→Q (setM is vs σ) H→Ux is vs σ H Q
 |[],[],σ,H,Q,_,q=>⟨rfl,q⟩
 |i::is,v::vs,σ,H,Q,h,q=>⟨v,vs,rfl,aaF (by simpa using h) q⟩
 |[],_::_,_,_,_,h,_=>by cases h
 |_::_,[],_,_,_,h,_=>by cases h
section
variable{X:Cx}{pos:Pos}
theorem wF{i j:Nat}{x y:Str}{a b:Expr}{g:FA}{px py pt:Pos}{kt k2 nY}(hc:X.calm=true)(hN:X.N.Nodup)(hi:X.N[i]?=some x)(hj:X.N[j]?=some y)(hij:i≠j)
  (hx:X.env.scope.names.lookup x=some .local)(hy:X.env.scope.names.lookup y=some .local)(ha:PA X [a,b] (xN X.K g))
  (hw:xZ [.Tuple [.Name x px,.Name y py] kt pt] (.Tuple [a,b] k2 nY) X.env=pure (some [x,y]))
  (hs:xY [.Tuple [.Name x px,.Name y py] kt pt] (.Tuple [a,b] k2 nY) pos.line X.env=pure false:=by rfl):
  PS X (.Assign [.Tuple [.Name x px,.Name y py] kt pt] (.Tuple [a,b] k2 nY) pos) (tS X.K (fPar [i,j] g)):=(akt hc hN hi hj hij hx hy ha hw hs).weak fun D σ H aL=>by
 obtain⟨Z,Θ,env,C,fl,env',C',S,hf,q⟩:=aL
 unfold fPar at hf;split at hf
 ·rename_i xs e1 C1 h1;split at hf
  ·rename_i hl;cases hf
   refine⟨Z,Θ,env,C,xs,e1,C',S,h1,fun vs as H1 k1 f1 n1 S1 a1=>?_⟩
   have l2:=JF a1
   obtain⟨S2,o2⟩:=Q8 a1 hl.1 (bw.refl _) S1
   have e2:∃v w,vs=[v,w]:=by
    have:vs.length=2:=by rw[l2,←hl.1];rfl
    match vs,this with
    |[v,w],_=>exact⟨v,w,rfl⟩
   obtain⟨v,w,rfl⟩:=e2
   refine⟨v,w,rfl,q Θ _ H1 ⟨jR.refl _ _,uI k1,fun b m=>?_,S2⟩⟩
   rcases o2 b m with m|m
   ·exact .inl (f1.own.subset m)
   ·exact .inr (n1 b m)
  ·cases hf
 ·cases hf
theorem Q9{tg:Expr}{es:List Expr}{g:FA}{is:List Nat}{n:Nat}{x1 pt}(ha:PA X es (xN X.K g))(hg:PG X tg (TF X.K n (Ux is)))(hn:n=is.length:=by rfl)
  (hs:xY [tg] (.Tuple es x1 pt) pos.line X.env=pure false:=by rfl)(hw:xZ [tg] (.Tuple es x1 pt) X.env=pure none:=by rfl)(h1:(tG [tg] X.env).map (·.2)=[assign tg X.env]:=by rfl):
  PS X (.Assign [tg] (.Tuple es x1 pt) pos) (tS X.K (fPar is g)):=(RB (RL ha) hg hs hw h1).weak fun D σ H aL=>by
 obtain⟨Z,Θ,env,C,fl,env',C',S,hf,q⟩:=aL
 unfold fPar at hf;split at hf
 ·rename_i xs e1 C1 h1;split at hf
  ·rename_i hl;cases hf
   refine⟨Z,Θ,env,C,xs,e1,C',S,h1,fun vs as H1 k1 f1 n1 S1 a1=>⟨by rw[JF a1];exact qY hl.2,fun p hp=>?_⟩⟩
   have l2:=JF a1
   refine⟨p,vs,rfl,cU.of eU,by rw[l2,hn,hl.1],aaF (by rw[hl.1,l2]) ?_⟩
   have kp:aQ Θ H1 (upd H1 p (.tup vs)):=aQ.upd hp;have S1':=S1.yM (bw.upd (o:=.tup vs) hp);have a1':nM X.K (er (aU (as++Z) Θ e1 σ) H1) (upd H1 p (.tup vs)) Θ as xs vs:=a1.heap fun b o ho=>by rw[cR (qb ho hp)];exact ho
   obtain⟨S2,o2⟩:=Q8 a1' hl.1 (kj kp S1.qL fun b m=>.inl m) S1'
   refine q Θ _ _ ⟨jR.refl _ _,uI (k1.trans kp),fun b m=>?_,S2⟩;rcases o2 b m with m|m
   ·exact .inl (f1.own.subset m)
   ·exact .inr (n1 b m)
  ·cases hf
 ·cases hf
end
theorem Qm:∀{env:En}{σ:St}{i:Nat}{d d':ao},env[i]?=some (some (.ow d))→bM (env.set i (some (.ow d'))) σ=bM env σ
 |[],σ,i,d,d',h=>by simp at h
 |x::e,[],i,d,d',h=>by cases i<;>rfl
 |x::e,v::s,0,d,d',h=>by
  simp at h;subst h;show own1 (some (.ow d')) v++bM e s=own1 (some (.ow d)) v++bM e s;rcases v with _|v
  ·rfl
  ·cases v<;>rfl
 |x::e,v::s,i+1,d,d',h=>by
  show own1 x v++bM (e.set i (some (.ow d'))) s=own1 x v++bM e s;rw[Qm (by simpa using h)]
section
variable{K:aG}{Z Θ:List aa}{env:En}{C:Ce}{σ:St}{H:Hp}{a:aa}{i:Nat}{d d':ao}{o:HO}
theorem JX(h:a∈P):er P (upd H a o)=er P H:=by
 funext b;unfold er;by_cases hb:b=a
 ·subst hb;rw[if_pos h,if_pos h]
 ·rw[cR hb]
theorem Sm.write(S:Sm K Z Θ env C σ H)(e1:env[i]?=some (some (.ow d)))(e2:σ[i]?=some (some (.ref a)))(r:jY (er (aU Z Θ env σ) H) (upd H a o) a d'):dI K Z Θ env σ H Θ (env.set i (some (.ow d'))) C σ (upd H a o):=by
 have m:a∈bM env σ:=lJ.mpr ⟨i,d,e1,e2⟩;have no:=S.nG m;have eo:bM (env.set i (some (.ow d'))) σ=bM env σ:=Qm e1;have mp:a∈aU Z Θ env σ:=dX _ (dX _ m);have ep:aU Z Θ (env.set i (some (.ow d'))) σ=aU Z Θ env σ:=by show _++(_++_)=_;rw[eo]
 refine⟨jR.refl _ _,⟨fun b u hb n=>?_,fun b hb=>?_⟩,fun b mb=>.inl (by rw[eo] at mb;exact mb),⟨by rw[vH];exact S.len,by rw[ep];exact S.nd,fun b mb=>?_,fun j y ej=>?_,⟨S.cell.len,fun n b ns h1 h2=>?_⟩⟩⟩
 ·rw[cR (fun z=>n (dX _ (by rw[z];exact m)))];exact hb
 ·by_cases z:b=a
  ·subst z;rw[eU];exact vC _
  ·rw[cR z];exact hb
 ·rw[cR (fun z=>no.1 (by rw[←z];exact mb))];exact S.dom b mb
 ·rw[ep,JX mp];rcases get_set ej with⟨rfl,ex,hl⟩|⟨n,ej⟩
  ·cases ex
   exact⟨_,e2,a,rfl,r⟩
  ·obtain⟨v,e3,r3⟩:=S.slot j y ej
   refine⟨v,e3,r3.same (bw.refl _) fun d2 b ex ev u hu=>?_⟩
   subst ex ev;rw[cR]
   ·exact hu
   ·intro z;subst z;exact n (Dt S.dG.2.2.1 ej e3 e1 e2)
 ·rw[cR (fun z=>no.2 (by rw[←z];exact jB h1))];exact S.cell.at_ n b ns h1 h2
end
def lQ:Option (Option Vl)→Bool
 |some (some (.ow (.list _)))=>true
 |_=>false
def jy(i:Nat)(f:FE):FS:=fun env C=>if lQ env[i]? then match f env C with
  |some (r,e1,C1)=>match still r,e1[i]? with
   |.im d,some (some (.ow (.list ds)))=>if ds.length<LIM then some (.nx,e1.set i (some (.ow (.list (ds++[d])))),C1) else none
   |_,_=>none
  |none=>none
 else none
theorem Zt(h:lQ x=true):∃ds,x=some (some (.ow (.list ds))):=by
 unfold lQ at h;split at h
 ·exact⟨_,rfl⟩
 ·cases h
section
variable{X:Cx}{pos:Pos}
theorem wG(ho:PE X o (pR i))(he:PE X e (tE X.K f))
  (hs0:tK (.Call (.Attribute o "append" apos) [e] [] cpos) none pos.line X.env=pure false:=by rfl)
  (hbase:uC o "append" X.env (eval o X.env)=eval o X.env:=by rfl)
  (hfew:((fG cpos (aW [e] X.env)).all (fun x=>!x.1)&&(yo cpos (yf [] X.env)).all (fun x=>x.1.isSome)
   &&decide (([e]:List Expr).length+([]:List mV).length+(if([]:List mV).isEmpty then 0 else 1)<30))=true:=by rfl)
  (hline:(apos.endLine==cpos.line)=true:=by rfl)(hs:aW [e] X.env=(false,eval e X.env)::aW [] X.env:=by rfl)(hplain:(fG cpos (aW [] X.env)).any (·.1)=false:=by rfl):
  PS X (.Expr (.Call (.Attribute o "append" apos) [e] [] cpos) pos) (tS X.K (jy i f)):=
 (QL (Es Ln VF adD (rR.r Pa) ho (mU he pH hs) hbase hfew hline hs hplain) hs0).weak fun D σ H aL=>by
  obtain⟨Z,Θ,env,C,fl,env',C',S,hf,q⟩:=aL
  unfold jy at hf;split at hf
  ·rename_i h0
   obtain⟨ds0,h0⟩:=Zt h0
   obtain⟨v0,qN,a,rfl,BV,ha0,r0⟩:=S.slot i _ h0
   split at hf
   ·rename_i r e1 C1 h1;split at hf
    ·rename_i d ds hd hi;split at hf
     ·rename_i hl;cases hf
      refine⟨_,qN,.inl ⟨rfl,BV,bL.of ha0⟩,Z,Θ,env,C,r,e1,C',S,h1,fun v H1 k f R=>?_⟩
      obtain⟨S1,r1⟩:=R.ud hd
      obtain⟨v1,ev1,a1,Uy,vs,ha1,r2⟩:=S1.slot i _ hi
      subst Uy;rw[qN] at ev1;cases ev1
      refine⟨a,vs,v,rfl,rfl,ha1,by rw[iM r2,jq];unfold LIM at hl;omega,?_⟩
      have w:dI X.K Z Θ e1 σ H1 Θ (e1.set i (some (.ow (.list (ds++[d]))))) C' σ (upd H1 a (.lst (vs++[v]))):=S1.write hi qN ⟨_,eU,yu r2 ⟨v,[],rfl,r1,rfl⟩⟩;exact q Θ σ _ ((dI.qM k f S1).trans w)
     ·cases hf
    ·cases hf
   ·cases hf
  ·cases hf
def nW{κ:Type}[DecidableEq κ](f:ao→Option κ)(k:κ)(dk d:ao)(kvs:List (ao×ao)):List (ao×ao):=
 if(kvs.any fun p=>decide (f p.1=some k))=true then kvs.map (fun p=>if f p.1=some k then(p.1,d) else p) else kvs++[(dk,d)]
def putD(kvs:List (ao×ao))(dk d:ao):Option (List (ao×ao)):=match di dk with
 |some k=>if(cO di kvs).isSome then some (nW di k dk d kvs) else none
 |none=>match tZ dk with
  |some ks=>if(cO tZ kvs).isSome then some (nW tZ ks dk d kvs) else none
  |none=>none
theorem aaG[DecidableEq κ]:∀{kvs:List (ao×ao)}{ks:List κ}{vs:List V},cO f kvs=some ks→iH E kvs vs→(kvs.any fun p=>decide (f p.1=some k))=((ks.zip vs).any fun kv=>decide (kv.1=k))
 |[],ks,vs,h,r=>by
  cases h
  cases(show vs=[] from r)
  rfl
 |(p,d)::kvs,ks,vs,h,r=>by
  unfold cO at h;split at h
  ·rename_i k' t h1 h2;cases h
   obtain⟨v,w,rfl,q,s⟩:=r
   show(decide (f p=some k)||_)=(decide (k'=k)||_)
   rw[aaG h2 s,h1];congr 1;rw[sU,decide_eq_true_iff,decide_eq_true_iff]
   exact⟨fun e=>fX e,fun e=>by rw[e]⟩
  ·cases h
theorem aaH[DecidableEq κ](hv:RZ E d v):∀{kvs:List (ao×ao)}{ks:List κ}{vs:List V},cO f kvs=some ks→iH E kvs vs→
  ∃vs',cO f (kvs.map fun p=>if f p.1=some k then(p.1,d) else p)=some ks∧iH E (kvs.map fun p=>if f p.1=some k then(p.1,d) else p) vs'∧ks.zip vs'=(ks.zip vs).map fun kv=>if kv.1=k then(kv.1,v) else kv
 |[],ks,vs,h,r=>by
  cases h
  exact⟨[],rfl,rfl,rfl⟩
 |(p,e)::kvs,ks,vs,h,r=>by
  unfold cO at h;split at h
  ·rename_i k' t h1 h2;cases h
   obtain⟨u,w,rfl,q,s⟩:=r
   obtain⟨vs',g1,g2,g3⟩:=aaH (k:=k) hv h2 s
   have h1':f p=some k':=h1;by_cases ek:k'=k
   ·subst ek
    refine⟨v::vs',?_,?_,?_⟩
    ·rw[cJ];show cO f ((if f p=some k' then(p,d) else(p,e))::_)=_;rw[if_pos h1'];unfold cO;rw[g1];simp only[h1']
    ·rw[cJ];show iH E ((if f p=some k' then(p,d) else(p,e))::_) _;rw[if_pos h1']
     exact⟨v,vs',rfl,hv,g2⟩
    ·show(k',v)::t.zip vs'=(if k'=k' then(k',v) else(k',u))::_
     rw[if_pos rfl,g3];rfl
   ·have ne:¬f p=some k:=fun z=>ek (fX (h1'.symm.trans z))
    refine⟨u::vs',?_,?_,?_⟩
    ·rw[cJ];show cO f ((if f p=some k then(p,d) else(p,e))::_)=_;rw[if_neg ne];unfold cO;rw[g1];simp only[h1']
    ·rw[cJ];show iH E ((if f p=some k then(p,d) else(p,e))::_) _;rw[if_neg ne]
     exact⟨u,vs',rfl,q,g2⟩
    ·show(k',u)::t.zip vs'=(if k'=k then(k',v) else(k',u))::_
     rw[if_neg ek,g3];rfl
  ·cases h
theorem Zu{κ:Type}{f:ao→Option κ}{k:κ}{E:Hp}{dk d:ao}{v:V}(hk:f dk=some k)(hv:RZ E d v):∀{kvs:List (ao×ao)}{ks:List κ}{vs:List V},cO f kvs=some ks→iH E kvs vs→
  cO f (kvs++[(dk,d)])=some (ks++[k])∧iH E (kvs++[(dk,d)]) (vs++[v])∧(ks++[k]).zip (vs++[v])=ks.zip vs++[(k,v)]
 |[],ks,vs,h,r=>by
  cases h
  cases(show vs=[] from r)
  refine⟨?_,⟨v,[],rfl,hv,rfl⟩,rfl⟩
  show cO f [(dk,d)]=_;unfold cO cO;simp only[hk];rfl
 |(p,e)::kvs,ks,vs,h,r=>by
  unfold cO at h;split at h
  ·rename_i k' t h1 h2;cases h
   obtain⟨u,w,rfl,q,s⟩:=r
   obtain⟨g1,g2,g3⟩:=Zu hk hv h2 s
   refine⟨?_,⟨u,_,rfl,q,g2⟩,?_⟩
   ·show cO f ((p,e)::(kvs++[(dk,d)]))=_;unfold cO;rw[g1];simp only[show f p=some k' from h1];rfl
   ·show(k',u)::(t++[k]).zip (w++[v])=_
    rw[g3];rfl
  ·cases h
theorem JG{κ:Type}[DecidableEq κ]{f:ao→Option κ}{k:κ}{E:Hp}{dk d:ao}{v:V}(hk:f dk=some k)(hv:RZ E d v){kvs:List (ao×ao)}{ks:List κ}{vs:List V}(h:cO f kvs=some ks)(r:iH E kvs vs):
  ∃ks' vs',cO f (nW f k dk d kvs)=some ks'∧iH E (nW f k dk d kvs) vs'∧ks'.zip vs'=putK (ks.zip vs) k v:=by
 unfold nW putK;rw[aaG h r];split
 ·obtain⟨vs',g1,g2,g3⟩:=aaH (k:=k) hv h r
  exact⟨ks,vs',g1,g2,g3⟩
 ·obtain⟨g1,g2,g3⟩:=Zu hk hv h r
  exact⟨_,_,g1,g2,g3⟩
theorem set_dict(hu:X.A.units+1<fP):uW X (fun o i v H Q=>∃a H',o=.ref a∧rM H a i v H'∧Q H'):=by
 intro pins s σ H o i v ov iv u Q I ro ri rv h
 obtain⟨a,H',rfl,g,q⟩:=h
 cases ro;exact Yp hu I g ri rv fun s' I'=>⟨H',I',q⟩
theorem ahc(hu:X.A.units+1<fP):uW X (fun o i v H Q=>∃(a b:aa)(ks:List Key),o=.ref a∧H a=some (.dK [])∧i=.ref b∧H b=some (.tup (ks.map kV))∧Q (upd H a (.dT [(ks,v)]))):=by
 intro pins s σ H o i v ov iv u Q I ro ri rv h
 obtain⟨a,b,ks,rfl,ha,rfl,hb,q⟩:=h
 cases ro;have hb':(upd H a (.dT [])) b=some (.tup (ks.map kV)):=by rw[cR (SJ hb ha (fun z=>nomatch z))];exact hb
 refine Yp hu (I.K3 ha) (rM.t (kvs:=[]) (k:=ks) (v:=v) eU hb' (by rw[jq];decide)) ri rv fun s' I'=>⟨_,I',?_⟩
 rw[aaf];exact q
theorem uW.or(h:uW X t)(h':uW X t'):uW X (fun o i v H Q=>t o i v H Q∨t' o i v H Q):=by
 intro pins s σ H o i v ov iv u Q I ro ri rv q;rcases q with q|q
 ·exact h pins s σ H o i v ov iv u Q I ro ri rv q
 ·exact h' pins s σ H o i v ov iv u Q I ro ri rv q
theorem ajz(hu:X.A.units+1<fP):uW X (fun o i v H Q=>(S9 o i v H Q∨∃a H',o=.ref a∧rM H a i v H'∧Q H')∨∃(a b:aa)(ks:List Key),o=.ref a∧H a=some (.dK [])∧i=.ref b∧H b=some (.tup (ks.map kV))∧Q (upd H a (.dT [(ks,v)]))):=
 (set_list.or (set_dict hu)).or (ahc hu)
def rH:Option (Option Vl)→Bool
 |some (some _)=>true
 |_=>false
theorem ajA(h:rH x=true):∃y,x=some (some y):=by
 unfold rH at h;split at h
 ·exact⟨_,rfl⟩
 ·cases h
def putO(i:Nat)(d dk:ao)(e:En)(C:Ce):Option Vl→Option (Fl×En×Ce)
 |some (.ow (.list ds))=>(intD dk).bind fun z=>(mD ds.length z).bind fun j=>some (.nx,e.set i (some (.ow (.list (ds.set j d)))),C)
 |some (.ow (.dict kvs))=>(putD kvs dk d).bind fun kvs'=>bif decide (kvs.length<LIM) then some (.nx,e.set i (some (.ow (.dict kvs'))),C) else none
 |some (.ce n)=>(intD dk).bind fun z=>(intD d).bind fun y=>(C[n]?).bind fun ns=>(mD ns.length z).bind fun j=>some (.nx,e,C.set n (ns.set j y))
 |_=>none
def pU(i:Nat)(fk:FB)(fe:FE):FS:=fun env C=>(fe env C).bind fun p=>(imO (still p.1)).bind fun d=>(fk p.2.1 p.2.2).bind fun k=>bif rH p.2.1[i]? then(k.2.1[i]?).bind (putO i d k.1 k.2.1 k.2.2) else none
def Eu(o i v:V)(H:Hp)(Q:Hp→Prop):Prop:=(S9 o i v H Q∨∃a H',o=.ref a∧rM H a i v H'∧Q H')∨∃(a b:aa)(ks:List Key),o=.ref a∧H a=some (.dK [])∧i=.ref b∧H b=some (.tup (ks.map kV))∧Q (upd H a (.dT [(ks,v)]))
section
variable{K:aG}{Z Θ:List aa}{e2:En}{C2:Ce}{σ:St}{H2:Hp}{i:Nat}{d dk:ao}{v w:V}{a:aa}{R:Hp→Prop}{p:Fl×En×Ce}
theorem aic(S2:Sm K Z Θ e2 C2 σ H2)(eu:σ[i]?=some (some (.ref a)))(hi:e2[i]?=some (some (.ow (.list ds))))(rt:jY (er (aU Z Θ e2 σ) H2) H2 a (.list ds))(r2:RZ (er (aU Z Θ e2 σ) H2) d v)(b2:fK Z Θ e2 σ H2 dk w)(hf:putO i d dk e2 C2 (some (.ow (.list ds)))=some p):
  p.1=.nx∧((∀Hx,dI K Z Θ e2 σ H2 Θ p.2.1 p.2.2 σ Hx→R Hx)→Eu (.ref a) w v H2 R):=by
 obtain⟨z,hz,hf⟩:=ir hf
 obtain⟨j,hj,hf⟩:=ir hf
 cases hf;have hz:=JC hz;subst hz
 obtain⟨vs,ha,r3⟩:=rt
 have b2:w=.int z:=b2;subst b2
 exact⟨rfl,fun q=>.inl (.inl ⟨a,vs,z,j,rfl,rfl,ha,by rw[iM r3];exact hj,q _ (S2.write hi eu ⟨_,eU,aaA r2 j r3⟩)⟩)⟩
theorem aaI(kvs:List (ao×ao)):nW tZ Uz dk d kvs≠[]:=fun z=>by
 unfold nW at z;split at z
 ·rename_i hz;cases kvs with
  |nil=>cases hz
  |cons _ _=>cases z
 ·cases kvs<;>cases z
theorem aid{kvs:List (ao×ao)}(S2:Sm K Z Θ e2 C2 σ H2)(eu:σ[i]?=some (some (.ref a)))(hi:e2[i]?=some (some (.ow (.dict kvs))))(rt:jY (er (aU Z Θ e2 σ) H2) H2 a (.dict kvs))(r2:RZ (er (aU Z Θ e2 σ) H2) d v)(b2:fK Z Θ e2 σ H2 dk w)(hf:putO i d dk e2 C2 (some (.ow (.dict kvs)))=some p):
  p.1=.nx∧((∀Hx,dI K Z Θ e2 σ H2 Θ p.2.1 p.2.2 σ Hx→R Hx)→Eu (.ref a) w v H2 R):=by
 refine hide fun GG gg=>?_
 obtain⟨kvs',hp,hf⟩:=ir hf
 cases hl:decide (kvs.length<LIM) with
 |false=>rw[hl] at hf;cases hf
 |true=>
 rw[hl] at hf;cases hf;have hl:=of_decide_eq_true hl;have hl':∀{κ:Type}(ks:List κ)(vs:List V),ks.length=kvs.length→(ks.zip vs).length<bR:=fun ks vs e=>by
  rw[Wh,jq,e];unfold LIM at hl;omega
 obtain⟨vs,da,r3⟩:=rt
 unfold putD at hp;split at hp
 ·rename_i k hk;split at hp
  case isFalse=>cases hp
  rename_i hs';cases hp;have wk:w=kV k:=by
   cases dk<;>first|(cases hk;exact b2)|cases hk
  rcases da with⟨ks,g1,ha⟩|⟨ks,⟨ne,g2⟩,ha⟩
  ·obtain⟨ks',vs',g3,g4,g5⟩:=JG hk r2 g1 r3
   subst wk;exact gg ⟨rfl,fun q=>.inl (.inr ⟨a,_,rfl,rM.k (k:=k) (v:=v) ha (hl' ks vs (vU g1)),q _ (S2.write hi eu ⟨vs',.inl ⟨ks',g3,by rw[g5];exact eU⟩,g4⟩)⟩)⟩
  ·obtain⟨amF,g1⟩:=xP.mp hs'
   exact absurd (vV g1 g2) ne
 ·split at hp
  case h_2=>cases hp
  rename_i Uz hks;split at hp
  case isFalse=>cases hp
  rename_i hs';cases hp
  obtain⟨b,hb,rfl⟩:∃b,H2 b=some (.tup (Uz.map kV))∧w=.ref b:=by
   cases dk<;>first|cases hks|skip
   obtain⟨b,ws,rfl,hb,rr⟩:=b2.tup
   rw[Ak hks rr] at hb
   exact⟨b,hb,rfl⟩
  rcases da with⟨ks,g1,ha⟩|⟨ks,⟨ne,g1⟩,ha⟩
  ·obtain⟨amF,g2⟩:=xP.mp hs'
   have e0:=vV g1 g2;subst e0;cases g1;have e0:vs=[]:=r3;subst e0
   obtain⟨ks',vs',g3,g4,g5⟩:=JG (kvs:=[]) (vs:=[]) (ks:=[]) hks r2 rfl rfl
   exact gg ⟨rfl,fun q=>.inr ⟨a,b,Uz,rfl,ha,rfl,hb,q _ (S2.write hi eu ⟨vs',.inr ⟨ks',⟨aaI [],g3⟩,by rw[g5];exact eU⟩,g4⟩)⟩⟩
  ·obtain⟨ks',vs',g3,g4,g5⟩:=JG hks r2 g1 r3
   exact gg ⟨rfl,fun q=>.inl (.inr ⟨a,_,rfl,rM.t ha hb (hl' ks vs (vU g1)),q _ (S2.write hi eu ⟨vs',.inr ⟨ks',⟨aaI kvs,g3⟩,by rw[g5];exact eU⟩,g4⟩)⟩)⟩
theorem aie(S2:Sm K Z Θ e2 C2 σ H2)(hth:Θ[n]?=some a)(r2:RZ (er (aU Z Θ e2 σ) H2) d v)(b2:fK Z Θ e2 σ H2 dk w)(hf:putO i d dk e2 C2 (some (.ce n))=some p):
  p.1=.nx∧((∀Hx,dI K Z Θ e2 σ H2 Θ p.2.1 p.2.2 σ Hx→R Hx)→Eu (.ref a) w v H2 R):=by
 refine hide fun GG gg=>?_
 obtain⟨z,hz,hf⟩:=ir hf
 obtain⟨y,hy,hf⟩:=ir hf
 obtain⟨ns,hns,hf⟩:=ir hf
 obtain⟨j,hj,hf⟩:=ir hf
 cases hf;have hz:=JC hz;have hy:=JC hy;subst hz hy;have b2:w=.int z:=b2;have ev:v=.int y:=r2;subst ev b2;have ha:=S2.cell.at_ n a ns hth hns;have am:a∈Θ:=jB hth;refine gg ⟨rfl,fun q=>.inl (.inl ⟨a,_,z,j,rfl,rfl,ha,by rw[aX];exact hj,q _ ?_⟩)⟩;have kc:aQ Θ H2 (upd H2 a (.lst ((ns.map V.int).set j (.int y)))):=⟨fun b o hb nb=>by rw[cR (fun zz=>nb (by rw[zz];exact am))];exact hb,fun b hb=>by
  by_cases zz:b=a
  ·subst zz;rw[eU];exact vC _
  ·rw[cR zz];exact hb⟩
 refine dI.qM kc (Fz.refl _) (S2.go kc ⟨by rw[vH];exact S2.cell.len,fun m b ms h5 h6=>?_⟩);rcases get_set h6 with⟨rfl,e6,_⟩|⟨nm,h6⟩
 ·rw[hth] at h5;cases h5;cases e6;rw[eU,List.map_set]
 ·rw[cR]
  ·exact S2.cell.at_ m b ms h5 h6
  ·intro zz;subst zz
   obtain⟨l1,l1'⟩:=gZ.mp h5
   obtain⟨l2,l2'⟩:=gZ.mp hth
   rcases aet m n with hlt|heq|hgt
   ·exact GK.mp S2.dG.2.1 m n l1 l2 hlt (l1'.trans l2'.symm)
   ·exact nm heq
   ·exact GK.mp S2.dG.2.1 n m l2 l1 hgt (l2'.trans l1'.symm)
theorem ajB(S2:Sm K Z Θ e2 C2 σ H2)(eu:σ[i]?=some (some u))(hi:e2[i]?=some s)(r2:RZ (er (aU Z Θ e2 σ) H2) d v)(b2:fK Z Θ e2 σ H2 dk w)(hf:putO i d dk e2 C2 s=some p):
  p.1=.nx∧((∀Hx,dI K Z Θ e2 σ H2 Θ p.2.1 p.2.2 σ Hx→R Hx)→Eu u w v H2 R):=by
 cases s with
 |none=>cases hf
 |some s=>
 obtain⟨u',eu',sl⟩:=S2.slot i _ hi
 rw[eu] at eu';cases eu';cases s with
 |im _=>cases hf
 |sc _=>cases hf
 |ce n=>
  obtain⟨a,rfl,hth⟩:=sl
  exact aie S2 hth r2 b2 hf
 |ow x=>
  obtain⟨a,rfl,rt⟩:=sl
  cases x<;>first|exact aic S2 eu hi rt r2 b2 hf|exact aid S2 eu hi rt r2 b2 hf|cases hf
end
theorem Ei(hu:X.A.units+1<fP)(ho:PE X o (pR i))(hk:PE X k (dF X.K fk))(he:PE X e (tE X.K fe))
  (ha:∀v,assign (.Subscript o k p) X.env v=(do
   let ov ←qg [v] (eval o X.env)
   let iv ←qg [v,ov] (eval k X.env)
   tM p
   qg [v,ov,iv] (setItem ov iv v)
   release [v,ov,iv] []):=by intro _;rfl)
  (hs:xY [.Subscript o k p] e pos.line X.env=pure false:=by rfl)(hw:xZ [.Subscript o k p] e X.env=pure none:=by rfl)(h1:(tG [.Subscript o k p] X.env).map (·.2)=[assign (.Subscript o k p) X.env]:=by rfl):
  PS X (.Assign [.Subscript o k p] e pos) (tS X.K (pU i fk fe)):=(RB he (aks (t:=Eu) ho hk (ajz hu) ha) hs hw h1).weak fun D σ H aL=>by
 obtain⟨Z,Θ,env,C,fl,env',C',S,hf,q⟩:=aL
 obtain⟨p,h1,hf⟩:=ir hf
 obtain⟨d,hd,hf⟩:=ir hf
 obtain⟨kp,h2,hf⟩:=ir hf
 cases h3:rH p.2.1[i]? with
 |false=>rw[h3] at hf;cases hf
 |true=>
 rw[h3] at hf
 obtain⟨s,hi,hf⟩:=ir hf
 obtain⟨y3,h3⟩:=ajA h3
 refine⟨Z,Θ,env,C,p.1,p.2.1,p.2.2,S,h1,fun v H1 k1 f1 R1=>?_⟩
 obtain⟨S1,r1⟩:=R1.ud (Eb hd)
 obtain⟨u,eu,_⟩:=S1.slot i _ h3
 refine⟨u,eu,Z,Θ,p.2.1,p.2.2,kp.1,kp.2.1,kp.2.2,S1,h2,fun w H2 k2 f2 S2 b2=>?_⟩
 obtain⟨e0,go⟩:=ajB (R:=fun Hx=>D.nx σ Hx) S2 eu hi (r1.same (Td S1 k2 f2)) b2 hf
 have e0:fl=.nx:=e0;subst e0;exact go fun Hx st=>q Θ σ _ ((dI.qM (k1.trans k2) (f1.trans f2) S2).trans st)
end
def intsOf:List ao→Option (List Int)
 |[]=>some []
 |.int i::r=>match intsOf r with
  |some t=>some (i::t)
  |none=>none
 |_=>none
theorem Jm:∀{ds:List ao}{ns:List Int}{vs:List V},intsOf ds=some ns→cD E ds vs→vs=ns.map V.int
 |[],ns,vs,h,r=>by cases h;exact r
 |.int i::ds,ns,vs,h,r=>by
  unfold intsOf at h;split at h
  ·rename_i t ht;cases h
   obtain⟨u,w,rfl,q,s⟩:=r
   rw[Jm ht s];have:u=.int i:=q;rw[this];rfl
  ·cases h
 |.none::_,_,_,h,_=>by cases h
 |.bool _::_,_,_,h,_=>by cases h
 |.str _::_,_,_,h,_=>by cases h
 |.list _::_,_,_,h,_=>by cases h
 |.tuple _::_,_,_,h,_=>by cases h
 |.dict _::_,_,_,h,_=>by cases h
def Fp(i:Nat)(f:FE):FS:=fun env C=>match f env C with
 |some (.ow (.list ds),e1,C1)=>match intsOf ds with
  |some ns=>some (.nx,e1.set i (some (.ce C1.length)),C1++[ns])
  |none=>none
 |_=>none
section
variable{X:Cx}{pos:Pos}
theorem aif{K:aG}{i:Nat}{f:FE}:∀D σ H,tS K (Fp i f) D σ H→By (tE K f) (wI i) D σ H:=by
 rintro D σ H ⟨Z,Θ,env,C,fl,env',C',S,hf,q⟩;unfold Fp at hf;split at hf
 ·rename_i ds e1 C1 h1;split at hf
  ·rename_i ns hns;cases hf
   refine⟨Z,Θ,env,C,_,e1,C1,S,h1,fun v H1 k f R=>?_⟩
   obtain⟨a,rfl,hn,S1,vs,ha,r⟩:=R
   have ev:=Jm hns r;subst ev;have dG:=S1.dG;have Gm:=jH.mp dG.1;have cl:=S1.cell.len;have c':oJ (Θ++[a]) (C1++[ns]) H1:=by
    refine⟨by rw[gf,gf,cl];rfl,fun m b ms h5 h6=>?_⟩
    by_cases hm:m<Θ.length
    ·rw[m7 hm] at h5;rw[m7 (by rw[cl];exact hm)] at h6;exact S1.cell.at_ m b ms h5 h6
    ·rw[lA (by omega)] at h5;rw[lA (by omega)] at h6;rw[cl] at h6;cases hm0:m-Θ.length with
     |zero=>rw[hm0] at h5 h6;cases h5;cases h6;exact ha
     |succ j=>rw[hm0] at h5;simp at h5
   have o1:∀b∈bM (e1.set i (some (.ce C1.length))) (σ.set i (some (.ref a))),b∈bM e1 σ:=fun b m=>by
    rcases wg m with m|⟨⟨_,z⟩,_⟩
    ·exact m
    ·cases z
   have S2:Sm K Z (Θ++[a]) e1 (C1++[ns]) σ H1:=by
    have mm:∀b,b∈aU Z (Θ++[a]) e1 σ↔b∈aU (a::Z) Θ e1 σ:=fun b=>by
     rw[jr,jr,cQ,gB,bI];constructor
     ·rintro(h|(h|h)|h)
      ·exact .inl (.inr h)
      ·exact .inr (.inl h)
      ·exact .inl (.inl h)
      ·exact .inr (.inr h)
     ·rintro((h|h)|h|h)
      ·exact .inr (.inl (.inr h))
      ·exact .inl h
      ·exact .inr (.inl (.inl h))
      ·exact .inr (.inr h)
    refine⟨S1.len,zq Gm.2 ?_ dG.2.2.1 (fun b m=>?_) fun b m=>?_,fun b m=>S1.dom b (dM _ m),fun j x e=>?_,c'⟩
    ·rw[j6]
     exact⟨dG.2.1,jH.mpr ⟨by simp,oA⟩,fun b m c m' e=>by
      rw[gB] at m';subst e m';exact dG.2.2.2 b dm m⟩
    ·intro m';rcases cQ.mp m' with m'|m'
     ·exact dG.2.2.2 b (dM _ m) m'
     ·rw[gB.mp m'] at m;exact Gm.1 m
    ·obtain⟨p1,p2⟩:=S1.nG m
     refine⟨fun z=>p1 (dM _ z),fun m'=>?_⟩
     rcases cQ.mp m' with m'|m'
     ·exact p2 m'
     ·rw[gB.mp m'] at p1;exact p1 dm
    ·obtain⟨v,e3,r3⟩:=S1.slot j x e
     rw[rD mm]
     refine⟨v,e3,?_⟩
     cases x with
     |im d=>exact r3
     |ow d=>exact r3
     |ce n=>
      obtain⟨b,e5,e6⟩:=r3
      exact⟨b,e5,by rw[m7 (gZ.mp e6).1];exact e6⟩
     |sc ns=>exact r3
   have S3:Sm K Z (Θ++[a]) (e1.set i (some (.ce C1.length))) (C1++[ns]) (σ.set i (some (.ref a))) H1:=
    S2.yX (fun _ z=>nomatch z) ⟨a,rfl,by rw[cl,lA (bN _),Aa];rfl⟩
   exact q (Θ++[a]) _ H1 ⟨⟨[a],rfl,fun b m=>by rw[gB.mp m];exact hn⟩,uI k,fun b m=>.inl (f.own.subset (o1 b m)),S3⟩
  ·cases hf
 ·cases hf
theorem ak7(hN:X.N.Nodup)(hi:X.N[i]?=some x)(hx:Loc X.env.scope x)(he:PE X e (tE X.K f))(hs:tK e (some (.Name x pos')) pos.line X.env=pure false:=by rfl)(hf:X.fn x=true∨X.env.scope.names.lookup x=some .local:=by first|exact .inl rfl|exact .inr rfl|assumption):
  PS X (.Assign [.Name x pos'] e pos) (tS X.K (Fp i f)):=(aba hN hi hx he hs hf).weak aif
def Kr(i:Nat)(f:FB):FS:=fun env C=>match env[i]? with
 |some (some (.im (.int x)))=>match f env C with
  |some (.int y,_,C1)=>some (.nx,env.set i (some (.im (.int (x+y)))),C1)
  |_=>none
 |_=>none
theorem ak8(hN:X.N.Nodup)(hi:X.N[i]?=some x)(hx:Loc X.env.scope x)(he:PE X e (dF X.K f))(hf:X.fn x=true∨X.env.scope.names.lookup x=some .local:=by first|exact .inl rfl|exact .inr rfl|assumption):
  PS X (.AugAssign (.Name x pos') .Add e pos) (tS X.K (Kr i f)):=(aku hN hi hx he akv hf).weak fun D σ H aL=>by
 obtain⟨Z,Θ,env,C,fl,env',C',S,hf,q⟩:=aL
 unfold Kr at hf;split at hf
 ·rename_i z h0;split at hf
  ·rename_i y e1 C1 h1;cases hf
   obtain⟨v,ev,r⟩:=S.slot i _ h0
   refine⟨v,ev,Z,Θ,env,C,_,e1,C',S,h1,fun w H1 k f S1 b1=>⟨z,y,r,b1,?_⟩⟩
   have S2:=S.go k S1.cell;refine q Θ _ H1 ⟨jR.refl _ _,uI k,fun a m=>?_,S2.yX (fun _ z=>nomatch z) (rfl:RZ _ (.int (z+y)) _)⟩;rcases wg m with m|⟨⟨_,z⟩,_⟩
   ·exact .inl m
   ·cases z
  ·cases hf
 ·cases hf
end
def jF(c:FT)(body:FS):Nat→FS
 |0=>fun _ _=>none
 |n+1=>fun env C=>match c env C with
  |some (false,C1)=>some (.nx,env,C1)
  |some (true,C1)=>match body env C1 with
   |some (.nx,e2,C2)=>jF c body n e2 C2
   |some (.ct,e2,C2)=>jF c body n e2 C2
   |some (.bk,e2,C2)=>some (.nx,e2,C2)
   |some (.rt r,e2,C2)=>some (.rt r,e2,C2)
   |none=>none
  |none=>none
def Bp:Nat:=100000
def rW(c:FT)(body:FS):FS:=jF c body Bp
theorem agm{K:aG}{c:FT}{body:FS}{n:Nat}:∀D σ H,tS K (jF c body n) D σ H→abb (fH K c) (tS K body) D σ H:=by
 rintro D σ H ⟨Z,Θ,env,C,fl,env',C',S,hf,q⟩
 refine⟨fun m σ1 H1=>∃Θ1 e1 C1,dI K Z Θ env σ H Θ1 e1 C1 σ1 H1∧jF c body m e1 C1=some (fl,env',C'),⟨n,Θ,env,C,dI.same S,hf⟩,?_⟩
 rintro m σ1 H1 ⟨Θ1,e1,C1,p,hf⟩;cases m with
 |zero=>cases hf
 |succ m=>
  unfold jF at hf;split at hf
  ·rename_i C2 h1;cases hf
   exact⟨Z,Θ1,env',C1,false,C',p.sm,h1,fun H2 k2 S2=>wU (q Θ1 σ1 H2 (p.trans (dI.qM k2 (Fz.refl _) S2)))⟩
  ·rename_i C2 h1
   refine⟨Z,Θ1,e1,C1,true,C2,p.sm,h1,fun H2 k2 S2=>wV ⟨fun σ' H'=>∃Θ1 e1 C1,dI K Z Θ env σ H Θ1 e1 C1 σ' H'∧jF c body m e1 C1=some (fl,env',C'),fun σ' H' h=>⟨m,Ml m,h⟩,?_⟩⟩
   have p2:=p.trans (dI.qM k2 (Fz.refl _) S2);split at hf
   ·rename_i e3 C3 h2
    exact⟨Z,Θ1,e1,C2,.nx,e3,C3,S2,h2,fun Θ3 σ3 H3 p3=>⟨Θ3,e3,C3,p2.trans p3,hf⟩⟩
   ·rename_i e3 C3 h2
    exact⟨Z,Θ1,e1,C2,.ct,e3,C3,S2,h2,fun Θ3 σ3 H3 p3=>⟨Θ3,e3,C3,p2.trans p3,hf⟩⟩
   ·rename_i e3 C3 h2;cases hf
    exact⟨Z,Θ1,e1,C2,.bk,env',C',S2,h2,fun Θ3 σ3 H3 p3=>q Θ3 σ3 H3 (p2.trans p3)⟩
   ·rename_i r e3 C3 h2;cases hf
    exact⟨Z,Θ1,e1,C2,.rt r,env',C',S2,h2,fun Θ3 v H3 p3=>q Θ3 v H3 (p2.ret p3)⟩
   ·cases hf
  ·cases hf
theorem Di(hp:O5 (model X.prog X.w) X.A X.env X.xe)(hc:PT X c (fH X.K t))(hb:jl X body (tS X.K f)):PS X (.While c body [] pos) (tS X.K (rW t f)):=(ahG hp hc hb).weak agm
abbrev FI:=En→Ce→Option (List ao×En×Ce)
def wY(P T:List aa)(H:Hp)(J:It)(its:List ao):Prop:=∀(i:Nat)(H2:Hp)(P2:List aa),bw (er P H) (er P2 H2)→bw (er T H) (er T H2)→(∀a∈P2,H2 a≠none)→
 (∀d,its[i]?=some d→J.go i H2∧∀x H3,J.xm i H2 x H3→bw H2 H3∧RZ (er P2 H3) d x)∧(i=its.length→J.stop i H2)
inductive tI(K:aG)(b:Bool)(f:FI)(σ:St)(H:Hp)(R:It→Hp→Prop):Prop
 |mk (Z Θ:List aa) (env:En) (C:Ce) (its:List ao) (env':En) (C':Ce) (S:Sm K Z Θ env C σ H) (hf:f env C=some (its,env',C')) (q:∀J H',aQ Θ H H'→Fz env env'→Sm K Z Θ env' C' σ H'→wY (aU Z Θ env' σ) (if b then Θ else aU Z Θ env' σ) H' J its→R J H'):tI K b f σ H R
theorem PI.weak(h:PI X tg e t)(w:∀σ H Q,t' σ H Q→t σ H Q):PI X tg e t':=fun pins s σ H Q I q=>h pins s σ H Q I (w σ H Q q)
theorem PI.or(h:PI X tg e t)(h':PI X tg e t'):PI X tg e (fun σ H R=>t σ H R∨t' σ H R):=fun pins s σ H R I q=>q.elim (h pins s σ H R I) (h' pins s σ H R I)
section
variable{K:aG}{P T:List aa}{H:Hp}{a:aa}{ds:List ao}{vs:List V}
theorem Ra(ha:er T H a=some (.lst vs))(r:cD (er P H) ds vs):wY P T H (Ud K a) ds:=fun i H2 P2 s1 s2 n=>by
 have h2:bL K H2 a vs:=bL.of (jb (s2 _ _ ha))
 refine⟨fun d hd=>?_,fun hi=>⟨vs,h2,by rw[iM r,hi];exact bN _⟩⟩
 obtain⟨v,ev,rv⟩:=uJ r hd
 refine⟨⟨vs,v,h2,ev⟩,fun x H3 y=>?_⟩
 obtain⟨rfl,y⟩:=y
 have:=y vs h2;rw[ev] at this;cases this
 exact⟨bw.refl _,rv.same s1⟩
theorem R0(ha:er P H a=some (.tup vs))(r:cD (er P H) ds vs):wY P T H (Ue K a) ds:=fun i H2 P2 s1 s2 n=>by
 have h2:cU K H2 a vs:=cU.of (jb (s1 _ _ ha))
 refine⟨fun d hd=>?_,fun hi=>⟨vs,h2,by rw[iM r,hi];exact bN _⟩⟩
 obtain⟨v,ev,rv⟩:=uJ r hd
 refine⟨⟨vs,v,h2,ev⟩,fun x H3 y=>?_⟩
 obtain⟨rfl,y⟩:=y
 have:=y vs h2;rw[ev] at this;cases this
 exact⟨bw.refl _,rv.same s1⟩
def chars(z:Str):List ao:=z.cps.toList.map fun c=>.str ⟨#[c]⟩
theorem abt(z:Str):wY P T H (Uq z) (chars z):=fun i H2 P2 s1 s2 n=>by
 refine⟨fun d hd=>?_,fun hi=>?_⟩
 ·unfold chars at hd;rw[gK] at hd;cases hc:z.cps.toList[i]? with
  |none=>rw[hc] at hd;cases hd
  |some c=>
   rw[hc] at hd;cases hd;have hc':z.cps[i]?=some c:=by rw[←Lq];exact hc
   have hlt:i<z.cps.size:=by
    obtain⟨h,_⟩:=Array.getElem?_eq_some_iff.mp hc'
    exact h
   refine⟨hlt,fun x H3 y=>?_⟩
   obtain⟨rfl,c',ec,rfl⟩:=y
   rw[hc'] at ec;cases ec
   exact⟨bw.refl _,rfl⟩
 ·show z.cps.size≤i;rw[hi];unfold chars;rw[aX,kO];exact bN _
def gn(lo:Int)(n:Nat):List ao:=(dZ n).map fun(k:Nat)=>.int (lo+(k:Int))
theorem Zv(lo:Int)(n:Nat):wY P T H (Gd lo n) (gn lo n):=fun i H2 P2 s1 s2 nn=>by
 refine⟨fun d hd=>?_,fun hi=>?_⟩
 ·unfold gn at hd;rw[gK] at hd;by_cases hlt:i<n
  ·rw[VB hlt] at hd;cases hd
   refine⟨hlt,fun x H3 y=>?_⟩
   obtain⟨rfl,rfl⟩:=y
   exact⟨bw.refl _,rfl⟩
  ·rw[Vw (by rw[lC];omega)] at hd;cases hd
 ·show n≤i;rw[hi];unfold gn;rw[aX,lC];exact bN _
end
def itD:ao→Option (List ao)
 |.list ds=>some ds
 |.tuple ds=>some ds
 |.str z=>some (chars z)
 |_=>none
def iB(f:FB):FI:=fun env C=>match f env C with
 |some (d,e1,C1)=>match itD d with
  |some its=>some (its,e1,C1)
  |none=>none
 |none=>none
def iV(f:FE):FI:=fun env C=>match f env C with
 |some (r,e1,C1)=>match still r with
  |.im d=>match itD d with
   |some its=>some (its,e1,C1)
   |none=>none
  |_=>none
 |none=>none
def gY(f:FB):FI:=fun env C=>match f env C with
 |some (.int j,_,C1)=>if -(2^62)≤j∧j<2^62 then some (gn 0 j.toNat,env,C1) else none
 |_=>none
section
variable{X:Cx}{tg e:Expr}
theorem acy(h:PE X e (dF X.K f))(hgo:∀i u,xU tg i u=pure ():=by intro _ _;rfl):PI X tg e (tI X.K true (iB f)):=(((QM h).or (RC h)).or (abi h hgo)).weak fun σ H R aL=>by
 obtain⟨Z,Θ,env,C,its,env',C',S,hf,q⟩:=aL
 unfold iB at hf;split at hf
 ·rename_i d e1 C1 h1;split at hf
  ·rename_i ys hi;cases hf;cases d<;>first|cases hi|skip
   ·refine .inr ⟨Z,Θ,env,C,_,env',C',S,h1,fun v H1 k f S1 b=>⟨_,b,q _ H1 k f S1 (abt _)⟩⟩
   ·refine .inl (.inl ⟨Z,Θ,env,C,_,env',C',S,h1,fun v H1 k f S1 b=>?_⟩)
    obtain⟨a,vs,rfl,ha,r⟩:=b
    exact⟨a,rfl,⟨vs,bL.of (jb ha)⟩,q _ H1 k f S1 (Ra ha r)⟩
   ·refine .inl (.inr ⟨Z,Θ,env,C,_,env',C',S,h1,fun v H1 k f S1 b=>?_⟩)
    obtain⟨a,vs,rfl,ha,r⟩:=b
    exact⟨a,rfl,⟨vs,cU.of (jb ha)⟩,q _ H1 k f S1 (R0 ha r)⟩
  ·cases hf
 ·cases hf
theorem yZ(h:PE X e (tE X.K f))(hgo:∀i u,xU tg i u=pure ():=by intro _ _;rfl):PI X tg e (tI X.K false (iV f)):=(((QM h).or (RC h)).or (abi h hgo)).weak fun σ H R aL=>by
 obtain⟨Z,Θ,env,C,its,env',C',S,hf,q⟩:=aL
 unfold iV at hf;split at hf
 ·rename_i r e1 C1 h1;split at hf
  ·rename_i d hd;split at hf
   ·rename_i ys hi;cases hf;cases d<;>first|cases hi|skip
    ·refine .inr ⟨Z,Θ,env,C,_,env',C',S,h1,fun v H1 k f R=>?_⟩
     obtain⟨S1,b⟩:=R.ud hd
     exact⟨_,b,q _ H1 k f S1 (abt _)⟩
    ·refine .inl (.inl ⟨Z,Θ,env,C,_,env',C',S,h1,fun v H1 k f R=>?_⟩)
     obtain⟨S1,a,vs,rfl,ha,r⟩:=R.ud hd
     exact⟨a,rfl,⟨vs,bL.of (jb ha)⟩,q _ H1 k f S1 (Ra ha r)⟩
    ·refine .inl (.inr ⟨Z,Θ,env,C,_,env',C',S,h1,fun v H1 k f R=>?_⟩)
     obtain⟨S1,a,vs,rfl,ha,r⟩:=R.ud hd
     exact⟨a,rfl,⟨vs,cU.of (jb ha)⟩,q _ H1 k f S1 (R0 ha r)⟩
   ·cases hf
  ·cases hf
 ·cases hf
theorem q9(hg:Gl X "range")(hm:X.mg "range"=none)(ha:PE X a (dF X.K f))(hs:aW [a] X.env=(false,eval a X.env)::aW [] X.env:=by rfl)(hs':aW [a] X.env=[(false,eval a X.env)]:=by rfl):PI X tg (.Call (.Name "range" p) [a] [] pos) (tI X.K b (gY f)):=
 (agG hg hm (cW ha eV hs) hs').weak fun σ H R aL=>by
  obtain⟨Z,Θ,env,C,its,env',C',S,hf,q⟩:=aL
  unfold gY at hf;split at hf
  ·rename_i j e1 C1 h1;split at hf
   ·rename_i hj;cases hf
    refine⟨Z,Θ,env,C,[.int j],e1,C',S,by unfold bCons bNil;rw[h1],fun vs H1 k f S1 b1=>?_⟩
    cases b1 with
    |cons b1 b2=>
     cases b2
     exact⟨j,by rw[show _=V.int j from b1],hj.1,hj.2,q _ H1 k (Fz.refl _) (S.go k S1.cell) (Zv 0 j.toNat)⟩
   ·cases hf
  ·cases hf
end
def gO(g:FG)(body:FS):List ao→FS
 |[]=>fun env C=>some (.nx,env,C)
 |d::r=>fun env C=>match g d env with
  |some e1=>match body e1 C with
   |some (.nx,e2,C2)=>gO g body r e2 C2
   |some (.ct,e2,C2)=>gO g body r e2 C2
   |some (.bk,e2,C2)=>some (.nx,e2,C2)
   |some (.rt v,e2,C2)=>some (.rt v,e2,C2)
   |none=>none
  |none=>none
def fU(fi:FI)(g:FG)(body:FS):FS:=fun env C=>match fi env C with
 |some (its,e1,C1)=>gO g body its e1 C1
 |none=>none
theorem dI.er{K:aG}{Z Θ Θ1:List aa}{env e1:En}{C1:Ce}{σ σ1:St}{H H1:Hp}(p:dI K Z Θ env σ H Θ1 e1 C1 σ1 H1):bw (er (aU Z Θ env σ) H) (er (aU Z Θ1 e1 σ1) H1):=fun b o h=>by
 unfold L2.er at h⊢;split at h
 ·cases h
 ·rename_i n;have hb:H b≠none:=by rw[h];exact vC _
  rw[if_neg]
  ·refine p.kp.keep b o h fun m=>n ?_
   rcases cQ.mp m with m|m
   ·exact jr.mpr (.inr (.inl m))
   ·exact jr.mpr (.inr (.inr m))
  ·intro m;rcases jr.mp m with m|m|m
   ·exact n (jr.mpr (.inl m))
   ·obtain⟨Δ,e,hn⟩:=p.th.ex
    rw[e] at m;rcases cQ.mp m with m|m
    ·exact n (jr.mpr (.inr (.inl m)))
    ·exact hb (hn b m)
   ·rcases p.own b m with m|m
    ·exact n (jr.mpr (.inr (.inr m)))
    ·exact hb m
theorem ajC(s:bw (er P H) (er P2 H2)):bw (er P H) (er P H2):=fun b o h=>by
 have h2:=jb (s b o h);unfold er at h⊢;split at h
 ·cases h
 ·rename_i n;rw[if_neg n];exact h2
theorem aih{K:aG}{fi:FI}{g:TG}{fg:FG}{body:FS}(L:BX K g fg):∀D σ H,tS K (fU fi fg body) D σ H→ab5 (tI K false fi) g (tS K body) D σ H:=by
 rintro D σ H ⟨Z,Θ,env,C,fl,env',C',S,hf,q⟩;unfold fU at hf;split at hf
 ·rename_i its e1 C1 h1
  refine⟨Z,Θ,env,C,its,e1,C1,S,h1,fun J H1 k1 f1 S1 it=>?_⟩
  have p1:=dI.qM k1 f1 S1
  refine⟨fun i m σ2 H2=>m=its.length-i∧i≤its.length∧∃Θ2 e2 C2,dI K Z Θ e1 σ H1 Θ2 e2 C2 σ2 H2∧gO fg body (its.drop i) e2 C2=some (fl,env',C'),⟨its.length,rfl,lD _,Θ,e1,C1,dI.same S1,hf⟩,?_⟩
  rintro i m σ2 H2 ⟨rfl,hi,Θ2,e2,C2,p2,hl⟩
  obtain⟨UG,UJ⟩:=it i H2 (aU Z Θ2 e2 σ2) p2.er (ajC p2.er) p2.sm.yV
  cases hd:its[i]? with
  |none=>
   have hi2:i=its.length:=by
    have:=Vm.mp hd;omega
   rw[hi2,aeH] at hl;cases hl;exact .inl ⟨UJ hi2,q Θ2 σ2 H2 (p1.trans p2)⟩
  |some d=>
   have hlt:i<its.length:=(gZ.mp hd).1;have ed:its.drop i=d::its.drop (i+1):=by
    rw[adB hlt]
    obtain⟨_,e⟩:=gZ.mp hd
    rw[e]
   rw[ed] at hl;unfold gO at hl
   obtain⟨go,yl⟩:=UG d hd
   refine .inr ⟨go,fun σ' H'=>∃Θ2 e2 C2,dI K Z Θ e1 σ H1 Θ2 e2 C2 σ' H'∧gO fg body (its.drop (i+1)) e2 C2=some (fl,env',C'),fun σ' H' h=>⟨its.length-(i+1),by omega,rfl,hlt,h⟩,fun x H3 y=>?_⟩
   obtain⟨s3,r3⟩:=yl x H3 y
   have S3:=p2.sm.yM s3;have p3:=p2.trans (dI.qM (aQ.of s3) (Fz.refl _) S3);split at hl
   ·rename_i e4 h4;refine L Z Θ2 e2 C2 σ2 H3 x d e4 S3 r3 h4 _ fun σ4 S4 o4=>?_
    have p4:dI K Z Θ e1 σ H1 Θ2 e4 C2 σ4 H3:=p3.trans ⟨jR.refl _ _,aQ.refl _ _,fun a m=>.inl (o4 a m),S4⟩;split at hl
    ·rename_i e5 C5 h5
     exact⟨Z,Θ2,e4,C2,.nx,e5,C5,S4,h5,fun Θ5 σ5 H5 p5=>⟨Θ5,e5,C5,p4.trans p5,hl⟩⟩
    ·rename_i e5 C5 h5
     exact⟨Z,Θ2,e4,C2,.ct,e5,C5,S4,h5,fun Θ5 σ5 H5 p5=>⟨Θ5,e5,C5,p4.trans p5,hl⟩⟩
    ·rename_i e5 C5 h5;cases hl
     exact⟨Z,Θ2,e4,C2,.bk,env',C',S4,h5,fun Θ5 σ5 H5 p5=>q Θ5 σ5 H5 (p1.trans (p4.trans p5))⟩
    ·rename_i r e5 C5 h5;cases hl
     exact⟨Z,Θ2,e4,C2,.rt r,env',C',S4,h5,fun Θ5 v H5 p5=>q Θ5 v H5 (p1.ret (p4.ret p5))⟩
    ·cases hl
   ·cases hl
 ·cases hf
theorem nH(hp:O5 (model X.prog X.w) X.A X.env X.xe)(hc:X.calm=true)(hi:PI X tg iter (tI X.K false fi))(hg:PG X tg g)(L:BX X.K g fg)(hb:jl X body (tS X.K f))
  (hs:∀x,uz iter X.env x=pure x:=by intro _;rfl):PS X (.For tg iter body [] pos) (tS X.K (fU fi fg f)):=(akx hp hc hi hg hb hs).weak (aih L)
def zu:gq→ao→Option (List ao)
 |.one,d=>some [d]
 |.many n,.tuple ds=>if ds.length=n then some ds else none
 |_,_=>none
def frB(js:List Nat)(env:En):En:=js.map fun j=>((env[j]?).join).map still
def eZ(ds:List ao):En:=ds.map fun d=>some (.im d)
def kE(T:gq)(ft:FT)(fe:FE)(fs:En):List ao→Ce→Option (List ao×Ce)
 |[],C=>some ([],C)
 |d::r,C=>match zu T d with
  |some ts=>match ft (eZ ts++fs) C with
   |some (false,C1)=>kE T ft fe fs r C1
   |some (true,C1)=>match fe (eZ ts++fs) C1 with
    |some (x,_,C2)=>match still x with
     |.im y=>match kE T ft fe fs r C2 with
      |some (ys,C3)=>some (y::ys,C3)
      |none=>none
     |_=>none
    |none=>none
   |none=>none
  |none=>none
def gw(js:List Nat)(env:En):En:=env.mapIdx fun i x=>if i∈js then x.map still else x
def fLC(fi:FI)(T:gq)(ft:FT)(fe:FE)(js:List Nat):FE:=fun env C=>match fi env C with
 |some (its,e1,C1)=>match kE T ft fe (frB js e1) its C1 with
  |some (ys,C2)=>if ys.length≤LIM then some (.ow (.list ys),if gH ys then e1 else gw js e1,C2) else none
  |none=>none
 |none=>none
theorem abV:∀{a b:En},a.length=b.length→(∀(i:Nat)(x y:Option Vl),a[i]?=some x→b[i]?=some y→Uu x y)→Fz a b
 |[],[],_,_=>trivial
 |x::r,y::t,hl,h=>⟨h 0 x y rfl rfl,abV (by simpa using hl) fun i u v h1 h2=>h (i+1) u v (by simpa using h1) (by simpa using h2)⟩
 |[],_::_,hl,_=>by cases hl
 |_::_,[],hl,_=>by cases hl
theorem Bc(js:List Nat)(env:En):Fz env (gw js env):=abV (by unfold gw;rw[List.length_mapIdx]) fun i x y h1 h2=>by
 unfold gw at h2;rw[adZ,h1] at h2;have h2:(if i∈js then Io still x else x)=y:=fX h2;rw[←h2];split
 ·cases x with
  |none=>exact .inl rfl
  |some x=>
   cases x with
   |ow d=>exact .inr ⟨d,rfl,rfl⟩
   |im d=>exact .inl rfl
   |ce n=>exact .inl rfl
   |sc ns=>exact .inl rfl
 ·exact .inl rfl
theorem abu{js:List Nat}{env:En}{k:Nat}{x:Vl}(h:(frB js env)[k]?=some (some x)):∃j:Nat,js[k]?=some j∧(gw js env)[j]?=some (some x)∧∀d,x≠.ow d:=by
 unfold frB at h;rw[gK] at h;cases hj:js[k]? with
 |none=>rw[hj] at h;cases h
 |some j=>
  rw[hj] at h;have h':((env[j]?).join).map still=some x:=fX h
  refine⟨j,rfl,?_,?_⟩
  ·unfold gw;rw[adZ];cases hv:env[j]? with
   |none=>rw[hv] at h';cases h'
   |some y=>
    rw[hv] at h';show some (if j∈js then Io still y else y)=_;rw[if_pos (jB hj)];exact congrArg some h'
  ·cases hv:(env[j]?).join with
   |none=>rw[hv] at h';cases h'
   |some y=>
    rw[hv] at h';have e:still y=x:=fX h';rw[←e];intro d z;cases y<;>cases z
theorem Bd:∀{env:En}{σ:St},(∀(i:Nat)(d:ao),env[i]?≠some (some (.ow d)))→bM env σ=[]
 |[],σ,_=>by cases σ<;>rfl
 |_::_,[],_=>rfl
 |x::e,v::s,h=>by
  rw[bM,Bd (env:=e) (σ:=s) fun i d z=>h (i+1) d (by simpa using z)];have h0:=h 0;simp at h0;unfold own1;split
  ·rename_i d a;exact absurd rfl (h0 d)
  ·rfl
section
variable{K:aG}{Z Θ:List aa}{env:En}{C C2:Ce}{σ:St}{H H2:Hp}{D:aa}
abbrev jZ(D:aa)(Z:List aa)(env:En)(σ:St):List aa:=D::(Z++bM env σ)
theorem oG{js:List Nat}{a:aa}{eB:En}{sB:St}(h:bM eB sB=[]):a∈aU (jZ D Z env σ) Θ eB sB↔a=D∨a∈aU Z Θ env σ:=by
 rw[jr,jr,h,bI,cQ];constructor
 ·rintro((h|h|h)|h|h)
  ·exact .inl h
  ·exact .inr (.inl h)
  ·exact .inr (.inr (.inr h))
  ·exact .inr (.inr (.inl h))
  ·nomatch h
 ·rintro(h|h|h|h)
  ·exact .inl (.inl h)
  ·exact .inl (.inr (.inl h))
  ·exact .inr (.inl h)
  ·exact .inl (.inr (.inr h))
theorem JZ{js:List Nat}{ts:List ao}:∀(i:Nat)(d:ao),(eZ ts++frB js env)[i]?≠some (some (.ow d)):=fun i d z=>by
 by_cases hi:i<(eZ ts).length
 ·rw[m7 hi] at z;unfold eZ at z;rw[gK] at z;cases h:ts[i]? with
  |none=>rw[h] at z;cases z
  |some t=>rw[h] at z;cases z
 ·rw[lA (by omega)] at z
  obtain⟨j,_,_,h⟩:=abu z
  exact h d rfl
theorem Sm.blk{js:List Nat}{ts:List ao}{vs:List V}(S:Sm K Z Θ (gw js env) C σ H)(hD:H D=nC)(k:aQ Θ H H2)(nt:NT (H2 D))(c:oJ Θ C2 H2)(r:cD (er (aU (jZ D Z (gw js env) σ) Θ [] []) H2) ts vs):
  Sm K (jZ D Z (gw js env) σ) Θ (eZ ts++frB js env) C2 (vs.map some++frees js σ) H2:=by
 have no:=Bd (env:=eZ ts++frB js env) (σ:=vs.map some++frees js σ) JZ;have dG:=S.dG;have lv:=iM r;have K4:(eZ ts).length=ts.length:=by unfold eZ;rw[aX]
 have ee:er (aU (jZ D Z (gw js env) σ) Θ (eZ ts++frB js env) (vs.map some++frees js σ)) H2=er (aU (jZ D Z (gw js env) σ) Θ [] []) H2:=rD fun a=>by rw[oG (js:=js) no,oG (js:=js) rfl]
 have sm:bw (er (aU Z Θ (gw js env) σ) H) (er (aU (jZ D Z (gw js env) σ) Θ [] []) H2):=kj k S.qL fun b m=>by
  rcases(oG (js:=js) rfl).mp m with rfl|m
  ·exact .inr hD
  ·exact .inl m
 refine⟨?_,?_,fun b m=>?_,fun i x e=>?_,c⟩
 ·rw[gf,gf,aX,lv,K4];unfold frees frB;rw[aX,aX]
 ·show(jZ D Z (gw js env) σ++(Θ++bM (eZ ts++frB js env) (vs.map some++frees js σ))).Nodup
  rw[no];refine zq (jH.mpr ⟨fun m=>?_,?_⟩) dG.2.1 oA (fun b m m'=>?_) (fun _ m=>nomatch m)
  ·rcases cQ.mp m with m|m
   ·exact(S.dom D m).ne hD
   ·exact S.yV D (jr.mpr (.inr (.inr m))) hD
  ·rw[j6]
   exact⟨dG.1,dG.2.2.1,fun b m c' m' e=>by subst e;exact(S.nG m').1 m⟩
  ·rcases bI.mp m with rfl|m
   ·exact S.yV b (jr.mpr (.inr (.inl m'))) hD
   ·rcases cQ.mp m with m|m
    ·exact dG.2.2.2 b m m'
    ·exact(S.nG m).2 m'
 ·rcases bI.mp m with rfl|m
  ·exact nt
  ·have:NT (H b)∧b∉Θ:=by
    rcases cQ.mp m with m|m
    ·exact⟨S.dom b m,dG.2.2.2 b m⟩
    ·exact⟨S.K1 b (jr.mpr (.inr (.inr m))),(S.nG m).2⟩
   obtain⟨⟨u,e,n⟩,nb⟩:=this
   exact⟨u,k.keep _ _ e nb,n⟩
 ·rw[ee];by_cases hi:i<ts.length
  ·rw[m7 (by rw[K4];exact hi)] at e;unfold eZ at e;rw[gK] at e;cases ht:ts[i]? with
   |none=>rw[ht] at e;cases e
   |some t=>
    rw[ht] at e;cases e
    obtain⟨v,ev,rv⟩:=uJ r ht
    exact⟨v,by rw[m7 (by rw[aX,lv];exact hi),gK,ev];rfl,rv⟩
  ·rw[lA (by rw[K4];omega),K4] at e
   obtain⟨j,hj,hx,nx⟩:=abu e
   obtain⟨v,ev,rv⟩:=S.slot j x hx
   refine⟨v,?_,rv.same sm fun d _ z=>absurd z (nx d)⟩
   rw[lA (by rw[aX,lv];omega),aX,lv];unfold frees;rw[gK,hj];show some ((σ[j]?).join)=_;rw[ev];rfl
end
def je:FT:=fun _ C=>some (true,C)
theorem wj{X:Cx}:mY X [] (fH X.K je):=fun pins s σ H Q I aL=>by
 obtain⟨Z,Θ,env,C,b,C',S,hf,q⟩:=aL
 cases hf;exact ajf pins s σ H Q I (q H (aQ.refl _ _) S)
theorem JH{X:Cx}{c:Expr}{f:FT}(h:PT X c (fH X.K f)):mY X [c] (fH X.K f):=ajg h
theorem al4{K:aG}{T:gq}{E H:Hp}{d:ao}{x:V}{ts:List ao}(h:zu T d=some ts)(r:RZ E d x)(s:bw E H):∃vs,xx K T x H vs∧cD E ts vs:=by
 cases T with
 |one=>cases h;exact⟨[x],rfl,x,[],rfl,r,rfl⟩
 |many n=>
  cases d<;>first|cases h|skip
  rename_i ds;have h:(if ds.length=n then some ds else none)=some ts:=h;split at h
  ·rename_i hl;cases h
   obtain⟨a,vs,rfl,ha,r⟩:=r
   exact⟨vs,⟨a,rfl,cU.of (s _ _ ha),(iM r).trans hl⟩,r⟩
  ·cases h
def ue{α:Type}(T:gq)(ft:FT)(st:En→α→Ce→Option (α×Ce))(fs:En):List ao→α→Ce→Option (α×Ce)
 |[],a,C=>some (a,C)
 |d::r,a,C=>(zu T d).bind fun ts=>(ft (eZ ts++fs) C).bind fun p=>bif p.1 then(st (eZ ts++fs) a p.2).bind fun q=>ue T ft st fs r q.1 q.2 else ue T ft st fs r a p.2
inductive acz{α:Type}(Θ:List aa)(H1:Hp)(n:Nat)(Ob:α→Hp→Prop)(run:Nat→α→Ce→Prop)(i m:Nat)(H2:Hp):Prop
 |mk (a:α) (Ci:Ce) (hm:m=n-i) (hi:i≤n) (ki:aQ Θ H1 H2) (ci:oJ Θ Ci H2) (ob:Ob a H2) (hc:run i a Ci):acz Θ H1 n Ob run i m H2
section
variable{K:aG}{α:Type}{T:gq}{ft:FT}{st:En→α→Ce→Option (α×Ce)}{js:List Nat}{Z Θ:List aa}{e1:En}{C1 C':Ce}{σ:St}{H1:Hp}{J:It}{its:List ao}{D:aa}{o0:HO}{a0 aE:α}
theorem R4{Hx Hy:Hp}{u:HO}(hD:H1 D=nC)(kk:aQ Θ H1 Hx):aQ Θ H1 (upd Hx D u):=by
 refine⟨fun a o ha na=>?_,fun a ha=>?_⟩
 ·rw[cR (qb ha hD)];exact kk.keep _ _ ha na
 ·by_cases z:a=D
  ·subst z;rw[eU];exact vC _
  ·rw[cR z];exact kk.dom a ha
theorem Jo{Hx:Hp}{u:HO}(hD:D∉Θ)(c:oJ Θ C1 Hx):oJ Θ C1 (upd Hx D u):=by
 refine⟨c.len,fun n b ns e2 e3=>?_⟩
 rw[cR]
 ·exact c.at_ n b ns e2 e3
 ·intro z;subst z;exact hD (jB e2)
theorem Qn{em:TM}{Ob:α→Hp→Prop}{done:Hp→Prop}(S1:Sm K Z Θ e1 C1 σ H1)(it:wY (aU Z Θ e1 σ) Θ H1 J its)(hD:H1 D=nC)(ob0:Ob a0 (upd H1 D o0))(BZ:∀a Hx Hy,aQ Θ Hx Hy→Ob a Hx→Ob a Hy)(obn:∀a Hx,Ob a Hx→NT (Hx D))
  (hem:∀(ts:List ao)(a:α)(C2:Ce)(p:α×Ce)(vs:List V)(H4:Hp)(Q:Hp→Prop),st (eZ ts++frB js e1) a C2=some p→Sm K (jZ D Z (gw js e1) σ) Θ (eZ ts++frB js e1) C2 (vs.map some++frees js σ) H4→aQ Θ H1 H4→Ob a H4→(∀H6,aQ Θ H1 H6→oJ Θ p.2 H6→Ob p.1 H6→Q H6)→em (vs.map some++frees js σ) H4 Q)
  (hc:ue T ft st (frB js e1) its a0 C1=some (aE,C'))(hq:∀H2,aQ Θ H1 H2→oJ Θ C' H2→Ob aE H2→done H2):wW K T (fH K ft) em (frees js σ) J (upd H1 D o0) done:=by
 have qI:D∉Θ:=fun m=>(S1.cell.dom D m).ne hD
 have S1f:=S1.fz (Bc js e1)
 refine⟨acz Θ H1 its.length Ob (fun i a Ci=>ue T ft st (frB js e1) (its.drop i) a Ci=some (aE,C')),⟨its.length,⟨a0,C1,rfl,lD _,aQ.upd hD,Jo qI S1.cell,ob0,hc⟩⟩,fun i m H2 hh=>?_⟩
 cases hh with
 |mk a Ci hm hi ki ci ob hc=>
 subst hm;have nt:=obn a H2 ob;have smP:bw (er (aU Z Θ e1 σ) H1) (er (aU (jZ D Z (gw js e1) σ) Θ [] []) H2):=kj ki S1.qL fun b m=>by
  rcases(oG (js:=js) rfl).mp m with rfl|m
  ·exact .inr hD
  ·exact .inl ((Bc js e1).sub b m)
 have amG:∀a∈aU (jZ D Z (gw js e1) σ) Θ [] [],H2 a≠nC:=fun a m=>(S1f.blk hD ki nt ci (show cD _ [] [] from rfl)).yV a ((oG (js:=js) (Bd (env:=eZ []++frB js e1) JZ)).mpr ((oG (js:=js) rfl).mp m))
 obtain⟨UG,UJ⟩:=it i H2 _ smP (abn ki) amG
 cases hd:its[i]? with
 |none=>
  have hi2:i=its.length:=Nat.le_antisymm hi (Vm.mp hd);rw[hi2,aeH] at hc;cases hc;exact .inl ⟨UJ hi2,hq H2 ki ci ob⟩
 |some d=>
  obtain⟨hlt,ed⟩:=gZ.mp hd
  rw[adB hlt,ed] at hc
  obtain⟨go,yl⟩:=UG d hd
  refine .inr ⟨go,fun x H3 y=>?_⟩
  obtain⟨s3,r3⟩:=yl x H3 y
  obtain⟨ts,ht,hc⟩:=ir hc
  obtain⟨p,hft,hc⟩:=ir hc
  obtain⟨vs,tv,rvs⟩:=al4 (K:=K) ht r3 (Bj _ _)
  refine⟨vs,tv,?_⟩
  have k3:aQ Θ H1 H3:=ki.trans (aQ.of s3);have UL:=BZ a _ _ (aQ.of s3) ob;have SB:=S1f.blk (js:=js) hD k3 (obn a H3 UL) ⟨ci.len,fun n b ns e2 e3=>s3 _ _ (ci.at_ n b ns e2 e3)⟩ rvs;have lt:its.length-(i+1)<its.length-i:=by omega
  refine⟨_,Θ,_,Ci,p.1,p.2,SB,hft,fun H4 k4 S4=>?_⟩
  cases hp:p.1 with
  |false=>
   rw[hp] at hc;exact wU ⟨_,lt,⟨a,p.2,rfl,hlt,k3.trans k4,S4.cell,BZ a _ _ k4 UL,hc⟩⟩
  |true=>
   rw[hp] at hc
   obtain⟨q,hs,hc⟩:=ir hc
   exact wV (hem ts a p.2 q vs H4 _ hs S4 (k3.trans k4) (BZ a _ _ k4 UL) fun H6 k6 c6 o6=>⟨_,lt,⟨q.1,q.2,rfl,hlt,k6,c6,o6,hc⟩⟩)
end
def T5(fe:FE):En→List ao→Ce→Option (List ao×Ce):=fun env acc C=>(fe env C).bind fun q=>(imO (still q.1)).bind fun y=>bif decide (acc.length<LIM) then some (acc++[y],q.2.2) else none
theorem Rb{T:gq}{ft:FT}{fe:FE}{fs:En}{C':Ce}:∀{its:List ao}{ys acc:List ao}{C:Ce},kE T ft fe fs its C=some (ys,C')→acc.length+ys.length≤LIM→ue T ft (T5 fe) fs its acc C=some (acc++ys,C')
 |[],ys,acc,C,h,_=>by
  cases h;rw[mK];rfl
 |d::r,ys,acc,C,h,hl=>by
  unfold kE at h;unfold ue;split at h
  case h_2=>cases h
  rename_i ts ht;rw[ht,iZ];split at h
  case h_3=>cases h
  ·rename_i C1 hf;rw[hf,iZ];exact Rb h hl
  ·rename_i C1 hf;rw[hf,iZ];split at h
   case h_2=>cases h
   rename_i x e2 C2 hx;split at h
   case h_2=>cases h
   rename_i y hy;split at h
   case h_2=>cases h
   rename_i zs C3 hz;cases h;rw[dH] at hl
   show(T5 fe (eZ ts++fs) acc C1).bind _=_
   unfold T5;rw[hx,iZ,hy,show imO (.im y)=some y from rfl,iZ,decide_eq_true (by omega),show acc++y::zs=(acc++[y])++zs by rw[lB];rfl];exact Rb hz (by rw[gf];show acc.length+1+_≤_;omega)
theorem aaJ{K:aG}{fi:FI}{T:gq}{ft:FT}{fe:FE}{js:List Nat}:∀σ H Q,tE K (fLC fi T ft fe js) σ H Q→Um K (tI K true fi) T (fun _=>fH K ft) (fun _=>tE K fe) js σ H Q:=by
 rintro σ H Q ⟨Z,Θ,env,C,res,env',C',S,hf,q⟩;unfold fLC at hf;split at hf
 case h_2=>cases hf
 rename_i its e1 C1 h1;split at hf
 case h_2=>cases hf
 rename_i ys C2 h2;split at hf
 case isFalse=>cases hf
 rename_i hl;cases hf
 refine⟨Z,Θ,env,C,its,e1,C1,S,h1,fun J H1 k1 f1 S1 it D hD b=>?_⟩
 have qI:D∉Θ:=fun m=>(S1.cell.dom D m).ne hD
 have UT:D∈aU (jZ D Z (gw js e1) σ) Θ [] []:=(oG (js:=js) rfl).mpr (.inl rfl);refine Qn (a0:=[]) (Ob:=fun acc Hx=>jY (er (aU (jZ D Z (gw js e1) σ) Θ [] []) Hx) Hx D (.list acc)) S1 it hD ⟨[],eU,rfl⟩ (fun a Hx Hy kk r=>r.same (kj kk (fun a m=>jr.mpr (.inr (.inl m))) fun a m=>.inl m) fun o h=>kk.keep _ _ h qI)
  (fun a Hx r=>by obtain⟨vs,e,_⟩:=r;exact⟨_,e,fun _ z=>nomatch z⟩) ?_ (Rb (acc:=[]) h2 (by rw[Cq,HN];exact hl)) fun H2 ki ci r=>?_
 ·intro ts acc C2 p vs H4 Q hs S4 k4 r4 hQ
  obtain⟨w,hfe,hs⟩:=ir hs
  obtain⟨yd,rY,hs⟩:=ir hs
  have rY:=Eb rY;cases hlt:decide (acc.length<LIM) with
  |false=>rw[hlt] at hs;cases hs
  |true=>
  rw[hlt] at hs;cases hs
  refine⟨_,Θ,_,C2,w.1,w.2.1,w.2.2,S4,hfe,fun y H5 k5 f5 R5=>?_⟩
  obtain⟨S5,r5⟩:=R5.ud rY
  obtain⟨u6,hD5,rr⟩:=r4.same (kj k5 (fun a m=>jr.mpr (.inr (.inl m))) fun a m=>.inl m) fun o h=>k5.keep _ _ h qI
  have UW:bM w.2.1 (vs.map some++frees js σ)=[]:=by
   have:=(Fz.own (σ:=vs.map some++frees js σ) f5)
   rw[Bd JZ] at this;exact aeI.mp this
  have e5:er (aU (jZ D Z (gw js e1) σ) Θ w.2.1 (vs.map some++frees js σ)) H5=er (aU (jZ D Z (gw js e1) σ) Θ [] []) H5:=rD fun a=>by rw[oG (js:=js) UW,oG (js:=js) rfl]
  rw[e5] at r5;have lt:=of_decide_eq_true hlt
  refine⟨u6,hD5,by rw[iM rr,jq];unfold LIM at lt;omega,hQ _ (R4 (Hy:=H5) hD (k4.trans k5)) (Jo qI S5.cell) ⟨_,eU,?_⟩⟩
  rw[JX UT];exact yu rr ⟨y,[],rfl,r5,rfl⟩
 ·obtain⟨u6,hDi,ri⟩:=r
  refine q _ H2 (k1.trans ki) ?_ ?_
  ·split
   ·exact f1
   ·exact f1.trans (Bc js e1)
  ·refine⟨D,rfl,k1.none hD,?_⟩
   split
   ·rename_i hn;have SD:=S1.yO hD ki ⟨_,hDi,fun _ z=>nomatch z⟩ ci
    exact⟨SD,u6,hDi,ri.jK (fun a vs e=>Ea SD (jb e)) hn⟩
   ·refine⟨(S1.fz (Bc js e1)).yO hD ki ⟨_,hDi,fun _ z=>nomatch z⟩ ci,u6,hDi,?_⟩
    rw[rD (P':=aU (D::Z) Θ (gw js e1) σ) fun a=>by rw[oG (js:=js) rfl];show _↔a∈D::aU Z Θ (gw js e1) σ;rw[bI]] at ri;exact ri
section
variable{X:Cx}{NT NF:List Str}{js:List Nat}{elt tg iter:Expr}{ifs:List Expr}{T:gq}{fi:FI}{ft:FT}{fe:FE}{scope:ju}{pos:Pos}
theorem wM(B:pN X NT NF js scope)(tk:oU tg NT T)(hc:X.calm=true)(hi:PI X tg iter (tI X.K true fi))
  (hin:∀b,mY (X.bk (NT++NF) scope b) ifs (fH X.K ft)∧PE (X.bk (NT++NF) scope b) elt (tE X.K fe))
  (hs:∀x,uz iter X.env x=pure x:=by intro _;rfl):PE X (.ListComp elt [⟨tg,iter,ifs,0⟩] scope pos) (tE X.K (fLC fi T ft fe js)):=(alZ B tk hc hi hin hs).weak aaJ
theorem Zw{i:Nat}{y:Str}{pos' spos:Pos}(B:pN X NT NF js scope)(tk:oU tg NT T)(hc:X.calm=true)(hi:PI X tg iter (tI X.K true fi))
  (hin:∀b,mY (X.bk (NT++NF) scope b) ifs (fH X.K ft)∧PE (X.bk (NT++NF) scope b) elt (tE X.K fe))
  (hsw:tK (.ListComp elt [⟨tg,iter,ifs,0⟩] scope pos) (some (.Name y pos')) spos.line X.env=pure true)(hN:X.N.Nodup)(hI:X.N[i]?=some y)(hy:X.env.scope.names.lookup y=some .local)
  (hs:∀x,uz iter X.env x=pure x:=by intro _;rfl):PS X (.Assign [.Name y pos'] (.ListComp elt [⟨tg,iter,ifs,0⟩] scope pos) spos) (tS X.K (fSet i (fLC fi T ft fe js))):=(ahS B tk hc hi hin hsw hN hI hy hs).weak (Ql aaJ)
end
def Bq(n:Nat):Vl→Bool
 |.ce m=>decide (m<n)
 |_=>true
def fN(k n:Nat)(body:FS):FN:=fun xs C=>if xs.length=k then match body (xs.map some++iJ (n-xs.length) none) C with
  |some (.rt r,_,C')=>if Bq C.length r then some (r,C'.take C.length) else none
  |some (.nx,_,C')=>some (.im .none,C'.take C.length)
  |_=>none
 else none
section
variable{K:aG}{Z Θ:List aa}{C:Ce}{H:Hp}{xs:List Vl}{vs:List V}
theorem Qo(a:qt K E Θ xs vs):vs.length=xs.length:=by
 induction a with
 |nil=>rfl
 |cons _ _ ih=>rw[dH,dH,ih]
theorem ajD(a:qt K E Θ xs vs):∀{i:Nat}{x:Vl},xs[i]?=some x→∃v,vs[i]?=some v∧uR K E Θ x v:=by
 induction a with
 |nil=>intro i x e;simp at e
 |cons h _ ih=>
  intro i x e;cases i with
  |zero=>simp at e;subst e;exact⟨_,rfl,h⟩
  |succ i=>
   obtain⟨v,e2,h2⟩:=ih (i:=i) (by simpa using e)
   exact⟨v,by simpa using e2,h2⟩
theorem Sm.start(S:Sm K Z Θ [] C [] H)(a:qt K (er (aU Z Θ [] []) H) Θ xs vs):Sm K Z Θ (xs.map some++iJ n nC) C (vs.map some++iJ n nC) H∧bM (xs.map some++iJ n nC) (vs.map some++iJ n nC)=[]:=by
 have lv:=Qo a;have at':∀{i:Nat}{x:Vl},(xs.map some++iJ n nC)[i]?=some (some x)→∃v,vs[i]?=some v∧uR K (er (aU Z Θ [] []) H) Θ x v∧i<vs.length:=fun{i x} e=>by
  by_cases hi:i<xs.length
  ·rw[m7 (by rw[aX];exact hi),gK] at e;cases hx:xs[i]? with
   |none=>rw[hx] at e;cases e
   |some y=>
    rw[hx] at e;cases e
    obtain⟨v,e1,h⟩:=ajD a hx
    exact⟨v,e1,h,by rw[lv];exact hi⟩
  ·rw[lA (by rw[aX];omega)] at e;have:=jB e;exact nomatch(List.eq_of_mem_replicate this)
 have no:bM (xs.map some++iJ n nC) (vs.map some++iJ n nC)=[]:=Bd fun i d e=>by
  obtain⟨v,_,h,_⟩:=at' e
  exact h
 refine⟨⟨by simp[lv],?_,S.dom,fun i x e=>?_,S.cell⟩,no⟩
 ·show(Z++(Θ++bM _ _)).Nodup
  rw[no];exact S.nd
 ·obtain⟨v,e1,h,hl⟩:=at' e
  refine⟨v,by rw[m7 (by rw[aX];exact hl),gK,e1];rfl,?_⟩
  have ee:er (aU Z Θ (xs.map some++iJ n nC) (vs.map some++iJ n nC)) H=er (aU Z Θ [] []) H:=by
   show er (Z++(Θ++bM _ _)) H=_;rw[no];rfl
  rw[ee];cases x with
  |im d=>exact h
  |ow d=>exact h.elim
  |ce m=>exact h
  |sc ns=>exact h
theorem Sm.cut(S:Sm K Z (Θ++Δ) [] C [] H):Sm K Z Θ [] (C.take Θ.length) [] H:=by
 have dG:=S.dG;have cl:=S.cell.len;rw[gf] at cl
 refine⟨rfl,zq dG.1 (j6.mp dG.2.1).1 oA (fun b m m'=>dG.2.2.2 b m (gJ _ m')) (fun _ m=>nomatch m),S.dom,fun i x e=>by simp at e,⟨by rw[jU];omega,fun n a ns e1 e2=>?_⟩⟩
 have hn:n<Θ.length:=(gZ.mp e1).1;rw[Cj,if_pos hn] at e2;exact S.cell.at_ n a ns (by rw[m7 hn];exact e1) e2
theorem Kd.cut(t:jR Θ Θ' H)(ok:Bq Θ.length r=true)(no:O=[])(h:Kd K Z Θ' C' O H H' r v):Res K Z Θ [] (C'.take Θ.length) [] H H' r v:=by
 obtain⟨Δ,rfl,hn⟩:=t.ex
 have sm:∀{Y:List aa},bw (er (aU Y (Θ++Δ) [] []) H') (er (aU Y Θ [] []) H'):=fun{Y}=>tV fun a m=>by
  rcases jr.mp m with m|m|m
  ·exact jr.mpr (.inl m)
  ·exact jr.mpr (.inr (.inl (gJ _ m)))
  ·nomatch m
 cases r with
 |im d=>exact⟨h.1.cut,h.2.same sm⟩
 |ow d=>
  obtain⟨a,e,m,S,r⟩:=h
  refine⟨a,e,?_,S.cut,r.same sm fun _ h=>h⟩
  rcases m with m|m
  ·rw[no] at m;nomatch m
  ·exact m
 |ce n=>
  obtain⟨S,a,e,e2⟩:=h
  refine⟨S.cut,a,e,?_⟩
  rw[m7 (of_decide_eq_true ok)] at e2;exact e2
 |sc ns=>
  obtain⟨S,a,e,q⟩:=h
  exact⟨S.cut,a,e,sm.seq q⟩
end
section
variable{P:bh}{w:aZ}{K:aG}{mg:Str→Option Value}{base:aV}
theorem iR{x qual:Str}{st:cZ}{f:aa}{fd:dz}{N ps:List Str}{k:Nat}{body:FS}{k1 k2:Nat}(F:fL K x qual st f fd)(S:gG N ps (cV st))
  (hb:∀(cdv:Value)(A:cI)(outer:List Env)(s:aC)(H:Hp)(E:XK),iT k (A.deeper (envOfC qual (cV st) s.heap.objs.size f cdv))→jl (yU eY P w K mg base N qual (cV st) f cdv A outer s H E).vf (vZ st) (tS K body))
  (e1:k1=ps.length:=by rfl)(e2:k2=N.length:=by rfl):dw P w K mg base eY (k+1) f fd ps (spT K (fN k1 k2 body)):=by
 subst e1 e2;refine F.ok S (fun vs H Q E h=>?_) (fun cdv A outer s H vs Q E hr h=>⟨_,hb cdv A outer s H E hr,?_⟩)
 ·obtain⟨Z,Θ,C,xs,r,C',S0,a,hf,_⟩:=h
  unfold fN at hf;split at hf
  ·rename_i hl;rw[Qo a,hl]
  ·cases hf
 ·obtain⟨Z,Θ,C,xs,r,C',S0,a,hf,q⟩:=h
  unfold fN at hf;split at hf
  case isFalse=>cases hf
  rename_i hl;have lv:=Qo a
  obtain⟨S1,no⟩:=S0.start (n:=N.length-vs.length) a
  rw[lv] at S1 no;have hs:start N vs=vs.map some++iJ (N.length-xs.length) none:=by unfold start;rw[lv]
  rw[hs];have cl:=S0.cell.len;split at hf
  ·rename_i r0 e' C1 hb';split at hf
   ·rename_i hok;cases hf
    refine⟨Z,Θ,_,C,.rt r,e',C1,S1,hb',fun Θ' v H' R=>?_⟩
    have kp:=R.kp;rw[no,mK] at kp;rw[cl] at q hok;exact q v H' kp (R.ok.cut R.th hok no)
   ·cases hf
  ·rename_i e' C1 hb';cases hf
   refine⟨Z,Θ,_,C,.nx,e',C1,S1,hb',fun Θ' σ' H' R=>?_⟩
   have kp:=R.kp;rw[no,mK] at kp
   obtain⟨Δ,e,hn⟩:=R.th.ex
   have S2:=R.sm.none;rw[e] at S2;rw[cl] at q;exact q .non H' kp ⟨S2.cut,rfl⟩
  ·cases hf
theorem ak9(hS:bL K H a (ns.map V.int))(h:f [.sc ns] []=some (.im (.bool true),C')):spT K f [.ref a] H (fun v _=>v=.bl true) E:=by
 refine⟨[],[],[],[.sc ns],_,C',⟨rfl,oA,(fun _ m=>nomatch m),fun i x e=>by simp at e,⟨rfl,fun n b ms e _=>by simp at e⟩⟩,.cons ⟨a,rfl,?_⟩ .nil,h,fun v H' _ R=>R.2⟩
 show bL K (er [] H) a _;rw[DX];exact hS
end
def wN(i:Nat):FE:=fun env C=>match env[i]? with
 |some (some (.sc ns))=>some (.im (.int ns.length),env,C)
 |_=>none
def Fq(i:Nat)(f:FB):FE:=fun env C=>match env[i]? with
 |some (some (.sc ns))=>match f env C with
  |some (.int k,_,C1)=>match cX ns k with
   |some z=>some (.im (.int z),env,C1)
   |none=>none
  |_=>none
 |_=>none
section
variable{X:Cx}{o k:Expr}{i:Nat}{p pos:Pos}
theorem aaK(ho:PE X o (pR i))(hg:Gl X "len")(hm:X.mg "len"=none)(hv:sX "len"=some (.builtin "len"))
  (he:aW [o] X.env=(false,eval o X.env)::aW [] X.env:=by rfl)(hpl:(fG pos (aW [] X.env)).any (·.1)=false:=by rfl):PE X (.Call (.Name "len" p) [o] [] pos) (tE X.K (wN i)):=
 (Je W9 hg hm hv (mU ho pH he) (by decide) (by decide) he hpl).weak fun σ H Q aL=>by
  obtain⟨Z,Θ,env,C,r,env',C',S,hf,q⟩:=aL
  unfold wN at hf;split at hf
  ·rename_i ns h0;cases hf
   obtain⟨v,ev,a,rfl,sq⟩:=S.slot i _ h0
   have:=q (.int ns.length) H (aQ.refl _ _) (Fz.refl _) ⟨S,rfl⟩
   exact⟨_,ev,a,_,rfl,.inl ((Bj _ _).seq sq),by rw[aX];exact this⟩
  ·cases hf
theorem ala(ho:PE X o (pR i))(hk:PE X k (dF X.K f))(hs:Jw k):PE X (.Subscript o k pos) (tE X.K (Fq i f)):=(S8 QZ ho hk hs).weak fun σ H Q aL=>by
 obtain⟨Z,Θ,env,C,r,env',C',S,hf,q⟩:=aL
 unfold Fq at hf;split at hf
 case h_2=>cases hf
 rename_i ns h0;split at hf
 case h_2=>cases hf
 rename_i z e1 C1 h1;split at hf
 case h_2=>cases hf
 rename_i y hy;cases hf
 obtain⟨v,ev,a,rfl,sq⟩:=S.slot i _ h0
 refine⟨_,ev,Z,Θ,env,C,_,e1,C',S,h1,fun w H1 k1 f1 S1 b1=>?_⟩
 have S2:=S.go k1 S1.cell
 obtain⟨v2,ev2,a2,ea2,sq2⟩:=S2.slot i _ h0
 rw[ev] at ev2;cases ev2;cases ea2
 refine⟨a,_,z,.int y,rfl,b1,(Bj _ _).seq sq2,?_,q _ H1 k1 (Fz.refl _) ⟨S2,rfl⟩⟩
 unfold cX at hy⊢;rw[aX];cases hj:mD ns.length z with
 |none=>rw[hj] at hy;cases hy
 |some j=>
  rw[hj] at hy
  show(ns.map V.int)[j]?=_
  rw[gK,show ns[j]?=some y from hy];rfl
end
section
variable{K:aG}{X:Cx}
theorem oO(h:J8 Z Θ env σ H [d] vs):∃v,vs=[v]∧fK Z Θ env σ H d v:=by
 cases h with
 |cons a b=>cases b;exact⟨_,rfl,a⟩
theorem abW(h:J8 Z Θ env σ H [d,e] vs):∃v w,vs=[v,w]∧fK Z Θ env σ H d v∧fK Z Θ env σ H e w:=by
 cases h with
 |cons a b=>
  cases b with
  |cons b c=>cases c;exact⟨_,_,rfl,a,b⟩
def Ft:ao→Option Nat
 |.list ds=>some ds.length
 |.tuple ds=>some ds.length
 |.str z=>if z.length≤LIM then some z.length else none
 |.dict kvs=>if(cO di kvs).isSome then some kvs.length else none
 |_=>none
def jN:List ao→Option Vl
 |[d]=>(Ft d).map fun n=>.im (.int n)
 |_=>none
def abX(K:aG):List V→Hp→VK→Prop:=fun xs H Q=>((∃p ys,xs=[.ref p]∧(bL K H p ys∨cU K H p ys)∧Q (.int ys.length) H)∨∃z,xs=[.str z]∧z.length≤bR∧Q (.int z.length) H)∨∃a kvs,xs=[V.ref a]∧H a=some (.dK kvs)∧Q (.int kvs.length) H
theorem pA:iQ X (.builtin "len") (abX X.K):=(W9.or afp).or agS
theorem pJ:n6 K (abX K) jN:=by
 intro Z Θ env C σ H xs ds res S b e Q q;unfold jN at e;split at e
 case h_2=>cases e
 rename_i d
 obtain⟨v,rfl,bb⟩:=oO b
 cases hn:Ft d with
 |none=>rw[hn] at e;cases e
 |some n=>
  rw[hn] at e;cases e;have fin:=q (.int n) H (aQ.refl _ _) (iK S rfl rfl);cases d<;>first|cases hn|skip
  ·rename_i z;simp only[Ft] at hn;split at hn
   ·rename_i hl;cases hn;cases bb.str;exact .inl (.inr ⟨z,rfl,qY hl,fin⟩)
   ·cases hn
  ·obtain⟨a,vs,rfl,ha,r⟩:=bb.lst
   exact .inl (.inl ⟨a,vs,rfl,.inl (bL.of ha),by rw[iM r];exact fin⟩)
  ·obtain⟨a,vs,rfl,ha,r⟩:=bb.tup
   exact .inl (.inl ⟨a,vs,rfl,.inr (cU.of ha),by rw[iM r];exact fin⟩)
  ·rename_i kvs;simp only[Ft] at hn;split at hn
   ·rename_i hs;cases hn
    obtain⟨a,vs,rfl,da,r⟩:=bb.dct
    rcases da with⟨ks,h1,ha⟩|⟨ks,⟨ne,h2⟩,ha⟩
    ·refine .inr ⟨a,_,rfl,ha,?_⟩;rw[Wh,vU h1,Ds r,Nat.min_self];exact fin
    ·obtain⟨ks',h1⟩:=xP.mp hs
     exact absurd (vV h1 h2) ne
   ·cases hn
def Ew:List ao→Option Vl
 |[.int i]=>some (.im (.int (if i<0 then -i else i)))
 |_=>none
theorem abv:n6 K (fun xs H Q=>∃i,xs=[.int i]∧Q (.int (if i<0 then -i else i)) H) Ew:=by
 intro Z Θ env C σ H xs ds res S b e Q q;unfold Ew at e;split at e
 case h_2=>cases e
 cases e
 obtain⟨v,rfl,bb⟩:=oO b
 cases bb.int
 exact⟨_,rfl,q _ H (aQ.refl _ _) (iK S rfl rfl)⟩
def wO:List ao→Option Vl
 |[.int i]=>some (.im (.int i))
 |[.bool k]=>some (.im (.int (if k then 1 else 0)))
 |_=>none
theorem R7:n6 K (fun xs H Q=>(∃i,xs=[.int i]∧Q (.int i) H)∨∃k,xs=[.bl k]∧Q (.int (if k then 1 else 0)) H) wO:=by
 intro Z Θ env C σ H xs ds res S b e Q q;unfold wO at e;split at e
 case h_3=>cases e
 ·cases e
  obtain⟨v,rfl,bb⟩:=oO b
  cases bb.int;exact .inl ⟨_,rfl,q _ H (aQ.refl _ _) (iK S rfl rfl)⟩
 ·cases e
  obtain⟨v,rfl,bb⟩:=oO b
  cases(show v=.bl _ from bb)
  exact .inr ⟨_,rfl,q _ H (aQ.refl _ _) (iK S rfl rfl)⟩
def tX:List ao→Option Vl
 |[.int i,.int j]=>some (.im (.int (if j>i then j else i)))
 |_=>none
def pK:List ao→Option Vl
 |[.int i,.int j]=>some (.im (.int (if j<i then j else i)))
 |_=>none
theorem Rc:n6 K (fun xs H Q=>∃i j,xs=[.int i,.int j]∧Q (.int (if j>i then j else i)) H) tX:=by
 intro Z Θ env C σ H xs ds res S b e Q q;unfold tX at e;split at e
 case h_2=>cases e
 cases e
 obtain⟨v,w,rfl,b1,b2⟩:=abW b
 cases b1.int;cases b2.int
 exact⟨_,_,rfl,q _ H (aQ.refl _ _) (iK S rfl rfl)⟩
theorem Av:n6 K (fun xs H Q=>∃i j,xs=[.int i,.int j]∧Q (.int (if j<i then j else i)) H) pK:=by
 intro Z Θ env C σ H xs ds res S b e Q q;unfold pK at e;split at e
 case h_2=>cases e
 cases e
 obtain⟨v,w,rfl,b1,b2⟩:=abW b
 cases b1.int;cases b2.int
 exact⟨_,_,rfl,q _ H (aQ.refl _ _) (iK S rfl rfl)⟩
def boolsOf:List ao→Option (List Bool)
 |[]=>some []
 |.bool b::r=>match boolsOf r with
  |some t=>some (b::t)
  |none=>none
 |_=>none
theorem Yv:∀{ds:List ao}{ns:List Bool}{vs:List V},boolsOf ds=some ns→cD E ds vs→vs=ns.map V.bl
 |[],ns,vs,h,r=>by cases h;exact r
 |.bool i::ds,ns,vs,h,r=>by
  unfold boolsOf at h;split at h
  ·rename_i t ht;cases h
   obtain⟨u,w,rfl,q,s⟩:=r
   rw[Yv ht s];have:u=.bl i:=q;rw[this];rfl
  ·cases h
 |.none::_,_,_,h,_=>by cases h
 |.int _::_,_,_,h,_=>by cases h
 |.str _::_,_,_,h,_=>by cases h
 |.list _::_,_,_,h,_=>by cases h
 |.tuple _::_,_,_,h,_=>by cases h
 |.dict _::_,_,_,h,_=>by cases h
def Tf:List ao→Option Vl
 |[.list ds]=>(boolsOf ds).map fun bs=>.im (.bool (bs.all id))
 |_=>none
theorem alb:n6 K (fun xs H Q=>∃(p:aa)(bs:List Bool),xs=[.ref p]∧bL K H p (bs.map V.bl)∧Q (.bl (bs.all id)) H) Tf:=by
 intro Z Θ env C σ H xs ds res S b e Q q;unfold Tf at e;split at e
 case h_2=>cases e
 rename_i ds;cases hb:boolsOf ds with
 |none=>rw[hb] at e;cases e
 |some bs=>
  rw[hb] at e;cases e
  obtain⟨v,rfl,bb⟩:=oO b
  obtain⟨a,vs,rfl,ha,r⟩:=bb.lst
  rw[Yv hb r] at ha
  exact⟨a,bs,rfl,bL.of ha,q _ H (aQ.refl _ _) (iK S rfl rfl)⟩
def abw:List ao→Option Vl
 |[d]=>if pZ d&&d.showable&&decide (d.depth≤60)&&decide (d.shown.length≤LIM) then some (.im (.str d.shown)) else none
 |_=>none
def Dv:List ao→Option Vl
 |[.list ds]=>some (.im (.tuple ds))
 |[.tuple ds]=>some (.im (.tuple ds))
 |_=>none
theorem Zx:n6 K (fun xs H Q=>∃p ys,xs=[.ref p]∧((bL K H p ys∧∀l,H l=none→Q (.ref l) (upd H l (.tup ys)))∨(cU K H p ys∧Q (.ref p) H))) Dv:=by
 intro Z Θ env C σ H xs ds res S b e Q q;unfold Dv at e;split at e
 case h_3=>cases e
 ·cases e
  obtain⟨v,rfl,bb⟩:=oO b
  obtain⟨a,vs,rfl,ha,r⟩:=bb.lst
  exact⟨a,vs,rfl,.inl ⟨bL.of ha,fun l hl=>q _ _ (aQ.upd hl) (JB S r hl)⟩⟩
 ·cases e
  obtain⟨v,rfl,bb⟩:=oO b
  obtain⟨a,vs,rfl,ha,r⟩:=bb.tup
  exact⟨a,vs,rfl,.inr ⟨cU.of ha,q _ H (aQ.refl _ _) ⟨S,bb⟩⟩⟩
end
def BL(n:String):ao→Option Bool
 |.none=>some false
 |.bool _=>some (n=="bool"||n=="int")
 |.int _=>some (n=="int")
 |.str _=>some (n=="str")
 |.list _=>some (n=="list")
 |.tuple _=>some (n=="tuple")
 |.dict _=>none
def Fv(n:String):Bool:=n=="bool"||n=="int"||n=="str"||n=="list"||n=="tuple"
theorem R8{K:aG}{n:String}{d:ao}{b:Bool}(hn:Fv n=true)(e:BL n d=some b):zT K (Gk d) (.type n)=some b:=by
 unfold Fv at hn;simp only[Bool.or_eq_true,beq_iff_eq] at hn;rcases hn with(((rfl|rfl)|rfl)|rfl)|rfl<;>cases d<;>cases e<;>rfl
theorem Zy(e:BL n d=some b):∀kvs,d≠.dict kvs:=fun kvs z=>by subst z;cases e
theorem fK.ty{K:aG}{Z Θ:List aa}{env:En}{σ:St}{H:Hp}{d:ao}{v:V}(h:fK Z Θ env σ H d v)(hd:∀kvs,d≠.dict kvs):lX K H v (Gk d):=by
 cases d with
 |none=>exact RX.ty (d:=.none) h
 |bool b=>exact RX.ty (d:=.bool b) h
 |int i=>exact RX.ty (d:=.int i) h
 |str z=>exact RX.ty (d:=.str z) h
 |list ds=>
  obtain⟨a,vs,rfl,ha,r⟩:=h.lst
  exact .lst ha
 |tuple ds=>
  obtain⟨a,vs,rfl,ha,r⟩:=h.tup
  exact .tup ha
 |dict kvs=>exact absurd rfl (hd kvs)
def oW(n:String)(f:FB):FE:=fun env C=>match f env C with
 |some (d,_,C1)=>match BL n d with
  |some b=>some (.im (.bool b),env,C1)
  |none=>none
 |none=>none
def Ke(m n:String)(f:FB):FE:=fun env C=>match f env C with
 |some (d,_,C1)=>match BL m d,BL n d with
  |some p,some q=>some (.im (.bool (p||q)),env,C1)
  |_,_=>none
 |none=>none
section
variable{X:Cx}{a t t':Expr}{p pos tp:Pos}{x1:Nat}
theorem rE(hn:Fv n=true)(ha:PE X a (dF X.K f))(ht:PE X t (tC (.ty n)))(hg:Gl X "isinstance")(hm:X.mg "isinstance"=none)(hv:sX "isinstance"=some (.builtin "isinstance"))
  (he:aW [a,t] X.env=(false,eval a X.env)::aW [t] X.env:=by rfl)(he2:aW [t] X.env=(false,eval t X.env)::aW [] X.env:=by rfl)(hpl:(fG pos (aW [t] X.env)).any (·.1)=false:=by rfl):
  PE X (.Call (.Name "isinstance" p) [a,t] [] pos) (tE X.K (oW n f)):=
 (Je afO hg hm hv (mU ha (mU ht pH he2) he) (by decide) (by decide) he hpl).weak fun σ H Q aL=>by
  obtain⟨Z,Θ,env,C,r,env',C',S,hf,q⟩:=aL
  unfold oW at hf;split at hf
  case h_2=>cases hf
  rename_i d e1 C1 h1;split at hf
  case h_2=>cases hf
  rename_i b hb;cases hf
  refine⟨Z,Θ,env,C,d,e1,C',S,h1,fun v H1 k f S1 b1=>⟨v,n,Gk d,b,rfl,b1.ty (Zy hb),R8 hn hb,q _ H1 k (Fz.refl _) ⟨S.go k S1.cell,rfl⟩⟩⟩
theorem ajE(hm':Fv m=true)(hn:Fv n=true)(ha:PE X a (dF X.K f))(ht:PE X t (tC (.ty m)))(ht':PE X t' (tC (.ty n)))(hg:Gl X "isinstance")(hm:X.mg "isinstance"=none)(hv:sX "isinstance"=some (.builtin "isinstance"))
  (he:aW [a,.Tuple [t,t'] x1 tp] X.env=(false,eval a X.env)::aW [.Tuple [t,t'] x1 tp] X.env:=by rfl)(he2:aW [.Tuple [t,t'] x1 tp] X.env=(false,eval (.Tuple [t,t'] x1 tp) X.env)::aW [] X.env:=by rfl)
  (h3:aW [t,t'] X.env=(false,eval t X.env)::aW [t'] X.env:=by rfl)(h4:aW [t'] X.env=(false,eval t' X.env)::aW [] X.env:=by rfl)
  (hpl:(fG pos (aW [.Tuple [t,t'] x1 tp] X.env)).any (·.1)=false:=by rfl):
  PE X (.Call (.Name "isinstance" p) [a,.Tuple [t,t'] x1 tp] [] pos) (tE X.K (Ke m n f)):=
 (Je afr hg hm hv (mU ha (mU (RL (mU ht (mU ht' pH h4) h3)) pH he2) he) (by decide) (by decide) he hpl).weak fun σ H Q aL=>by
  obtain⟨Z,Θ,env,C,r,env',C',S,hf,q⟩:=aL
  unfold Ke at hf;split at hf
  case h_2=>cases hf
  rename_i d e1 C1 h1;split at hf
  case h_2=>cases hf
  rename_i b b' hb hb';cases hf
  refine⟨Z,Θ,env,C,d,e1,C',S,h1,fun v H1 k f S1 b1=>⟨by show 2≤bR;rw[jq];decide,fun c hc=>?_⟩⟩
  have kc:aQ Θ H1 (upd H1 c (.tup [.ty m,.ty n])):=aQ.upd hc;have s2:=S1.yM (bw.upd (o:=.tup [.ty m,.ty n]) hc);have b2:=b1.go S1 kc (Fz.refl _)
  refine⟨v,c,m,n,Gk d,b,b',rfl,eU,b2.ty (Zy hb),R8 hm' hb,R8 hn hb',q _ _ (k.trans kc) (Fz.refl _) ⟨S.go (k.trans kc) s2.cell,rfl⟩⟩
end
def ins{α:Type}(lt:α→α→Bool)(x:α):List α→List α
 |[]=>[x]
 |y::r=>if lt y x then y::ins lt x r else x::y::r
def nO{α:Type}(lt:α→α→Bool):List α→List α
 |[]=>[]
 |x::r=>ins lt x (nO lt r)
section
variable{α:Type}{lt:α→α→Bool}
theorem Qp(x:α):∀l:List α,(ins lt x l).Perm (x::l)
 |[]=>zU _
 |y::r=>by
  unfold ins;split
  ·exact((Qp x r).cons y).trans (MJ x y r)
  ·exact zU _
theorem yj:∀l:List α,(nO lt l).Perm l
 |[]=>zU _
 |x::r=>(Qp x _).trans ((yj r).cons x)
structure Br(lt:α→α→Bool)(P:α→Prop):Prop where
 ack:∀a b,P a→P b→lt a b=true→lt b a=false
 neg:∀a b c,P a→P b→P c→lt a c=true→lt a b=true∨lt b c=true
 tot:∀a b,P a→P b→lt a b=false→lt b a=false→a=b
theorem abx(O:Br lt P)(hx:P x):∀{l:List α},(∀y∈l,P y)→l.Pairwise (fun a b=>lt b a=false)→(ins lt x l).Pairwise (fun a b=>lt b a=false)
 |[],_,_=>sJ.mpr ⟨fun _ m=>(nomatch m),zH⟩
 |y::r,hp,h=>by
  rw[sJ] at h;have py:=hp y dm;unfold ins;split
  ·rename_i hl;rw[sJ]
   refine⟨fun z m=>?_,abx O hx (fun z m=>hp z (dM _ m)) h.2⟩
   rcases bI.mp ((Qp x r).mem_iff.mp m) with rfl|m
   ·exact O.ack _ _ py hx hl
   ·exact h.1 z m
  ·rename_i hl;have hl:lt y x=false:=by simpa using hl
   rw[sJ,sJ]
   refine⟨fun z m=>?_,h.1,h.2⟩
   rcases bI.mp m with rfl|m
   ·exact hl
   ·have pz:=hp z (dM _ m);cases hz:lt z x with
    |false=>rfl
    |true=>
     rcases O.neg z y x pz py hx hz with h1|h1
     ·rw[h.1 z m] at h1;cases h1
     ·rw[hl] at h1;cases h1
theorem Qq(O:Br lt P):∀{l:List α},(∀y∈l,P y)→(nO lt l).Pairwise (fun a b=>lt b a=false)
 |[],_=>zH
 |x::r,hp=>abx O (hp x dm) (fun y m=>hp y (dM _ ((yj r).mem_iff.mp m))) (Qq O fun y m=>hp y (dM _ m))
theorem aby(O:Br lt P):∀{l m:List α},(∀y∈l,P y)→l.Perm m→l.Pairwise (fun a b=>lt b a=false)→m.Pairwise (fun a b=>lt b a=false)→l=m
 |[],m,_,p,_,_=>(List.nil_perm.mp p).symm
 |x::r,[],_,p,_,_=>absurd p.length_eq (by simp)
 |x::r,y::t,hp,p,h1,h2=>by
  have pm:∀z∈y::t,P z:=fun z m=>hp z (p.mem_iff.mpr m)
  rw[sJ] at h1 h2;have e:x=y:=by
   have m1:x∈y::t:=p.mem_iff.mp dm;have m2:y∈x::r:=p.mem_iff.mpr dm;rcases bI.mp m1 with e|m1
   ·exact e
   ·rcases bI.mp m2 with e|m2
    ·exact e.symm
    ·exact O.tot x y (hp x dm) (pm y dm) (h2.1 x m1) (h1.1 y m2)
  subst e;rw[aby O (fun z m=>hp z (dM _ m)) ((List.perm_cons x).mp p) h1.2 h2.2]
theorem aaL(O:Br lt P)(hp:∀y∈l,P y)(p:m.Perm l)(h:m.Pairwise (fun a b=>lt b a=false)):m=nO lt l:=
 aby O (fun y hy=>hp y (p.mem_iff.mp hy)) (p.trans (yj l).symm) h (Qq O hp)
end
def ltI(i j:Int):Bool:=decide (i<j)
theorem acA:Br ltI (fun _=>True):=⟨fun a b _ _ h=>by unfold ltI at *;simp at *;omega,fun a b c _ _ _ h=>by unfold ltI at *;simp at *;omega,fun a b _ _ h1 h2=>by unfold ltI at *;simp at *;omega⟩
theorem acB:Br strLt (fun _=>True):=by
 refine⟨fun a b _ _ h=>?_,fun a b c _ _ _ h=>?_,fun a b _ _ h1 h2=>?_⟩
 ·exact ajl (a:=.inr a) (b:=.inr b) h
 ·exact akW (a:=.inr a) (b:=.inr b) (c:=.inr c) rfl rfl h
 ·exact afJ (akX (a:=.inr a) (b:=.inr b) rfl h1 h2)
def strsOf:List ao→Option (List Str)
 |[]=>some []
 |.str i::r=>match strsOf r with
  |some t=>some (i::t)
  |none=>none
 |_=>none
theorem Zz:∀{ds:List ao}{ns:List Str}{vs:List V},strsOf ds=some ns→cD E ds vs→vs=ns.map V.str
 |[],ns,vs,h,r=>by cases h;exact r
 |.str i::ds,ns,vs,h,r=>by
  unfold strsOf at h;split at h
  ·rename_i t ht;cases h
   obtain⟨u,w,rfl,q,s⟩:=r
   rw[Zz ht s];have:u=.str i:=q;rw[this];rfl
  ·cases h
 |.none::_,_,_,h,_=>by cases h
 |.bool _::_,_,_,h,_=>by cases h
 |.int _::_,_,_,h,_=>by cases h
 |.list _::_,_,_,h,_=>by cases h
 |.tuple _::_,_,_,h,_=>by cases h
 |.dict _::_,_,_,h,_=>by cases h
def Ks:ao→Option (List Bool)
 |.tuple xs=>(keysOf xs).map fun ks=>ks.map cB
 |_=>none
def j5:Key→ao
 |.inl i=>.int i
 |.inr x=>.str x
def Bs:ao→List Key
 |.tuple xs=>(keysOf xs).getD []
 |_=>[]
def Ku(ds:List ao):List ao:=(Fo (ds.map Bs)).map fun k=>.tuple (k.map j5)
theorem sortI(p:ns'.Perm ns)(h:ns'.Pairwise (·≤·)):ns'=nO ltI ns:=aaL acA (fun _ _=>trivial) p (h.imp fun{a b} hab=>by unfold ltI;simp;exact hab)
theorem abz:∀{x:Str}{r:List Str},risingS x r=true→(x::r).Pairwise (fun a b=>strLt b a=false)
 |x,[],_=>sJ.mpr ⟨fun _ m=>(nomatch m),zH⟩
 |x,y::r,h=>by
  unfold risingS at h;rw[ie,V4] at h;have ih:=abz h.2;have hxy:strLt y x=false:=by
   have:=h.1;unfold strLt;rw[lt_meets];exact this
  rw[sJ]
  refine⟨fun z m=>?_,ih⟩
  rcases bI.mp m with rfl|m
  ·exact hxy
  ·rw[sJ] at ih;cases hz:strLt z x with
   |false=>rfl
   |true=>
    rcases acB.neg z y x trivial trivial trivial hz with h1|h1
    ·rw[ih.1 z m] at h1;cases h1
    ·rw[hxy] at h1;cases h1
theorem abA(p:ns'.Perm ns)(h:sortedS ns'=true):ns'=nO strLt ns:=aaL acB (fun _ _=>trivial) p (by
 cases ns' with
 |nil=>exact zH
 |cons x r=>exact abz h)
theorem Qs:∀{xs:List ao}{ks:List Key},keysOf xs=some ks→xs=ks.map j5
 |[],ks,h=>by cases h;rfl
 |x::xs,ks,h=>by
  unfold keysOf at h;split at h
  ·rename_i k t h1 h2;cases h;rw[Qs h2];have:x=j5 k:=by
    cases x<;>first|(cases h1;rfl)|cases h1
   rw[this];rfl
  ·cases h
theorem Qt:∀ks:List Key,keysOf (ks.map j5)=some ks
 |[]=>rfl
 |k::ks=>by
  show(match di (j5 k),keysOf (ks.map j5) with|some k,some t=>some (k::t)|_,_=>none)=_
  rw[Qt ks];cases k<;>rfl
theorem ahd(h:∀d∈ds,(Ks d).isSome=true):(Ku ds).Perm ds:=by
 have:=(ag2 (ds.map Bs)).map fun k=>vN (k.map j5)
 refine this.trans (aeQ ?_);rw[fO]
 refine(zE fun d hd=>?_).trans (N8 ds)
 have hs:=h d hd;cases d with
 |tuple xs=>
  show vN (((keysOf xs).getD []).map j5)=.tuple xs;cases hk:keysOf xs with
  |none=>
   have hs:((keysOf xs).map fun ks=>ks.map cB).isSome=true:=hs;rw[hk] at hs;cases hs
  |some ks=>rw[Qs hk];rfl
 |_=>cases hs
theorem ZC:∀{ds:List ao}{vs:List V},(∀d∈ds,Ks d=some sh)→cD E ds vs→∃rows:List Row,vs=rows.map (fun r=>V.ref r.1)∧ds=rows.map (fun r=>.tuple (r.2.map j5))∧∀r∈rows,E r.1=some (.tup (r.2.map kV))∧r.2.map cB=sh
 |[],vs,_,r=>⟨[],r,rfl,fun _ m=>(nomatch m)⟩
 |d::ds,vs,h,r=>by
  obtain⟨u,w,rfl,q,s⟩:=r
  obtain⟨rows,e1,e2,e3⟩:=ZC (fun d m=>h d (dM _ m)) s
  have hd:=h d dm;cases d<;>first|cases hd|skip
  rename_i xs;have hd:(keysOf xs).map (fun ks=>ks.map cB)=some sh:=hd;cases hk:keysOf xs with
  |none=>rw[hk] at hd;cases hd
  |some ks=>
   rw[hk] at hd
   obtain⟨a,vs',rfl,ha,rr⟩:=q
   rw[Ak hk rr] at ha
   refine⟨(a,ks)::rows,by rw[e1];rfl,by rw[e2,Qs hk];rfl,fun r m=>?_⟩
   rcases bI.mp m with rfl|m
   ·exact⟨ha,fX hd⟩
   ·exact e3 r m
theorem Qu:∀{rows:List Row},(∀r∈rows,E r.1=some (.tup (r.2.map kV)))→cD E (rows.map fun r=>.tuple (r.2.map j5)) (rows.map fun r=>V.ref r.1)
 |[],_=>rfl
 |r::rows,h=>by
  refine⟨_,_,rfl,⟨r.1,r.2.map kV,rfl,h r dm,?_⟩,Qu fun r m=>h r (dM _ m)⟩
  generalize r.2=ks;induction ks with
  |nil=>rfl
  |cons k ks ih=>exact⟨_,_,rfl,by cases k<;>rfl,ih⟩
theorem ZD:∀{ds:List ao}{ns:List Str},strsOf ds=some ns→ds=ns.map .str
 |[],ns,h=>by cases h;rfl
 |.str i::ds,ns,h=>by
  unfold strsOf at h;split at h
  ·rename_i t ht;cases h;rw[ZD ht];rfl
  ·cases h
 |.none::_,_,h=>by cases h
 |.bool _::_,_,h=>by cases h
 |.int _::_,_,h=>by cases h
 |.list _::_,_,h=>by cases h
 |.tuple _::_,_,h=>by cases h
 |.dict _::_,_,h=>by cases h
def Jp(ds:List ao):Option (List ao):=if ds.length<64 then match strsOf ds with
  |some ns=>some ((nO strLt (dedup ns)).map .str)
  |none=>none
 else none
section
variable{X:Cx}{l:Expr}{f:FB}{p1 p2 pos1 pos2:Pos}
end
theorem ajF(hu:A.units+1<fP)(I:Inv X pins σ H s)(g:oX H a y o)(ry:RelV y u)(rd:RelV d r)(h:∀w' s',Inv X pins σ H s'→RelV (o.getD d) w'→Q w' s'):
  aN (model X.prog X.w) A (call (.builtin "dict.get") [.ref a,u,r]) Q E s:=by
 rcases g with g|⟨ha,⟨b,ks,rfl,hb⟩,rfl⟩
 ·exact abf hu I g ry rd h
 ·exact abf hu (I.K3 ha) (oX.re ha hb) ry rd fun w' s' I'=>h w' s' (I'.Uv ha)
def al5(td ty tx:TE):TE:=fun σ H Q=>td σ H fun x H1=>∃a,x=.ref a∧IsD H1 a∧ty σ H1 fun y H2=>tx σ H2 fun z H3=>∃o,oX H3 a y o∧Q (o.getD z) H3
theorem ajG(hu:X.A.units+1<fP)(ho:PE X o td)(he:PE X e ty)(hf:PE X f tx)(m:M2 X o "get" apos e f cpos):PE X (.Call (.Attribute o "get" apos) [e,f] [] cpos) (al5 td ty tx):=by
 intro pins s σ H Q I h;refine aeu m.base m.few m.line adG Vv PySem.F.type_dict_get (bu (ho pins s σ H _ I h) fun u s1 aL=>?_)
 obtain⟨x,H1,I1,rx,a,ex,d,q1⟩:=aL
 subst ex;obtain rfl:u=eO a:=rx
 obtain⟨t1,t2,_⟩:=akP I1 d
 refine⟨t1,t2,?_⟩
 rw[m.trees];refine adK rfl (adX (Cd (bu (he pins s1 σ H1 _ I1 q1) fun iv s2 ⟨y,H2,I2,ry,q2⟩=>
  Cd (bu (hf pins s2 σ H2 _ I2 q2) fun fv s3 ⟨z,H3,I3,rz,ov,g,q3⟩=>G6 ?_))))
 exact ajF hu I3 g ry rz fun w' s4 I4 rw'=>⟨_,H3,I4,rw',q3⟩
def wZ(fd fk:FB)(fx:FE):FE:=fun env C=>match fd env C with
 |some (.dict kvs,e1,C1)=>match fk e1 C1 with
  |some (dk,e2,C2)=>match fx e2 C2 with
   |some (r,e3,C3)=>match oN kvs dk with
    |some (some d)=>some (.im d,rst (.im d) env e3,C3)
    |some none=>some (still r,rst (still r) env e3,C3)
    |none=>none
   |none=>none
  |none=>none
 |_=>none
theorem abB(hu:X.A.units+1<fP)(ho:PE X o (dF X.K fd))(he:PE X e (dF X.K fk))(hf:PE X f (tE X.K fx))(m:M2 X o "get" apos e f cpos):PE X (.Call (.Attribute o "get" apos) [e,f] [] cpos) (tE X.K (wZ fd fk fx)):=(ajG hu ho he hf m).weak fun σ H Q aL=>by
 obtain⟨Z,Θ,env,C,r,env',C',S,hf,q⟩:=aL
 unfold wZ at hf;split at hf
 case h_2=>cases hf
 rename_i kvs e1 C1 h1;split at hf
 case h_2=>cases hf
 rename_i dk e2 C2 h2;split at hf
 case h_2=>cases hf
 rename_i r0 e3 C3 h3
 refine⟨Z,Θ,env,C,_,e1,C1,S,h1,fun v H1 k1 f1 S1 b1=>?_⟩
 obtain⟨a,vs,rfl,da,rr⟩:=b1.dct
 refine⟨a,rfl,?_,Z,Θ,e1,C1,dk,e2,C2,S1,h2,fun w H2 k2 f2 S2 b2=>⟨Z,Θ,e2,C2,r0,e3,C3,S2,h3,fun z H3 k3 f3 R3=>?_⟩⟩
 ·rcases da with⟨ks,_,h⟩|⟨ks,_,h⟩
  ·exact .inl ⟨_,.inl h⟩
  ·exact .inr ⟨_,.inl h⟩
 have Gp:=(b1.go S1 k2 f2).go S2 k3 f3;have b2':=b2.go S2 k3 f3
 obtain⟨S3,a3⟩:=R3.arg
 have kk:=(k1.trans k2).trans k3;have ff:=(f1.trans f2).trans f3;split at hf
 ·rename_i d hl;cases hf
  obtain⟨a',o',e',g,hq⟩:=Gp.get b2' hl
  cases e';rcases hq with⟨v',rfl,d',e1',r1,_⟩|⟨_,e1'⟩
  ·cases e1'
   exact⟨some v',g,q v' H3 kk (ff.rst _) (Res.rst S kk ⟨S3,r1⟩)⟩
  ·cases e1'
 ·rename_i hl;cases hf
  obtain⟨a',o',e',g,hq⟩:=Gp.get b2' hl
  cases e';rcases hq with⟨v',rfl,d',e1',_⟩|⟨rfl,_⟩
  ·cases e1'
  ·exact⟨none,g,q z H3 kk (ff.rst _) (((R3.still).from (k1.trans k2)).rst S kk)⟩
 ·cases hf
def J0:ao→ao→Option Vl
 |.str z,.list ds=>match strsOf ds with
  |some ys=>if(ys.map (·.length)).sum+ys.length*z.length≤LIM then some (.im (.str (Txt.join z ys))) else none
  |none=>none
 |_,_=>none
def rJ(f g:FB):FE:=aD J0 f g
theorem Rf(ho:PE X o (dF X.K f))(he:PE X e (dF X.K g))
  (hbase:uC o "join" X.env (eval o X.env)=eval o X.env:=by rfl)
  (hfew:((fG cpos (aW [e] X.env)).all (fun x=>!x.1)&&(yo cpos (yf [] X.env)).all (fun x=>x.1.isSome)
   &&decide (([e]:List Expr).length+([]:List mV).length+(if([]:List mV).isEmpty then 0 else 1)<30))=true:=by rfl)
  (hline:(apos.endLine==cpos.line)=true:=by rfl)(hs:aW [e] X.env=(false,eval e X.env)::aW [] X.env:=by rfl)(hplain:(fG cpos (aW [] X.env)).any (·.1)=false:=by rfl):
  PE X (.Call (.Attribute o "join" apos) [e] [] cpos) (tE X.K (rJ f g)):=
 (Es PySem.F.plainAttrs_str PySem.F.slot_str_join PySem.F.type_str_join (rR.r ajh) ho (mU he pH hs) hbase hfew hline hs hplain).weak fun σ H Q aL=>by
  obtain⟨Z,Θ,env,C,r,env',C',S,hf,q⟩:=aL
  unfold rJ aD at hf;split at hf
  case h_2=>cases hf
  rename_i x e1 C1 h1;split at hf
  case h_2=>cases hf
  rename_i y e2 C2 h2;split at hf
  case h_2=>cases hf
  rename_i r0 h3;cases hf
  refine⟨Z,Θ,env,C,x,e1,C1,S,h1,fun v H1 k1 f1 S1 b1=>?_⟩
  unfold J0 at h3;split at h3
  case h_2=>cases h3
  rename_i z ds;split at h3
  case h_2=>cases h3
  rename_i ys hys;split at h3
  case isFalse=>cases h3
  rename_i hl;cases h3;cases b1.str
  refine⟨rfl,Z,Θ,e1,C1,_,e2,C',S1,h2,fun w H2 k2 f2 S2 b2=>?_⟩
  obtain⟨a,vs,rfl,ha,rr⟩:=b2.lst
  rw[Zz hys rr] at ha;have kk:=k1.trans k2
  refine⟨z,a,ys,rfl,rfl,bL.of ha,by unfold LIM at hl;omega,?_⟩
  exact q _ H2 kk ((f1.trans f2).rst _) (Res.rst S kk ⟨S2,rfl⟩)
abbrev FO:=En→Ce→Option (Option Int×Ce)
inductive Gq(K:aG)(f:FO)(σ:St)(H:Hp)(Q:Option Int→Hp→Prop):Prop
 |mk (Z Θ:List aa) (env:En) (C:Ce) (o:Option Int) (C':Ce) (S:Sm K Z Θ env C σ H) (hf:f env C=some (o,C')) (q:∀H',aQ Θ H H'→Sm K Z Θ env C' σ H'→Q o H'):Gq K f σ H Q
def fV:FO:=fun _ C=>some (none,C)
def cN(f:FB):FO:=fun env C=>match f env C with
 |some (.int i,_,C1)=>some (some i,C1)
 |_=>none
def iW{α:Type}(xs:List α)(lo hi:Option Int):List α:=(xs.drop (HT.bY xs.length 0 lo)).take (HT.bY xs.length xs.length hi-HT.bY xs.length 0 lo)
def jz(lo hi:Option Int):ao→Option Vl
 |.str z=>if z.length≤LIM then some (.im (.str (Txt.slice z lo hi))) else none
 |.list ds=>some (.ow (.list (iW ds lo hi)))
 |.tuple ds=>some (.im (.tuple (iW ds lo hi)))
 |_=>none
def dj(f:FB)(lo hi:FO):FE:=fun env C=>match f env C with
 |some (d,e1,C1)=>match lo e1 C1 with
  |some (l,C2)=>match hi e1 C2 with
   |some (h,C3)=>match jz l h d with
    |some r=>some (r,rst r env e1,C3)
    |none=>none
   |none=>none
  |none=>none
 |none=>none
theorem Rg{E:Hp}{ds:List ao}{vs:List V}{lo hi:Option Int}(r:cD E ds vs):cD E (iW ds lo hi) (rK vs lo hi):=by
 unfold iW rK;rw[iM r];exact Zh _ (Zi _ r)
section
variable{X:Cx}{e:Expr}{lo hi:Option Expr}{pos p2:Pos}
theorem PO.weak(h:PO X o t)(w:∀σ H Q,t' σ H Q→t σ H Q):PO X o t':=fun pins s σ H Q I q=>h pins s σ H Q I (w σ H Q q)
theorem qx:PO X none (Gq X.K fV):=ai5.weak fun σ H Q aL=>by
 obtain⟨Z,Θ,env,C,o,C',S,hf,q⟩:=aL
 cases hf;exact q H (aQ.refl _ _) S
theorem jd(h:PE X e (dF X.K f)):PO X (some e) (Gq X.K (cN f)):=(ai6 h).weak fun σ H Q aL=>by
 obtain⟨Z,Θ,env,C,o,C',S,hf,q⟩:=aL
 unfold cN at hf;split at hf
 ·rename_i i e1 C1 h1;cases hf
  exact⟨Z,Θ,env,C,_,e1,C',S,h1,fun v H1 k f S1 b1=>⟨i,b1,q H1 k (S.go k S1.cell)⟩⟩
 ·cases hf
theorem kI{f:FB}{flo fhi:FO}(he:PE X e (dF X.K f))(hl:PO X lo (Gq X.K flo))(hh:PO X hi (Gq X.K fhi)):PE X (.Subscript e (.Slice lo hi none p2) pos) (tE X.K (dj f flo fhi)):=(ahL ((akS.or ai8).or ajn) he hl hh).weak fun σ H Q aL=>by
 obtain⟨Z,Θ,env,C,r,env',C',S,hf,q⟩:=aL
 unfold dj at hf;split at hf
 case h_2=>cases hf
 rename_i d e1 C1 h1;split at hf
 case h_2=>cases hf
 rename_i l C2 h2;split at hf
 case h_2=>cases hf
 rename_i h C3 h3;split at hf
 case h_2=>cases hf
 rename_i r0 h4;cases hf
 refine⟨Z,Θ,env,C,d,e1,C1,S,h1,fun v H1 k1 f1 S1 b1=>⟨Z,Θ,e1,C1,l,C2,S1,h2,fun H2 k2 S2=>⟨Z,Θ,e1,C2,h,C',S2,h3,fun H3 k3 S3=>?_⟩⟩⟩
 have kk:=(k1.trans k2).trans k3;have b3:=b1.go S1 (k2.trans k3) (Fz.refl _);have fin:∀{w:V}{H4:Hp},aQ Θ H3 H4→Res X.K Z Θ e1 C' σ H3 H4 r w→Q w H4:=fun{w H4} k4 R=>q w H4 (kk.trans k4) (f1.rst _) ((R.from kk).rst S (kk.trans k4))
 cases d<;>first|cases h4|skip
 ·rename_i z;simp only[jz] at h4;split at h4
  ·rename_i hz;cases h4;cases b3.str;exact .inl (.inl ⟨z,rfl,qY hz,fin (aQ.refl _ _) (iK S3 rfl rfl)⟩)
  ·cases h4
 ·obtain⟨a,vs,rfl,ha,rr⟩:=b3.lst
  exact .inl (.inr ⟨a,vs,rfl,bL.of ha,fun p hp=>fin (aQ.upd hp) (uH S3 (Rg rr) hp)⟩)
 ·rename_i ds;have b3':=b3
  obtain⟨a,vs,rfl,ha,rr⟩:=b3.tup
  refine .inr ⟨a,vs,rfl,cU.of ha,fun ec=>?_,fun p hp=>fin (aQ.upd hp) (JB S3 (Rg rr) hp)⟩;have rc:=Rg (lo:=l) (hi:=h) rr;rw[ec] at rc;refine fin (aQ.refl _ _) ⟨S3,a,vs,rfl,Ea S3 ha,rc⟩
end
def wQ(T:gq)(ft:FT)(fk fv:FE)(fs:En):List ao→List (ao×ao)→Ce→Option (List (ao×ao)×Ce)
 |[],acc,C=>some (acc,C)
 |d::r,acc,C=>match zu T d with
  |some ts=>match ft (eZ ts++fs) C with
   |some (false,C1)=>wQ T ft fk fv fs r acc C1
   |some (true,C1)=>match fk (eZ ts++fs) C1 with
    |some (.im k,_,C2)=>match fv (eZ ts++fs) C2 with
     |some (x,_,C3)=>match still x,di k with
      |.im y,some kk=>if acc.length<LIM then wQ T ft fk fv fs r (nW di kk k y acc) C3 else none
      |_,_=>none
     |none=>none
    |_=>none
   |none=>none
  |none=>none
def za:List (ao×ao)→Bool
 |[]=>true
 |p::r=>jK p.2&&za r
def Gr(fi:FI)(T:gq)(ft:FT)(fk fv:FE)(js:List Nat):FE:=fun env C=>match fi env C with
 |some (its,e1,C1)=>match wQ T ft fk fv (frB js e1) its [] C1 with
  |some (kvs,C2)=>some (.ow (.dict kvs),if za kvs then e1 else gw js e1,C2)
  |none=>none
 |none=>none
theorem iH.jK(t:∀a vs,H a=some (.tup vs)→H' a=some (.tup vs)):∀{ds:List (ao×ao)}{vs:List V},za ds=true→iH H ds vs→iH H' ds vs
 |[],_,_,h=>h
 |(k,d)::ds,vs,n,h=>by
  obtain⟨v,r,e,q,w⟩:=h
  have n':L2.jK d=true∧za ds=true:=by rw[za,ie] at n;exact n
  exact⟨v,r,e,RZ.jK t n'.1 q,iH.jK t n'.2 w⟩
def T6(fk fv:FE):En→List (ao×ao)→Ce→Option (List (ao×ao)×Ce):=fun env acc C=>(fk env C).bind fun p=>(imO p.1).bind fun k=>(fv env p.2.2).bind fun q=>(imO (still q.1)).bind fun y=>(di k).bind fun kk=>bif decide (acc.length<LIM) then some (nW di kk k y acc,q.2.2) else none
theorem Rh:∀{its:List ao}{acc:List (ao×ao)}{C:Ce},wQ T ft fk fv fs its acc C=some p→ue T ft (T6 fk fv) fs its acc C=some p
 |[],acc,C,h=>h
 |d::r,acc,C,h=>by
  unfold wQ at h;unfold ue;split at h
  case h_2=>cases h
  rename_i ts ht;rw[ht,iZ];split at h
  case h_3=>cases h
  ·rename_i C1 hf;rw[hf,iZ];exact Rh h
  ·rename_i C1 hf;rw[hf,iZ]
   show(T6 fk fv (eZ ts++fs) acc C1).bind _=_
   unfold T6;split at h
   case h_2=>cases h
   rename_i k e2 C2 hk;rw[hk,iZ,show imO (.im k)=some k from rfl,iZ];split at h
   case h_2=>cases h
   rename_i x e3 C3 hx;rw[hx,iZ];split at h
   case h_2=>cases h
   rename_i y kk hy hkk;rw[hy,show imO (.im y)=some y from rfl,iZ,hkk,iZ];split at h
   case isFalse=>cases h
   rename_i hl;rw[decide_eq_true hl];exact Rh h
inductive K5(P:List aa)(D:aa)(acc:List (ao×ao))(H:Hp):Prop
 |mk (ks:List Key) (vs:List V) (hk:cO di acc=some ks) (hD:H D=some (.dK (ks.zip vs))) (r:iH (er P H) acc vs):K5 P D acc H
theorem ajH{K:aG}{fi:FI}{T:gq}{ft:FT}{fk fv:FE}{js:List Nat}:∀σ H Q,tE K (Gr fi T ft fk fv js) σ H Q→tDC K (tI K true fi) T (fun _=>fH K ft) (fun _=>tE K fk) (fun _=>tE K fv) js σ H Q:=by
 rintro σ H Q ⟨Z,Θ,env,C,res,env',C',S,hf,q⟩;unfold Gr at hf;split at hf
 case h_2=>cases hf
 rename_i its e1 C1 h1;split at hf
 case h_2=>cases hf
 rename_i kvs C2 h2;cases hf
 refine⟨Z,Θ,env,C,its,e1,C1,S,h1,fun J H1 k1 f1 S1 it D hD b=>?_⟩
 have qI:D∉Θ:=fun m=>(S1.cell.dom D m).ne hD
 have UT:D∈aU (jZ D Z (gw js e1) σ) Θ [] []:=(oG (js:=js) rfl).mpr (.inl rfl);have BZ:∀a Hx Hy,aQ Θ Hx Hy→K5 (aU (jZ D Z (gw js e1) σ) Θ [] []) D a Hx→K5 (aU (jZ D Z (gw js e1) σ) Θ [] []) D a Hy:=fun a Hx Hy kk r=>by
  obtain⟨ks,vs,g1,g2,g3⟩:=r
  exact⟨ks,vs,g1,kk.keep _ _ g2 qI,g3.same (kj kk (fun a m=>jr.mpr (.inr (.inl m))) fun a m=>.inl m)⟩
 refine Qn (a0:=[]) (Ob:=K5 (aU (jZ D Z (gw js e1) σ) Θ [] []) D) S1 it hD ⟨[],[],rfl,eU,rfl⟩ BZ (fun a Hx r=>by obtain⟨ks,vs,_,e,_⟩:=r;exact⟨_,e,fun _ z=>nomatch z⟩) ?_ (Rh h2) fun H2 ki ci r=>?_
 ·intro ts acc C2 p vs H4 Q hs S4 k4 r4 hQ
  obtain⟨w,hfk,hs⟩:=ir hs
  obtain⟨kd,T7,hs⟩:=ir hs
  obtain⟨w2,hfv,hs⟩:=ir hs
  obtain⟨yd,rY,hs⟩:=ir hs
  obtain⟨kk,hkd,hs⟩:=ir hs
  have T7:=Eb T7;have rY:=Eb rY;cases hlt:decide (acc.length<LIM) with
  |false=>rw[hlt] at hs;cases hs
  |true=>
  rw[hlt] at hs;cases hs
  refine⟨_,Θ,_,C2,w.1,w.2.1,w.2.2,S4,hfk,fun y H5 k5 f5 R5=>?_⟩
  rw[T7] at R5;have S5:=S4.go k5 R5.1.cell
  refine⟨_,Θ,_,w.2.2,w2.1,w2.2.1,w2.2.2,S5,hfv,fun z H6 k6 f6 R6=>?_⟩
  obtain⟨S6,r6⟩:=R6.ud rY
  obtain⟨ks,u6,hks,hD6,r6'⟩:=BZ _ _ _ (k5.trans k6) r4
  have UW:bM w2.2.1 (vs.map some++frees js σ)=[]:=by
   have:=(Fz.own (σ:=vs.map some++frees js σ) f6)
   rw[Bd JZ] at this;exact aeI.mp this
  have e6:er (aU (jZ D Z (gw js e1) σ) Θ w2.2.1 (vs.map some++frees js σ)) H6=er (aU (jZ D Z (gw js e1) σ) Θ [] []) H6:=rD fun a=>by rw[oG (js:=js) UW,oG (js:=js) rfl]
  rw[e6] at r6
  obtain⟨ks',vs',g3,g4,g5⟩:=JG hkd r6 hks r6'
  have lt:=of_decide_eq_true hlt
  refine⟨ks.zip u6,kk,hD6,abp hkd R5.2,?_,hQ _ (R4 (Hy:=H6) hD ((k4.trans k5).trans k6)) (Jo qI S6.cell) ⟨ks',vs',g3,by rw[g5];exact eU,?_⟩⟩
  ·rw[Wh,jq,vU hks];unfold LIM at lt;omega
  ·rw[JX UT];exact g4
 ·obtain⟨ks,u6,hks,hDi,ri⟩:=r
  refine q _ H2 (k1.trans ki) ?_ ?_
  ·split
   ·exact f1
   ·exact f1.trans (Bc js e1)
  ·refine⟨D,rfl,k1.none hD,?_⟩
   split
   ·rename_i hn;have SD:=S1.yO hD ki ⟨_,hDi,fun _ z=>nomatch z⟩ ci
    exact⟨SD,u6,.inl ⟨ks,hks,hDi⟩,ri.jK (fun a vs e=>Ea SD (jb e)) hn⟩
   ·refine⟨(S1.fz (Bc js e1)).yO hD ki ⟨_,hDi,fun _ z=>nomatch z⟩ ci,u6,.inl ⟨ks,hks,hDi⟩,?_⟩
    rw[rD (P':=aU (D::Z) Θ (gw js e1) σ) fun a=>by rw[oG (js:=js) rfl];show _↔a∈D::aU Z Θ (gw js e1) σ;rw[bI]] at ri;exact ri
section
variable{X:Cx}{NT NF:List Str}{js:List Nat}{kx vx tg iter:Expr}{ifs:List Expr}{T:gq}{fi:FI}{ft:FT}{fk fv:FE}{scope:ju}{pos:Pos}
theorem aii(B:pN X NT NF js scope)(tk:oU tg NT T)(hc:X.calm=true)(hu:X.A.units+1<fP)(hi:PI X tg iter (tI X.K true fi))
  (hin:∀b,mY (X.bk (NT++NF) scope b) ifs (fH X.K ft)∧PE (X.bk (NT++NF) scope b) kx (tE X.K fk)∧PE (X.bk (NT++NF) scope b) vx (tE X.K fv))
  (hsw:tK (.DictComp kx vx [⟨tg,iter,ifs,0⟩] scope pos) (some (.Name y pos')) spos.line X.env=pure true)(hN:X.N.Nodup)(hI:X.N[i]?=some y)(hy:X.env.scope.names.lookup y=some .local)
  (hs:∀x,uz iter X.env x=pure x:=by intro _;rfl):PS X (.Assign [.Name y pos'] (.DictComp kx vx [⟨tg,iter,ifs,0⟩] scope pos) spos) (tS X.K (fSet i (Gr fi T ft fk fv js))):=(ahV B tk hc hu hi hin hsw hN hI hy hs).weak (Ql ajH)
end
section
variable{X:Cx}
theorem afv(hc:X.calm=true):iQ X (.type "list") (fun xs H Q=>∃(d:aa)(kvs:List (Key×V)),xs=[.ref d]∧H d=some (.dK kvs)∧∀l,H l=none→Q (.ref l) (upd H l (.lst (kvs.map fun kv=>kV kv.1)))):=by
 intro pins s σ H xs us Q I r h
 obtain⟨d,kvs,rfl,hd,q⟩:=h
 obtain⟨u,rfl,ru⟩:=vals1 r
 cases ru
 obtain⟨z,lo,vs,rel,dd⟩:=I.hok d _ hd
 obtain⟨ep,da⟩:=dd.dictAt
 have lv:vs.length=kvs.length:=(Paired.length rel).symm;refine kdl_call (kdl_dict (knd:=jh X.prog X.w) (ep:=ep) lo) (I.ok.hd hc) da (by rw[lv];exact z) fun h' tk acc' c' kp e hacc=>?_
 have hl:Vals (kvs.map fun kv=>kV kv.1) acc'.toList:=by
  have h2:acc'.toList.length=vs.length:=by rw[kO];exact hacc.1
  have h3:∀i v,acc'.toList[i]?=some v→∃k x,vs[i]?=some (k,x)∧(jh X.prog X.w).is k v=true:=fun i v e=>hacc.2 i v (by rw[←Lq];exact e)
  clear e hacc dd da;generalize acc'.toList=us at h2 h3;clear hd q z lv;induction rel generalizing us with
  |nil=>
   cases us with
   |nil=>exact .nil
   |cons _ _=>cases h2
  |@cons p w ps ws hp _ ih=>
   cases us with
   |nil=>cases h2
   |cons u us=>
    refine .cons ?_ (ih us (by simpa using h2) fun i v e=>by simpa using h3 (i+1) v (by simpa using e))
    obtain⟨k,x,e1,e2⟩:=h3 0 u rfl
    simp at e1;have ek:k=p.1:=by rw[hp.1,e1]
    subst ek;rcases qT e2 with⟨i,t,e3,e4⟩|⟨y,t,e3,e4⟩
    ·show RelV (kV p.1) u;rw[e3,e4];exact⟨t,rfl⟩
    ·show RelV (kV p.1) u;rw[e3,e4];exact⟨t,rfl⟩
 refine⟨.ref s.heap.objs.size,_,I.laid (t':=tk) kp (bN _) (show fB X.prog X.w _ h' _ (.lst (kvs.map fun kv=>kV kv.1)) from⟨by rw[aX];exact z,acc'.toList,c',hl,by simpa using e⟩),rfl,q _ (I.hok.fresh (bN _))⟩
def JK:List ao→Option Vl
 |[.list ds]=>some (.ow (.list ds))
 |[.tuple ds]=>some (.ow (.list ds))
 |[.dict kvs]=>if(cO di kvs).isSome then some (.ow (.list (kvs.map (·.1)))) else none
 |_=>none
def abC(K:aG):List V→Hp→VK→Prop:=fun xs H Q=>(∃p ys,xs=[.ref p]∧(bL K H p ys∨cU K H p ys)∧∀l,H l=none→Q (.ref l) (upd H l (.lst ys)))∨∃(d:aa)(kvs:List (Key×V)),xs=[.ref d]∧H d=some (.dK kvs)∧∀l,H l=none→Q (.ref l) (upd H l (.lst (kvs.map fun kv=>kV kv.1)))
theorem agn(hc:X.calm=true):iQ X (.type "list") (abC X.K):=afq.or (afv hc)
theorem ZF:∀{kvs:List (ao×ao)}{ks:List Key}{vs:List V},cO di kvs=some ks→ks.length=vs.length→cD E (kvs.map (·.1)) ((ks.zip vs).map fun kv=>kV kv.1)
 |[],ks,vs,h,_=>by cases h;rfl
 |(p,d)::kvs,ks,vs,h,hl=>by
  unfold cO at h;split at h
  ·rename_i k t h1 h2;cases h;cases vs with
   |nil=>cases hl
   |cons v vs=>
    refine⟨_,_,rfl,?_,ZF h2 (by simpa using hl)⟩
    cases p<;>first|(cases h1;rfl)|cases h1
  ·cases h
theorem aij{K:aG}:n6 K (abC K) JK:=by
 intro Z Θ env C σ H xs ds res S b e Q q;unfold JK at e;split at e
 case h_4=>cases e
 ·cases e
  obtain⟨v,rfl,bb⟩:=oO b
  obtain⟨a,vs,rfl,ha,r⟩:=bb.lst
  exact .inl ⟨a,vs,rfl,.inl (bL.of ha),fun l hl=>q _ _ (aQ.upd hl) (uH S r hl)⟩
 ·cases e
  obtain⟨v,rfl,bb⟩:=oO b
  obtain⟨a,vs,rfl,ha,r⟩:=bb.tup
  exact .inl ⟨a,vs,rfl,.inr (cU.of ha),fun l hl=>q _ _ (aQ.upd hl) (uH S r hl)⟩
 ·split at e
  case isFalse=>cases e
  rename_i kvs hs;cases e
  obtain⟨v,rfl,bb⟩:=oO b
  obtain⟨a,vs,rfl,da,r⟩:=bb.dct
  rcases da with⟨ks,h1,ha⟩|⟨ks,⟨ne,h2⟩,ha⟩
  ·exact .inr ⟨a,_,rfl,ha,fun l hl=>q _ _ (aQ.upd hl) (uH S (ZF h1 (by rw[vU h1,Ds r])) hl)⟩
  ·obtain⟨ks',h1⟩:=xP.mp hs
   exact absurd (vV h1 h2) ne
end
def qJ:List ao→List ao→List ao
 |x::xs,y::ys=>.tuple [x,y]::qJ xs ys
 |_,_=>[]
theorem aaM:∀{xs ys:List ao}{i:Nat}{d:ao},(qJ xs ys)[i]?=some d→∃x y,xs[i]?=some x∧ys[i]?=some y∧d=.tuple [x,y]
 |[],_,i,d,h=>by simp[qJ] at h
 |_::_,[],i,d,h=>by simp[qJ] at h
 |x::xs,y::ys,0,d,h=>by
  simp[qJ] at h
  exact⟨x,y,rfl,rfl,h.symm⟩
 |x::xs,y::ys,i+1,d,h=>by
  obtain⟨a,b,h1,h2,h3⟩:=aaM (i:=i) (by simpa[qJ] using h)
  exact⟨a,b,by simpa using h1,by simpa using h2,h3⟩
theorem ZG:∀{xs ys:List ao},(qJ xs ys).length=min xs.length ys.length
 |[],_=>by simp[qJ]
 |_::_,[]=>by simp[qJ]
 |x::xs,y::ys=>by simp[qJ,ZG,Nat.succ_min_succ]
theorem alc{K:aG}{P T:List aa}{H:Hp}{a b:aa}{ds es:List ao}{vs ws:List V}(ha:er T H a=some (.lst vs))(hb:er T H b=some (.lst ws))(r1:cD (er P H) ds vs)(r2:cD (er P H) es ws):wY P T H (Ur K a b) (qJ ds es):=fun i H2 P2 s1 s2 n=>by
 have h2:bL K H2 a vs:=bL.of (jb (s2 _ _ ha));have h3:bL K H2 b ws:=bL.of (jb (s2 _ _ hb))
 refine⟨fun d hd=>?_,fun hi=>⟨vs,ws,h2,h3,by rw[hi,ZG,iM r1,iM r2]⟩⟩
 obtain⟨x,y,e1,e2,rfl⟩:=aaM hd
 obtain⟨v,ev,rv⟩:=uJ r1 e1
 obtain⟨w,ew,rw'⟩:=uJ r2 e2
 refine⟨⟨vs,ws,h2,h3,?_⟩,fun z H3 yl=>?_⟩
 ·have l1:=(gZ.mp ev).1;have l2:=(gZ.mp ew).1;omega
 ·obtain⟨p,v',w',hp,rfl,rfl,hh⟩:=yl
  obtain⟨g1,g2⟩:=hh vs ws h2 h3
  rw[ev] at g1;rw[ew] at g2;cases g1;cases g2;have sp:bw H2 (upd H2 p (.tup [v,w])):=bw.upd hp
  refine⟨sp,p,[v,w],rfl,?_,v,[w],rfl,rv.same (s1.trans (Q3 sp)),w,[],rfl,rw'.same (s1.trans (Q3 sp)),rfl⟩
  unfold er;rw[if_neg (fun m=>n p m hp),eU]
def U0(f:xK):FI:=fun env C=>match f env C with
 |some ([.list xs,.list ys],e1,C1)=>some (qJ xs ys,e1,C1)
 |_=>none
theorem ald(hg:Gl X "zip")(hm:X.mg "zip"=none)(ha:PA X [x,y] (vo X.K f))(hs:aW [x,y] X.env=[(false,eval x X.env),(false,eval y X.env)]:=by rfl)(hs2:aW [y] X.env=[(false,eval y X.env)]:=by rfl):
  PI X (.Tuple es k ps) (.Call (.Name "zip" p) [x,y] [] pos) (tI X.K true (U0 f)):=(akV hg hm ha hs hs2).weak fun σ H R aL=>by
 obtain⟨Z,Θ,env,C,its,env',C',S,hf,q⟩:=aL
 unfold U0 at hf;split at hf
 case h_2=>cases hf
 rename_i xs ys e1 C1 h1;cases hf
 refine⟨Z,Θ,env,C,_,env',C',S,h1,fun vs H1 k f S1 b1=>?_⟩
 cases b1 with
 |cons b1 b2=>
  cases b2 with
  |cons b2 b3=>
   cases b3
   obtain⟨a,vs1,rfl,ha,r1⟩:=b1
   obtain⟨b,vs2,rfl,hb,r2⟩:=b2
   exact⟨a,b,vs1,vs2,rfl,bL.of (jb ha),bL.of (jb hb),q _ H1 k f S1 (alc ha hb r1 r2)⟩
section
variable{X:Cx}{tg e:Expr}
def itD2:ao→Option (List ao)
 |.list ds=>some ds
 |.tuple ds=>some ds
 |_=>none
def iB2(f:FB):FI:=fun env C=>match f env C with
 |some (d,e1,C1)=>match itD2 d with
  |some its=>some (its,e1,C1)
  |none=>none
 |none=>none
def iV2(f:FE):FI:=fun env C=>match f env C with
 |some (r,e1,C1)=>match still r with
  |.im d=>match itD2 d with
   |some its=>some (its,e1,C1)
   |none=>none
  |_=>none
 |none=>none
theorem Kf(h:PE X e (dF X.K f)):PI X tg e (tI X.K true (iB2 f)):=((QM h).or (RC h)).weak fun σ H R aL=>by
 obtain⟨Z,Θ,env,C,its,env',C',S,hf,q⟩:=aL
 unfold iB2 at hf;split at hf
 ·rename_i d e1 C1 h1;split at hf
  ·rename_i ys hi;cases hf;cases d<;>first|cases hi|skip
   ·refine .inl ⟨Z,Θ,env,C,_,env',C',S,h1,fun v H1 k f S1 b=>?_⟩
    obtain⟨a,vs,rfl,ha,r⟩:=b
    exact⟨a,rfl,⟨vs,bL.of (jb ha)⟩,q _ H1 k f S1 (Ra ha r)⟩
   ·refine .inr ⟨Z,Θ,env,C,_,env',C',S,h1,fun v H1 k f S1 b=>?_⟩
    obtain⟨a,vs,rfl,ha,r⟩:=b
    exact⟨a,rfl,⟨vs,cU.of (jb ha)⟩,q _ H1 k f S1 (R0 ha r)⟩
  ·cases hf
 ·cases hf
end
def Tg:FN:=fun _ _=>none
theorem ajI{P:bh}{w:aZ}{K:aG}{mg:Str→Option Value}{base:aV}{f:aa}{fd:dz}{ps:List Str}:dw P w K mg base eY 0 f fd ps (spT K Tg):=by
 have no:∀vs H Q E,¬spT K Tg vs H Q E:=fun vs H Q E ⟨_,_,_,_,_,_,_,_,h,_⟩=>nomatch h
 exact⟨fun _ _ _ _ h=>(no _ _ _ _ h).elim,fun _ _ _ _ _ _ _ _ _ _ _ _ _ h=>(no _ _ _ _ h).elim⟩
def rP(i:Nat)(f:FB):FE:=fun env C=>match env[i]? with
 |some (some (.ce n))=>match f env C with
  |some (.int k,_,C1)=>match C1[n]? with
   |some ns=>match cX ns k with
    |some z=>some (.im (.int z),env,C1)
    |none=>none
   |none=>none
  |_=>none
 |_=>none
theorem yG(ho:PE X o (pR i))(hk:PE X k (dF X.K f))(hs:Jw k):PE X (.Subscript o k pos) (tE X.K (rP i f)):=(S8 QZ ho hk hs).weak fun σ H Q aL=>by
 obtain⟨Z,Θ,env,C,r,env',C',S,hf,q⟩:=aL
 unfold rP at hf;split at hf
 case h_2=>cases hf
 rename_i n h0;split at hf
 case h_2=>cases hf
 rename_i z e1 C1 h1;split at hf
 case h_2=>cases hf
 rename_i ns hns;split at hf
 case h_2=>cases hf
 rename_i y hy;cases hf
 obtain⟨v,ev,a,rfl,hth⟩:=S.slot i _ h0
 refine⟨_,ev,Z,Θ,env,C,_,e1,C',S,h1,fun w H1 k1 f1 S1 b1=>?_⟩
 have S2:=S.go k1 S1.cell;have ha:=S1.cell.at_ n a ns hth hns
 refine⟨a,_,z,.int y,rfl,b1,bL.of ha,?_,q _ H1 k1 (Fz.refl _) ⟨S2,rfl⟩⟩
 unfold cX at hy⊢;rw[aX];cases hj:mD ns.length z with
 |none=>rw[hj] at hy;cases hy
 |some j=>
  rw[hj] at hy
  show(ns.map V.int)[j]?=_
  rw[gK,show ns[j]?=some y from hy];rfl
def Bx(C:Ce)(b:Nat)(n:Int):Prop:=∃x y z:Int,C[b]?=some [x,y,z]∧0≤x∧0≤y∧y≤3000000000∧0≤z∧z≤n
theorem Bx.mono(h:Bx C b n)(hm:n≤m):Bx C b m:=by
 obtain⟨x,y,z,h1,h2,h3,h4,h5,h6⟩:=h
 exact⟨x,y,z,h1,h2,h3,h4,h5,by omega⟩
theorem abD{C:Ce}{b:Nat}{l l':List Int}(h:C[b]?=some l):(C.set b l')[b]?=some l':=by
 rw[Ck,if_pos rfl,if_pos (gZ.mp h).1]
theorem ZJ{C C':Ce}(h:C'.length=C.length):C'.take C.length=C':=List.take_of_length_le (by omega)
theorem mul_eq(h:(-18446744073709551616<i∧i<18446744073709551616)∨(-18446744073709551616<j∧j<18446744073709551616)):fQ (.int i) (.int j)=some (.im (.int (i*j))):=by
 unfold fQ;exact if_pos h
theorem mod_eq(h:0<j):jw (.int i) (.int j)=some (.im (.int (i%j))):=by
 unfold jw;exact if_pos h
theorem fdiv_eq(h:0<j)(h1:j<1073741824):wC (.int i) (.int j)=some (.im (.int (i / j))):=by
 unfold wC;exact if_pos ⟨h,h1⟩
theorem ZK(I:Nat→En→Ce→Prop):∀{its:List ao}{env:En}{C:Ce}{k:Nat},I k env C→
  (∀i d env C,its[i]?=some d→I (k+i) env C→∃e1 fl env' C',g d env=some e1∧body e1 C=some (fl,env',C')∧(fl=.nx∨fl=.ct)∧I (k+i+1) env' C')→
  ∃env' C',gO g body its env C=some (.nx,env',C')∧I (k+its.length) env' C'
 |[],env,C,k,h,_=>⟨env,C,rfl,h⟩
 |d::r,env,C,k,h,st=>by
  obtain⟨e1,fl,amH,C1,h1,h2,h3,h4⟩:=st 0 d env C rfl h
  obtain⟨amI,C2,h5,h6⟩:=ZK I (its:=r) (env:=amH) (C:=C1) (k:=k+1) h4 fun i d' env C hd hi=>by
   have:=st (i+1) d' env C (by simpa using hd) (by rw[show k+(i+1)=k+1+i by omega];exact hi);rw[show k+(i+1)+1=k+1+i+1 by omega] at this;exact this
  refine⟨amI,C2,?_,by rw[dH,show k+(r.length+1)=k+1+r.length by omega];exact h6⟩
  unfold gO;rw[h1];simp only;rw[h2];rcases h3 with rfl|rfl<;>exact h5
theorem vP(I:Nat→En→Ce→Prop)(h:I 0 env C)
  (st:∀i d env C,its[i]?=some d→I i env C→∃e1 fl env' C',g d env=some e1∧body e1 C=some (fl,env',C')∧(fl=.nx∨fl=.ct)∧I (i+1) env' C'):
  ∃env' C',gO g body its env C=some (.nx,env',C')∧I its.length env' C':=by
 have:=ZK I (k:=0) h fun i d env C hd hi=>by
  rw[HN] at hi⊢;exact st i d env C hd hi
 rw[HN] at this;exact this
theorem Jq(lo:Int)(n:Nat):(gn lo n).length=n:=by unfold gn;rw[aX,lC]
theorem yw{lo:Int}{n i:Nat}{d:ao}(h:(gn lo n)[i]?=some d):d=.int (lo+i)∧i<n:=by
 unfold gn at h;rw[gK] at h;by_cases hi:i<n
 ·rw[VB hi] at h
  exact⟨(fX h).symm,hi⟩
 ·rw[Vw (by rw[lC];omega)] at h;cases h
theorem Yw(I:Nat→Ce→Prop)(R:Nat→ao→Prop):∀{its:List ao}{C:Ce}{k:Nat},I k C→(∀i d C,its[i]?=some d→I (k+i) C→∃ts x e C' y,zu T d=some ts∧fe (eZ ts++fs) C=some (x,e,C')∧still x=.im y∧R (k+i) y∧I (k+i+1) C')→
  ∃ys C',kE T je fe fs its C=some (ys,C')∧I (k+its.length) C'∧ys.length=its.length∧∀i y,ys[i]?=some y→R (k+i) y
 |[],C,k,h,_=>⟨[],C,rfl,h,rfl,fun i y e=>by simp at e⟩
 |d::r,C,k,h,st=>by
  obtain⟨ts,x,e,C1,y,h1,h2,h3,h4,h5⟩:=st 0 d C rfl h
  obtain⟨ys,C2,h6,h7,h8,h9⟩:=Yw I R (its:=r) (C:=C1) (k:=k+1) h5 fun i d' C hd hi=>by
   have:=st (i+1) d' C (by simpa using hd) (by rw[show k+(i+1)=k+1+i by omega];exact hi);rw[show k+(i+1)+1=k+1+i+1 by omega,show k+(i+1)=k+1+i by omega] at this;exact this
  refine⟨y::ys,C2,?_,by rw[dH,show k+(r.length+1)=k+1+r.length by omega];exact h7,by simp[h8],fun i z hz=>?_⟩
  ·unfold kE;simp only[h1,je,h2,h3];rw[h6]
  ·cases i with
   |zero=>simp at hz;subst hz;exact h4
   |succ i=>
    have:=h9 i z (by simpa using hz);rw[show k+(i+1)=k+1+i by omega];exact this
theorem abE(h0:0≤k)(h1:k<xs.length):∃x,cX xs k=some x∧xs[k.toNat]?=some x:=by
 have hk:k.toNat<xs.length:=by omega
 refine⟨xs[k.toNat],?_,gQ hk⟩
 unfold cX mD;rw[if_pos h0,if_pos h1];exact gQ hk
def K6(z:Str):Bool:=z.cps.toList.all fun c=>decide (97≤c)&&decide (c≤122)
def nameB(z:Str):Bool:=decide (1≤z.length)&&decide (z.length≤8)&&K6 z
abbrev abc:Str:=fD "abcdefghijklmnopqrstuvwxyz"
theorem ale(r0:0≤r)(r1:r<26):cX abc.cps.toList r=some (97+r.toNat):=by
 have h:∀k:Nat,k<26→cX abc.cps.toList (k:Int)=some (97+k):=by decide +kernel
 have:=h r.toNat (by omega)
 rwa [VD r0] at this
theorem X3:∀(l:List Nat)(a:Array Nat),((l.map fun c=>(⟨#[c]⟩:Str)).foldl (fun acc p=>acc++(fD "").cps++p.cps) a).toList=a.toList++l
 |[],a=>by simp
 |c::r,a=>by
  simp only[cJ,xV];rw[X3 r];have e:(fD "").cps=#[]:=by decide +kernel
  rw[e];simp
theorem X4:∀(l:List Nat),(Txt.join (fD "") (l.map fun c=>(⟨#[c]⟩:Str))).cps.toList=l
 |[]=>by decide +kernel
 |c::r=>by
  show(((r.map fun c=>(⟨#[c]⟩:Str))).foldl (fun acc p=>acc++(fD "").cps++p.cps) #[c]).toList=c::r
  rw[X3 r];rfl
theorem aaN:∀ys:List Nat,(ys.map ((fun x:Str=>x.length) ∘ fun c=>(⟨#[c]⟩:Str))).sum=ys.length
 |[]=>rfl
 |c::r=>by
  rw[cJ,WY,aaN r,dH];show 1+r.length=r.length+1;omega
theorem ajJ(hc:c∈(Txt.slice z l u).cps.toList):c∈z.cps.toList:=by
 unfold Txt.slice at hc;split at hc
 ·exact hc
 ·have hc':c∈((adu l u 1 z.length).filterMap (z.cps[·]?)):=by simpa using hc
  obtain⟨i,_,e⟩:=Lw.mp hc'
  have:=adU e;simpa using this
def Names(zs:List Str):Prop:=zs.Nodup∧∀z∈zs,nameB z=true
theorem Jr(z:Str)(zs:List Str):inD (.str z) (zs.map .str)=decide (z∈zs):=by
 unfold inD;rw[sU,afu];simp[aeJ,rQ,toV]
theorem aik(h:nameB z=true):1≤z.length∧z.length≤8∧∀c∈z.cps.toList,97≤c∧c≤122:=by
 unfold nameB K6 at h;simp only[ie,decide_eq_true_eq,qQ] at h
 exact⟨h.1.1,h.1.2,h.2⟩
def Asc(z:Str):Prop:=∀c∈z.cps.toList,c<128
def jT(n:Nat)(z:Str):Prop:=Asc z∧z.length≤n
theorem jT.mono(h:jT n z)(hm:n≤m):jT m z:=⟨h.1,jD h.2 hm⟩
theorem jT.line(h:jT n z)(hn:n≤100000:=by omega):z.length≤bR:=aji (m:=100000) (jD h.2 hn)
theorem jT.slice(h:jT n z)(l u:Option Int):jT n (Txt.slice z l u):=by
 refine⟨fun c hc=>?_,jD (Txt.slice_le z l u) h.2⟩
 unfold Txt.slice at hc;split at hc
 ·exact h.1 c hc
 ·have hc':c∈((adu l u 1 z.length).filterMap (z.cps[·]?)):=by simpa using hc
  obtain⟨i,_,e⟩:=Lw.mp hc'
  refine h.1 c ?_;have:=adU e;simpa using this
theorem jT.add(h:jT n x)(g:jT m y):jT (n+m) (x++y):=by
 have e:(x++y).cps=x.cps++y.cps:=rfl
 refine⟨fun c hc=>?_,?_⟩
 ·rw[e] at hc;have:c∈x.cps.toList∨c∈y.cps.toList:=by simpa using hc
  exact this.elim (h.1 c) (g.1 c)
 ·show(x++y).cps.size≤_
  rw[e,V5];exact Nat.add_le_add h.2 g.2
theorem jT.name(h:nameB z=true):jT 8 z:=by
 unfold nameB K6 at h;simp only[ie,decide_eq_true_eq,qQ] at h
 exact⟨fun c hc=>by have:=h.2 c hc;omega,h.1.2⟩
def gh(zs:List Str)(ps:List (Str×Str)):Prop:=∀(i:Nat)(x:Str×Str),ps[i]?=some x→zs[i]?=some x.1∧(x.2=fD ""∨∃j,j<i∧zs[j]?=some x.2)
theorem gh.snoc(h:gh zs ps)(ha:zs[ps.length]?=some a)(hb:b=fD ""∨∃j,j<ps.length∧zs[j]?=some b):gh zs (ps++[(a,b)]):=by
 intro i x e;by_cases hi:i<ps.length
 ·rw[m7 hi] at e;exact h i x e
 ·rw[lA (by omega)] at e;by_cases h0:i-ps.length=0
  ·rw[h0] at e;cases e;have:i=ps.length:=by omega
   subst this
   exact⟨ha,hb⟩
  ·rw[Vw (by simp;omega)] at e;cases e
def iC(ps:List (Str×Str))(z:Str):Option Str:=(ps.find? fun p=>decide (p.1=z)).map (·.2)
inductive Over(f:Str→Option Str):Str→List Str→Prop
 |stop {z:Str}:f z=none→Over f z []
 |step {z y:Str} {r:List Str}:f z=some y→Over f y r→Over f z (z::r)
structure oh(e B:Nat)(d:ao):Prop where
 T8:d.showable=true
 deep:d.depth≤e
 len:d.shown.length≤B
theorem ajK(h0:0≤i)(h1:i<10^12):oh 0 12 (.int i):=by
 refine⟨?_,by simp[HQ],?_⟩
 ·have:i.natAbs<2^40:=by omega
  have h2:i.natAbs.log2<1920:=by
   by_cases h:i.natAbs=0
   ·rw[h];decide
   ·have:=(Nat.log2_lt h).mpr this;omega
  simpa[Wi] using h2
 ·rw[PyData.shown_int];exact an7 h0 (by decide) h1
theorem tO(h:jT 8 z):oh 0 82 (.str z):=by
 refine⟨by simp[Wi],by simp[HQ],?_⟩
 rw[PyData.shown_str];refine jD (StrLaws.reprText_len z fun c hc=>nj (h.1 c hc) (by decide)) ?_;have:=h.2;omega
theorem aaO:∀{ds:List ao},(∀d∈ds,oh e B d)→VJ ds=true∧Cr ds≤e∧((Hi ds).map (·.length)).sum≤ds.length*B
 |[],_=>⟨by simp[VJ],by simp[Cr],by simp[Hi]⟩
 |d::ds,h=>by
  obtain⟨h1,h2,h3⟩:=aaO fun x hx=>h x (dM _ hx)
  have g:=h d dm
  refine⟨by simp[VJ,g.T8,h1],?_,?_⟩
  ·simp only[Cr];have:=g.deep;omega
  ·simp only[Hi,cJ,WY,dH];have:=g.len;rw[Nat.succ_mul];omega
theorem rA(h:∀d∈ds,oh e B d)(hc:ds.length≤C):oh (e+1) (C*(B+2)+3) (.tuple ds):=by
 obtain⟨h1,h2,h3⟩:=aaO h
 refine⟨by simpa[Wi] using h1,by simp[HQ];omega,?_⟩
 simp only[PyData.shown];have:=tupleText_len_le (Hi ds);have hl:(Hi ds).length=ds.length:=PyData.shownAll_length ds;rw[hl] at this;have hm:ds.length*B≤C*B:=Nat.mul_le_mul_right B hc;rw[Nat.mul_add];omega
theorem oh.mono(h:oh e B d)(he:e≤e')(hB:B≤B'):oh e' B' d:=⟨h.T8,jD h.deep he,jD h.len hB⟩
abbrev qz:=Int×Str×Int×Str×Int×Int
abbrev cC:=Int×Str×Str×Str×Int×Int×Int
abbrev Bt:=Int×Str
abbrev Ex:=Str×Int×List Bt
def nP(r:qz):ao:=.tuple [.int r.1,.str r.2.1,.int r.2.2.1,.str r.2.2.2.1,.int r.2.2.2.2.1,.int r.2.2.2.2.2]
def bD(r:cC):ao:=.tuple [.int r.1,.str r.2.1,.str r.2.2.1,.str r.2.2.2.1,.int r.2.2.2.2.1,.int r.2.2.2.2.2.1,.int r.2.2.2.2.2.2]
def yP(s:Bt):ao:=.tuple [.int s.1,.str s.2]
def R9(ss:List Bt):ao:=.tuple (ss.map yP)
def uf(r:Ex):ao:=.tuple [.str r.1,.int r.2.1,R9 r.2.2]
def nQ(p:Str×Str):ao:=.tuple [.str p.1,.str p.2]
structure jc where
 ps:List (Str×Str)
 qC:List qz
 leaves:List cC
 rules:List Ex
def gM(h:jc):ao:=.tuple [.tuple (h.ps.map nQ),.tuple (h.qC.map nP),.tuple (h.leaves.map bD),.tuple (h.rules.map uf)]
structure alf(zs own:List Str)(r:qz):Prop where
 num:0≤r.1∧r.1≤2000
 who:r.2.1∈zs
 rank:1≤r.2.2.1∧r.2.2.1≤9
 part:r.2.2.2.1∈own
 days:0≤r.2.2.2.2.1∧r.2.2.2.2.1≤r.2.2.2.2.2∧r.2.2.2.2.2≤99999
structure wu(zs own:List Str)(r:cC):Prop where
 num:0≤r.1∧r.1≤2000
 giver:r.2.1∈zs
 taker:r.2.2.1∈zs
 ne:r.2.1≠r.2.2.1
 part:r.2.2.2.1∈own
 days:0≤r.2.2.2.2.1∧r.2.2.2.2.1≤r.2.2.2.2.2.1∧r.2.2.2.2.2.1≤99999
 most:0≤r.2.2.2.2.2.2∧r.2.2.2.2.2.2≤1000000000
def alg(own:List Str)(s:Bt):Prop:=1≤s.1∧s.1≤9∧(s.2=fD ""∨s.2∈own)
structure alh(own:List Str)(r:Ex):Prop where
 part:r.1∈own
 sum:0≤r.2.1∧r.2.1≤1000000000
 many:r.2.2.length≤6
 al6:∀s∈r.2.2,alg own s
structure kW(zs:List Str)(ps:List (Str×Str))(h:jc):Prop where
 parts:h.ps.Perm ps
 p8:ps.length≤8
 r20:h.qC.length≤20
 m5:h.leaves.length≤16
 u10:h.rules.length≤10
 qC:∀r∈h.qC,alf zs (ps.map (·.1)) r
 rup:(h.qC.map (·.1)).Pairwise (·<·)
 leaves:∀r∈h.leaves,wu zs (ps.map (·.1)) r
 lnd:(h.leaves.map (·.1)).Nodup
 rules:∀r∈h.rules,alh (ps.map (·.1)) r
 unlike:(h.rules.map fun r=>(r.1,r.2.1)).Nodup
theorem abY:jT 8 (fD ""):=by
 have e:(fD "").cps.toList=[]:=by decide +kernel
 refine⟨fun c hc=>?_,by decide +kernel⟩
 rw[e] at hc;exact absurd hc (by simp)
theorem ahe(hz:∀z∈zs,nameB z=true)(hp:gh zs ps)(g:kW zs ps h):oh 5 200000 (gM h):=by
 have sz:∀z∈zs,jT 8 z:=fun z hm=>jT.name (hz z hm)
 have pz:∀x∈ps,jT 8 x.1∧jT 8 x.2:=fun x hx=>by
  obtain⟨i,hi,rfl⟩:=sI hx
  obtain⟨e1,e2⟩:=hp i ps[i] (gQ hi)
  refine⟨sz _ (jB e1),?_⟩
  rcases e2 with e2|⟨j,_,e2⟩
  ·rw[e2];exact abY
  ·exact sz _ (jB e2)
 have oz:∀z∈ps.map (·.1),jT 8 z:=fun z hm=>by
  obtain⟨x,hx,rfl⟩:=cY.mp hm
  exact(pz x hx).1
 have int':∀{i:Int},0≤i→i<10^12→oh 0 82 (.int i):=fun a b=>(ajK a b).mono (bN _) (by decide)
 have s1:oh 2 (8*(171+2)+3) (.tuple (h.ps.map nQ)):=by
  refine rA (e:=1) (B:=171) (fun d hd=>?_) (by rw[aX,g.parts.length_eq];exact g.p8)
  obtain⟨x,hx,rfl⟩:=cY.mp hd
  have:=pz x (g.parts.mem_iff.mp hx);refine rA (e:=0) (B:=82) (C:=2) (fun d hd=>?_) (bN _);simp only[bI,jg,or_false] at hd;rcases hd with rfl|rfl
  ·exact tO this.1
  ·exact tO this.2
 have s2:oh 2 (20*(507+2)+3) (.tuple (h.qC.map nP)):=by
  refine rA (e:=1) (B:=507) (fun d hd=>?_) (by rw[aX];exact g.r20)
  obtain⟨x,hx,rfl⟩:=cY.mp hd
  have k:=g.qC x hx;refine rA (e:=0) (B:=82) (C:=6) (fun d hd=>?_) (bN _);have k1:=k.num;have k3:=k.rank;have k5:=k.days;simp only[bI,jg,or_false] at hd;rcases hd with rfl|rfl|rfl|rfl|rfl|rfl
  ·exact int' (by omega) (by omega)
  ·exact tO (sz _ k.who)
  ·exact int' (by omega) (by omega)
  ·exact tO (oz _ k.part)
  ·exact int' (by omega) (by omega)
  ·exact int' (by omega) (by omega)
 have s3:oh 2 (16*(591+2)+3) (.tuple (h.leaves.map bD)):=by
  refine rA (e:=1) (B:=591) (fun d hd=>?_) (by rw[aX];exact g.m5)
  obtain⟨x,hx,rfl⟩:=cY.mp hd
  have k:=g.leaves x hx;refine rA (e:=0) (B:=82) (C:=7) (fun d hd=>?_) (bN _);have k1:=k.num;have k3:=k.most;have k5:=k.days;simp only[bI,jg,or_false] at hd;rcases hd with rfl|rfl|rfl|rfl|rfl|rfl|rfl
  ·exact int' (by omega) (by omega)
  ·exact tO (sz _ k.giver)
  ·exact tO (sz _ k.taker)
  ·exact tO (oz _ k.part)
  ·exact int' (by omega) (by omega)
  ·exact int' (by omega) (by omega)
  ·exact int' (by omega) (by omega)
 have s4:oh 4 (10*(3132+2)+3) (.tuple (h.rules.map uf)):=by
  refine rA (e:=3) (B:=3132) (fun d hd=>?_) (by rw[aX];exact g.u10)
  obtain⟨x,hx,rfl⟩:=cY.mp hd
  have k:=g.rules x hx;have k2:=k.sum;have st:oh 2 (6*(171+2)+3) (R9 x.2.2):=by
   refine rA (e:=1) (B:=171) (fun d hd=>?_) (by rw[aX];exact k.many)
   obtain⟨y,hy,rfl⟩:=cY.mp hd
   obtain⟨y1,y2,y3⟩:=k.al6 y hy
   refine rA (e:=0) (B:=82) (C:=2) (fun d hd=>?_) (bN _);simp only[bI,jg,or_false] at hd;rcases hd with rfl|rfl
   ·exact int' (by omega) (by omega)
   ·rcases y3 with y3|y3
    ·rw[y3];exact tO abY
    ·exact tO (oz _ y3)
  refine(rA (e:=2) (B:=1041) (C:=3) (ds:=[.str x.1,.int x.2.1,R9 x.2.2]) (fun d hd=>?_) (bN _)).mono (by decide) (by decide)
  simp only[bI,jg,or_false] at hd;rcases hd with rfl|rfl|rfl
  ·exact(tO (oz _ k.part)).mono (by decide) (by decide)
  ·exact(int' (by omega) (by omega)).mono (by decide) (by decide)
  ·exact st.mono (by decide) (by decide)
 refine(rA (e:=4) (B:=32000) (C:=4) (ds:=[.tuple (h.ps.map nQ),.tuple (h.qC.map nP),.tuple (h.leaves.map bD),.tuple (h.rules.map uf)]) (fun d hd=>?_) (bN _)).mono (by decide) (by decide)
 simp only[bI,jg,or_false] at hd;rcases hd with rfl|rfl|rfl|rfl
 ·exact s1.mono (by decide) (by decide)
 ·exact s2.mono (by decide) (by decide)
 ·exact s3.mono (by decide) (by decide)
 ·exact s4.mono (by decide) (by decide)
theorem X5(h:nameB z=true):Ny z=true:=by
 unfold Ny;rw[Array.all_eq_true'];intro c hc;have:=(aik h).2.2 c (by simpa using hc);exact decide_eq_true (by omega)
theorem Qv:∀{zs:List Str},(∀z∈zs,Ny z=true)→V6 (zs.map cL)=true∧Cr (zs.map cL)=0∧jG (zs.map cL)=true
 |[],_=>⟨by simp[V6],by simp[Cr],rfl⟩
 |z::zs,h=>by
  obtain⟨h1,h2,h3⟩:=Qv fun x hx=>h x (dM _ hx)
  refine⟨by simp[V6,aeZ,h z dm];simpa using h1,by simp only[cJ,Cr,HQ,h2];rfl,?_⟩
  show(true&&jG (zs.map cL))=true
  rw[h3];rfl
theorem afT{zs:List Str}(h:∀z∈zs,Ny z=true):mJ (.list (zs.map cL))=true:=by
 obtain⟨h1,h2,_⟩:=Qv h
 unfold mJ;simp only[aeZ,h1,HQ,h2];decide
theorem afw:∀{l:List α}{m:List β},m.Perm (l.map f)→∃l':List α,l'.Perm l∧m=l'.map f:=fun{l m} p=>by
 generalize e:l.map f=k at p;induction p generalizing l with
 |nil=>
  cases l with
  |nil=>exact⟨[],zU _,rfl⟩
  |cons _ _=>cases e
 |@cons x m k _ ih=>
  cases l with
  |nil=>cases e
  |cons a l=>
   rw[cJ,Wj] at e
   obtain⟨l',p',rfl⟩:=ih e.2
   exact⟨a::l',p'.cons a,by rw[cJ,e.1]⟩
 |swap x y m=>
  cases l with
  |nil=>cases e
  |cons a l=>
   cases l with
   |nil=>cases e
   |cons b l=>
    rw[cJ,cJ,Wj,Wj] at e
    obtain⟨e1,e2,e3⟩:=e
    exact⟨b::a::l,MJ a b l,by rw[cJ,cJ,e1,e2,e3]⟩
 |trans _ _ ih1 ih2=>
  obtain⟨l2,p2,e2⟩:=ih2 e
  obtain⟨l1,p1,e1⟩:=ih1 e2.symm
  exact⟨l1,p1.trans p2,e1⟩
theorem ago(x:Str×Str)(ps:List (Str×Str))(z:Str):iC (x::ps) z=if x.1=z then some x.2 else iC ps z:=by
 unfold iC;rw[oZ];by_cases h:x.1=z
 ·rw[decide_eq_true h,if_pos h];rfl
 ·rw[decide_eq_false h,if_neg h]
theorem tH:∀{ps:List (Str×Str)}{z w:Str},(ps.map (·.1)).Nodup→(iC ps z=some w↔(z,w)∈ps)
 |[],z,w,_=>by simp[iC]
 |x::ps,z,w,h=>by
  rw[cJ,jH] at h;rw[ago];by_cases hz:x.1=z
  ·rw[if_pos hz,bI];constructor
   ·intro e;left;rw[←hz,←fX e]
   ·rintro(e|e)
    ·rw[←e]
    ·exact absurd (cY.mpr ⟨(z,w),e,hz.symm⟩) h.1
  ·rw[if_neg hz,tH h.2,bI];constructor
   ·exact .inr
   ·rintro(e|e)
    ·exact absurd (by rw[←e]) hz
    ·exact e
theorem agp(p:ps'.Perm ps)(h:(ps.map (·.1)).Nodup)(z:Str):iC ps' z=iC ps z:=by
 have h':(ps'.map (·.1)).Nodup:=(p.map (·.1)).nodup_iff.mpr h;cases e:iC ps z with
 |some w=>exact(tH h').mpr (p.mem_iff.mpr ((tH h).mp e))
 |none=>
  cases e':iC ps' z with
  |none=>rfl
  |some w=>
   have:=(tH h).mpr (p.mem_iff.mp ((tH h').mp e'));rw[e] at this;cases this
theorem Ip(h:gh zs ps):ps.map (·.1)=zs.take ps.length:=by
 apply List.ext_getElem?;intro i;rw[gK,Cj];cases e:ps[i]? with
 |none=>
  rw[if_neg (by have:=Vm.mp e;omega)];rfl
 |some x=>
  rw[if_pos (gZ.mp e).1,(h i x e).1];rfl
theorem Ac(hN:Names zs)(h:gh zs ps):(ps.map (·.1)).Nodup:=by
 rw[Ip h];exact hN.1.sublist (zF _ _)
theorem afx:nameB (fD "")=false:=by decide +kernel
theorem X6(hN:Names zs)(h:gh zs ps)(hz:z∈ps.map (·.1)):nameB z=true:=by
 rw[Ip h] at hz;exact hN.2 z (ux hz)
theorem X7(hN:Names zs)(h:gh zs ps):iC ps (fD "")=none:=by
 cases e:iC ps (fD "") with
 |none=>rfl
 |some w=>
  have:=(tH (Ac hN h)).mp e;have:=X6 hN h (cY.mpr ⟨_,this,rfl⟩);rw[afx] at this;cases this
def vq(f:Str→Option Str):Nat→Str→List Str
 |0,_=>[]
 |n+1,z=>match f z with
  |none=>[]
  |some y=>z::vq f n y
def up(ps:List (Str×Str))(z:Str):List Str:=vq (iC ps) (ps.length+1) z
theorem Qw(h:f z=none):∀n,vq f n z=[]
 |0=>rfl
 |n+1=>by unfold vq;rw[h]
theorem ZL(h:f z=some y)(n:Nat):vq f (n+1) z=z::vq f n y:=by
 rw[vq,h]
theorem aaP:∀n z,(vq f n z).length≤n
 |0,_=>bN 0
 |n+1,z=>by
  cases h:f z with
  |none=>rw[Qw h];exact lD _
  |some y=>
   rw[ZL h,dH];exact aeD (aaP n y)
theorem aaQ(hN:Names zs)(hP:gh zs ps):∀(n i:Nat),i<n→∀x,ps[i]?=some x→Over (iC ps) x.1 (vq (iC ps) n x.1)
 |0,_,h,_,_=>absurd h (xW _)
 |n+1,i,h,x,hx=>by
  have e:iC ps x.1=some x.2:=(tH (Ac hN hP)).mpr (jB hx);rw[ZL e];refine .step e ?_
  rcases(hP i x hx).2 with h2|⟨j,hj,h2⟩
  ·rw[h2,Qw (X7 hN hP)];exact .stop (X7 hN hP)
  ·have hi:=(gZ.mp hx).1;have hjl:j<ps.length:=by omega
   have g:=hP j ps[j] (gQ hjl);have e2:ps[j].1=x.2:=by
    have:=g.1;rw[h2] at this
    exact(fX this).symm
   rw[←e2];exact aaQ hN hP n j (by omega) ps[j] (gQ hjl)
theorem Dw(hN:Names zs)(hP:gh zs ps)(z:Str):Over (iC ps) z (up ps z):=by
 unfold up;cases e:iC ps z with
 |none=>
  rw[Qw e];exact .stop e
 |some w=>
  obtain⟨i,hi,hx⟩:=sI ((tH (Ac hN hP)).mp e)
  have:=aaQ hN hP (ps.length+1) i (by omega) _ (gQ hi);rw[hx] at this;exact this
theorem Over.det:∀{z:Str}{a b:List Str},Over f z a→Over f z b→a=b
 |_,_,_,.stop _,.stop _=>rfl
 |_,_,_,.stop h,.step g _=>by rw[h] at g;cases g
 |_,_,_,.step h _,.stop g=>by rw[h] at g;cases g
 |_,_,_,.step h r,.step g s=>by
  rw[h] at g;cases g;rw[Over.det r s]
theorem ajL(hN:Names zs)(hP:gh zs ps)(h:iC ps z=some w):up ps z=z::up ps w:=(Dw hN hP z).det (.step h (Dw hN hP w))
theorem Sd(ps:List (Str×Str))(z:Str):(up ps z).length≤ps.length+1:=aaP _ _
def aP(l:List (Str×ao)):List (ao×ao):=l.map fun p=>(.str p.1,p.2)
theorem Dj:∀l:List (Str×ao),cO di (aP l)=some (l.map fun p=>.inr p.1)
 |[]=>rfl
 |p::l=>by
  rw[show aP (p::l)=(.str p.1,p.2)::aP l from rfl];unfold cO;rw[Dj l];simp only[di];rfl
theorem Aw(x z:Str):(di (.str x)=some (.inr z))↔x=z:=by
 simp[di]
theorem Yx(z:Str):∀l:List (Str×ao),qw di (.inr z) (aP l)=(l.find? fun p=>decide (p.1=z)).map (·.2)
 |[]=>rfl
 |p::l=>by
  show(if di (.str p.1)=some (.inr z) then some p.2 else qw di (.inr z) (aP l))=_
  rw[oZ];by_cases h:p.1=z
  ·rw[if_pos ((Aw _ _).mpr h),decide_eq_true h];rfl
  ·rw[if_neg (fun e=>h ((Aw _ _).mp e)),decide_eq_false h,Yx z l]
theorem Yy(l:List (Str×ao))(z:Str):oN (aP l) (.str z)=some ((l.find? fun p=>decide (p.1=z)).map (·.2)):=by
 show(if(cO di (aP l)).isSome then some (qw di (.inr z) (aP l)) else none)=_
 rw[Dj,Yx];rfl
theorem ZM(h:z∉l.map (·.1)):nW di (.inr z) (.str z) d (aP l)=aP (l++[(z,d)]):=by
 unfold nW;rw[if_neg,aP,aP,gC]
 ·rfl
 ·rw[aeE,aeh];intro p hp
  obtain⟨q,hq,rfl⟩:=cY.mp hp
  have:¬(di (.str q.1)=some (.inr z)):=fun e=>h (cY.mpr ⟨q,hq,(Aw _ _).mp e⟩)
  simpa using this
theorem Qx(h:z∉l.map (·.1)):putD (aP l) (.str z) d=some (aP (l++[(z,d)])):=by
 show(if(cO di (aP l)).isSome then some (nW di (.inr z) (.str z) d (aP l)) else none)=_
 rw[Dj,ZM h];rfl
theorem ail(ps:List (Str×Str))(g:Str×Str→α)(z:Str):((ps.map fun p=>(p.1,g p)).find? fun p=>decide (p.1=z)).map (·.2)=(ps.find? fun p=>decide (p.1=z)).map g:=by
 rw[ae0,MK];rfl
theorem uD(D:α→ao)(p:α→Bool)(g:α→ao):∀{l:List α},(∀a∈l,∃ts,zu T (D a)=some ts∧ft (eZ ts++fs) C=some (p a,C)∧(p a=true→∃x e,fe (eZ ts++fs) C=some (x,e,C)∧still x=.im (g a)))→
  kE T ft fe fs (l.map D) C=some ((l.filter p).map g,C)
 |[],_=>rfl
 |d::r,h=>by
  obtain⟨ts,h1,h2,h3⟩:=h d dm
  have ih:=uD D p g (l:=r) fun d m=>h d (dM _ m)
  rw[cJ];unfold kE;simp only[h1];rw[h2];cases hp:p d with
  |true=>
   obtain⟨x,e,h4,h5⟩:=h3 hp
   simp only[h4,h5,ih,Mi,hp,if_true,cJ]
  |false=>
   simp only[ih,Mi,hp];rfl
section
variable{prog:bh}{w:aZ}{A:cI}{E:Value→aC→Prop}{R:rB→aC→Prop}{s:aC}
theorem ahf(h:Q (.ref s.heap.objs.size) {s with heap:=s.heap.push (qH w)}):aN (model prog w) A (newSet (.type "set")) Q E s:=by
 unfold newSet XS
 obtain⟨h0,g0,d0,t0,o0⟩:=s
 refine aJ (aJ (Mj (aY ?_)));dsimp only;simp only[newObj];exact aJ (wpAny_alloc (aY h))
theorem ahg{elt target iter:Expr}{ifs:List Expr}{rest:List Comprehension}{scope:ju}{pos:Pos}{it acc:Value}{env:Env}(h0:j9 (model prog w) A (.compLoop (.SetComp elt (⟨target,iter,ifs,0⟩::rest) scope pos) 0 it acc env) R s)
  (h:aN (model prog w) A (DP it) (fun it' s'=>j9 (model prog w) A (.compLoop (.SetComp elt (⟨target,iter,ifs,0⟩::rest) scope pos) 0 it' acc env) R s') (notedBy (model prog w) A env fun x s'=>R (.error x) s') s):
  j9 (model prog w) A (.compStart (.SetComp elt (⟨target,iter,ifs,0⟩::rest) scope pos) 0 it acc env) R s:=by
 refine codeAny_of_tree (show aN _ A ((compStart (.SetComp elt (⟨target,iter,ifs,0⟩::rest) scope pos) 0 it acc env).onRaise (fun x=>do noteFrame x env;tM theWindowsPlace)) _ _ s from wpAny_notedAt ?_);unfold compStart
 refine(show aN _ A (ask >>= _) _ _ s from aJ (Mj (wpAny_ite ?_)))
 split
 ·first
   |exact aJ (aY (aY ⟨rfl,h0⟩))
   |exact aY ⟨rfl,h0⟩
 ·first
   |exact aJ (yh (aJ (uB (aJ (oF h (fun it' s' h'=>aY ⟨rfl,h'⟩) fun _ _ x=>x)))))
   |exact aJ (yh (show aN _ _ (tM iter.pos >>= _) _ _ s from aJ (uB (aJ (oF h (fun it' s' h'=>aY ⟨rfl,h'⟩) fun _ _ x=>x)))))
variable{T:Type}[DecidableEq T]{knd:xX prog w T}
theorem afU(hk:knd.is k key=true)(hsc:key.scannable=true)(hS:nU knd s.heap a ks)(room:ks.length+1<qe)
  (h:∀h',z8 a s.heap h'→nU knd h' a (kJ ks k)→Q .none {s with heap:=h',toks:=s.toks+1}):aN (model prog w) A (call (.builtin "set.add") [.ref a,key]) Q E s:=by
 refine qP F.slot_set_add hS.ty F.entry_set_add ?_ (F.args_set_add_2 _ _);unfold nF.«set.add» aoc;simp only[Wa,bind_assoc];unfold aoD setAdd;refine aJ (aY ?_)
 try dsimp only
 refine aJ (aY ?_)
 try dsimp only
 refine aJ (nA (aJ (knd.pyHash hk ?_)));refine ajo (knd:=knd) (s:={s with toks:=s.toks+1}) hk hsc hS room fun _ h' hsb hS'=>?_
 exact(show aN _ _ (ret p7) _ _ _ from aY ⟨_,rfl,h h' hsb hS'⟩)
end
theorem afy(elt gens scope pos):eval (.SetComp elt gens scope pos) env=WX (.SetComp elt gens scope pos) scope env (firstIterPos gens pos) (newSet (.type "set")) (firstAsync gens) (firstIter gens env):=rfl
section
variable{P:bh}{w:aZ}{T0:Type}[DecidableEq T0](knd:xX P w T0)(mk:T0→V)
abbrev SO(a:aa)(ks:List T0):HO:=.ext fun h=>nU knd h a ks
def Th(D:aa)(te:TE):TM:=fun σ H Q=>te σ H fun y H1=>∃ks k,H1 D=some (SO knd D ks)∧y=mk k∧ks.length+1<qe∧Q (upd H1 D (SO knd D (kJ ks k)))
theorem abZ(x:nU knd h a ks):fB P w H h a (SO knd a ks):=
 ⟨x,let ⟨o,_,_,_,e,_⟩:=x;⟨o,e⟩,fun _ _ y e=>y.at e⟩
def tSC(K:aG)(wi:TI)(T:gq)(ts:Bk→TT)(te:Bk→TE)(js:List Nat):TE:=fun σ H Q=>wi σ H fun J H1=>∀D,H1 D=none→∀b,wW K T (ts b) (Th knd mk D (te b)) (frees js σ) J (upd H1 D (SO knd D [])) (Q (.ref D))
end
section
variable{X:Cx}{T0:Type}[DecidableEq T0]{knd:xX X.prog X.w T0}{mk:T0→V}{NT NF:List Str}{js:List Nat}{elt tg iter:Expr}{ifs:List Expr}{T:gq}{wi:TI}{ts:Bk→TT}{te:Bk→TE}{scope:ju}{pos:Pos}
theorem ali(hk:∀k v,RelV (mk k) v→knd.is k v=true∧v.scannable=true)(he:PE X elt t):PM X (do let v ←eval elt X.env;tM elt.pos;let _ ←call (.builtin "set.add") [.ref D,v]) (Th knd mk D t):=by
 intro pins s σ H Q I h;refine aJ (bu (he pins s σ H _ I h) fun v s1 aL=>?_)
 obtain⟨y,H1,I1,r1,ks,k,hD,ey,hz,q⟩:=aL
 subst ey
 obtain⟨hS,_,_⟩:=I1.hok D _ hD
 obtain⟨k1,k2⟩:=hk _ _ r1
 refine aJ (uB (aJ (afU k1 k2 hS hz fun h' same hS'=>?_)));refine aY ⟨_,?_,q⟩;exact yt I1 (by rw[hD];exact lF) same (let ⟨o,_,_,_,e,_⟩:=hS';⟨o,e⟩) (abZ knd hS')
theorem alj{pins:List (aa×Obj)}{σ:St}{s2:aC}{H2:Hp}{cl:List (Str×aa)}{it:aa}{fp:List aa}{tn:Nat→aV→Prop}{J:It}{Q:Hp→Prop}{RR:Value→aa→rB→aC→Prop}{E:Value→aC→Prop}
  (hk:∀k v,RelV (mk k) v→knd.is k v=true∧v.scannable=true)(B:pN X NT NF js scope)(tk:oU tg NT T)(hc:X.calm=true)
  (hin:∀b,mY (X.bk (NT++NF) scope b) ifs (ts b)∧PE (X.bk (NT++NF) scope b) elt (te b))
  (q2:∀n c,cl.lookup n=some c→X.env.cells.lookup n=some c)(q3:∀y∈scope.names,y.2=.free→∃c,cl.lookup y.1=some c)
  (I2:Inv X pins σ H2 s2)(TT:Turn X.prog X.w X.K tg J fp it tn)(st2:tn 0 s2.heap)(f2:∀b∈fp,jJ X pins H2 b)
  (q:∀b,wW X.K T (ts b) (Th knd mk s2.heap.objs.size (te b)) (frees js σ) J (upd H2 s2.heap.objs.size (SO knd s2.heap.objs.size [])) Q)
  (hR:∀C H' s' m,Inv X pins σ H' s'→jJ X pins H' C→s'.heap.Ns C m→Q H'→RR (.ref s2.heap.objs.size) C (.ok .next) s'):
  aN (model X.prog X.w) X.A (newSet (.type "set")) (fun acc s₃=>aN (model X.prog X.w) X.A (Wt scope X.env.globals cl [] X.env.qual none .none (some X.env)) (fun cenv s₄=>
   j9 (model X.prog X.w) X.A (.compStart (.SetComp elt [⟨tg,iter,ifs,0⟩] scope pos) 0 (.ref it) acc {cenv with scope:=relabel scope X.env}) (RR acc cenv.locals) s₄) E s₃) E s2:=by
 refine ahf ?_;have hD:H2 s2.heap.objs.size=none:=I2.hok.fresh (bN _);have I3:Inv X pins σ (upd H2 s2.heap.objs.size (SO knd s2.heap.objs.size [])) {s2 with heap:=s2.heap.push (qH X.w)}:=
  I2.laid (t':=s2.toks) (fun b o e=>cM _ e) (bN _) (abZ knd (akZ (iI _ rfl)))
 have hsz:(s2.heap.push (qH X.w)).objs.size=s2.heap.objs.size+1:=vJ ..;refine Vx B.cell (by intro y hy;simp at hy) (fun h₁ hns₁ hsb₁=>?_) B.kind;have ur:∀b∈fp,b<s2.heap.objs.size:=fun b hb=>by
  obtain⟨o,e,_⟩:=TT.obj 0 _ st2 b hb
  exact bZ e
 have f3:∀b∈fp,jJ X pins (upd H2 s2.heap.objs.size (SO knd s2.heap.objs.size [])) b:=fun b hb=>⟨by rw[cR (dY (ur b hb))];exact(f2 b hb).1,(f2 b hb).2⟩
 have keep:∀b o,(s2.heap.push (qH X.w)).get? b=some o→h₁.get? b=some o:=fun b o e=>hsb₁.extBut b o (dY (bZ e)) (cM _ e)
 have xF:∀b∈fp,b<(s2.heap.push (qH X.w)).objs.size:=fun b hb=>by have:=ur b hb;rw[hsz];exact vG this
 have I4:=I3.blk (s1:={s2 with heap:=h₁,toks:=s2.toks+([]:List (Str×Value)).length}) B q2 q3 f3 xF hns₁ keep rfl I2.bare;have xG:tn 0 h₁:=TT.keep 0 _ _ st2 fun b _ o e=>keep b o (cM _ e)
 obtain⟨i1,i2⟩:=hin ⟨cl,(s2.heap.push (qH X.w)).objs.size,{s2 with heap:=s2.heap.push (qH X.w)},upd H2 s2.heap.objs.size (SO knd s2.heap.objs.size []),fp⟩
 have loop:j9 (model X.prog X.w) X.A (.compLoop (.SetComp elt [⟨tg,iter,ifs,0⟩] scope pos) 0 (.ref it) (.ref s2.heap.objs.size) (Qa scope cl (s2.heap.push (qH X.w)).objs.size X.env))
   (RR (.ref s2.heap.objs.size) (s2.heap.push (qH X.w)).objs.size) {s2 with heap:=h₁,toks:=s2.toks+([]:List (Str×Value)).length}:=by
  refine Qc (X:=X.blk (NT++NF) scope cl (s2.heap.push (qH X.w)).objs.size {s2 with heap:=s2.heap.push (qH X.w)} (upd H2 s2.heap.objs.size (SO knd s2.heap.objs.size [])) fp)
   (T:=T) (fs:=frees js σ) (done:=Q) rfl (agU elt tg iter ifs scope pos _ _ _) rfl rfl rfl tk rfl B.nd hc (fun x hx=>Vy (B.tg x hx)) i1 (ali (X:=X.bk (NT++NF) scope _) (knd:=knd) hk i2) TT (fun b hb=>?_) I4 xG (q _) fun H' s' σ' J' qd=>?_
  ·exact⟨(f3 b hb).1,dY (xF b hb),fun hb2=>by
    rcases bI.mp (I3.Ay b hb2) with z|z
    ·exact(f3 b hb).2.1 z
    ·exact(f3 b hb).2.2.1 z,.inl hb,fun x c e=>(f3 b hb).2.2.2.2.1 x c (q2 x c e),fun p hp=>(nomatch(show p∈([]:List (aa×Obj)) from hp))⟩
  ·obtain⟨m,hn,_⟩:=J'.loc
   exact hR _ H' s' m (I3.Tc f3 J') (I3.uX (bN _) J'.free) hn qd
 exact ahg loop (TT.self _ 0 _ _ _ xG loop)
theorem al7(hk:∀k v,RelV (mk k) v→knd.is k v=true∧v.scannable=true)(B:pN X NT NF js scope)(tk:oU tg NT T)(hc:X.calm=true)(hi:PI X tg iter wi)
  (hin:∀b,mY (X.bk (NT++NF) scope b) ifs (ts b)∧PE (X.bk (NT++NF) scope b) elt (te b))
  (hs:∀x,uz iter X.env x=pure x:=by intro _;rfl):PE X (.SetComp elt [⟨tg,iter,ifs,0⟩] scope pos) (tSC knd mk X.K wi T ts te js):=by
 intro pins s σ H Q I h
 obtain⟨cl,hclos,q2,q3⟩:=Ik (env:=X.env) (scope:=scope) fun y hy e=>I.ok.has y.1 (B.free y hy e)
 rw[afy];refine Lj (use:=none) rfl hs hclos B.kind B.names (bu (hi pins s σ H _ I h) fun v s1 h1=>bu h1 fun itv s2 aL=>?_)
 obtain⟨it,fp,tn,J,H2,e,I2,TT,st2,f2,q⟩:=aL
 subst e;refine alj (Q:=fun H'=>Q (.ref s2.heap.objs.size) H') (RR:=fun acc C=>Qd (model X.prog X.w) X.A X.xe none (EP X pins σ Q) acc C) hk B tk hc hin q2 q3 I2 TT st2 f2 (q _ (I2.hok.fresh (bN _))) fun C H' s' m I' fC hn qd=>?_
 refine⟨m,hn,fun h' sb=>⟨.ref s2.heap.objs.size,H',?_,rfl,qd⟩⟩
 exact I'.turned (t':=s'.toks) (fun b o hb e=>(sb.2 b hb).trans e) fC.1 fC.2.1 fC.2.2.2.1 fC.2.2.2.2.1 fC.2.2.2.2.2
end
def abF{P:bh}{w:aZ}(t:TE):TE:=fun σ H Q=>t σ H fun x H2=>∃D ks,x=.ref D∧H2 D=some (SO (Hv P w) D ks)∧ks.length<64∧∀(D':aa)(ns':List Str),H2 D'=none→ns'.Perm ks→sortedS ns'=true→Q (.ref D') (upd H2 D' (.lst (ns'.map V.str)))
theorem aim(hc:X.calm=true)(hl:PE X e t)(g1:Gl X "sorted")(m1:X.mg "sorted"=none)
  (he:aW [e] X.env=(false,eval e X.env)::aW [] X.env:=by rfl)(hpl:(fG pos1 (aW [] X.env)).any (·.1)=false:=by rfl):PE X (.Call (.Name "sorted" p1) [e] [] pos1) (abF (P:=X.prog) (w:=X.w) t):=by
 intro pins s σ H Q I h;refine Cg (tQ I g1 m1 (u:=.builtin "sorted") rfl (Vh ?_ he hpl));rw[he];show aN _ _ (Dm ((false,eval e X.env)::fG pos1 (aW [] X.env))) _ _ s;refine Cd (bu (hl pins s σ H _ I h) fun v s1 ⟨y,H1,I1,r1,D,ks,ey,hD,h64,q⟩=>G6 ?_);subst ey;cases r1
 obtain⟨⟨o,es,ep,t,ho,ex,hd,⟨ks',ek,pk⟩,hb,hf,tb⟩,_,_⟩:=I1.hok D _ hD
 obtain⟨e1,e2⟩:=ah6 ek
 have few:es.size<64:=by
  rw[←kO,ek.len,pk.length_eq];omega
 refine agk (Ok:=fun out=>∃ns',StrsAre out ns'∧ns'.Perm ks∧sortedS ns'=true) (I1.ok.hd hc) ⟨o,ho,ex,hd,hf,tb⟩ few (fun us pm B s2 a n P E' ho' hp=>?_) fun D h' d tk c out ok ge kk gD=>?_
 ·have hS:StrsAre us (us.map strOf):=strsAre_map us fun v hv=>e2 v (pm.mem_iff.mp hv)
  refine list_sort_treeK strKind_oneLt ho' hS.keysOf (fun v1 v2 rest e=>keyKind_strs (by rw[←e];exact hS)) (by rw[pm.length_eq,aX,kO];exact few) fun st hp1 hp2=>?_
  obtain⟨ss',b1,b2,b3⟩:=sorted_out_str hS hp1 hp2
  exact hp _ ⟨ss',b1,b2.trans ((pm.map strOf).trans (by rw[e1];exact pk)),b3⟩
 ·obtain⟨ns',a1,a2,a3⟩:=ok
  have hz:ns'.length≤bR:=by
   rw[a2.length_eq,jq];omega
  exact⟨.ref D,_,(I1.laid (o:=.lst (ns'.map V.str)) (t':=tk) kk ge ⟨by rw[aX];exact hz,out.toList,c,Pg a1,by simpa[seqObj] using gD⟩).drew d,rfl,q D ns' (I1.hok.fresh ge) a2 a3⟩
def Gs(fi:FI)(T:gq)(ft:FT)(fe:FE)(js:List Nat):FE:=fun env C=>match fi env C with
 |some (its,e1,C1)=>match kE T ft fe (frB js e1) its C1 with
  |some (ys,C2)=>match Jp ys with
   |some l=>some (.ow (.list l),env,C2)
   |none=>none
  |none=>none
 |none=>none
def T9(fe:FE):En→List Str→Ce→Option (List Str×Ce):=fun env acc C=>(fe env C).bind fun q=>(imO (still q.1)).bind fun y=>(strD y).bind fun z=>bif decide (acc.length<64) then some (acc++[z],q.2.2) else none
theorem Ri:∀{its:List ao}{ys acc:List Str}{C:Ce},kE T ft fe fs its C=some (ys.map .str,C')→acc.length+ys.length≤64→ue T ft (T9 fe) fs its acc C=some (acc++ys,C')
 |[],ys,acc,C,h,_=>by
  cases ys with
  |cons _ _=>cases h
  |nil=>
  cases h;rw[mK];rfl
 |d::r,ys,acc,C,h,hl=>by
  unfold kE at h;unfold ue;split at h
  case h_2=>cases h
  rename_i ts ht;rw[ht,iZ];split at h
  case h_3=>cases h
  ·rename_i C1 hf;rw[hf,iZ];exact Ri h hl
  ·rename_i C1 hf;rw[hf,iZ];split at h
   case h_2=>cases h
   rename_i x e2 C2 hx;split at h
   case h_2=>cases h
   rename_i y hy;split at h
   case h_2=>cases h
   rename_i zs C3 hz;cases ys with
   |nil=>cases h
   |cons w ys=>
   injection h with h
   injection h with h1 h2
   injection h1 with h1 h3
   subst h1 h2 h3;rw[dH] at hl
   show(T9 fe (eZ ts++fs) acc C1).bind _=_
   unfold T9;rw[hx,iZ,hy,show imO (.im (.str w))=some (.str w) from rfl,iZ,show strD (.str w)=some w from rfl,iZ,decide_eq_true (by omega),show acc++w::ys=(acc++[w])++ys by rw[lB];rfl];exact Ri hz (by rw[gf];show acc.length+1+_≤_;omega)
theorem ajM{P:bh}{w:aZ}{K:aG}{fi:FI}{T:gq}{ft:FT}{fe:FE}{js:List Nat}:∀σ H Q,tE K (Gs fi T ft fe js) σ H Q→abF (P:=P) (w:=w) (tSC (Hv P w) V.str K (tI K true fi) T (fun _=>fH K ft) (fun _=>tE K fe) js) σ H Q:=by
 rintro σ H Q ⟨Z,Θ,env,C,res,env',C',S,hf,q⟩;unfold Gs at hf;split at hf
 case h_2=>cases hf
 rename_i its e1 C1 h1;split at hf
 case h_2=>cases hf
 rename_i ys C2 h2;split at hf
 case h_2=>cases hf
 rename_i l hs;cases hf;unfold Jp at hs;split at hs
 case isFalse=>cases hs
 rename_i hl;split at hs
 case h_2=>cases hs
 rename_i ns hns;cases hs;have hys:=ZD hns;subst hys;rw[aX] at hl
 refine⟨Z,Θ,env,C,its,e1,C1,S,h1,fun J H1 k1 f1 S1 it D hD b=>?_⟩
 have qI:D∉Θ:=fun m=>(S1.cell.dom D m).ne hD
 refine Qn (a0:=[]) (Ob:=fun acc Hx=>Hx D=some (SO (Hv P w) D (dedup acc))) S1 it hD eU (fun a Hx Hy kk r=>kk.keep _ _ r qI) (fun a Hx r=>⟨_,r,fun _ z=>nomatch z⟩) ?_ (Ri (acc:=[]) h2 (by rw[Cq];omega)) fun H2 ki ci r=>?_
 ·intro ts acc C2 p vs H4 Q hs S4 k4 r4 hQ
  obtain⟨w,hfe,hs⟩:=ir hs
  obtain⟨yd,rY,hs⟩:=ir hs
  obtain⟨z,hz,hs⟩:=ir hs
  have rY:=Eb rY;have hz:=aju hz;subst hz;cases hlt:decide (acc.length<64) with
  |false=>rw[hlt] at hs;cases hs
  |true=>
  rw[hlt] at hs;cases hs
  refine⟨_,Θ,_,C2,w.1,w.2.1,w.2.2,S4,hfe,fun y H5 k5 f5 R5=>?_⟩
  obtain⟨S5,r5⟩:=R5.ud rY
  have lt:=of_decide_eq_true hlt;have ld:=Yr acc
  exact⟨dedup acc,z,k5.keep _ _ r4 qI,r5,by unfold qe;omega,hQ _ (R4 (Hy:=H5) hD (k4.trans k5)) (Jo qI S5.cell) (by rw[agf];exact eU)⟩
 ·have kk:=k1.trans ki;have ld:=Yr ns
  refine⟨D,dedup ns,rfl,r,by omega,fun D' ns' hn p hp=>?_⟩
  rw[abA p hp];exact q _ _ (kk.trans (aQ.upd hn)) (Fz.refl _) ((uH (S.go kk ci) (Zj _) hn).from kk)
theorem al8{X:Cx}{NT NF:List Str}{js:List Nat}{elt tg iter:Expr}{ifs:List Expr}{T:gq}{fi:FI}{ft:FT}{fe:FE}{scope:ju}{pos p1 pos1:Pos}(B:pN X NT NF js scope)(tk:oU tg NT T)(hc:X.calm=true)(g1:Gl X "sorted")(m1:X.mg "sorted"=none)(hi:PI X tg iter (tI X.K true fi))
  (hin:∀b,mY (X.bk (NT++NF) scope b) ifs (fH X.K ft)∧PE (X.bk (NT++NF) scope b) elt (tE X.K fe))
  (hs:∀x,uz iter X.env x=pure x:=by intro _;rfl)
  (he:aW [.SetComp elt [⟨tg,iter,ifs,0⟩] scope pos] X.env=(false,eval (.SetComp elt [⟨tg,iter,ifs,0⟩] scope pos) X.env)::aW [] X.env:=by rfl)(hpl:(fG pos1 (aW [] X.env)).any (·.1)=false:=by rfl):
  PE X (.Call (.Name "sorted" p1) [.SetComp elt [⟨tg,iter,ifs,0⟩] scope pos] [] pos1) (tE X.K (Gs fi T ft fe js)):=
 (aim hc (al7 (knd:=Hv X.prog X.w) (mk:=V.str) (fun k v r=>by obtain⟨t,rfl⟩:=r;exact⟨PySem.strKind_is _ _ _ _,rfl⟩) B tk hc hi hin hs) g1 m1 he hpl).weak ajM
section
variable{X:Cx}{tg:Expr}
def Fw(f g:FB):FI:=fun env C=>match bCons f (bCons g bNil) env C with
 |some ([.int i,.int j],_,C1)=>if -(2^62)≤i∧i<2^62∧-(2^62)≤j∧j<2^62 then some (gn i (j-i).toNat,env,C1) else none
 |_=>none
theorem ahh(hg:Gl X "range")(hm:X.mg "range"=none)(ha:PA X [a,b] (vo X.K (bCons f (bCons g bNil))))(hs:aW [a,b] X.env=[(false,eval a X.env),(false,eval b X.env)]:=by rfl)(hs2:aW [b] X.env=[(false,eval b X.env)]:=by rfl):PI X tg (.Call (.Name "range" p) [a,b] [] pos) (tI X.K bb (Fw f g)):=
 (agH hg hm ha hs hs2).weak fun σ H R aL=>by
  obtain⟨Z,Θ,env,C,its,env',C',S,hf,q⟩:=aL
  unfold Fw at hf;split at hf
  ·rename_i i j e1 C1 h1;split at hf
   ·rename_i hj;cases hf
    refine⟨Z,Θ,env,C,[.int i,.int j],e1,C',S,h1,fun vs H1 k f S1 b1=>?_⟩
    cases b1 with
    |cons b1 b2=>
     cases b2 with
     |cons b2 b3=>
      cases b3
      exact⟨i,j,by rw[show _=V.int i from b1,show _=V.int j from b2],hj,q _ H1 k (Fz.refl _) (S.go k S1.cell) (Zv i (j-i).toNat)⟩
   ·cases hf
  ·cases hf
end
theorem a_t0(x:α)(r:List α):cX (x::r) 0=some x:=vY (j:=0) rfl
theorem a_t1(a x:α)(r:List α):cX (a::x::r) 1=some x:=vY (j:=1) rfl
theorem a_t2(a b x:α)(r:List α):cX (a::b::x::r) 2=some x:=vY (j:=2) rfl
theorem a_t3(a b c x:α)(r:List α):cX (a::b::c::x::r) 3=some x:=vY (j:=3) rfl
theorem a_t4(a b c d x:α)(r:List α):cX (a::b::c::d::x::r) 4=some x:=vY (j:=4) rfl
theorem a_t5(a b c d e x:α)(r:List α):cX (a::b::c::d::e::x::r) 5=some x:=vY (j:=5) rfl
theorem a_t6(a b c d e f x:α)(r:List α):cX (a::b::c::d::e::f::x::r) 6=some x:=vY (j:=6) rfl
theorem e_bin(op:ao→ao→Option Vl)(fa fb:FB)(env:En)(C:Ce):aD op fa fb env C=(fa env C).bind fun p=>(fb p.2.1 p.2.2).bind fun q=>(op p.1 q.1).bind fun r=>some (r,rst r env q.2.1,q.2.2):=by
 unfold aD;rcases h:fa env C with _|⟨x,e1,C1⟩
 ·rfl
 ·rcases h2:fb e1 C1 with _|⟨y,e2,C2⟩
  ·simp only[iZ,h2];rfl
  ·simp only[iZ,h2];cases op x y<;>rfl
theorem e_dat(f:FE)(env:En)(C:Ce):aj f env C=(f env C).bind fun p=>(dat p.1).map fun d=>(d,p.2.1,p.2.2):=by
 unfold aj;rcases h:f env C with _|⟨x,e1,C1⟩<;>rfl
theorem e_bv(i:Nat)(env:En)(C:Ce):au i env C=(env[i]?).bind fun o=>o.bind fun x=>(dat x).map fun d=>(d,env,C):=by
 unfold au;rcases env[i]? with _|(_|x)<;>rfl
theorem e_and(f g:FT)(env:En)(C:Ce):mW f g env C=(f env C).bind fun p=>if p.1 then g env p.2 else some (false,p.2):=by
 unfold mW;rcases h:f env C with _|⟨_|_,D⟩<;>rfl
theorem e_or(f g:FT)(env:En)(C:Ce):rN f g env C=(f env C).bind fun p=>if p.1 then some (true,p.2) else g env p.2:=by
 unfold rN;rcases h:f env C with _|⟨_|_,D⟩<;>rfl
theorem e_not(f:FT)(env:En)(C:Ce):uQ f env C=(f env C).map fun p=>(!p.1,p.2):=by
 unfold uQ;rcases h:f env C with _|⟨b,D⟩<;>rfl
theorem e_if(c:FT)(f g:FS)(env:En)(C:Ce):jx c f g env C=(c env C).bind fun p=>if p.1 then f env p.2 else g env p.2:=by
 unfold jx;rcases h:c env C with _|⟨_|_,D⟩<;>rfl
theorem e_ifv(c:FT)(f g:FE)(env:En)(C:Ce):rO c f g env C=(c env C).bind fun p=>if p.1 then f env p.2 else g env p.2:=by
 unfold rO;rcases h:c env C with _|⟨_|_,D⟩<;>rfl
theorem ab0(op op':ao→ao→Option Vl)(fa fb fc:FB)(h1:fa env C=some (x,e1,C1))(h2:fb e1 C1=some (y,e2,C2))(h3:op x y=some (.im (.bool a)))(h4:fc e2 C2=some (z,e3,C2))(h5:op' y z=some (.im (.bool b))):wX op op' fa fb fc env C=some (.im (.bool (a&&b)),env,C2):=by
 unfold wX;simp only[h1,h2,h3];cases a with
 |false=>rfl
 |true=>simp only[h4,h5];rfl
theorem r_ow(d:ao)(e f:En):rst (.ow d) e f=f:=rfl
theorem r_bool(b:Bool)(e f:En):rst (.im (.bool b)) e f=e:=rfl
theorem r_int(i:Int)(e f:En):rst (.im (.int i)) e f=e:=rfl
theorem r_str(z:Str)(e f:En):rst (.im (.str z)) e f=e:=rfl
theorem r_tl(l r:List ao)(e f:En):rst (.im (.tuple (.list l::r))) e f=f:=rfl
theorem add_int(i j:Int):bO (.int i) (.int j)=some (.im (.int (i+j))):=rfl
theorem sub_int(i j:Int):nJ (.int i) (.int j)=some (.im (.int (i-j))):=rfl
theorem le_int(i j:Int):oV (.int i) (.int j)=some (.im (.bool (decide (i≤j)))):=rfl
theorem lt_int(i j:Int):uZ (.int i) (.int j)=some (.im (.bool (decide (i<j)))):=rfl
theorem ge_int(i j:Int):Km (.int i) (.int j)=some (.im (.bool (decide (j≤i)))):=rfl
theorem gt_int(i j:Int):u5 (.int i) (.int j)=some (.im (.bool (decide (j<i)))):=rfl
theorem eq_int(i j:Int):mj (.int i) (.int j)=some (.im (.bool (i==j))):=rfl
theorem eq_bool(a b:Bool):mj (.bool a) (.bool b)=some (.im (.bool (a==b))):=rfl
theorem ne_bool(a b:Bool):mC (.bool a) (.bool b)=some (.im (.bool (!(a==b)))):=rfl
theorem ne_int(i j:Int):mC (.int i) (.int j)=some (.im (.bool (!(i==j)))):=rfl
theorem len_l(ds:List ao):jN [.list ds]=some (.im (.int ds.length)):=rfl
theorem len_t(ds:List ao):jN [.tuple ds]=some (.im (.int ds.length)):=rfl
theorem ix_t(ds:List ao)(i:Int):bf (.tuple ds) (.int i)=(cX ds i).map .im:=rfl
theorem ix_l(ds:List ao)(i:Int):bf (.list ds) (.int i)=(cX ds i).map .im:=rfl
theorem add_l(h:xs.length+ys.length≤1000000):bO (.list xs) (.list ys)=some (.ow (.list (xs++ys))):=if_pos h
theorem Ey(h:xs.length+ys.length≤1000000):bO (.tuple xs) (.tuple ys)=some (.im (.tuple (xs++ys))):=by
 unfold bO;cases xs with
 |nil=>rfl
 |cons x xs=>exact if_pos h
theorem ug{ds:List ao}{i:Nat}{d:ao}(h:ds[i]?=some d):bf (.tuple ds) (.int i)=some (.im d):=by
 simp only[bf,vp,vY h,mL]
theorem h_ix0(h:jc):bf (gM h) (.int 0)=some (.im (.tuple (h.ps.map nQ))):=ug (i:=0) rfl
theorem h_ix1(h:jc):bf (gM h) (.int 1)=some (.im (.tuple (h.qC.map nP))):=ug (i:=1) rfl
theorem h_ix2(h:jc):bf (gM h) (.int 2)=some (.im (.tuple (h.leaves.map bD))):=ug (i:=2) rfl
theorem h_ix3(h:jc):bf (gM h) (.int 3)=some (.im (.tuple (h.rules.map uf))):=ug (i:=3) rfl
theorem k_ix0(r:qz):bf (nP r) (.int 0)=some (.im (.int r.1)):=ug (i:=0) rfl
theorem k_ix1(r:qz):bf (nP r) (.int 1)=some (.im (.str r.2.1)):=ug (i:=1) rfl
theorem k_ix2(r:qz):bf (nP r) (.int 2)=some (.im (.int r.2.2.1)):=ug (i:=2) rfl
theorem k_ix3(r:qz):bf (nP r) (.int 3)=some (.im (.str r.2.2.2.1)):=ug (i:=3) rfl
theorem k_ix4(r:qz):bf (nP r) (.int 4)=some (.im (.int r.2.2.2.2.1)):=ug (i:=4) rfl
theorem k_ix5(r:qz):bf (nP r) (.int 5)=some (.im (.int r.2.2.2.2.2)):=ug (i:=5) rfl
theorem w5(h0:-1000000≤m)(h1:m≤1000000)(a b:α):(if -(2^62)≤m∧m<2^62 then a else b)=a:=if_pos (by omega)
theorem gk(en:En)(hk:xs.length=k)(he:xs.map some++iJ (n-xs.length) none=en)(h:(body en C).map (fun p=>(p.1,p.2.2))=some (.rt r,C1))(hr:Bq C.length r=true)(hC:C1.length=C.length):fN k n body xs C=some (r,C1):=by
 unfold fN;rw[if_pos hk,he];cases hb:body en C with
 |none=>rw[hb] at h;cases h
 |some p=>
  rw[hb] at h
  obtain⟨fl,e1,C2⟩:=p
  have h:(fl,C2)=(Fl.rt r,C1):=fX h;injection h with h1 h2
  subst h1 h2;simp only[hr,if_true,ZJ hC]
theorem letters(k:Int)(h0:0≤k)(h1:k<26):vp (.str abc) (.int k)=some (.str ⟨#[97+k.toNat]⟩):=by
 have e:=ale h0 h1;have hl:abc.length≤LIM:=by decide +kernel
 simp only[vp];rw[if_pos hl,e];rfl
theorem Oz:∀zs:List Str,strsOf (zs.map cL)=some zs
 |[]=>rfl
 |z::zs=>by
  show(match strsOf (zs.map cL) with|some t=>some (z::t)|none=>none)=_
  rw[Oz zs]
theorem OD:∀ns:List Int,intsOf (ns.map lH)=some ns
 |[]=>rfl
 |n::ns=>by
  show(match intsOf (ns.map lH) with|some t=>some (n::t)|none=>none)=_
  rw[OD ns]
theorem noLs_strs:∀zs:List Str,gH (zs.map cL)=true
 |[]=>rfl
 |z::zs=>by
  show(true&&gH (zs.map cL))=true
  rw[noLs_strs zs];rfl
theorem OJ:∀cs:List Nat,gH (cs.map fun c=>cL ⟨#[c]⟩)=true
 |[]=>rfl
 |c::cs=>by
  show(true&&gH (cs.map fun c=>cL ⟨#[c]⟩))=true
  rw[OJ cs];rfl
theorem Xd:∀cs:List Nat,strsOf (cs.map fun c=>cL ⟨#[c]⟩)=some (cs.map fun c=>(⟨#[c]⟩:Str))
 |[]=>rfl
 |c::cs=>by
  show(match strsOf (cs.map fun c=>cL ⟨#[c]⟩) with|some t=>some (_::t)|none=>none)=_
  rw[Xd cs];rfl
theorem ahi:(fD "").length=0:=by decide +kernel
theorem ne_nil(zs:List Str)(hz:∀z∈zs,nameB z=true):mC (.list (zs.map .str)) (.list [])=some (.im (.bool (!zs.isEmpty))):=by
 have s1:mJ (.list (zs.map cL))=true:=afT fun z m=>X5 (hz z m)
 have n1:pZ (.list (zs.map cL))=true:=(Qv fun z m=>X5 (hz z m)).2.2;have e:zp (.list (zs.map .str)) (.list [])=some zs.isEmpty:=by
  show(if pZ (.list (zs.map cL))&&pZ (.list [])&&(mJ (.list (zs.map cL))&&mJ (.list [])) then some (Im (.list (zs.map .str)) (.list [])) else none)=_
  rw[n1,s1];cases zs<;>rfl
 simp only[mC,e,mL]
abbrev hEn(b:Nat)(zs:List Str)(ps:List (Str×Str))(own:List Str)(rk:List qz)(lv:List cC)(ru:List (ao×ao))(v7 v8 v9 v10 v11 bJ cF gb dJ dR dU dW:Option Vl):En:=
 [some (.ce b),some (.im (.list (zs.map .str))),some (.ow (.list (ps.map nQ))),some (.ow (.list (own.map .str))),some (.ow (.list (rk.map nP))),some (.ow (.list (lv.map bD))),some (.ow (.dict ru)),v7,v8,v9,v10,v11,bJ,cF,gb,dJ,dR,dU,dW]
theorem rst_same(r:Vl)(e:En):rst r e e=e:=by
 cases r<;>simp[rst]
theorem ajN{ns:List Int}{i:Nat}{d:ao}(h:(ns.map lH)[i]?=some d):∃x,d=.int x∧ns[i]?=some x∧x∈ns∧i<ns.length:=by
 rw[gK] at h;cases hx:ns[i]? with
 |none=>rw[hx] at h;cases h
 |some x=>
  rw[hx] at h
  exact⟨x,(fX h).symm,rfl,jB hx,(gZ.mp hx).1⟩
theorem take_snoc{ns:List Int}{i:Nat}{x:Int}(h:ns[i]?=some x):ns.take (i+1)=ns.take i++[x]:=by
 rw[List.take_add_one,h];rfl
theorem Yz:∀ss:List Bt,gH (ss.map yP)=true
 |[]=>rfl
 |s::ss=>by
  show(true&&gH (ss.map yP))=true
  rw[Yz ss];rfl
theorem YB:∀rs:List Ex,gH (rs.map uf)=true
 |[]=>rfl
 |r::rs=>by
  show((true&&(true&&(gH (r.2.2.map yP)&&true)))&&gH (rs.map uf))=true
  rw[YB rs,Yz];rfl
theorem ab1(hk:xs.length=k)(he:xs.map some++iJ (n-xs.length) none=en)(h:body en C=some (.rt r,e1,C1))(hr:Bq C.length r=true)(hC:C1.length=C.length):fN k n body xs C=some (r,C1):=by
 unfold fN;rw[if_pos hk,he,h];simp only[hr,if_true,ZJ hC]
theorem Pr:∀zs:List Str,(zs.map cL).all jM=true
 |[]=>rfl
 |z::zs=>by
  rw[cJ,M9,Pr zs];rfl
theorem in_strs(z:Str)(zs:List Str):jP (.str z) (.list (zs.map .str))=some (.im (.bool (decide (z∈zs)))):=by
 have:inB (.str z) (.list (zs.map .str))=some (inD (.str z) (zs.map .str)):=if_pos (by rw[Pr];rfl);unfold jP;rw[this,Jr];rfl
theorem eq_strs(x z:Str):mj (.str x) (.str z)=some (.im (.bool (decide (x=z)))):=by
 have:(x==z)=decide (x=z):=by rw[sU];simp
 show some (Vl.im (.bool (x==z)))=_;rw[this]
theorem ne_strs(x z:Str):mC (.str x) (.str z)=some (.im (.bool (!decide (x=z)))):=by
 have:(x==z)=decide (x=z):=by rw[sU];simp
 show some (Vl.im (.bool (!(x==z))))=_;rw[this]
def bz(q:List (Str×Str)):List (Str×ao):=q.map fun p=>(p.1,.str p.2)
theorem ZP:∀q,za (aP (bz q))=true
 |[]=>rfl
 |x::q=>by
  show(true&&za (aP (bz q)))=true
  rw[ZP q];rfl
theorem Js(q:List (Str×Str))(z:Str):oN (aP (bz q)) (.str z)=some ((iC q z).map .str):=by
 rw[Yy];unfold bz iC;rw[ail,MK];rfl
theorem noLs_ints:∀l:List Int,gH (l.map lH)=true
 |[]=>rfl
 |x::l=>by
  show(true&&gH (l.map lH))=true
  rw[noLs_ints l];rfl
theorem YC:∀ps:List (Str×Str),jG (ps.map nQ)=true
 |[]=>rfl
 |p::ps=>by show(true&&jG (ps.map nQ))=true;rw[YC ps];rfl
theorem YD:∀ps:List qz,jG (ps.map nP)=true
 |[]=>rfl
 |p::ps=>by show(true&&jG (ps.map nP))=true;rw[YD ps];rfl
theorem X8:∀ps:List cC,jG (ps.map bD)=true
 |[]=>rfl
 |p::ps=>by show(true&&jG (ps.map bD))=true;rw[X8 ps];rfl
theorem YF:∀ps:List Bt,jG (ps.map yP)=true
 |[]=>rfl
 |p::ps=>by show(true&&jG (ps.map yP))=true;rw[YF ps];rfl
theorem YG:∀rs:List Ex,jG (rs.map uf)=true
 |[]=>rfl
 |r::rs=>by
  show((true&&(true&&(jG (r.2.2.map yP)&&true)))&&jG (rs.map uf))=true
  rw[YG rs,YF];rfl
theorem ahj(h:jc):pZ (gM h)=true:=by
 show(jG (h.ps.map nQ)&&(jG (h.qC.map nP)&&(jG (h.leaves.map bD)&&(jG (h.rules.map uf)&&true))))=true
 rw[YC,YD,X8,YG];rfl
theorem mR{zs:List Str}{k:Int}(h0:0≤k)(h1:k<zs.length):∃z,z∈zs∧zs[k.toNat]?=some z∧cX (zs.map cL) k=some (.str z):=by
 obtain⟨x,e1,e2⟩:=abE (xs:=zs.map cL) h0 (by rw[aX];exact h1)
 rw[gK] at e2;cases hz:zs[k.toNat]? with
 |none=>rw[hz] at e2;cases e2
 |some z=>
  rw[hz] at e2;cases e2
  exact⟨z,jB hz,rfl,e1⟩
theorem alk{α:Type}{f:α→ao}{l:List α}{i:Nat}{d:ao}(h:(l.map f)[i]?=some d):∃x,l[i]?=some x∧d=f x:=by
 rw[gK] at h;cases hx:l[i]? with
 |none=>rw[hx] at h;cases h
 |some x=>rw[hx] at h;exact⟨x,rfl,(fX h).symm⟩
def Bf(L:Nat)(C:Ce)(b k:Nat):Prop:=C.length=L∧∃x y z:Int,C[b]?=some [x,y,z]∧0≤x∧0≤y∧y≤3000000000∧0≤z∧z+k≤900000
theorem Bf.mono(h:Bf L C b k)(hj:j≤k):Bf L C b j:=by
 obtain⟨l,x,y,z,h1,h2,h3,h4,h5,h6⟩:=h
 exact⟨l,x,y,z,h1,h2,h3,h4,h5,by omega⟩
theorem Bf.dec(h:Bf L C b (k+1)):Bf L C b k:=h.mono (vO k)
theorem Bf.eq(h:Bf L C b k)(h':Bf L C' b' k'):C'.length=C.length:=h'.1.trans h.1.symm
inductive HE(b:Nat)(zs:List Str)(ps:List (Str×Str))(own:List Str)(rk:List qz)(lv:List cC)(ru:List (ao×ao)):En→Prop
 |mk (v7 v8 v9 v10 v11 bJ cF gb dJ dR dU dW:Option Vl):HE b zs ps own rk lv ru (hEn b zs ps own rk lv ru v7 v8 v9 v10 v11 bJ cF gb dJ dR dU dW)
theorem Ez(a c:Nat)(h:i<n):a+c*(n-i)=a+c*(n-(i+1))+c:=by
 rw[show n-i=(n-(i+1))+1 by omega,Nat.mul_add,Nat.mul_one,Nat.add_assoc]
theorem alm(a:Nat)(h:i<n):a+(n-i)=a+(n-(i+1))+1:=by omega
section
variable{prog:bh}{w:aZ}{A:cI}{E:Value→aC→Prop}{s:aC}
end
section
variable{prog:bh}{w:aZ}{A:cI}{E:Value→aC→Prop}{s:aC}{z TI TO i1 i2 l1 l2:aa}{f1 f2:List aa}{n:Nat}{P1 P2:Nat→Value→Prop}{S1 S2:Nat→aV→Prop}
end
section
variable{X:Cx}
def minD(d:Int):List Int→Int
 |[]=>d
 |n::ns=>ns.foldl min n
theorem ZQ(val:Nat→Int):∀k,val (jt (fun i j=>decide (val i<val j)) k)=((dZ k).map fun i=>val (i+1)).foldl min (val 0)
 |0=>rfl
 |k+1=>by
  rw[Mu,gC,aeq,←ZQ val k];rw[show jt (fun i j=>decide (val i<val j)) (k+1)=if decide (val (k+1)<val (jt (fun i j=>decide (val i<val j)) k)) then k+1 else jt (fun i j=>decide (val i<val j)) k from rfl];by_cases h:val (k+1)<val (jt (fun i j=>decide (val i<val j)) k)
  ·rw[if_pos (decide_eq_true h)];show val (k+1)=min _ (val (k+1));omega
  ·rw[if_neg (by simpa using h)];show _=min _ (val (k+1));omega
theorem ain(ns:List Int)(h:0<ns.length)(d:Int):ns.getD (jt (fun i j=>decide (ns.getD i 0<ns.getD j 0)) (ns.length-1)) 0=minD d ns:=by
 have:=ZQ (fun i=>ns.getD i 0) (ns.length-1);rw[show ns.getD (jt (fun i j=>decide (ns.getD i 0<ns.getD j 0)) (ns.length-1)) 0=_ from this];cases ns with
 |nil=>cases h
 |cons a as=>
  show _=as.foldl min a;have e:(dZ ((a::as).length-1)).map (fun i=>(a::as).getD (i+1) 0)=as:=by
   rw[dH,aef];refine xT (by simp) fun i h1 h2=>?_
   simp[h2]
  rw[e];rfl
theorem agq(hc:X.calm=true):iQ X (.builtin "min") (fun xs H Q=>∃(p:aa)(ns:List Int),xs=[.ref p]∧bL X.K H p (ns.map V.int)∧ns≠[]∧Q (.int (minD 0 ns)) H):=by
 intro pins s σ H xs us Q I r h
 obtain⟨p,ns,rfl,hq,hne,q⟩:=h
 obtain⟨u,rfl,rx⟩:=vals1 r
 cases rx
 obtain⟨its,r',pl,hz⟩:=I.list hq
 have hi:IntsAre its ns:=intsAre_of r';have ln:its.length=ns.length:=hi.length;have pos:0<ns.length:=G3.mpr hne;have hl:=pl.isList;have Gu:p<s.heap.objs.size:=by obtain⟨o,ho,_⟩:=hl;exact bZ ho
 have val:∀(i:Nat)(v:Value),its.toArray[i]?=some v→∃t,v=CZ (ns.getD i 0) t:=fun i v hv=>IntsAre.int_at hi i v (by simpa using hv)
 have hh:=I.ok.hd hc;refine call_min_walk (LC hl ?_)
 refine⟨_,_,_,_,_,_,_,rfl,XM (prog:=X.prog) (w:=X.w) (A:=X.A.in1) (by simp[hh]) s.heap.objs.size p (dY Gu) its.toArray,⟨⟨_,iI _ rfl,rfl,rfl⟩,hl.push _⟩,fun b hb=>?_,by rw[fJ,ln];exact pos,CmpOf.ints_lt (fun i=>ns.getD i 0) val,fun v h' tk hP hk=>?_⟩
 ·rw[vJ];simp only[bI,jg,or_false] at hb;rcases hb with rfl|rfl
  ·exact Ml _
  ·exact vG Gu
 ·rw[fJ,ln] at hP
  obtain⟨t,e⟩:=val _ v hP
  rw[ain ns pos 0] at e;subst e
  refine⟨.int _,H,I.kept (t':=tk) fun b o e=>hk b o ?_ (cM _ e),⟨_,rfl⟩,q⟩
  simp only[bI,jg,or_false];exact dY (bZ e)
def Ej:List ao→Option Vl
 |[.list ds]=>match intsOf ds with
  |some (n::ns)=>some (.im (.int (minD 0 (n::ns))))
  |_=>none
 |_=>none
theorem ajO{K:aG}:n6 K (fun xs H Q=>∃(p:aa)(ns:List Int),xs=[.ref p]∧bL K H p (ns.map V.int)∧ns≠[]∧Q (.int (minD 0 ns)) H) Ej:=by
 intro Z Θ env C σ H xs ds res S b e Q q;unfold Ej at e;split at e
 case h_2=>cases e
 rename_i ds;split at e
 case h_2=>cases e
 rename_i n ns hns;cases e
 obtain⟨v,rfl,bb⟩:=oO b
 obtain⟨a,vs,rfl,ha,r⟩:=bb.lst
 rw[Jm hns r] at ha
 exact⟨a,_,rfl,bL.of ha,(fun z=>nomatch z),q _ H (aQ.refl _ _) (iK S rfl rfl)⟩
end
def wR(fk:FB)(fv:FE):FE:=fun env C=>match fk env C with
 |some (dk,e1,C1)=>match fv e1 C1 with
  |some (r,e2,C2)=>match di dk with
   |some _=>match still r with
    |.im d=>some (.ow (.dict [(dk,d)]),e2,C2)
    |_=>none
   |none=>none
  |none=>none
 |none=>none
theorem ZR(hk:PE X k (dF X.K fk))(hv:PE X v (tE X.K fv)):PE X (.Dict [some k] [v] pos) (tE X.K (wR fk fv)):=
 (ajc (ahP hk hv ajb) rfl rfl (fun z=>nomatch z) (zA rfl)).weak fun σ H Q aL=>by
 obtain⟨Z,Θ,env,C,r,env',C',S,hf,q⟩:=aL
 unfold wR at hf;split at hf
 case h_2=>cases hf
 rename_i dk e1 C1 h1;split at hf
 case h_2=>cases hf
 rename_i rv e2 C2 h2;split at hf
 case h_2=>cases hf
 rename_i kk hkk;split at hf
 case h_2=>cases hf
 rename_i d hs;cases hf;intro p hp
 refine⟨p::Z,Θ,env,C,dk,e1,C1,S.push hp _ (fun _ z=>nomatch z),h1,fun x H1 k1 f1 S1 bx=>?_⟩
 refine⟨p::Z,Θ,e1,C1,rv,env',C',S1,h2,fun y H2 k2 f2 r2=>?_⟩
 have R:=r2.still;rw[hs] at R
 obtain⟨S2,rz⟩:=R
 have ex:x=kV kk:=by
  cases dk<;>first|(cases hkk;exact bx)|cases hkk
 have rT:aQ Θ H H2:=((aQ.upd hp).trans k1).trans k2;have np:p∉Θ:=fun m=>by
  have:=(jH.mp S2.nd).1;exact this (dX _ (gJ _ m))
 have e2p:H2 p=some (.dK []):=(k1.trans k2).keep _ _ eU np
 refine⟨e2p,[(kk,y)],by rw[ex];rfl,zA rfl,?_⟩
 have kf:aQ Θ H (upd H2 p (.dK [(kk,y)])):=⟨fun a o ha na=>by
  rw[cR (qb ha hp)];exact rT.keep _ _ ha na,fun a ha=>by
  by_cases z:a=p
  ·exact absurd (z▸hp) ha
  ·rw[cR z];exact rT.2 a ha⟩
 have c2:oJ Θ C' (upd H2 p (.dK [(kk,y)])):=⟨S2.cell.len,fun n b ns h3 h4=>by
  have:=S2.cell.at_ n b ns h3 h4;rw[cR (show b≠p from fun z=>np (by rw[←z];exact jB h3))];exact this⟩
 refine q _ _ kf (f1.trans f2) ⟨p,rfl,hp,(S.fz (f1.trans f2)).yO hp kf ⟨_,eU,fun _ z=>nomatch z⟩ c2,[y],.inl ⟨[kk],?_,eU⟩,y,[],rfl,?_,rfl⟩
 ·unfold cO;rw[hkk];rfl
 ·refine rz.same fun a u e=>?_
  unfold er at e⊢;split at e
  ·cases e
  ·rename_i n;rw[if_neg n,cR (show a≠p from fun z=>n (by rw[z];exact dm))];exact e
def Kv(i:Nat)(f:FB):FS:=fun env C=>if lQ env[i]? then match f env C with
  |some (.list ys,e1,C1)=>match e1[i]? with
   |some (some (.ow (.list ds)))=>if ds.length+ys.length≤LIM then some (.nx,e1.set i (some (.ow (.list (ds++ys)))),C1) else none
   |_=>none
  |_=>none
 else none
theorem aln(ho:PE X o (pR i))(he:PE X e (dF X.K f))
  (hs0:tK (.Call (.Attribute o "extend" apos) [e] [] cpos) none pos.line X.env=pure false:=by rfl)
  (hbase:uC o "extend" X.env (eval o X.env)=eval o X.env:=by rfl)
  (hfew:((fG cpos (aW [e] X.env)).all (fun x=>!x.1)&&(yo cpos (yf [] X.env)).all (fun x=>x.1.isSome)
   &&decide (([e]:List Expr).length+([]:List mV).length+(if([]:List mV).isEmpty then 0 else 1)<30))=true:=by rfl)
  (hline:(apos.endLine==cpos.line)=true:=by rfl)(hs:aW [e] X.env=(false,eval e X.env)::aW [] X.env:=by rfl)(hplain:(fG cpos (aW [] X.env)).any (·.1)=false:=by rfl):
  PS X (.Expr (.Call (.Attribute o "extend" apos) [e] [] cpos) pos) (tS X.K (Kv i f)):=
 (QL (Es Ln aed PySem.F.type_list_extend (rR.r agO) ho (mU he pH hs) hbase hfew hline hs hplain) hs0).weak fun D σ H aL=>by
  obtain⟨Z,Θ,env,C,fl,env',C',S,hf,q⟩:=aL
  unfold Kv at hf;split at hf
  ·rename_i h0
   obtain⟨ds0,h0⟩:=Zt h0
   obtain⟨v0,qN,a,rfl,BV,ha0,r0⟩:=S.slot i _ h0
   split at hf
   ·rename_i ys e1 C1 h1;split at hf
    ·rename_i ds hi;split at hf
     ·rename_i hl;cases hf
      refine⟨_,qN,.inl ⟨rfl,BV,bL.of ha0⟩,Z,Θ,env,C,.list ys,e1,C',S,h1,fun v H1 k f S1 bo=>?_⟩
      obtain⟨b,ws,rfl,hb,r1⟩:=bo
      obtain⟨v1,ev1,a1,Uy,vs,ha1,r2⟩:=S1.slot i _ hi
      subst Uy;rw[qN] at ev1;cases ev1
      refine⟨a,b,vs,ws,rfl,rfl,ha1,jb hb,by rw[iM r2,iM r1,jq];unfold LIM at hl;omega,?_⟩
      have w:dI X.K Z Θ e1 σ H1 Θ (e1.set i (some (.ow (.list (ds++ys))))) C' σ (upd H1 a (.lst (vs++ws))):=S1.write hi qN ⟨_,eU,yu r2 r1⟩;exact q Θ σ _ ((dI.qM k f S1).trans w)
     ·cases hf
    ·cases hf
   ·cases hf
  ·cases hf
section
variable{prog:bh}{w:aZ}{A:cI}{E:Value→aC→Prop}{s:aC}{R:rB→aC→Prop}{I S:aa}{fp wr:List aa}{n:Nat}{Pv:Nat→Value→Prop}{St:Nat→aV→Prop}{bt:Nat→Nat→Bool}{HK:aV→Prop}
theorem ajP(W:Walks prog w A.in1 I fp wr n Pv St)(cmp:∀(i j:Nat)(vi vj:Value)(s:aC)(Q:Value→aC→Prop)(E:Value→aC→Prop),HK s.heap→Pv i vi→Pv j vj→Q (.bool (bt i j)) s→aN (model prog w) A.in1 (Ie .Lt vi vj) Q E s)
  (hk:∀h h',HK h→(∀b o,b∉wr→b≠S→h.get? b=some o→h'.get? b=some o)→HK h')(out:S∉fp):∀(m j:Nat)(s:aC)(vb:Value)(c:Nat),n-(j+1)=m→j+1≤n→St (j+1) s.heap→HK s.heap→Pv (jt bt j) vb→s.heap.get? S=some (al1 vb c)→
  (∀v h' tk,Pv (jt bt (n-1)) v→(∀b o,b∉wr→b≠S→s.heap.get? b=some o→h'.get? b=some o)→R (.ok (.ret v)) {s with heap:=h',toks:=tk})→j9 (model prog w) A (.builtin "min.loop" ⟨[.ref I,.none,.ref S],[]⟩) R s:=by
 have Kw:S∉wr:=fun z=>out (W.sub _ z)
 have nm:(toString "min"++toString ".loop":String)="min.loop":=by decide
 intro m;induction m with
 |zero=>
  intro j s vb c hm hj st kp pb hS hR;have last:j+1=n:=by omega
  refine zQ Vu ?_;rw[zB zx _];show aN _ A.in1 (seqItems? (.ref S) >>= _) _ _ s;refine aJ (Ho hS rfl ?_);show aN _ A.in1 (tryCatch (pF (.ref I)) _ >>= _) _ _ s;refine aJ (MN (W.done s _ _ (last▸st) fun h' tk kk=>?_));have g:=kk S _ Kw hS;show aN _ A.in1 (Pk S (fun _=>#[]) >>= _) _ _ _;refine aJ (Hh g rfl (aJ (Oa (aY ?_))));exact hR vb _ tk (by rw[←last];exact pb) fun b o hb hbS e=>(sH _ _ (jX hbS)).trans (kk b o hb e)
 |succ m ih=>
  intro j s vb c hm hj st kp pb hS hR;have lt:j+1<n:=by omega
  refine zQ Vu ?_;rw[zB zx _];show aN _ A.in1 (seqItems? (.ref S) >>= _) _ _ s;refine aJ (Ho hS rfl ?_);show aN _ A.in1 (tryCatch (pF (.ref I)) _ >>= _) _ _ s;refine aJ (MN (W.item (j+1) s _ _ lt st fun v h' tk pv st' kk=>?_));have g:=kk S _ Kw hS;have Gv:HK h':=hk _ _ kp fun b o hb _ e=>kk b o hb e
  show aN _ A.in1 (tryCatch (qg [v,v] (Ie .Lt v vb >>= _)) _ >>= _) _ _ _;refine aJ (MN (nA (aJ (cmp (j+1) (jt bt j) v vb _ _ _ Gv pv pb ?_))));refine aJ (nA (vD (aJ (Oa (aY ?_)))));cases hb:bt (j+1) (jt bt j) with
  |true=>
   simp only[if_true];refine aJ (Hh g rfl (aJ (Oa ?_)));rw[nm];refine aY ⟨yc zx _,ih (j+1) _ v _ (by omega) lt (W.frame _ _ _ st' fun b hbf o e=>(sH _ _ fun z:S=b=>out (z▸hbf)).trans e) (hk _ _ Gv fun b o _ hbS e=>(sH _ _ (jX hbS)).trans e) (by simp only[jt,hb,if_true];exact pv) (zy _ g rfl) fun v' h2 tk2 Gw rT=>?_⟩;exact hR v' h2 tk2 Gw fun b o hb' hbS e=>rT b o hb' hbS ((sH _ _ (jX hbS)).trans (kk b o hb' e))
  |false=>
   simp only[qO,if_false];refine aJ (Oa ?_);rw[nm];refine aY ⟨yc zx _,ih (j+1) _ vb c (by omega) lt st' Gv (by simp only[jt,hb,qO,if_false];exact pb) g fun v' h2 tk2 Gw rT=>?_⟩;exact hR v' h2 tk2 Gw fun b o hb' hbS e=>rT b o hb' hbS (kk b o hb' e)
theorem ajQ(W:Walks prog w A.in1 I fp wr n Pv St)(cmp:∀(i j:Nat)(vi vj:Value)(s:aC)(Q:Value→aC→Prop)(E:Value→aC→Prop),HK s.heap→Pv i vi→Pv j vj→Q (.bool (bt i j)) s→aN (model prog w) A.in1 (Ie .Lt vi vj) Q E s)
  (hk:∀h h',HK h→(∀b o,b∉wr→b≠S→h.get? b=some o→h'.get? b=some o)→HK h')(out:S∉fp)(pos:0<n)(st:St 0 s.heap)(kp:HK s.heap)(hS:s.heap.get? S=some {cls:=.type "list",dict:=none,data:=.seq #[] c,slots:=#[]})
  (hR:∀v h' tk,Pv (jt bt (n-1)) v→(∀b o,b∉wr→b≠S→s.heap.get? b=some o→h'.get? b=some o)→R (.ok (.ret v)) {s with heap:=h',toks:=tk}):j9 (model prog w) A (.builtin "min.loop" ⟨[.ref I,.none,.ref S],[]⟩) R s:=by
 have Kw:S∉wr:=fun z=>out (W.sub _ z)
 have nm:(toString "min"++toString ".loop":String)="min.loop":=by decide
 refine zQ Vu ?_;rw[zB zx _];show aN _ A.in1 (seqItems? (.ref S) >>= _) _ _ s;refine aJ (Ho hS rfl ?_);show aN _ A.in1 (tryCatch (pF (.ref I)) _ >>= _) _ _ s;refine aJ (MN (W.item 0 s _ _ pos st fun v h' tk pv st' kk=>?_));have g:=kk S _ Kw hS;have Gv:HK h':=hk _ _ kp fun b o hb _ e=>kk b o hb e
 show aN _ A.in1 (Pk S (fun _=>#[v,v]) >>= _) _ _ _;refine aJ (Hh g rfl ?_);rw[nm];refine aY ⟨yc zx _,ajP W cmp hk out _ 0 _ v _ rfl pos (W.frame _ _ _ st' fun b hbf o e=>(sH _ _ fun z:S=b=>out (z▸hbf)).trans e) (hk _ _ Gv fun b o _ hbS e=>(sH _ _ (jX hbS)).trans e) pv (zy _ g rfl) fun v' h2 tk2 Gw rT=>?_⟩;exact hR v' h2 tk2 Gw fun b o hb' hbS e=>rT b o hb' hbS ((sH _ _ (jX hbS)).trans (kk b o hb' e))
theorem ajR(hh:A.handled=none)(hl:s.heap.IsList l items)(pos:0<items.size)
  (cmp:∀(i j:Nat)(vi vj:Value)(s':aC)(Q:Value→aC→Prop)(E:Value→aC→Prop),(∀b o,s.heap.get? b=some o→s'.heap.get? b=some o)→items[i]?=some vi→items[j]?=some vj→Q (.bool (bt i j)) s'→aN (model prog w) A.in1 (Ie .Lt vi vj) Q E s')
  (h:∀(v:Value)(h':aV)(tk:Nat),items[jt bt (items.size-1)]?=some v→(∀b o,s.heap.get? b=some o→h'.get? b=some o)→Q v {s with heap:=h',toks:=tk}):aN (model prog w) A (call (.builtin "min") [.ref l]) Q E s:=by
 have nm:(toString "min"++toString ".loop":String)="min.loop":=by decide
 have Gu:l<s.heap.objs.size:=by obtain⟨o,ho,_⟩:=hl;exact bZ ho
 refine aft PySem.F.kind_min PySem.F.plain_min PySem.F.entry_min (PySem.F.args_min1 _) ?_;show aN _ A.in1 (adw "min" ["key","default"] 0 ⟨[],[]⟩ >>= _) _ _ s;refine aJ (wpAny_of_eq (show adw "min" ["key","default"] 0 ⟨[],[]⟩=pure [none,none] from rfl) ?_);refine aJ (aY ?_);refine aJ (LC hl (aJ (nq ?_)));rw[nm];have xH:(s.heap.push {cls:=.type "list_iterator",data:=.fields #[.ref l,.int 0 0]}).objs.size=s.heap.objs.size+1:=vJ ..;have W:=XM (prog:=prog) (w:=w) (A:=A.in1) (by simp[hh]) s.heap.objs.size l (dY Gu) items;refine aY ⟨yc zx _,?_⟩;show j9 (model prog w) A (.builtin "min.loop" ⟨[.ref s.heap.objs.size,.none,.ref (s.heap.push {cls:=.type "list_iterator",data:=.fields #[.ref l,.int 0 0]}).objs.size],[]⟩) _ {s with heap:=(s.heap.push {cls:=.type "list_iterator",data:=.fields #[.ref l,.int 0 0]}).push {cls:=.type "list",data:=.seq #[]}};have ol:∀b o,s.heap.get? b=some o→b∉[s.heap.objs.size]:=fun b o e=>by
  simp only[bI,jg,or_false];exact dY (bZ e)
 have ol2:∀b o,s.heap.get? b=some o→b≠(s.heap.push {cls:=.type "list_iterator",data:=.fields #[.ref l,.int 0 0]}).objs.size:=fun b o e=>by
  rw[xH];exact dY (vG (bZ e))
 refine ajQ (HK:=fun h=>∀b o,s.heap.get? b=some o→h.get? b=some o) W cmp (fun h h' k kk b o e=>kk b o (ol b o e) (ol2 b o e) (k b o e)) ?_ pos ⟨⟨_,cM _ (iI _ rfl),rfl,rfl⟩,(hl.push _).push _⟩ (fun b o e=>cM _ (cM _ e)) (iI _ rfl) fun v h' tk hv kk=>?_
 ·rw[xH];simp only[bI,jg,or_false,not_or]
  exact⟨z9 (Ml _),z9 (vG Gu)⟩
 ·exact h v h' tk hv fun b o e=>kk b o (ol b o e) (ol2 b o e) (cM _ (cM _ e))
end
section
variable{X:Cx}
theorem afd(hc:X.calm=true)(hu:X.A.units+1<fP):iQ X (.builtin "min") (fun xs H Q=>∃(p:aa)(rows:List Row)(sh:List Bool),xs=[.ref p]∧bL X.K H p (rows.map fun r=>V.ref r.1)∧0<rows.length∧(∀r∈rows,H r.1=some (.tup (r.2.map kV))∧r.2.map cB=sh)∧
  ∀r,rows[jt (lN rows) (rows.length-1)]?=some r→Q (.ref r.1) H):=by
 intro pins s σ H xs us Q I r h
 obtain⟨p,rows,sh,rfl,hp,pos,ha,q⟩:=h
 obtain⟨u,rfl,ru⟩:=vals1 r
 cases ru
 obtain⟨its,r',pl,hz⟩:=I.list hp
 have ei:its=rows.map fun r=>eO r.1:=by
  clear pos ha q pl hz hp;induction rows generalizing its with
  |nil=>cases r';rfl
  |cons a rows ih=>
   cases r' with
   |cons h t=>
    cases h;rw[ih _ t];rfl
 subst ei;have tu:∀r∈rows,TupAt s.heap r∧r.2.map cB=sh:=fun r hr=>by
  obtain⟨_,its,v,t⟩:=(show fB X.prog X.w H s.heap r.1 (.tup (r.2.map kV)) from I.hok r.1 _ (ha r hr).1)
  exact⟨⟨its,v,t⟩,(ha r hr).2⟩
 refine ajR (bt:=lN rows) (I.ok.hd hc) pl.isList (by simpa using pos) (fun i j vi vj s' Q E k hi hj q=>?_) fun v h' tk hv k=>?_
 ·have hi':(rows.map fun r=>eO r.1)[i]?=some vi:=by simpa using hi
  have hj':(rows.map fun r=>eO r.1)[j]?=some vj:=by simpa using hj
  rw[gK] at hi' hj';cases ri:rows[i]? with
  |none=>rw[ri] at hi';cases hi'
  |some a=>
   cases rj:rows[j]? with
   |none=>rw[rj] at hj';cases hj'
   |some b=>
    rw[ri] at hi';rw[rj] at hj';cases hi';cases hj'
    obtain⟨⟨its,v,t⟩,sa⟩:=tu a (jB ri)
    obtain⟨⟨its2,v2,t2⟩,sb⟩:=tu b (jB rj)
    have ta:=(TupAt.keep (r:=a) ⟨its,v,t⟩ k)
    have tb:=(TupAt.keep (r:=b) ⟨its2,v2,t2⟩ k)
    obtain⟨its,v,t⟩:=ta
    obtain⟨its2,v2,t2⟩:=tb
    refine XN t t2 (by simpa using v) (by simpa using v2) (sa.trans sb.symm) hu ?_;have e:lN rows i j=iU a.2 b.2:=by
     unfold lN uN;simp[ri,rj]
    rw[←e];exact q
 ·have hv':(rows.map fun r=>eO r.1)[jt (lN rows) (rows.length-1)]?=some v:=by simpa using hv
  rw[gK] at hv';cases rv:rows[jt (lN rows) (rows.length-1)]? with
  |none=>rw[rv] at hv';cases hv'
  |some a=>
   rw[rv] at hv';cases hv'
   exact⟨.ref a.1,H,I.kept (t':=tk) k,rfl,q a rv⟩
end
def U3(K:aG)(a:aa):It:=⟨fun i H=>∃xs,bL K H a xs∧i<xs.length,
 fun i H v H'=>∃p x,H p=none∧v=.ref p∧H'=upd H p (.tup [.int i,x])∧∀xs,bL K H a xs→xs[i]?=some x,
 fun i H=>∃xs,bL K H a xs∧i=xs.length⟩
theorem ahk{P:bh}{w:aZ}{K:aG}{es:List Expr}{k:Nat}{ps:Pos}{a z j:aa}(hzj:z≠j):
  Turn P w K (.Tuple es k ps) (U3 K a) [z,j] z (fun i h=>(∃old,IsEnum h z j i old)∧h.IsListIter j a i) where
 mem:=by simp
 obj:=fun i h st c hc=>by
  obtain⟨⟨_,h1⟩,⟨o4,e4,_,d4⟩⟩:=st
  simp only[bI,jg,or_false] at hc;rcases hc with rfl|rfl
  ·exact⟨_,h1,fun v q=>by cases q⟩
  ·exact⟨_,e4,fun v q=>by rw[d4] at q;cases q⟩
 keep:=fun i h h' st kk=>by
  obtain⟨⟨old,h1⟩,⟨o4,e4,r4⟩⟩:=st
  exact⟨⟨old,kk z (by simp) _ h1⟩,⟨o4,kk j (by simp) _ e4,r4⟩⟩
 item:=by
  intro X hP hw hK hc i pins s σ H E I hf st hg;subst hP hw hK
  obtain⟨xs,ha,hi⟩:=hg
  obtain⟨its,r1,p1,_⟩:=I.list ha
  obtain⟨⟨old,s1⟩,s2⟩:=st
  have ex:xs[i]?=some (xs.getD i .non):=by simp[qX,hi]
  obtain⟨u,hu,q1⟩:=r1.get ex
  have hx:its.toArray[i]?=some u:=by simpa using hu
  refine wpAny_pyNext_enum_item s1 s2 p1.isList hx hzj fun h' a1 a2 a3 a4 kk=>⟨_,rfl,wpAny_letOwnedTupleGo_enum a1 fun h2 z2 m2=>?_⟩
  have ltz:z<s.heap.objs.size:=bZ s1;have Gh:H s.heap.objs.size=none:=I.hok.fresh (bN _);have kT:h2.get? s.heap.objs.size=some {cls:=.type "tuple",data:=.seq #[.int i s.toks,u]}:=m2.extBut _ _ (z9 ltz) a3
  refine⟨.ref s.heap.objs.size,upd H s.heap.objs.size (.tup [.int i,xs.getD i .non]),Inv.Dq (s:=s) (h':=h2) (t':=s.toks+1) (ch:=[z,j]) I (fun c o hc e=>?_) hf (bw.upd Gh) (fun c o e n=>?_) (fun c v e=>?_),rfl,⟨_,_,Gh,rfl,rfl,fun xs' h1=>?_⟩,⟨⟨_,z2⟩,a2.extBut m2.extBut (jX hzj)⟩,fun c hc=>?_⟩
  ·simp only[bI,jg,or_false,not_or] at hc;exact m2.extBut _ _ hc.1 (kk c o hc.1 hc.2 e)
  ·rw[cR (dY (bZ e))];exact n
  ·by_cases Gi:c=s.heap.objs.size
   ·subst Gi;rw[eU] at e;cases e;exact .inr ⟨by show 2≤bR;decide,[.int i s.toks,u],.cons ⟨_,rfl⟩ (.cons q1 .nil),_,kT,rfl,_,rfl⟩
   ·rw[cR Gi] at e;exact .inl e
  ·rw[I.Jc h1 ha];exact ex
  ·rw[cR]
   ·exact(hf c hc).1
   ·simp only[bI,jg,or_false] at hc
    obtain⟨o4,e4,_⟩:=s2
    rcases hc with rfl|rfl
    ·exact dY ltz
    ·exact dY (bZ e4)
 done:=by
  intro X hP hw hK hc i pins s σ H E I hf st hg;subst hP hw hK
  obtain⟨xs,ha,hi⟩:=hg
  obtain⟨its,r1,p1,_⟩:=I.list ha
  obtain⟨⟨old,s1⟩,s2⟩:=st
  have l1:=r1.length;refine wpAny_pyNext_enum_end (I.ok.hd hc) s1 s2 p1.isList (by simp;omega) fun h' kk=>⟨rfl,I.Dq (t':=s.toks) (ch:=[z,j]) (fun c o hc e=>?_) hf (bw.refl H) (fun _ _ _ n=>n) fun _ _ e=>.inl e⟩
  simp only[bI,jg,or_false,not_or] at hc;exact kk _ _ hc.2 e
 self:=fun _ _ _ _ _ st h=>by
  obtain⟨⟨_,h1⟩,_⟩:=st
  exact aev h1 h
def amJ(K:aG)(t:TA):TI:=fun σ H R=>t σ H fun vs H1=>∃a xs,vs=[.ref a]∧bL K H1 a xs∧R (U3 K a) H1
theorem alo{X:Cx}{es:List Expr}{k:Nat}{ps:Pos}{x:Expr}{t:TA}{p pos:Pos}(hg:Gl X "enumerate")(hm:X.mg "enumerate"=none)(ha:PA X [x] t)(hs:aW [x] X.env=[(false,eval x X.env)]:=by rfl)(hs2:aW ([]:List Expr) X.env=[]:=by rfl):
  PI X (.Tuple es k ps) (.Call (.Name "enumerate" p) [x] [] pos) (amJ X.K t):=by
 intro pins s σ H R I h;refine Call_ (tQ I hg hm aoa (GJ (bu (ha pos pins s σ H _ I h) fun us s1 aL=>?_) (by rw[hs,hs2]) (by rw[hs2];rfl)))
 obtain⟨vs,H1,I1,r1,a,xs,e,h1,q⟩:=aL
 subst e
 obtain⟨u,rfl,r⟩:=vals1 r1
 cases r
 obtain⟨its,v1,p1,_⟩:=I1.list h1
 refine call_enumerate_list p1.isList fun h' g1 g2 _ kk=>aev g1 ?_
 have I2:Inv X pins σ H1 {s1 with heap:=h'}:=I1.kept (t':=s1.toks) kk
 refine⟨s1.heap.objs.size+1,[s1.heap.objs.size+1,s1.heap.objs.size],_,_,H1,rfl,I2,ahk (Nat.succ_ne_self _),⟨⟨_,g1⟩,g2⟩,fun c hc=>?_,q⟩
 refine I1.uX ?_ (I1.hok.fresh ?_)
 all_goals
  simp only[bI,jg,or_false] at hc;rcases hc with rfl|rfl<;>omega
def yQ(ds:List ao):List ao:=ds.zipIdx.map fun p=>.tuple [.int (p.2:Nat),p.1]
theorem ZS{ds:List ao}{i:Nat}{d:ao}(h:(yQ ds)[i]?=some d):∃x,ds[i]?=some x∧d=.tuple [.int i,x]:=by
 unfold yQ at h;rw[gK,List.getElem?_zipIdx] at h;cases hx:ds[i]? with
 |none=>rw[hx] at h;cases h
 |some x=>
  rw[hx] at h
  refine⟨x,rfl,?_⟩
  have:=fX h;rw[←this,HN]
theorem YH(ds:List ao):(yQ ds).length=ds.length:=by
 unfold yQ;rw[aX,List.length_zipIdx]
theorem ajS{K:aG}{P:List aa}{H:Hp}{a:aa}{ds:List ao}{vs:List V}(ha:er P H a=some (.lst vs))(r:cD (er P H) ds vs):wY P P H (U3 K a) (yQ ds):=fun i H2 P2 s1 s2 n=>by
 have h2:bL K H2 a vs:=bL.of (jb (s1 _ _ ha));have l1:=iM r
 refine⟨fun d hd=>?_,fun hi=>⟨vs,h2,by rw[hi,YH];exact l1.symm⟩⟩
 obtain⟨x,e1,rfl⟩:=ZS hd
 obtain⟨v,ev,rv⟩:=uJ r e1
 refine⟨⟨vs,h2,(gZ.mp ev).1⟩,fun y H3 yl=>?_⟩
 obtain⟨p,v',hp,rfl,rfl,hh⟩:=yl
 have g1:=hh vs h2;rw[ev] at g1;cases g1;have sp:bw H2 (upd H2 p (.tup [.int i,v])):=bw.upd hp
 refine⟨sp,p,[.int i,v],rfl,?_,.int i,[v],rfl,rfl,v,[],rfl,rv.same (s1.trans (Q3 sp)),rfl⟩
 unfold er;rw[if_neg (fun m=>n p m hp),eU]
def K7(f:FE):FI:=fun env C=>match f env C with
 |some (r,e1,C1)=>match still r with
  |.im (.list ds)=>some (yQ ds,e1,C1)
  |_=>none
 |none=>none
theorem ajT(hg:Gl X "enumerate")(hm:X.mg "enumerate"=none)(ha:PE X x (tE X.K f))(hs:aW [x] X.env=(false,eval x X.env)::aW [] X.env:=by rfl)(hs1:aW [x] X.env=[(false,eval x X.env)]:=by rfl)(hs2:aW ([]:List Expr) X.env=[]:=by rfl):
  PI X (.Tuple es k ps) (.Call (.Name "enumerate" p) [x] [] pos) (tI X.K false (K7 f)):=(alo hg hm (mU ha pH hs) hs1 hs2).weak fun σ H R aL=>by
 obtain⟨Z,Θ,env,C,its,env',C',S,hf,q⟩:=aL
 unfold K7 at hf;split at hf
 case h_2=>cases hf
 rename_i r e1 C1 h1;split at hf
 case h_2=>cases hf
 rename_i ds hd;cases hf
 refine⟨Z,Θ,env,C,_,env',C',S,h1,fun v H1 k f R=>?_⟩
 obtain⟨S1,a,vs,rfl,ha,r⟩:=R.ud hd
 exact⟨a,vs,rfl,bL.of (jb ha),q _ H1 k f S1 (ajS ha r)⟩
theorem YJ(h:(jh P w).is k u=true):RelV (kV k) u:=by
 rcases qT h with⟨i,t,rfl,rfl⟩|⟨x,t,rfl,rfl⟩<;>exact⟨t,rfl⟩
section
variable{prog:bh}{w:aZ}{A:cI}{E:Value→aC→Prop}{s:aC}{r d:aa}{kvs:List (Key×Value)}{ep:Nat}{b c:Bool}{Q:Value→aC→Prop}
def lR(as:List aa)(cG:List (Key×Key)):List Row:=as.zipWith (fun a p=>(a,[p.1,p.2])) cG
theorem aeK(hh:A.handled=none)(hv:s.heap.IsItemsView r d)(hm:s.heap.DictAt (jh prog w) d kvs ep)(h64:cG.length<64)(hne:0<cG.length)(hk:kvs.map (·.1)=cG.map (·.1))(hx:Vals (cG.map fun p=>kV p.2) (kvs.map (·.2)))(hty:∀p∈cG,cB p.1=b∧cB p.2=c)
  (h:∀(as:List aa)(p:List Nat)(D:aa)(h':aV)(n tk:Nat),as.length=cG.length→as.Pairwise (·<·)→(∀a∈as,s.heap.objs.size≤a∧a≠D)→(∀r∈lR as cG,TupAt h' r)→p.Perm (dZ (lR as cG).length)→p=um ((lR as cG).map (·.2))→s.heap.objs.size≤D→(∀b o,s.heap.get? b=some o→h'.get? b=some o)→
   h'.get? D=some (seqObj "list" ((p.map fun i=>(lR as cG).getD i (0,[])).map fun r=>eO r.1).toArray n)→Q (.ref D) {s with heap:=h',toks:=tk}):
  aN (model prog w) A (call (.builtin "sorted") [.ref r]) Q E s:=by
 have hlk:kvs.length=cG.length:=by have:=congrArg qU hk;simpa using this
 refine Vk kind_sorted plain_sorted entry_sorted (args_sorted1 _) ?_;unfold nF.«sorted»;refine aJ (m:=XX "sorted" 1 1 _) (aY (aJ (kdx_collect (A:=A.in1) (by simp[hh]) hv hm (by rw[jq];omega) fun h1 tk as kk hlen G=>?_)));have hla:as.length=cG.length:=by omega
 have hlr:(lR as cG).length=cG.length:=by unfold lR;rw[List.length_zipWith];omega
 have tu:∀r∈lR as cG,TupAt h1 r∧r.2.map cB=b::[c]:=fun r hr=>by
  obtain⟨j,hj,rfl⟩:=sI hr
  rw[hlr] at hj;have ea:as[j]?=some as[j]:=gQ (by omega);have ek:cG[j]?=some cG[j]:=gQ hj
  obtain⟨key,k,x,e1,e2,e3⟩:=G.pairs j _ ea
  have er:(lR as cG)[j]'(by omega)=(as[j],[cG[j].1,cG[j].2]):=by simp[lR]
  rw[er];have kk1:k=cG[j].1:=by
   have:=congrArg (·[j]?) hk;simp only[gK,e1,ek,mL] at this;exact fX this
  have kx:RelV (kV cG[j].2) x:=by
   have q1:(cG.map fun p=>kV p.2)[j]?=some (kV cG[j].2):=by rw[gK,ek];rfl
   obtain⟨u,g1,g2⟩:=hx.get q1
   rw[gK,e1] at g1;cases g1;exact g2
  refine⟨⟨[key,x],.cons (kk1▸YJ e2) (.cons kx .nil),_,e3,rfl,_,rfl⟩,?_⟩
  have:=hty cG[j] (xR hj)
  show[cB cG[j].1,cB cG[j].2]=_
  rw[this.1,this.2]
 have eu:as.map eO=(lR as cG).map fun r=>eO r.1:=by
  refine xT (by rw[aX,aX];omega) fun i h1 h2=>?_
  rw[aeL,aeL];simp[lR]
 rw[eu];have hsz:s.heap.objs.size≤h1.objs.size:=by
  have m:as[0]'(by omega)∈as:=xR _;exact vM (HJ (G.above _ m) (G.there m))
 generalize hR:lR as cG=rows at *;refine aJ (Nf ?_ (by rw[aX,jq];omega));have hoL:(h1.push (seqObj "list" (rows.map fun r=>eO r.1).toArray 0)).get? h1.objs.size=some (seqObj "list" (rows.map fun r=>eO r.1).toArray 0):=iI _ rfl;have up:∀s':aC,Kp h1.objs.size (h1.push (seqObj "list" (rows.map fun r=>eO r.1).toArray 0)) s'.heap→∀b o,h1.get? b=some o→s'.heap.get? b=some o:=fun s' k b o e=>k b o (dY (bZ e)) (cM _ e)
 refine aJ (nA (qP slot_list_sort ⟨_,hoL,rfl⟩ entry_list_sort (aga (κ:=tuples' true) (lt:=lN rows) (Rl:=fun p=>p=um (rows.map (·.2))) (vs:=rows.map fun r=>eO r.1) (s:={s with heap:=h1.push (seqObj "list" (rows.map fun r=>eO r.1).toArray 0),toks:=tk}) hoL (by rw[aX];omega) (fun h2=>ag3 (by rw[aX]) h2) (fun h2=>agc (by rw[aX]) h2)
  (fun h2 s' k Q' q'=>agY (fun r hr=>⟨(tu r hr).1.keep (up s' k),(tu r hr).2⟩) (by rw[aX] at h2;omega) Q' q') (fun h2 s' k i j hi hj C q'=>ah0 (sh:=b::[c]) (fun r hr=>⟨(tu r hr).1.keep (up s' k),(tu r hr).2⟩) (by simpa using hi) (by simpa using hj) C q') fun p h' n hp hrl k e=>⟨_,rfl,?_⟩) (args_list_sort _)))
 rw[aX] at hp;rw[ag0 hp] at e;have kh:=up {s with heap:=h'} k;subst hR;exact aY ⟨_,rfl,h as p h1.objs.size h' n tk hla G.rise (fun a ha=>⟨vM (G.above a ha),dY (G.there ha)⟩) (fun r hr=>(tu r hr).1.keep kh) hp hrl hsz (fun b o e=>kh b o (kk b o e)) e⟩
end
def layR(H:Hp)(rows:List Row):Hp:=fun a=>match rows.find? (fun r=>decide (r.1=a)) with
 |some r=>some (.tup (r.2.map kV))
 |none=>H a
theorem aio(h:∀r∈rows,r.1≠a):layR H rows a=H a:=by
 unfold layR;rw[VL.mpr fun r hr=>by rw[decide_eq_false (h r hr)];exact jm]
theorem aaR:∀{rows:List Row},(rows.map (·.1)).Nodup→∀r∈rows,layR H rows r.1=some (.tup (r.2.map kV))
 |q::rows,nd,r,hr=>by
  rw[cJ,jH] at nd;unfold layR;rcases bI.mp hr with rfl|hr
  ·rw[List.find?_cons_of_pos (by simp)]
  ·have ne:¬decide (q.1=r.1)=true:=fun e=>nd.1 (cY.mpr ⟨r,hr,(of_decide_eq_true e).symm⟩)
   rw[List.find?_cons_of_neg (p:=fun r1:Row=>decide (r1.1=r.1)) ne];exact aaR nd.2 r hr
theorem ahl(h:layR H rows a=some u):H a=some u∨∃r∈rows,r.1=a∧u=.tup (r.2.map kV):=by
 unfold layR at h;cases hf:rows.find? (fun r=>decide (r.1=a)) with
 |none=>rw[hf] at h;exact .inl h
 |some r=>
  rw[hf] at h;exact .inr ⟨r,List.mem_of_find?_eq_some hf,of_decide_eq_true (List.find?_some (p:=fun r:Row=>decide (r.1=a)) hf),(fX h).symm⟩
theorem ZV:∀{cG:List (Key×Key)}{vs:List (Key×Value)},KV (cG.map fun p=>(p.1,kV p.2)) vs→vs.map (·.1)=cG.map (·.1)∧Vals (cG.map fun p=>kV p.2) (vs.map (·.2))
 |[],vs,h=>by cases h;exact⟨rfl,.nil⟩
 |p::cG,vs,h=>by
  cases h with
  |cons h t=>
   obtain⟨a,b⟩:=ZV t
   exact⟨by rw[cJ,cJ,a,←h.1],.cons h.2 b⟩
def ajU(td:TE):TE:=fun σ H Q=>td σ H fun x H1=>∃(d:aa)(cG:List (Key×Key))(b c:Bool),x=.ref d∧H1 d=some (.dK (cG.map fun p=>(p.1,kV p.2)))∧cG.length<64∧0<cG.length∧(∀p∈cG,cB p.1=b∧cB p.2=c)∧
 ∀(l:aa)(rows:List Row)(H2:Hp),bw H1 H2→H1 l=none→H2 l=some (.lst (rows.map fun r=>V.ref r.1))→rows.map (·.2)=Fo (cG.map fun p=>[p.1,p.2])→(∀r∈rows,H2 r.1=some (.tup (r.2.map kV)))→Q (.ref l) H2
theorem ahm(hc:X.calm=true)(ho:PE X o td)(g1:Gl X "sorted")(m1:X.mg "sorted"=none)
  (he:aW [.Call (.Attribute o "items" apos) [] [] cpos] X.env=(false,eval (.Call (.Attribute o "items" apos) [] [] cpos) X.env)::aW [] X.env:=by rfl)(hpl:(fG pos1 (aW [] X.env)).any (·.1)=false:=by rfl)
  (hbase:uC o "items" X.env (eval o X.env)=eval o X.env:=by rfl)(hline:(apos.endLine==cpos.line)=true:=by rfl):
  PE X (.Call (.Name "sorted" p1) [.Call (.Attribute o "items" apos) [] [] cpos] [] pos1) (ajU td):=by
 intro pins s σ H Q I h;refine Cg (tQ I g1 m1 (u:=.builtin "sorted") rfl ?_);refine Vh ?_ he hpl;rw[he];show aN _ _ (Dm ((false,eval (.Call (.Attribute o "items" apos) [] [] cpos) X.env)::fG pos1 (aW [] X.env))) _ _ s;refine Cd (aeu (T:="dict") (id:="dict.items") hbase rfl hline adG adH PySem.F.type_dict_items (bu (ho pins s σ H _ I h) fun u s1 aL=>?_))
 obtain⟨x,H1,I1,rx,d,cG,b,c,ex,hd,h64,hne,hty,q⟩:=aL
 subst ex;obtain rfl:u=eO d:=rx
 obtain⟨z,lo,vs,rel,dd⟩:=J7 I1.hok hd
 obtain⟨hk,hx⟩:=ZV rel
 refine⟨dd.typeIs,dd.mapOf.noDict,?_⟩
 show aN _ _ (callWith cpos (.builtin "dict.items") [.ref d] [] []) _ _ s1;refine method_meetsIn adH PySem.F.entry_dict_items rfl (aod ⟨rfl,dd.typeIs,PySem.F.args_dict_items_1 _,_,meets_dict_items (jh X.prog X.w) d lo,⟨vs,dd⟩,G6 ?_⟩)
 obtain⟨od,es,ep,hod,hdr⟩:=dd
 have sz:(s1.heap.push {cls:=.type "dict_items",data:=.fields #[.ref d]}).objs.size=s1.heap.objs.size+1:=vJ ..;refine aeK (I1.ok.hd hc) (d:=d) ⟨_,iI _ rfl,rfl,rfl⟩ (ep:=ep) ⟨od,es,cM _ hod,hdr⟩ h64 hne hk hx hty fun as p D h' n tk hla hup hfr tu hp hrl hD kk e=>?_
 have nda:as.Nodup:=hup.imp fun h=>dY h
 obtain⟨rows,hR⟩:∃rows,rows=lR as cG:=⟨_,rfl⟩
 rw[←hR] at tu hp hrl e;have r1:rows.map (·.1)=as:=by
  rw[hR];refine xT (by simp[lR,hla]) fun i h1 h2=>?_
  simp[lR]
 have r2:rows.map (·.2)=cG.map fun p=>[p.1,p.2]:=by
  rw[hR];refine xT (by simp[lR,hla]) fun i h1 h2=>?_
  simp[lR]
 have ra:∀r∈rows,s1.heap.objs.size≤r.1∧r.1≠D:=fun r hr=>by
  have m:r.1∈as:=by rw[←r1];exact cY.mpr ⟨r,hr,rfl⟩
  have:=hfr _ m;rw[sz] at this
  exact⟨by omega,this.2⟩
 rw[sz] at hD;have hnD:H1 D=none:=I1.hok.fresh (by omega);have old:∀a,a<s1.heap.objs.size→upd (layR H1 rows) D (.lst ((p.map fun i=>rows.getD i (0,[])).map fun r=>V.ref r.1)) a=H1 a:=fun a ha=>by
  rw[cR (show a≠D by omega),aio fun r hr z=>by have:=(ra r hr).1;rw[z] at this;omega]
 have hin:∀r∈rows,upd (layR H1 rows) D (.lst ((p.map fun i=>rows.getD i (0,[])).map fun r=>V.ref r.1)) r.1=some (.tup (r.2.map kV)):=fun r hr=>by
  rw[cR (ra r hr).2];exact aaR (by rw[r1];exact nda) r hr
 have sm:bw H1 (upd (layR H1 rows) D (.lst ((p.map fun i=>rows.getD i (0,[])).map fun r=>V.ref r.1))):=fun a u ha=>by
  have lt:a<s1.heap.objs.size:=by
   rcases afz a s1.heap.objs.size with h|h
   ·exact h
   ·rw[I1.hok.fresh h] at ha;cases ha
  rw[old a lt];exact ha
 refine⟨.ref D,_,Inv.Dq (s:=s1) (h':=h') (t':=tk) (ch:=[]) I1 (fun a o _ q=>kk a o (cM _ q)) (fun _ m=>nomatch m) sm (fun a o q n=>by rw[old a (bZ q)];exact n) (fun a u ha=>?_),rfl,q D (p.map fun i=>rows.getD i (0,[])) _ sm hnD eU ((ajm hp hrl).trans (by rw[r2])) fun r hr=>hin r ((agZ hp).mem_iff.mp hr)⟩
 by_cases hz:a=D
 ·subst hz;rw[eU] at ha;cases ha;refine .inr ⟨?_,_,n,Yq _,by simpa[seqObj] using e⟩;rw[aX,aX,hp.length_eq,lC,jq];have:=congrArg qU r2;rw[aX,aX] at this;omega
 ·rw[cR hz] at ha;rcases ahl ha with h|⟨r,hr,rfl,rfl⟩
  ·exact .inl h
  ·obtain⟨its,v,t⟩:=tu r hr
   refine .inr ⟨?_,its,v,t⟩;have m:r.2∈cG.map fun p=>[p.1,p.2]:=by rw[←r2];exact cY.mpr ⟨r,hr,rfl⟩
   obtain⟨pp,_,e2⟩:=cY.mp m
   rw[←e2,jq];show 2≤_;omega
def FJ:List (ao×ao)→Option (List (Key×Key))
 |[]=>some []
 |p::r=>(di p.1).bind fun k=>(di p.2).bind fun v=>(FJ r).map fun t=>(k,v)::t
theorem ZW:∀{kvs:List (ao×ao)}{cG:List (Key×Key)}{ks:List Key}{vs:List V},FJ kvs=some cG→cO di kvs=some ks→iH E kvs vs→ks.zip vs=cG.map (fun p=>(p.1,kV p.2))∧kvs.map (fun p=>vN [p.1,p.2])=cG.map (fun p=>.tuple [j5 p.1,j5 p.2])
 |[],cG,ks,vs,h,h1,_=>by cases h;cases h1;exact⟨rfl,rfl⟩
 |p::r,cG,ks,vs,h,h1,h2=>by
  obtain⟨k,e1,h⟩:=mH.mp h
  obtain⟨v,e2,h⟩:=mH.mp h
  obtain⟨t,e3,h⟩:=GP.mp h
  subst h;unfold cO at h1;rw[e1] at h1;cases ha:cO di r with
  |none=>rw[ha] at h1;cases h1
  |some t1=>
   rw[ha] at h1;cases h1
   obtain⟨u,w,rfl,q,h2⟩:=h2
   obtain⟨a,b⟩:=ZW e3 ha h2
   obtain⟨p1,p2⟩:=p
   have hv:u=kV v:=abp e2 q;have d1:p1=j5 k:=by cases p1<;>first|(cases e1;rfl)|cases e1
   have d2:p2=j5 v:=by cases p2<;>first|(cases e2;rfl)|cases e2
   refine⟨?_,?_⟩
   ·rw[VH,cJ,a,hv]
   ·rw[cJ,cJ,b,d1,d2]
def Sg(kvs:List (ao×ao)):Option (List ao):=(FJ kvs).bind fun cG=>cG.head?.bind fun p=>if cG.length<64∧∀q∈cG,cB q.1=cB p.1∧cB q.2=cB p.2 then some (Ku (kvs.map fun p=>.tuple [p.1,p.2])) else none
def Ti:ao→Option (List (ao×ao))
 |.dict kvs=>some kvs
 |_=>none
theorem aip(h:Ti d=some kvs):d=.dict kvs:=by
 cases d<;>first|(cases h;rfl)|cases h
def Rj(f:FB):FE:=fun env C=>(f env C).bind fun p=>(Ti p.1).bind fun kvs=>(Sg kvs).map fun l=>(.ow (.list l),env,p.2.2)
theorem ahn(hc:X.calm=true)(ho:PE X o (dF X.K f))(g1:Gl X "sorted")(m1:X.mg "sorted"=none)
  (he:aW [.Call (.Attribute o "items" apos) [] [] cpos] X.env=(false,eval (.Call (.Attribute o "items" apos) [] [] cpos) X.env)::aW [] X.env:=by rfl)(hpl:(fG pos1 (aW [] X.env)).any (·.1)=false:=by rfl)
  (hbase:uC o "items" X.env (eval o X.env)=eval o X.env:=by rfl)(hline:(apos.endLine==cpos.line)=true:=by rfl):
  PE X (.Call (.Name "sorted" p1) [.Call (.Attribute o "items" apos) [] [] cpos] [] pos1) (tE X.K (Rj f)):=(ahm hc ho g1 m1 he hpl hbase hline).weak fun σ H Q aL=>by
 obtain⟨Z,Θ,env,C,r,env',C',S,hf,q⟩:=aL
 refine hide fun GG gg=>?_
 obtain⟨⟨d,e1,C1⟩,h1,hf⟩:=mH.mp hf
 obtain⟨kvs,hd,hf⟩:=mH.mp hf
 obtain⟨l,hl,hf⟩:=GP.mp hf
 obtain⟨cG,hk,hl⟩:=mH.mp hl
 obtain⟨p,hp,hl⟩:=mH.mp hl
 split at hl
 case isFalse=>cases hl
 rename_i hall;cases hl;cases hf;cases aip hd;have pos:0<cG.length:=by
  cases cG with
  |nil=>cases hp
  |cons _ _=>exact HR _
 refine gg ⟨Z,Θ,env,C,.dict kvs,e1,C1,S,h1,fun v H1 k f S1 b1=>?_⟩;refine hide fun G2 g2=>?_
 obtain⟨a,vs,rfl,da,rr⟩:=b1.dct
 rcases da with⟨ks,a1,a2⟩|⟨ks,⟨ne,a1⟩,a2⟩
 ·obtain⟨e2,e3⟩:=ZW hk a1 rr
  rw[e2] at a2;refine g2 ⟨a,cG,cB p.1,cB p.2,rfl,a2,hall.1,pos,hall.2,fun l rows H2 sm hn hl hr hin=>?_⟩;have kp:aQ Θ H H2:=k.trans (aQ.of sm);have SD:=S.yO (k.none hn) kp ⟨_,hl,fun _ z=>nomatch z⟩ ⟨S1.cell.len,fun n b ns e2 e3=>sm _ _ (S1.cell.at_ n b ns e2 e3)⟩;have es:(rows.map fun r=>vN (r.2.map j5))=Ku (kvs.map fun p=>.tuple [p.1,p.2]):=by
   unfold Ku;rw[e3,fO];have:(cG.map (Bs ∘ fun p=>vN [j5 p.1,j5 p.2]))=cG.map fun p=>[p.1,p.2]:=by
    refine zE fun q _=>?_
    show(keysOf ([q.1,q.2].map j5)).getD []=[q.1,q.2]
    rw[Qt];rfl
   rw[this,←hr,fO];rfl
  refine q _ H2 kp (Fz.refl _) ⟨l,rfl,k.none hn,SD,_,hl,?_⟩;rw[←es];exact Qu fun r m=>Ea SD (hin r m)
 ·exfalso;cases kvs with
  |nil=>exact ne rfl
  |cons q r=>
   obtain⟨k',e1,_⟩:=mH.mp hk
   unfold cO at a1;split at a1
   ·rename_i g1 _;exact abq e1 g1
   ·cases a1
def EY(ks:List (List Key)):Nat:=jt (fun i j=>iU (ks.getD i (ks.headD [])) (ks.getD j (ks.headD []))) (ks.length-1)
theorem agr(rows:List Row):jt (lN rows) (rows.length-1)=EY (rows.map (·.2)):=by
 have e:lN rows=fun i j=>iU ((rows.map (·.2)).getD i ((rows.map (·.2)).headD [])) ((rows.map (·.2)).getD j ((rows.map (·.2)).headD [])):=by
  funext i j;rw[lN,Ji,Ji]
 unfold EY;rw[e,aX]
def Sh(ds:List ao):Option Vl:=ds.head?.bind fun d0=>(Ks d0).bind fun sh=>if ∀d∈ds,Ks d=some sh then(ds[EY (ds.map Bs)]?).map .im else none
def J1:List ao→Option Vl
 |[.list ds]=>Sh ds
 |_=>none
theorem ajV{K:aG}:n6 K (fun xs H Q=>∃(p:aa)(rows:List Row)(sh:List Bool),xs=[.ref p]∧bL K H p (rows.map fun r=>V.ref r.1)∧0<rows.length∧(∀r∈rows,H r.1=some (.tup (r.2.map kV))∧r.2.map cB=sh)∧
  ∀r,rows[jt (lN rows) (rows.length-1)]?=some r→Q (.ref r.1) H) J1:=by
 intro Z Θ env C σ H xs ds res S b e Q q;refine hide fun GG gg=>?_
 unfold J1 at e;split at e
 case h_2=>cases e
 rename_i ds
 obtain⟨d0,h0,e⟩:=mH.mp e
 obtain⟨sh,_,e⟩:=mH.mp e
 split at e
 case isFalse=>cases e
 rename_i hall
 obtain⟨d,hd,rfl⟩:=GP.mp e
 obtain⟨v,rfl,bb⟩:=oO b
 obtain⟨a,vs,rfl,ha,r⟩:=bb.lst
 obtain⟨rows,rfl,e2,e3⟩:=ZC hall r
 have ek:ds.map Bs=rows.map (·.2):=by
  rw[e2,fO];refine zE fun r _=>?_
  show(keysOf (r.2.map j5)).getD []=r.2
  rw[Qt];rfl
 rw[ek,←agr] at hd;refine gg ⟨a,rows,sh,rfl,bL.of ha,?_,fun r m=>⟨jb (e3 r m).1,(e3 r m).2⟩,fun r hr=>?_⟩
 ·cases rows with
  |nil=>rw[e2] at h0;cases h0
  |cons _ _=>exact HR _
 ·have m:=jB hr;have hd':d=.tuple (r.2.map j5):=by
   rw[e2,gK,hr] at hd
   exact(fX hd).symm
  obtain⟨u,t,e4,q4,_⟩:=Qu (E:=er (aU Z Θ env σ) H) (rows:=[r]) fun x hx=>by rw[gB.mp hx];exact(e3 r m).1
  cases e4;refine q _ H (aQ.refl _ _) ⟨S,?_⟩;rw[hd'];exact q4
def Ua:ao→Bool
 |.list _=>true
 |.tuple _=>true
 |_=>false
theorem YK(hg:X.A.guards=some [])(hu:X.A.units+64<fP):iQ X (.type "str") (fun xs H Q=>∃v d,xs=[v]∧Ua d=true∧RD X.K H d v∧d.showable=true∧d.depth≤60∧d.shown.length≤bR∧Q (.str d.shown) H):=by
 intro pins s σ H xs us Q I r h
 obtain⟨v,d,rfl,hq,hd,hs,aoN,hz,q⟩:=h
 obtain⟨u,rfl,ru⟩:=vals1 r
 obtain⟨as,R⟩:=hd.reads I ru
 have ha:∃a,v=.ref a:=by
  cases d<;>first|cases hq|skip
  all_goals
   obtain⟨a,vs,e1,_,_⟩:=hd
   exact⟨a,e1⟩
 obtain⟨a,rfl⟩:=ha
 cases ru;exact str_of_reads R hs (PyData.noDict_hsm hd.nodict) hg (by omega) (fun _ _ e=>e) (fun h' u tk hk=>⟨.str _,H,I.kept hk,⟨_,rfl⟩,q⟩) hz
def J2(ds:List ao):Option Vl:=ds.head?.bind fun d=>if Ua d then abw ds else none
theorem aaS{K:aG}:n6 K (fun xs H Q=>∃v d,xs=[v]∧Ua d=true∧RD K H d v∧d.showable=true∧d.depth≤60∧d.shown.length≤bR∧Q (.str d.shown) H) J2:=by
 intro Z Θ env C σ H xs ds res S b e Q q
 obtain⟨d,hd,e⟩:=mH.mp e
 split at e
 case isFalse=>cases e
 rename_i hq;unfold abw at e;split at e
 case h_2=>cases e
 rename_i d';cases hd;split at e
 case isFalse=>cases e
 rename_i h;cases e;rw[ie,ie,ie,decide_eq_true_iff,decide_eq_true_iff] at h
 obtain⟨v,rfl,bb⟩:=oO b
 exact⟨v,d,rfl,hq,(bb.rx h.1.1.1).rd,h.1.1.2,h.1.2,qY h.2,q _ H (aQ.refl _ _) (iK S rfl rfl)⟩
def Bl(L:Nat)(C:Ce)(b k:Nat):Prop:=C.length=L∧∃x y z:Int,C[b]?=some [x,y,z]∧0≤x∧0≤z∧z+k≤900000
theorem Bl.mono(h:Bl L C b k)(hj:j≤k):Bl L C b j:=by
 obtain⟨l,x,y,z,h1,h2,h5,h6⟩:=h
 exact⟨l,x,y,z,h1,h2,h5,by omega⟩
theorem Bl.dec(h:Bl L C b (k+1)):Bl L C b k:=h.mono (vO k)
theorem Bl.eq(h:Bl L C b k)(h':Bl L C' b' k'):C'.length=C.length:=h'.1.trans h.1.symm
theorem alp(C:Ce)(h0:0≤x):Bl (C.length+1) (C++[[x,y,0]]) C.length 800000:=by
 refine⟨by simp,x,y,0,?_,h0,o9 _,by omega⟩
 rw[lA (bN _),Aa];rfl
theorem Qy{n s u f i j:Int}(hu:s*u%n=1)(n0:0<n)(hi:0≤i)(hj:0≤j)(hi':i<n)(hj':j<n)(e:(f+s*i)%n=(f+s*j)%n):i=j:=by
 have h1:(f+s*i-(f+s*j))%n=0:=ado.mp e
 obtain⟨d,hd⟩:=Int.dvd_of_emod_eq_zero h1
 have hq:s*u=n*(s*u / n)+1:=by
  have:=Int.mul_ediv_add_emod (s*u) n;rw[hu] at this;exact this.symm
 generalize s*u / n=q at hq;have key:i-j=n*(u*d-q*(i-j)):=by grind
 have h2:(i-j)%n=0:=Int.emod_eq_zero_of_dvd ⟨_,key⟩;have h3:i%n=j%n:=ado.mpr h2;rw[Mf hi hi',Mf hj hj'] at h3;exact h3
def Fb(s:Int):Prop:=(0<s∧s≤675)∧(∃u,s*u%676=1)∧∃u,s*u%26=1
theorem step_at(h0:0≤k)(h1:k<6):∃s,cX [lH 1,.int 3,.int 5,.int 7,.int 25,.int 675] k=some (.int s)∧Fb s:=by
 have hk:k=0∨k=1∨k=2∨k=3∨k=4∨k=5:=by omega
 rcases hk with rfl|rfl|rfl|rfl|rfl|rfl
 ·exact⟨1,rfl,by decide,⟨1,by decide⟩,⟨1,by decide⟩⟩
 ·exact⟨3,rfl,by decide,⟨451,by decide⟩,⟨9,by decide⟩⟩
 ·exact⟨5,rfl,by decide,⟨541,by decide⟩,⟨21,by decide⟩⟩
 ·exact⟨7,rfl,by decide,⟨483,by decide⟩,⟨15,by decide⟩⟩
 ·exact⟨25,rfl,by decide,⟨649,by decide⟩,⟨25,by decide⟩⟩
 ·exact⟨675,rfl,by decide,⟨675,by decide⟩,⟨25,by decide⟩⟩
theorem Rk(e:z.cps.toList=l)(h1:1≤l.length)(h2:l.length≤8)(h3:∀c∈l,97≤c∧c≤122):nameB z=true:=by
 have e2:z.length=l.length:=by rw[←e];show z.cps.size=_;simp
 unfold nameB K6;rw[e,e2];simp only[ie,decide_eq_true_eq,qQ]
 exact⟨⟨h1,h2⟩,h3⟩
theorem Mv(h:∀i j,i<n→j<n→f i=f j→i=j):((dZ n).map f).Nodup:=by
 rw[Vi,List.pairwise_map];refine aoE (R:=(·<·)) (fun{a b} ha hb hab e=>?_) Lp;have:=h a b (qR.mp ha) (qR.mp hb) e;omega
def n1(f s:Int)(k:Nat):Str:=⟨#[97+((f+s*k)%26).toNat]⟩
theorem aiq{f s:Int}{n:Nat}(hs:Fb s)(hn:n≤26):Names ((dZ n).map (n1 f s)):=by
 refine⟨Mv fun i j hi hj e=>?_,fun z hz=>?_⟩
 ·obtain⟨_,_,u,hu⟩:=hs
  have e1:97+((f+s*i)%26).toNat=97+((f+s*j)%26).toNat:=by
   have:=congrArg (fun z:Str=>z.cps.toList) e;simpa[n1] using this
  have a1:0≤(f+s*i)%26:=nu _ (by decide);have a2:0≤(f+s*j)%26:=nu _ (by decide);have:=Qy (n:=26) (f:=f) (i:=i) (j:=j) hu (by decide) (by omega) (by omega) (by omega) (by omega) (by omega);omega
 ·obtain⟨k,_,rfl⟩:=cY.mp hz
  have a1:0≤(f+s*k)%26:=nu _ (by decide);have a2:(f+s*k)%26<26:=sO _ (by decide);refine Rk (l:=[97+((f+s*k)%26).toNat]) rfl (bN _) (by show 1≤8;decide) fun c hc=>?_
  rw[gB.mp hc];omega
def v2(f s:Int)(k:Nat):Int:=(f+s*k)%676
def two(v:Int):Str:=(⟨#[97+(v / 26).toNat]⟩:Str)++(⟨#[97+(v%26).toNat]⟩:Str)
def n2(hd tl:Str)(f s:Int)(q:Nat→Int)(k:Nat):Str:=hd++two (v2 f s k)++Txt.slice tl none (some (q k))
theorem ZX(hd tl:Str)(f s:Int)(q:Nat→Int)(k:Nat):(n2 hd tl f s q k).cps.toList=hd.cps.toList++([97+(v2 f s k / 26).toNat,97+(v2 f s k%26).toNat]++(Txt.slice tl none (some (q k))).cps.toList):=by
 show((hd.cps++(#[97+(v2 f s k / 26).toNat]++#[97+(v2 f s k%26).toNat]))++(Txt.slice tl none (some (q k))).cps).toList=_
 simp
theorem air{hd tl:Str}{f s:Int}{q:Nat→Int}{n:Nat}(hs:Fb s)(hn:n≤36)(hh:hd.length≤3)(ht:tl.length≤3)(ch:∀c∈hd.cps.toList,97≤c∧c≤122)(ct:∀c∈tl.cps.toList,97≤c∧c≤122):Names ((dZ n).map (n2 hd tl f s q)):=by
 have b:∀k:Nat,0≤v2 f s k∧v2 f s k<676:=fun k=>⟨nu _ (by decide),sO _ (by decide)⟩
 refine⟨Mv fun i j hi hj e=>?_,fun z hz=>?_⟩
 ·obtain⟨_,⟨u,hu⟩,_⟩:=hs
  have e1:=congrArg (fun z:Str=>z.cps.toList) e;simp only[ZX] at e1;have e2:=List.append_cancel_left e1;rw[jV,jV,jC,jV,jV,jC] at e2;injection e2 with e3 e4
  injection e4 with e5 _
  have b1:=b i;have b2:=b j;have ev:v2 f s i=v2 f s j:=by omega
  have:=Qy (n:=676) (f:=f) (i:=i) (j:=j) hu (by decide) (by omega) (by omega) (by omega) (by omega) ev;omega
 ·obtain⟨k,_,rfl⟩:=cY.mp hz
  have bk:=b k;have l1:hd.cps.toList.length=hd.length:=by show _=hd.cps.size;simp
  have l2:(Txt.slice tl none (some (q k))).cps.toList.length=(Txt.slice tl none (some (q k))).length:=by show _=(Txt.slice tl none (some (q k))).cps.size;simp
  have l3:=PyProof.Txt.length_slice_le tl none (some (q k));refine Rk (ZX hd tl f s q k) (by rw[gf,gf];show 1≤_+(2+_);omega) (by rw[gf,gf,l1,l2];show _+(2+_)≤8;omega) fun c hc=>?_
  rcases cQ.mp hc with hc|hc
  ·exact ch c hc
  ·rcases cQ.mp hc with hc|hc
   ·simp only[bI,jg,or_false] at hc;rcases hc with rfl|rfl<;>omega
   ·exact ct c (ajJ hc)
def lU(f:Int):List Nat:=(dZ 8).map fun(k:Nat)=>97+((f+5*(k:Int))%26).toNat
def sl(z:Str)(n k:Nat):Str:=Txt.slice z (some (k:Int)) (some ((k:Int)+(n:Int)))
def sb(z:Str)(n:Nat):List Str:=(dZ (8-n)).map (sl z (n+1))
def subs(z:Str)(m:Nat):List Str:=(dZ m).flatMap (sb z)
theorem Qz(hz:z.length=8)(h:k+n≤8):(sl z n k).cps.toList=(z.cps.toList.drop k).take n:=by
 have:=eq_of_beq (slice_closesL (x:=z) (i:=(k:Int)) (j:=(k:Int)+(n:Int)) (by omega) (by omega) (by omega));unfold sl;rw[this]
 show((z.cps.toList.drop (k:Int).toNat).take ((k:Int)+(n:Int)-(k:Int)).toNat)=_
 rw[show((k:Int)+(n:Int)-(k:Int)).toNat=n by omega,zG]
theorem aaT{f:Int}{k:Nat}(h:k<8):(lU f)[k]?=some (97+((f+5*(k:Int))%26).toNat):=by
 unfold lU;rw[gK,VB h];rfl
theorem ajW(f:Int):∀c∈lU f,97≤c∧c≤122:=fun c hc=>by
 obtain⟨k,_,rfl⟩:=cY.mp hc
 have a1:0≤(f+5*(k:Int))%26:=nu _ (by decide);have a2:(f+5*(k:Int))%26<26:=sO _ (by decide);omega
theorem Sq(hz:z.cps.toList=lU f)(hx:x∈sb z n):∃k,k<8-n∧x=sl z (n+1) k∧x.cps.toList=((lU f).drop k).take (n+1)∧x.cps.toList.length=n+1:=by
 obtain⟨k,hk,rfl⟩:=cY.mp hx
 have hk:=qR.mp hk;have hl:z.length=8:=by
  have:=congrArg qU hz;rw[show z.cps.toList.length=z.length by show _=z.cps.size;simp] at this;rw[this];simp[lU]
 have e:=Qz (z:=z) (n:=n+1) (k:=k) hl (by omega);rw[hz] at e
 refine⟨k,hk,rfl,e,?_⟩
 rw[e,jU,zK,show(lU f).length=8 by simp[lU]];omega
theorem ags{z:Str}{f:Int}(hz:z.cps.toList=lU f):Names (subs z 8):=by
 refine⟨?_,fun x hx=>?_⟩
 ·unfold subs;rw[Vi,List.pairwise_flatMap]
  refine⟨fun n hn=>?_,?_⟩
  ·have hn:=qR.mp hn;rw[←Vi];refine Mv fun i j hi hj e=>?_
   have hl:z.length=8:=by
    have:=congrArg qU hz;rw[show z.cps.toList.length=z.length by show _=z.cps.size;simp] at this;rw[this];simp[lU]
   have e1:=congrArg (fun z:Str=>z.cps.toList[0]?) e;simp only[Qz (z:=z) (n:=n+1) (k:=i) hl (by omega),Qz (z:=z) (n:=n+1) (k:=j) hl (by omega),hz] at e1;rw[Vn (HR n),Vn (HR n),Lx,Lx,Nx,Nx,aaT (by omega),aaT (by omega)] at e1;have e2:=fX e1;have a1:0≤(f+5*(i:Int))%26:=nu _ (by decide);have a2:0≤(f+5*(j:Int))%26:=nu _ (by decide);have:=Qy (n:=26) (s:=5) (u:=21) (f:=f) (i:=i) (j:=j) (by decide) (by decide) (by omega) (by omega) (by omega) (by omega) (by omega);omega
  ·refine aoK (R:=(·<·)) (fun{a b} hab x hx y hy e=>?_) Lp
   obtain⟨_,_,_,_,l1⟩:=Sq hz hx
   obtain⟨_,_,_,_,l2⟩:=Sq hz hy
   rw[e] at l1;omega
 ·obtain⟨n,hn,hx⟩:=List.mem_flatMap.mp hx
  have hn:=qR.mp hn
  obtain⟨k,hk,_,e,hl⟩:=Sq hz hx
  refine Rk rfl (by omega) (by omega) fun c hc=>?_
  rw[e] at hc;exact ajW f c (GR (ux hc))
theorem ZZ(z:Str):(subs z 8).length=36:=by
 unfold subs sb;simp only[ad6,aX,lC];rfl
end L2
namespace L2
section
variable{β:Type}[DecidableEq β]{ws:List (Int×β×β)}{s:β}
inductive jf(ws:List (Int×β×β)):β→List Int→β→Prop
 |nil (p:β):jf ws p [] p
 |cons {n:Int} {p q s:β} {r:List Int}:(n,p,q)∈ws→jf ws q r s→jf ws p (n::r) s
def bT(st:List (β×Int))(p:β):Option Int:=(st.find? fun x=>decide (x.1=p)).map (·.2)
theorem nD{st:List (β×Int)}{p:β}:bT st p=none↔p∉st.map (·.1):=by
 unfold bT;rw[adN,VL];simp only[cY,not_exists,not_and,decide_eq_true_eq]
theorem Dy(st:List (β×Int))(new:List β)(k:Int)(p:β):bT (st++new.map fun g=>(g,k)) p=if p∈st.map (·.1) then bT st p else if p∈new then some k else none:=by
 unfold bT;rw[List.find?_append];by_cases h:p∈st.map (·.1)
 ·rw[if_pos h]
  obtain⟨x,hx,rfl⟩:=cY.mp h
  cases e:st.find? fun y=>decide (y.1=x.1) with
  |none=>exact absurd (decide_eq_true rfl) (VL.mp e x hx)
  |some y=>rfl
 ·rw[if_neg h,(adN.mp (nD.mpr h):st.find? _=none),Option.none_or];induction new with
  |nil=>rfl
  |cons g new ih=>
   rw[cJ,oZ];by_cases e:g=p
   ·subst e;rw[decide_eq_true rfl,if_pos dm];rfl
   ·rw[decide_eq_false e,ih];have:p∈g::new↔p∈new:=by rw[bI];exact⟨fun z=>z.resolve_left fun z=>e z.symm,.inr⟩
    simp only[this]
theorem Jt(x:β×Int)(l:List (β×Int))(p:β):bT (x::l) p=if x.1=p then some x.2 else bT l p:=by
 unfold bT;rw[oZ];by_cases h:x.1=p
 ·rw[decide_eq_true h,if_pos h];rfl
 ·rw[decide_eq_false h,if_neg h]
structure rZ(ws:List (Int×β×β))(s:β)(st:List (β×Int))(new:List β)(k:Nat):Prop where
 sound:∀p d,bT st p=some d→d≤k∧∃r,jf ws p r s∧(r.length:Int)=d
 whole:∀p r,jf ws p r s→r.length≤k→∃d,bT st p=some d∧d≤r.length
 last:∀p,p∈new↔bT st p=some (k:Int)
 nd:(st.map (·.1)).Nodup
 sub:∀p∈st.map (·.1),p=s∨p∈ws.map (·.2.1)
 low:∀p d,bT st p=some d→d+1≤st.length
theorem rZ.init(ws:List (Int×β×β))(s:β):rZ ws s [(s,0)] [s] 0 where
 sound p d h:=by
  unfold bT at h;rw[oZ] at h;by_cases e:s=p
  ·subst e;rw[decide_eq_true rfl] at h;cases h
   exact⟨o9 _,[],.nil _,rfl⟩
  ·rw[decide_eq_false e] at h;cases h
 whole p r h l:=by
  cases h with
  |nil=>exact⟨0,by unfold bT;rw[oZ,decide_eq_true rfl];rfl,o9 _⟩
  |cons _ _=>exact absurd l (ad0 _)
 last p:=by
  unfold bT;rw[oZ,gB];by_cases e:s=p
  ·subst e;rw[decide_eq_true rfl]
   exact⟨fun _=>rfl,fun _=>rfl⟩
  ·rw[decide_eq_false e]
   exact⟨fun z=>absurd z.symm e,fun z=>nomatch z⟩
 nd:=by simp
 sub p hp:=.inl (gB.mp hp)
 low p d h:=by
  unfold bT at h;rw[oZ] at h;by_cases e:s=p
  ·rw[decide_eq_true e] at h;cases h;exact o9 _
  ·rw[decide_eq_false e] at h;cases h
theorem rZ.step{st:List (β×Int)}{new new':List β}{k:Nat}(B:rZ ws s st new k)(hn:new'.Nodup)(hm:∀g,g∈new'↔∃w∈ws,w.2.2∈new∧w.2.1∉st.map (·.1)∧w.2.1=g):rZ ws s (st++new'.map fun g=>(g,(k:Int)+1)) new' (k+1) where
 sound p d h:=by
  rw[Dy] at h;split at h
  ·obtain⟨h1,h2⟩:=B.sound p d h
   exact⟨by omega,h2⟩
  ·split at h
   ·rename_i m;cases h
    refine⟨by omega,?_⟩
    obtain⟨w,m1,m2,m3,rfl⟩:=(hm p).mp m
    obtain⟨_,r,h3,h4⟩:=B.sound _ _ ((B.last _).mp m2)
    exact⟨w.1::r,.cons (p:=w.2.1) (q:=w.2.2) m1 h3,by rw[dH];omega⟩
   ·cases h
 whole p r h l:=by
  rw[Dy];by_cases hp:p∈st.map (·.1)
  ·rw[if_pos hp];cases e:bT st p with
   |none=>exact absurd hp (nD.mp e)
   |some d=>
    refine⟨d,rfl,?_⟩
    by_cases l':r.length≤k
    ·obtain⟨d',e',h'⟩:=B.whole p r h l'
     rw[e] at e';cases e';exact h'
    ·have:=(B.sound p d e).1;omega
  ·rw[if_neg hp];cases h with
   |nil=>
    obtain⟨d,e,_⟩:=B.whole s [] (.nil s) (lD _)
    rw[nD.mpr hp] at e;cases e
   |cons hw hr=>
    rename_i n q r;rw[dH] at l⊢
    obtain⟨d,e,hd⟩:=B.whole q r hr (by omega)
    obtain⟨hk,r2,hr2,l2⟩:=B.sound q d e
    by_cases hdk:d=k
    ·subst hdk;have m:p∈new':=(hm p).mpr ⟨_,hw,(B.last q).mpr e,hp,rfl⟩;rw[if_pos m]
     exact⟨_,rfl,by omega⟩
    ·obtain⟨d',e',_⟩:=B.whole p (n::r2) (.cons hw hr2) (by rw[dH];omega)
     rw[nD.mpr hp] at e';cases e'
 last p:=by
  rw[Dy];constructor
  ·intro m
   obtain⟨w,m1,m2,m3,rfl⟩:=(hm p).mp m
   rw[if_neg m3,if_pos m];rfl
  ·intro e;split at e
   ·have:=(B.sound p _ e).1;omega
   ·split at e
    ·rename_i m;exact m
    ·cases e
 nd:=by
  rw[gC,fO,show((fun x:β×Int=>x.1) ∘ fun g=>(g,(k:Int)+1))=id from rfl,N8];refine j6.mpr ⟨B.nd,hn,fun a ha b hb e=>?_⟩;subst e
  obtain⟨w,_,_,m3,rfl⟩:=(hm a).mp hb
  exact m3 ha
 sub p hp:=by
  rw[gC,fO,show((fun x:β×Int=>x.1) ∘ fun g=>(g,(k:Int)+1))=id from rfl,N8] at hp;rcases cQ.mp hp with hp|hp
  ·exact B.sub p hp
  ·obtain⟨w,m1,_,_,rfl⟩:=(hm p).mp hp
   exact .inr (cY.mpr ⟨w,m1,rfl⟩)
 low p d h:=by
  rw[Dy] at h;rw[gf,aX];split at h
  ·have:=B.low p d h;omega
  ·split at h
   ·rename_i m;cases h
    obtain⟨w,m1,m2,m3,rfl⟩:=(hm p).mp m
    have:=B.low _ _ ((B.last _).mp m2);have:=adO m;omega
   ·cases h
theorem len_sub:∀{l m:List β},l.Nodup→(∀x∈l,x∈m)→l.length≤m.length
 |[],_,_,_=>lD _
 |a::l,m,hn,h=>by
  have ha:=h a dm;have:=len_sub (m:=m.erase a) (jH.mp hn).2 fun x hx=>(List.mem_erase_of_ne (show x≠a from fun z=>(jH.mp hn).1 (z▸hx))).mpr (h x (dM _ hx))
  rw[List.length_erase_of_mem ha] at this;have:=adO ha;rw[dH];omega
theorem rZ.few{st:List (β×Int)}{new:List β}{k:Nat}(B:rZ ws s st new k):st.length≤ws.length+1:=by
 have h:(st.map (·.1)).length≤(s::ws.map (·.2.1)).length:=by
  refine len_sub B.nd fun p hp=>?_
  rcases B.sub p hp with rfl|h
  ·exact dm
  ·exact dM _ h
 simpa using h
structure sr(ws:List (Int×β×β))(s:β)(st:List (β×Int)):Prop where
 sound:∀p d,bT st p=some d→∃r,jf ws p r s∧(r.length:Int)=d
 whole:∀p r,jf ws p r s→∃d,bT st p=some d∧d≤r.length
 few:∀p d,bT st p=some d→d≤ws.length
 nd:(st.map (·.1)).Nodup
theorem rZ.done{st:List (β×Int)}{k:Nat}(B:rZ ws s st [] k):sr ws s st where
 sound p d h:=(B.sound p d h).2
 nd:=B.nd
 few p d h:=by
  have:=B.low p d h;have:=B.few;omega
 whole p r h:=by
  induction h with
  |nil p=>exact B.whole p [] (.nil p) (lD _)
  |cons hw hr ih=>
   rename_i n p q s' r
   obtain⟨d,e,hd⟩:=ih B
   obtain⟨hk,r2,hr2,l2⟩:=B.sound q d e
   have:d≠k:=fun z=>by
    subst z;exact nomatch(B.last q).mpr e
   obtain⟨d',e',h'⟩:=B.whole p (n::r2) (.cons hw hr2) (by rw[dH];omega)
   refine⟨d',e',?_⟩
   rw[dH] at h'⊢;omega
theorem sr.self{st:List (β×Int)}(B:sr ws s st):bT st s=some 0:=by
 obtain⟨d,e,h⟩:=B.whole s [] (.nil s)
 obtain⟨r,_,l⟩:=B.sound s d e
 rw[e];simp only[Cq] at h;congr 1;omega
theorem sr.iff{st:List (β×Int)}(B:sr ws s st)(p:β):p∈st.map (·.1)↔∃r,jf ws p r s:=by
 constructor
 ·intro h;cases e:bT st p with
  |none=>exact absurd h (nD.mp e)
  |some d=>
   obtain⟨r,h,_⟩:=B.sound p d e
   exact⟨r,h⟩
 ·rintro⟨r,h⟩
  obtain⟨d,e,_⟩:=B.whole p r h
  apply adC;intro n;rw[nD.mpr n] at e;cases e
def xO(ws:List (Int×β×β))(a b:β):Prop:=∃r,jf ws a r b
theorem jf.snoc{a b c:β}{n:Int}{r:List Int}(h:jf ws a r b)(hw:(n,b,c)∈ws):jf ws a (r++[n]) c:=by
 induction h with
 |nil p=>exact .cons hw (.nil _)
 |cons h1 _ ih=>exact .cons h1 (ih hw)
def Fd(w:Int×β×β):Int×β×β:=(w.1,w.2.2,w.2.1)
theorem QB{n:Int}{a b:β}:(n,a,b)∈ws.map Fd↔(n,b,a)∈ws:=by
 rw[cY];constructor
 ·rintro⟨w,h,e⟩
  injection e with e1 e2
  injection e2 with e2 e3
  subst e1 e2 e3;exact h
 ·exact fun h=>⟨_,h,rfl⟩
theorem jf.turn{a b:β}{r:List Int}(h:jf (ws.map Fd) a r b):jf ws b r.reverse a:=by
 induction h with
 |nil p=>exact .nil p
 |cons h1 _ ih=>
  rw[LR];exact ih.snoc (QB.mp h1)
theorem jf.abG{a b:β}{r:List Int}(h:jf ws a r b):jf (ws.map Fd) b r.reverse a:=by
 induction h with
 |nil p=>exact .nil p
 |cons h1 _ ih=>
  rw[LR];exact ih.snoc (QB.mpr h1)
theorem sr.ais{st:List (β×Int)}(B:sr (ws.map Fd) s st){p:β}(h:xO ws s p):∃r,jf ws s r p∧r.length≤ws.length:=by
 obtain⟨r,h⟩:=h
 obtain⟨d,e,_⟩:=B.whole p _ h.abG
 obtain⟨r',h',l⟩:=B.sound p d e
 have:=B.few p d e;rw[aX] at this
 exact⟨_,h'.turn,by rw[ad7];omega⟩
def lexLe:List Int→List Int→Prop
 |[],_=>True
 |_::_,[]=>False
 |a::r,b::q=>a<b∨(a=b∧lexLe r q)
theorem Yb:∀{r q:List Int},r.length=q.length→lexLe r q→lexLe q r→r=q
 |[],[],_,_,_=>rfl
 |a::r,b::q,l,h,h'=>by
  have e:a=b:=by rcases h with h|h<;>rcases h' with h'|h'<;>omega
  subst e;rw[Yb (Xe l) (h.resolve_left (by omega)).2 (h'.resolve_left (by omega)).2]
def oR(ws:List (Int×β×β))(p s:β)(r:List Int):Prop:=jf ws p r s∧∀r',jf ws p r' s→r.length<r'.length∨(r.length=r'.length∧lexLe r r')
theorem oR.unique{p:β}{r r':List Int}(h:oR ws p s r)(h':oR ws p s r'):r=r':=by
 rcases h.2 r' h'.1 with l|⟨l,a⟩
 ·rcases h'.2 r h.1 with l'|⟨l',_⟩<;>omega
 ·rcases h'.2 r h.1 with l'|⟨_,b⟩
  ·omega
  ·exact Yb l a b
theorem oR.self(ws:List (Int×β×β))(s:β):oR ws s s []:=⟨.nil s,fun r' _=>by
 cases r' with
 |nil=>exact .inr ⟨rfl,trivial⟩
 |cons _ _=>exact .inl (HR _)⟩
theorem oR.go{p q:β}{n d:Int}{r:List Int}{st:List (β×Int)}(hU:∀w∈ws,∀w'∈ws,w.1=w'.1→w=w')(B:sr ws s st)(hp:bT st p=some d)(hw:(n,p,q)∈ws)(hq:∃e,bT st q=some e∧e<d)(hmin:∀n' q' e,(n',p,q')∈ws→bT st q'=some e→e<d→n≤n')(hr:oR ws q s r):oR ws p s (n::r):=by
 obtain⟨e,hq,hlt⟩:=hq
 obtain⟨r1,hr1,l1⟩:=B.sound q e hq
 have hle:r.length≤r1.length:=by rcases hr.2 r1 hr1 with h|h<;>omega
 refine⟨.cons hw hr.1,fun r' h'=>?_⟩
 obtain⟨d',e',hd'⟩:=B.whole p r' h'
 rw[hp] at e';cases e';rw[dH];cases h' with
 |nil=>
  simp only[Cq] at hd';omega
 |cons hw' hr'=>
  rename_i n' q' r';rw[dH] at hd'⊢
  obtain⟨e2,h2,l2⟩:=B.whole q' r' hr'
  by_cases hl:r.length<r'.length
  ·exact .inl (by omega)
  ·refine .inr ⟨by omega,?_⟩;have hn:=hmin n' q' e2 hw' h2 (by omega);by_cases hnn:n<n'
   ·exact .inl hnn
   ·have:n=n':=by omega
    subst this;have:=hU _ hw _ hw' rfl;cases this;refine .inr ⟨rfl,?_⟩;rcases hr.2 r' hr' with h|h
    ·omega
    ·exact h.2
end
end L2
namespace L2
open PySem PySem.Spec PyProof.Rows PySem.W
def zb:Option (Option Vl)→Option (List ao)
 |some (some (.ow (.list ds)))=>some ds
 |_=>none
theorem JL(h:zb x=some ds):x=some (some (.ow (.list ds))):=by
 unfold zb at h;split at h
 ·cases h;rfl
 ·cases h
def Tj(i j:Nat)(f:FB):FS:=fun env C=>(zb env[i]?).bind fun _=>(zb env[j]?).bind fun _=>(f env C).bind fun p=>(zb p.2.1[i]?).bind fun ds=>(zb p.2.1[j]?).bind fun es=>(intD p.1).bind fun k=>(if 0≤k∧k<LIM then es[k.toNat]? else none).bind fun y=>if ds.length<LIM∧i≠j then some (.nx,(p.2.1.set j (some (.ow (.list (es.eraseIdx k.toNat))))).set i (some (.ow (.list (ds++[y])))),p.2.2) else none
theorem YL:∀{ds:List ao}{vs:List V}(n:Nat),cD H ds vs→cD H (ds.eraseIdx n) (vs.eraseIdx n)
 |[],vs,n,r=>by
  have:vs=[]:=r;subst this;exact r
 |x::ds,vs,0,r=>by
  obtain⟨v,r',rfl,_,w⟩:=r
  exact w
 |x::ds,vs,n+1,r=>by
  obtain⟨v,r',rfl,q,w⟩:=r
  exact⟨v,_,rfl,q,YL n w⟩
theorem ajX(ho:PE X o (pR i))(ho2:PE X o2 (pR j))(he:PE X e (dF X.K f))
  (hs0:tK (.Call (.Attribute o "append" apos) [.Call (.Attribute o2 "pop" Bu) [e] [] uT] [] cpos) none pos.line X.env=pure false:=by rfl)
  (hbase:uC o "append" X.env (eval o X.env)=eval o X.env:=by rfl)
  (hfew:((fG cpos (aW [.Call (.Attribute o2 "pop" Bu) [e] [] uT] X.env)).all (fun x=>!x.1)&&(yo cpos (yf [] X.env)).all (fun x=>x.1.isSome)
   &&decide (([.Call (.Attribute o2 "pop" Bu) [e] [] uT]:List Expr).length+([]:List mV).length+(if([]:List mV).isEmpty then 0 else 1)<30))=true:=by rfl)
  (hline:(apos.endLine==cpos.line)=true:=by rfl)(hs:aW [.Call (.Attribute o2 "pop" Bu) [e] [] uT] X.env=(false,eval (.Call (.Attribute o2 "pop" Bu) [e] [] uT) X.env)::aW [] X.env:=by rfl)(hplain:(fG cpos (aW [] X.env)).any (·.1)=false:=by rfl)
  (alq:uC o2 "pop" X.env (eval o2 X.env)=eval o2 X.env:=by rfl)
  (al9:((fG uT (aW [e] X.env)).all (fun x=>!x.1)&&(yo uT (yf [] X.env)).all (fun x=>x.1.isSome)
   &&decide (([e]:List Expr).length+([]:List mV).length+(if([]:List mV).isEmpty then 0 else 1)<30))=true:=by rfl)
  (alr:(Bu.endLine==uT.line)=true:=by rfl)(hs2:aW [e] X.env=(false,eval e X.env)::aW [] X.env:=by rfl)(ajY:(fG uT (aW [] X.env)).any (·.1)=false:=by rfl):
  PS X (.Expr (.Call (.Attribute o "append" apos) [.Call (.Attribute o2 "pop" Bu) [e] [] uT] [] cpos) pos) (tS X.K (Tj i j f)):=
 (QL (Es Ln VF adD (rR.r Pa) ho
  (mU (Es Ln aeN PySem.F.type_list_pop (rR.r ahN) ho2 (mU he pH hs2) alq al9 alr hs2 ajY) pH hs) hbase hfew hline hs hplain) hs0).weak fun D σ H aL=>by
  obtain⟨Z,Θ,env,C,fl,env',C',S,hf,q⟩:=aL
  obtain⟨_,g1,hf⟩:=mH.mp hf
  obtain⟨_,g2,hf⟩:=mH.mp hf
  obtain⟨p,g3,hf⟩:=mH.mp hf
  obtain⟨ds,g4,hf⟩:=mH.mp hf
  obtain⟨es,g5,hf⟩:=mH.mp hf
  obtain⟨k,g6,hf⟩:=mH.mp hf
  obtain⟨y,g7,hf⟩:=mH.mp hf
  split at hf
  case isFalse=>cases hf
  rename_i g8;split at g7
  case isFalse=>cases g7
  rename_i g9;cases hf
  obtain⟨v0,qN,a,rfl,BV,ha0,r0⟩:=S.slot i _ (JL g1)
  obtain⟨v1,ev1,b,rfl,vs1,ha1,r1⟩:=S.slot j _ (JL g2)
  refine⟨_,qN,.inl ⟨rfl,BV,bL.of ha0⟩,_,ev1,.inl ⟨rfl,vs1,bL.of ha1⟩,Z,Θ,env,C,p.1,p.2.1,p.2.2,S,g3,fun v H1 kk ff S1 bb=>?_⟩
  rw[JC g6] at bb;have bb:v=.int k:=bb;subst bb;have g4:=JL g4;have g5:=JL g5
  obtain⟨w0,ew0,a',ea,ws0,hw0,s0⟩:=S1.slot i _ g4
  obtain⟨w1,ew1,b',eb,Gx,hw1,s1⟩:=S1.slot j _ g5
  subst ea eb;rw[qN] at ew0;rw[ev1] at ew1;cases ew0;cases ew1
  obtain⟨yv,hy,ry⟩:=uJ s1 g7
  have hk:k.toNat<Gx.length:=(gZ.mp hy).1;have g9:0≤k∧k<1000000:=g9;have six:O9 k Gx.length=some k.toNat:=by
   exact an8 g9.1 (by omega)
  refine⟨b,Gx,k,k.toNat,yv,rfl,rfl,hw1,by omega,by omega,six,hy,?_⟩
  have w1:dI X.K Z Θ p.2.1 σ H1 Θ (p.2.1.set j (some (.ow (.list (es.eraseIdx k.toNat))))) p.2.2 σ (upd H1 b (.lst (Gx.eraseIdx k.toNat))):=S1.write g5 ev1 ⟨_,eU,YL _ s1⟩
  obtain⟨x0,ex0,a',ea,xs0,hx0,t0⟩:=w1.sm.slot i _ (show(p.2.1.set j (some (.ow (.list (es.eraseIdx k.toNat)))))[i]?=_ by rw[vA (fun z=>g8.2 z.symm)];exact g4)
  subst ea;rw[qN] at ex0;cases ex0
  refine⟨a,xs0,yv,rfl,rfl,hx0,by rw[iM t0,jq];have:ds.length<1000000:=g8.1;omega,?_⟩
  have ep:aU Z Θ (p.2.1.set j (some (.ow (.list (es.eraseIdx k.toNat))))) σ=aU Z Θ p.2.1 σ:=by show _++(_++_)=_;rw[Qm g5]
  have mp:b∈aU Z Θ p.2.1 σ:=jr.mpr (.inr (.inr (lJ.mpr ⟨j,_,g5,ev1⟩)));have ry':RZ (er (aU Z Θ (p.2.1.set j (some (.ow (.list (es.eraseIdx k.toNat))))) σ) (upd H1 b (.lst (Gx.eraseIdx k.toNat)))) y yv:=by rw[ep,JX mp];exact ry
  have w2:=w1.sm.write (o:=.lst (xs0++[yv])) (d':=.list (ds++[y])) (show(p.2.1.set j (some (.ow (.list (es.eraseIdx k.toNat)))))[i]?=_ by rw[vA (fun z=>g8.2 z.symm)];exact g4) qN ⟨_,eU,yu t0 ⟨yv,[],rfl,ry',rfl⟩⟩;exact q Θ σ _ (((dI.qM kk ff S1).trans w1).trans w2)
def ama(i j k:Nat)(ta:TA):TS:=fun D σ H=>ta σ H fun vs H1=>vs.length=3∧(∀v w z,vs=[v,w,z]→D.nx (((σ.set i (some v)).set j (some w)).set k (some z)) H1)
section
variable{X:Cx}{pos:Pos}
theorem ajZ{kt k2 nY}(hc:X.calm=true)(hN:X.N.Nodup)(hi:X.N[i]?=some x)(hj:X.N[j]?=some y)(hk:X.N[k]?=some z)(hij:i≠j)(hik:i≠k)(hjk:j≠k)
  (hx:X.env.scope.names.lookup x=some .local)(hy:X.env.scope.names.lookup y=some .local)(hz:X.env.scope.names.lookup z=some .local)(ha:PA X [a,b,c] ta)
  (hw:xZ [.Tuple [.Name x px,.Name y py,.Name z pz] kt pt] (.Tuple [a,b,c] k2 nY) X.env=pure (some [x,y,z]))
  (hs:xY [.Tuple [.Name x px,.Name y py,.Name z pz] kt pt] (.Tuple [a,b,c] k2 nY) pos.line X.env=pure false:=by rfl):
  PS X (.Assign [.Tuple [.Name x px,.Name y py,.Name z pz] kt pt] (.Tuple [a,b,c] k2 nY) pos) (ama i j k ta):=by
 intro pins s σ H D I h;rw[exec_Assign_arm];refine aJ (uB ?_);rw[hs];refine aJ (aY ?_);rw[if_neg (by decide)];refine aJ (Tuple_ (bu (ha _ pins s σ H _ I h) fun us s1 aL=>?_))
 obtain⟨vs,H1,I1,r1,l1,q1⟩:=aL
 cases r1 with
 |nil=>cases l1
 |cons rv r1=>
 cases r1 with
 |nil=>cases l1
 |cons rw' r1=>
 cases r1 with
 |nil=>cases l1
 |cons rz r1=>
 cases r1 with
 |cons _ _=>cases l1
 |nil=>
 rename_i v u1 w u2 zz u3;refine nq ?_ (by show 3≤bR;decide);have I2:Inv X pins σ H1 {s1 with heap:=s1.heap.push {cls:=.type "tuple",data:=.seq [u1,u2,u3].toArray}}:=I1.kept (t':=s1.toks) fun b o e=>cM _ e
 rw[hw];refine aJ (aY ?_);show aN (model X.prog X.w) X.A (do rule "assign.swapped-stores";let items ←unpackItems (.ref s1.heap.objs.size) 3 none;CJ [fun v=>uE X.env z v,fun v=>uE X.env y v,fun v=>uE X.env x v] items.reverse;pure O4) _ _ _;refine aJ (yh (aJ (unpackItems_tuple (items:=#[u1,u2,u3]) (I.ok.hd hc) (IsTup.new s1.heap _) fun h' hx'=>?_)));have I3:=I2.kept (h':=h') (t':=s1.toks) fun b o e=>hx' b o (dY (bZ e)) e
 show aN _ _ (CJ [fun v=>uE X.env z v,fun v=>uE X.env y v,fun v=>uE X.env x v] [u3,u2,u1] >>= fun _=>pure O4) _ _ _;refine aJ (assignInOrder_cons (Hj (tL I3 hN hk (.inl hz) rz (fun s2 I4=>?_) (.inr hz))));refine assignInOrder_cons (Hj (tL I4 hN hj (.inl hy) rw' (fun s3 I5=>?_) (.inr hy)));refine assignInOrder_cons (Hj (tL I5 hN hi (.inl hx) rv (fun s4 I6=>assignInOrder_nil (aY ?_)) (.inr hx)));rw[M8 _ _ (jX hij),M8 _ _ (jX hik),M8 _ _ (jX hjk)] at I6
 exact⟨_,H1,I6,q1 _ _ _ rfl⟩
theorem aj0{kt k2 nY}(hc:X.calm=true)(hN:X.N.Nodup)(hi:X.N[i]?=some x)(hj:X.N[j]?=some y)(hk:X.N[k]?=some z)(hij:i≠j)(hik:i≠k)(hjk:j≠k)
  (hx:X.env.scope.names.lookup x=some .local)(hy:X.env.scope.names.lookup y=some .local)(hz:X.env.scope.names.lookup z=some .local)(ha:PA X [a,b,c] (xN X.K g))
  (hw:xZ [.Tuple [.Name x px,.Name y py,.Name z pz] kt pt] (.Tuple [a,b,c] k2 nY) X.env=pure (some [x,y,z]))
  (hs:xY [.Tuple [.Name x px,.Name y py,.Name z pz] kt pt] (.Tuple [a,b,c] k2 nY) pos.line X.env=pure false:=by rfl):
  PS X (.Assign [.Tuple [.Name x px,.Name y py,.Name z pz] kt pt] (.Tuple [a,b,c] k2 nY) pos) (tS X.K (fPar [i,j,k] g)):=(ajZ hc hN hi hj hk hij hik hjk hx hy hz ha hw hs).weak fun D σ H aL=>by
 obtain⟨Z,Θ,env,C,fl,env',C',S,hf,q⟩:=aL
 unfold fPar at hf;split at hf
 case h_2=>cases hf
 rename_i xs e1 C1 h1;split at hf
 case isFalse=>cases hf
 rename_i hl;cases hf
 refine⟨Z,Θ,env,C,xs,e1,C',S,h1,fun vs as H1 k1 f1 n1 S1 a1=>⟨by rw[JF a1,←hl.1];rfl,fun v w zz e=>?_⟩⟩
 obtain⟨S2,o2⟩:=Q8 a1 hl.1 (bw.refl _) S1
 subst e;refine q Θ _ H1 ⟨jR.refl _ _,uI k1,fun b m=>?_,S2⟩;rcases o2 b m with m|m
 ·exact .inl (f1.own.subset m)
 ·exact .inr (n1 b m)
end
theorem ait(rel:KV kvs vs):∀{us:List Value},us.length=vs.length→(∀(i:Nat)(v:Value),us[i]?=some v→∃k x,vs[i]?=some (k,x)∧(jh P w).is k v=true)→Vals (kvs.map fun kv=>kV kv.1) us:=by
 induction rel with
 |nil=>
  intro us h2 h3;cases us with
  |nil=>exact .nil
  |cons _ _=>cases h2
 |@cons p w ps ws hp _ ih=>
  intro us h2 h3;cases us with
  |nil=>cases h2
  |cons u us=>
   refine .cons ?_ (ih (Xe h2) fun i v e=>h3 (i+1) v e)
   obtain⟨k,x,e1,e2⟩:=h3 0 u rfl
   have ek:k=p.1:=by rw[hp.1];exact congrArg Prod.fst (fX e1.symm)
   subst ek;exact YJ e2
section
variable{X:Cx}
theorem Wx(hc:X.calm=true):iQ X (.builtin "sorted") (fun xs H Q=>∃(d:aa)(kvs:List (Key×V))(ns:List Str),xs=[.ref d]∧H d=some (.dK kvs)∧kvs.map (·.1)=ns.map .inr∧ns.length<64∧∀(l:aa)(ns':List Str),H l=none→ns'.Perm ns→sortedS ns'=true→Q (.ref l) (upd H l (.lst (ns'.map V.str)))):=by
 intro pins s σ H xs us Q I r h
 obtain⟨d,kvs,ns,rfl,hd,hns,few,q⟩:=h
 obtain⟨u,rfl,ru⟩:=vals1 r
 cases ru
 obtain⟨z,lo,vs,rel,dd⟩:=I.hok d _ hd
 obtain⟨ep,da⟩:=dd.dictAt
 have lv:vs.length=kvs.length:=(Paired.length rel).symm;have ln:kvs.length=ns.length:=by have:=congrArg qU hns;simpa using this
 refine Vk kind_sorted plain_sorted entry_sorted (args_sorted1 _) ?_;unfold nF.«sorted»;refine aJ (m:=XX "sorted" 1 1 _) (aY (aJ (afQ (A:=X.A.in1) (kdl_dict (knd:=jh X.prog X.w) (ep:=ep) lo) (I.ok.hd hc) da (by rw[lv];exact z) fun h1 tk acc hsz kk hacc=>?_)));have hV:=ait (P:=X.prog) (w:=X.w) rel (us:=acc.toList) (by rw[kO];exact hacc.1) fun i v e=>hacc.2 i v (by rw[←Lq];exact e)
 have hV:Vals (ns.map V.str) acc.toList:=by
  rw[show ns.map V.str=(ns.map jE).map kV by rw[fO];rfl,←hns,fO];exact hV
 have hS:StrsAre acc.toList ns:=Ou hV;have lu:acc.toList.length=ns.length:=by rw[←hV.length,aX]
 refine aJ (Nf ?_ (by rw[jq];omega));have gL:(h1.push (seqObj "list" acc.toList.toArray 0)).get? h1.objs.size=some (seqObj "list" acc.toList.toArray 0):=iI _ rfl;refine aJ (nA (qP slot_list_sort ⟨_,gL,rfl⟩ entry_list_sort (list_sort_treeK strKind_oneLt gL hS.keysOf (fun v1 v2 rest e=>keyKind_strs (by rw[←e];exact hS)) (by omega) fun st hp1 hp2=>⟨_,rfl,?_⟩) (args_list_sort _)))
 obtain⟨ns',b1,b2,b3⟩:=sorted_out_str hS hp1 hp2
 obtain⟨c,gD⟩:=sortedHeap_at (out:=(arrOf st).map (·.2)) gL
 have kb:∀b o,s.heap.get? b=some o→(sortedHeap (h1.push (seqObj "list" acc.toList.toArray 0)) h1.objs.size acc.toList ((arrOf st).map (·.2))).get? b=some o:=fun b o e=>by
  have lb:b<h1.objs.size:=bZ (kk b o e);rw[sortedHeap_old (dY lb) (by rw[vJ];exact vG lb)];exact cM _ (kk b o e)
 exact aY ⟨_,rfl,.ref h1.objs.size,_,I.laid (o:=.lst (ns'.map V.str)) (t':=tk) kb hsz ⟨by rw[aX,b2.length_eq,jq];omega,((arrOf st).map (·.2)).toList,c,Pg b1,by rw[Array.toArray_toList];exact gD⟩,rfl,q _ ns' (I.hok.fresh hsz) b2 b3⟩
def Dz:List ao→Option Vl
 |[.dict kvs]=>(strsOf (kvs.map (·.1))).bind fun ns=>bif decide (ns.length<64) then some (.ow (.list ((nO strLt ns).map .str))) else none
 |_=>none
theorem YM:∀{kvs:List (ao×ao)}{ns:List Str},strsOf (kvs.map (·.1))=some ns→cO di kvs=some (ns.map .inr)
 |[],ns,h=>by cases h;rfl
 |(.str z,v)::kvs,ns,h=>by
  obtain⟨ns',h1,rfl⟩:∃ns',strsOf (kvs.map (·.1))=some ns'∧ns=z::ns':=by
   have h:(strsOf (cL z::kvs.map (·.1)))=some ns:=h;unfold strsOf at h;cases e:strsOf (kvs.map (·.1)) with
   |none=>rw[e] at h;cases h
   |some t=>rw[e] at h;cases h;exact⟨t,rfl,rfl⟩
  show cO di ((.str z,v)::kvs)=_;unfold cO;rw[YM h1];rfl
 |(.none,v)::kvs,ns,h=>by cases h
 |(.bool _,v)::kvs,ns,h=>by cases h
 |(.int _,v)::kvs,ns,h=>by cases h
 |(.list _,v)::kvs,ns,h=>by cases h
 |(.tuple _,v)::kvs,ns,h=>by cases h
 |(.dict _,v)::kvs,ns,h=>by cases h
theorem Z0{K:aG}:n6 K (fun xs H Q=>∃(d:aa)(kvs:List (Key×V))(ns:List Str),xs=[.ref d]∧H d=some (.dK kvs)∧kvs.map (·.1)=ns.map .inr∧ns.length<64∧∀(l:aa)(ns':List Str),H l=none→ns'.Perm ns→sortedS ns'=true→Q (.ref l) (upd H l (.lst (ns'.map V.str)))) Dz:=by
 intro Z Θ env C σ H xs ds res S b e Q q;refine hide fun GG gg=>?_
 unfold Dz at e;split at e
 case h_2=>cases e
 rename_i kvs
 obtain⟨ns,hns,e⟩:=ir e
 cases hl:decide (ns.length<64) with
 |false=>rw[hl] at e;cases e
 |true=>
 rw[hl] at e;cases e;have hl:=of_decide_eq_true hl
 obtain⟨v,rfl,bb⟩:=oO b
 obtain⟨a,vs,rfl,da,r⟩:=bb.dct
 have hk:=YM hns;rcases da with⟨ks,h1,ha⟩|⟨ks,⟨ne,h2⟩,ha⟩
 ·rw[hk] at h1;cases h1;have lz:vs.length=(ns.map (jE:Str→Key)).length:=by rw[Ds r,vU hk]
  refine gg ⟨a,_,ns,rfl,ha,by rw[List.map_fst_zip (by omega)],hl,fun l ns' hn p hp=>?_⟩;rw[abA p hp];exact q _ _ (aQ.upd hn) (uH S (Zj _) hn)
 ·exact absurd (vV hk h2) ne
end
def als(K:aG)(tl td:TE):TE:=fun σ H Q=>tl σ H fun x H1=>td σ H1 fun y H2=>∃(a:aa)(ns:List Int),x=.ref a∧y=.bl true∧bL K H2 a (ns.map V.int)∧ns.length<64∧∀(l:aa)(ns':List Int),H2 l=none→ns'.Perm ns→Ordered true ns'→Q (.ref l) (upd H2 l (.lst (ns'.map V.int)))
section
variable{X:Cx}{l de:Expr}{tl td:TE}{p pos kp:Pos}
theorem aiu(hc:X.calm=true)(hl:PE X l tl)(hd:PE X de td)(hg:Gl X "sorted")(hm:X.mg "sorted"=none)(he:aW [l] X.env=(false,eval l X.env)::aW [] X.env:=by rfl):PE X (.Call (.Name "sorted" p) [l] [⟨some "reverse",de,kp⟩] pos) (als X.K tl td):=by
 intro pins s σ H Q I h;refine Cg (tQ I hg hm (u:=.builtin "sorted") rfl ?_);have he2:fG pos (aW [l] X.env)=(false,eval l X.env)::fG pos (aW [] X.env):=by rw[he];rfl
 refine callWith_kw (e:=l) (rest:=[]) ?_ (he:=he2) (hplain:=by rw[he2];rfl);show aN _ _ (Dm (fG pos (aW [l] X.env))) _ _ s;rw[he];show aN _ _ (Dm ((false,eval l X.env)::fG pos (aW [] X.env))) _ _ s;refine Cd (bu (hl pins s σ H _ I h) fun v s1 ⟨x,H1,I1,r1,q1⟩=>G6 ?_);refine kws_cons (bu (hd pins s1 σ H1 _ I1 q1) fun u s2 ⟨y,H2,I2,r2,a,ns,ex,ey,ha,h64,q2⟩=>kws_nil ?_);subst ex ey;cases r1;cases r2
 obtain⟨its,rv,pl,_⟩:=I2.list ha
 have hi:IntsAre its ns:=intsAre_of rv;have hll:=rv.length;rw[aX] at hll;refine sorted_ints_rev (b:=true) pl.isList hi (by omega) fun out ns' a1 a2 a3=>?_
 obtain⟨e,he⟩:=sortedAll_at s2.heap its out
 have hz:ns'.length≤bR:=by rw[a2.length_eq,jq];omega
 exact⟨.ref (s2.heap.objs.size+1),_,I2.laid (o:=.lst (ns'.map V.int)) (t':=s2.toks) (fun _ _=>sortedAll_old) (vO _) ⟨by rw[aX];exact hz,out.toList,e,Pb a1,by simpa[seqObj] using he⟩,rfl,q2 _ ns' (I2.hok.fresh (vO _)) a2 a3⟩
end
def Ss(f g:FB):FE:=fun env C=>(f env C).bind fun p=>(g p.2.1 p.2.2).bind fun q=>(match p.1,q.1 with|.list ds,.bool true=>intsOf ds|_,_=>none).bind fun ns=>bif decide (ns.length<64) then some (.ow (.list ((nO ltI ns).reverse.map .int)),env,q.2.2) else none
theorem aiv{X:Cx}{l de:Expr}{f g:FB}{p pos kp:Pos}(hc:X.calm=true)(hl:PE X l (dF X.K f))(hd:PE X de (dF X.K g))(hg:Gl X "sorted")(hm:X.mg "sorted"=none)(he:aW [l] X.env=(false,eval l X.env)::aW [] X.env:=by rfl):
  PE X (.Call (.Name "sorted" p) [l] [⟨some "reverse",de,kp⟩] pos) (tE X.K (Ss f g)):=(aiu hc hl hd hg hm he).weak fun σ H Q aL=>by
 obtain⟨Z,Θ,env,C,r,env',C',S,hf,q⟩:=aL
 obtain⟨p1,h1,hf⟩:=ir hf
 obtain⟨p2,h2,hf⟩:=ir hf
 obtain⟨ns,hns,hf⟩:=ir hf
 cases h64:decide (ns.length<64) with
 |false=>rw[h64] at hf;cases hf
 |true=>
 rw[h64] at hf;cases hf;have h64:=of_decide_eq_true h64
 obtain⟨d1,e1,C1⟩:=p1
 obtain⟨d2,e2,C2⟩:=p2
 split at hns
 case h_2=>cases hns
 rename_i ds k1 k2;have k1:d1=.list ds:=k1;have k2:d2=.bool true:=k2;subst k1 k2
 refine⟨Z,Θ,env,C,_,e1,C1,S,h1,fun v H1 k1 f1 S1 b1=>⟨Z,Θ,e1,C1,_,e2,C2,S1,h2,fun w H2 k2 f2 S2 b2=>?_⟩⟩
 obtain⟨a,vs,rfl,ha,r⟩:=(b1.go S1 k2 f2).lst
 rw[Jm hns r] at ha
 refine⟨a,ns,rfl,b2,bL.of ha,h64,fun l' ns' hn p hp=>?_⟩
 have hp:ns'.Pairwise (·≥·):=hp;have e:ns'=(nO ltI ns).reverse:=by
  rw[←sortI (ns':=ns'.reverse) ((List.reverse_perm ns').trans p) (adV.mpr hp),List.reverse_reverse]
 rw[e];have kk:=k1.trans k2;exact q _ _ (kk.trans (aQ.upd hn)) (Fz.refl _) ((uH (S.go kk S2.cell) (ah7 _) hn).from kk)
inductive fZ(K:aG)(x:Str)(st:cZ):Prop
 |mk {f:aa} {oc:Value} {od an:Option aa} {osl:Array (Option Value)} {kV doc pm cdv ct:Value} (a:mQ K gF x=some (some (.ref f))) (l:K.lookup f=some ⟨oc,od,.func (ye x x (Ar st) (vZ st) (cV st) .none kV doc pm an cdv ct),osl⟩) (c:My K cdv x=true) (k:vI K (.ref f)=true):fZ K x st
abbrev Su(x:Str)(st:cZ)(ps:List Str):Prop:=∀(kV doc pm:Value)(an:Option aa)(cdv ct:Value)(us:List Value),us.length=ps.length→bindArgs (ye x x (Ar st) (vZ st) (cV st) .none kV doc pm an cdv ct) ⟨us,[]⟩=pure (ps.zip us)
section
variable{P:bh}{w:aZ}{K:aG}{mg:Str→Option Value}{base h:aV}{x:Str}{st:cZ}{k:Nat}{ps:List Str}{sp:Sp}
theorem fZ.has(d:fZ K x st)(X:K.In h)(G:h.Ns gF mg)(o:∀f fd,fL K x x st f fd→dw P w K mg base eY k f fd ps sp)(hb:Su x st ps):c7 P w K mg base x k ps sp:=by
 obtain⟨a,l,c,kp⟩:=d
 have F:=RP l c kp
 exact⟨_,_,Nh X G a,kp,F.binds hb,o _ _ F⟩
theorem fZ.amK(d:fZ K x st)(X:K.In h)(G:h.Ns gF mg)(o:∀f fd,mg x=some (.ref f)→vI K (.ref f)=true→Binds K fd ps []→fL K x x st f fd→c7 P w K mg base x k ps sp)(hb:Su x st ps):c7 P w K mg base x k ps sp:=by
 obtain⟨a,l,c,kp⟩:=d
 have F:=RP l c kp;exact o _ _ (Nh X G a) kp (F.binds hb) F
theorem fZ.law{y:Str}{fa:aa}(d:fZ K x st)(X:K.In h)(G:h.Ns gF mg)(hfa:mg x=some (.ref fa))(o:∀base f fd,fL K x x st f fd→dw P w K mg base eY k f fd [y] sp)(hb:Su x st [y]):
  ∃fd:dz,(∀(s:aC)(v:Value),yr s fd ⟨[v],[]⟩ [(y,v)])∧∀base:aV,K.In base→base.Ns gF mg→dw P w K mg base eY k fa fd [y] sp:=by
 obtain⟨a,l,c,kp⟩:=d
 have e:=hfa.symm.trans (Nh X G a);cases e
 exact⟨_,fun s v=>.of_eq (hb _ _ _ _ _ _ [v] rfl),fun base _ _=>o base _ _ (RP l c kp)⟩
theorem iY{B:List Value→Prop}(h:B []):∀us:List Value,us.length=0→B us
 |[],_=>h
theorem bW{n:Nat}{B:List Value→Prop}(h:∀a,∀us:List Value,us.length=n→B (a::us)):∀us:List Value,us.length=n+1→B us
 |a::us,e=>h a us (Xe e)
end
end L2
namespace U4
open PySem L2
def top(i:Nat):cZ:=PySem.Challenge.pw_rankseals_k22_widest_ways.main.body.getD i (.Pass ⟨0,0,0,0⟩)
abbrev HS:cZ:=top 1
theorem Hw:gG (["house","part","outer","over"]:List Str) (["house","part"]:List Str) (cV HS):=⟨rfl,rfl,rfl,by decide +kernel,rfl,by decide +kernel,by decide +kernel⟩
abbrev QC:cZ:=top 3
theorem aho:gG (["house","paper","holder","signer","day"]:List Str) (["house","paper","holder","signer","day"]:List Str) (cV QC):=⟨rfl,rfl,rfl,by decide +kernel,rfl,by decide +kernel,by decide +kernel⟩
abbrev Pu:cZ:=top 4
theorem agt:gG (["paper","person"]:List Str) (["paper","person"]:List Str) (cV Pu):=⟨rfl,rfl,rfl,by decide +kernel,rfl,by decide +kernel,by decide +kernel⟩
abbrev I9:cZ:=top 5
theorem Yc:gG (["house","paper","day","over"]:List Str) (["house","paper","day"]:List Str) (cV I9):=⟨rfl,rfl,rfl,by decide +kernel,rfl,by decide +kernel,by decide +kernel⟩
abbrev Oc:cZ:=top 6
theorem CT:gG (["ways","holder","signer","steps","row","number"]:List Str) (["ways","holder","signer"]:List Str) (cV Oc):=⟨rfl,rfl,rfl,by decide +kernel,rfl,by decide +kernel,by decide +kernel⟩
abbrev HW:cZ:=top 7
theorem afe:gG (["ways","steps","person"]:List Str) (["ways","steps","person"]:List Str) (cV HW):=⟨rfl,rfl,rfl,by decide +kernel,rfl,by decide +kernel,by decide +kernel⟩
abbrev Ir:cZ:=top 8
theorem yg:gG (["ways","signer","steps","newest","many","person"]:List Str) (["ways","signer"]:List Str) (cV Ir):=⟨rfl,rfl,rfl,by decide +kernel,rfl,by decide +kernel,by decide +kernel⟩
abbrev Px:cZ:=top 11
theorem Iu:gG (["house","part","sides","holder","signer","day","asker","getter","amount"]:List Str) (["house","part","sides","holder","signer","day"]:List Str) (cV Px):=⟨rfl,rfl,rfl,by decide +kernel,rfl,by decide +kernel,by decide +kernel⟩
abbrev Hz:cZ:=top 12
theorem Wy:gG (["house","bounds"]:List Str) (["house"]:List Str) (cV Hz):=⟨rfl,rfl,rfl,by decide +kernel,rfl,by decide +kernel,by decide +kernel⟩
abbrev Sv:cZ:=top 14
theorem aaU:gG (["_law_cell","_law_k","_law_m"]:List Str) (["_law_cell","_law_k"]:List Str) (cV Sv):=⟨rfl,rfl,rfl,by decide +kernel,rfl,by decide +kernel,by decide +kernel⟩
abbrev Ni:cZ:=top 15
theorem Wz:gG (["_law_script","_law_k","_law_cell"]:List Str) (["_law_script","_law_k"]:List Str) (cV Ni):=⟨rfl,rfl,rfl,by decide +kernel,rfl,by decide +kernel,by decide +kernel⟩
abbrev Rm:cZ:=top 16
theorem Z1:gG (["_law_left","_law_many","_law_digit"]:List Str) (["_law_left","_law_many"]:List Str) (cV Rm):=⟨rfl,rfl,rfl,by decide +kernel,rfl,by decide +kernel,by decide +kernel⟩
abbrev DG:cZ:=top 17
theorem aiw:gG (["_law_found","_law_due"]:List Str) (["_law_found","_law_due"]:List Str) (cV DG):=⟨rfl,rfl,rfl,by decide +kernel,rfl,by decide +kernel,by decide +kernel⟩
abbrev vL:cZ:=top 18
theorem o7:gG (["_law_left","_law_many","_law_letters","_law_head","_law_tail","_law_first","_law_by","_law_stem","_law_found","_law_size","_law_k","_law_value","_law_two"]:List Str) (["_law_left","_law_many"]:List Str) (cV vL):=⟨rfl,rfl,rfl,by decide +kernel,rfl,by decide +kernel,by decide +kernel⟩
abbrev Od:cZ:=top 19
theorem Xf:gG (["_law_left","_law_things","_law_rest","_law_found"]:List Str) (["_law_left","_law_things"]:List Str) (cV Od):=⟨rfl,rfl,rfl,by decide +kernel,rfl,by decide +kernel,by decide +kernel⟩
abbrev Oe:cZ:=top 20
theorem Xg:gG (["_law_left","_law_first"]:List Str) (["_law_left"]:List Str) (cV Oe):=⟨rfl,rfl,rfl,by decide +kernel,rfl,by decide +kernel,by decide +kernel⟩
abbrev Og:cZ:=top 21
theorem afA:gG (["_law_left"]:List Str) (["_law_left"]:List Str) (cV Og):=⟨rfl,rfl,rfl,by decide +kernel,rfl,by decide +kernel,by decide +kernel⟩
abbrev Nj:cZ:=top 22
theorem Hq:gG (["_law_left","_law_names","_law_found","_law_k","_law_name"]:List Str) (["_law_left","_law_names"]:List Str) (cV Nj):=⟨rfl,rfl,rfl,by decide +kernel,rfl,by decide +kernel,by decide +kernel⟩
abbrev Nk:cZ:=top 23
theorem MP:gG (["_law_parts","_law_part","_law_found"]:List Str) (["_law_parts","_law_part"]:List Str) (cV Nk):=⟨rfl,rfl,rfl,by decide +kernel,rfl,by decide +kernel,by decide +kernel⟩
abbrev Py:cZ:=top 24
theorem Iv:gG (["_law_left","_law_many","_law_found","_law_last","_law_k"]:List Str) (["_law_left","_law_many"]:List Str) (cV Py):=⟨rfl,rfl,rfl,by decide +kernel,rfl,by decide +kernel,by decide +kernel⟩
abbrev MT:cZ:=top 25
theorem uA:gG (["_law_left","_law_parts","_law_people","_law_many","_law_paper","_law_day","_law_found","_law_over","_law_number","_law_at","_law_to","_law_part","_law_days","_law_most"]:List Str) (["_law_left","_law_parts","_law_people","_law_many","_law_paper","_law_day"]:List Str) (cV MT):=⟨rfl,rfl,rfl,by decide +kernel,rfl,by decide +kernel,by decide +kernel⟩
abbrev Oh:cZ:=top 26
theorem afB:gG (["_law_parts","_law_leaves"]:List Str) (["_law_parts","_law_leaves"]:List Str) (cV Oh):=⟨rfl,rfl,rfl,by decide +kernel,rfl,by decide +kernel,by decide +kernel⟩
abbrev Ro:cZ:=top 27
theorem uG:gG (["_law_left","_law_most","_law_names","_law_parts","_law_people","_law_some","_law_sides","_law_part","_law_paper","_law_day"]:List Str) (["_law_left","_law_most"]:List Str) (cV Ro):=⟨rfl,rfl,rfl,by decide +kernel,rfl,by decide +kernel,by decide +kernel⟩
abbrev Rp:cZ:=top 28
theorem aix:gG (["_law_parts","_law_paper","_law_day","_law_leave"]:List Str) (["_law_parts","_law_paper","_law_day","_law_leave"]:List Str) (cV Rp):=⟨rfl,rfl,rfl,by decide +kernel,rfl,by decide +kernel,by decide +kernel⟩
abbrev HX:cZ:=top 29
theorem CP:gG (["_law_parts","_law_leaves","_law_paper","_law_holder","_law_day","_law_best","_law_steps","_law_turn","_law_leave"]:List Str) (["_law_parts","_law_leaves","_law_paper","_law_holder","_law_day"]:List Str) (cV HX):=⟨rfl,rfl,rfl,by decide +kernel,rfl,by decide +kernel,by decide +kernel⟩
abbrev M3:cZ:=top 30
theorem mO:gG (["_law_left","_law_names","_law_many","_law_parts","_law_people","_law_part","_law_day","_law_wide","_law_leaves","_law_k","_law_way","_law_base","_law_number","_law_most","_law_house","_law_turn","_law_at","_law_to","_law_due"]:List Str) (["_law_left"]:List Str) (cV M3):=⟨rfl,rfl,rfl,by decide +kernel,rfl,by decide +kernel,by decide +kernel⟩
abbrev Tn:cZ:=top 31
theorem pL:gG (["_law_script","_law_k","_law_left","_law_parts","_law_people","_law_leaves","_law_paper","_law_day","_law_house","_law_some","_law_kept","_law_holder","_law_due","_law_signer"]:List Str) (["_law_script"]:List Str) (cV Tn):=⟨rfl,rfl,rfl,by decide +kernel,rfl,by decide +kernel,by decide +kernel⟩
structure Txt(K:aG)(mg:Str→Option Value)(cH:Tok):Prop where
 Kg:mg "abs"=none
 Tp:mg "all"=none
 Ek:mg "bool"=none
 Oi:mg "enumerate"=none
 Bv:mg "int"=none
 oE:mg "isinstance"=none
 lV:mg "len"=none
 Be:mg "list"=none
 Fe:mg "max"=none
 uh:mg "min"=none
 oH:mg "range"=none
 yp:mg "sorted"=none
 yR:mg "str"=none
 yx:mg "tuple"=none
 Tq:mg "zip"=none
 WD:mg "GREATEST_SUM"=some (.int 1000000000 cH)
@[reducible] def Wk:FT:=(fTst (aD jP (au 1) (au 2)))
@[reducible] def Wl:FS:=(fSeq (jy 3 (fVar 1)) (fSet 1 (aD bf (au 2) (au 1))))
@[reducible] def Mw:FE:=(fVar 0)
@[reducible] def Mx:FE:=(fVar 1)
@[reducible] def Nz:FS:=(fSeq (fSet 2 (Gr (iB2 (aj (aD bf (au 0) (aj (fCst (.int 0)))))) (.many 2) je Mw Mx [])) (fSeq (fSet 3 (fLst aNil)) (fSeq (rW Wk Wl) (fRetV 3))))
def HY:FN:=fN 2 4 Nz
@[reducible] def Pz:FS:=(fRet (aD jP (au 1) (aj (dj (au 0) (cN (aj (fCst (.int 2)))) (cN (aj (fCst (.int 4))))))))
def vQ:FN:=fN 2 2 Pz
@[reducible] def NB:FT:=(mW (fTst (aD jP (au 3) (au 7))) (mW (fTst (wX oV oV (au 4) (au 8) (au 5))) (mW (fTst (aD oV (aj (aD bf (au 9) (aj (fCst (.int 1))))) (au 6))) (mW (uQ (fTru (aj (fCal vQ (aCons (fVar 9) (aCons (fVar 1) aNil)))))) (uQ (fTru (aj (fCal vQ (aCons (fVar 9) (aCons (fVar 2) aNil))))))))))
@[reducible] def NK:FE:=(fTup (aCons (fVar 0) (aCons (fVar 1) (aCons (fVar 2) aNil))))
@[reducible] def PB:FS:=(fSeq (fSet 3 (fCal HY (aCons (fVar 0) (aCons (aD bf (au 1) (aj (fCst (.int 0)))) aNil)))) (fRet (fLC (iB2 (aj (aD bf (au 0) (aj (fCst (.int 2)))))) (.many 7) NB NK [3,2,1])))
def De:FN:=fN 3 4 PB
@[reducible] def W0:FS:=(pU 2 (au 5) (fVar 4))
@[reducible] def W2:FT:=(mW (fTst (aD jP (au 2) (au 3))) (fTst (aD pD (au 1) (au 4))))
@[reducible] def W3:FE:=(fVar 1)
@[reducible] def W4:FT:=(fTru (au 3))
@[reducible] def W5:FS:=(fSeq (Kr 4 (aj (fCst (.int 1)))) (fSeq (fSet 3 (Gs (iB2 (au 0)) (.many 3) W2 W3 [3,2])) (fU (iV (fVar 3)) (gNm 5) W0)))
@[reducible] def O1:FS:=(fSeq (fSet 2 (wR (au 1) (fCst (.int 0)))) (fSeq (fSet 3 (fLst (aCons (fVar 1) aNil))) (fSeq (fSet 4 (fCst (.int 0))) (fSeq (rW W4 W5) (fRetV 2)))))
def Iw:FN:=fN 2 6 O1
@[reducible] def Wm:FT:=(mW (fTst (aD mj (au 1) (au 3))) (mW (fTst (aD jP (au 2) (au 4))) (fTst (aD uZ (aj (aD bf (au 4) (au 2))) (aj (aD bf (au 4) (au 3)))))))
@[reducible] def Wn:FE:=(fTup (aCons (fVar 0) (aCons (fVar 2) aNil)))
@[reducible] def NP:FS:=(fRet (fFun J1 (bCons (aj (fLC (iB2 (au 0)) (.many 3) Wm Wn [2,1])) bNil)))
def H9:FN:=fN 3 3 NP
@[reducible] def WK:FT:=(fTst (aD mC (au 1) (au 2)))
@[reducible] def WL:FS:=(fSeq (fUnp (fCal H9 (aCons (fVar 0) (aCons (fVar 3) (aCons (fVar 1) aNil)))) (gTp 2 (gsCons (gNm 5) (gsCons (gNm 1) gsNil)))) (jy 4 (fVar 5)))
@[reducible] def Ig:FS:=(fSeq (fSet 3 (fCal Iw (aCons (fVar 0) (aCons (fVar 2) aNil)))) (fSeq (jx (fTst (aD pD (au 1) (au 3))) (fRet (fCst .none)) fNext) (fSeq (fSet 4 (fLst aNil)) (fSeq (rW WK WL) (fRetV 4)))))
def Ih:FN:=fN 3 6 Ig
@[reducible] def Dk:FS:=(fSeq (jx (rN (fTru (aj (fCal vQ (aCons (fVar 1) (aCons (fVar 2) aNil))))) (fTru (aj (fCal vQ (aCons (fVar 1) (aCons (fVar 3) aNil)))))) (fRet (fCst .none)) fNext) (fRet (fCal Ih (aCons (fCal De (aCons (fVar 0) (aCons (fVar 1) (aCons (fVar 4) aNil)))) (aCons (fVar 2) (aCons (fVar 3) aNil))))))
def Ju:FN:=fN 5 5 Dk
@[reducible] def Wb:FE:=(fFun pK (bCons (aj (aD bf (au 0) (aj (fCst (.int 6))))) (bCons (aj (fCst (.int 1000000000))) bNil)))
@[reducible] def Nm:FS:=(fSeq (fSet 1 (fLC (iB (aj (aD bf (au 0) (aj (fCst (.int 2)))))) .one je Wb [])) (fRet (Ss (aj (aD bO (aj (fLst (aCons (fCst (.int 1000000000)) aNil))) (au 1))) (aj (fCst (.bool true))))))
def HB:FN:=fN 1 2 Nm
@[reducible] def Xh:FS:=(jx (fTst (aD Ed (aj (fCal Ju (aCons (fVar 0) (aCons (fTup (aCons (fVar 1) (aCons (fVar 8) (aCons (fVar 6) (aCons (fVar 7) aNil))))) (aCons (fVar 3) (aCons (fVar 4) (aCons (fVar 5) aNil))))))) (aj (fCst .none)))) (fRetV 8) fNext)
@[reducible] def Ja:FS:=(fSeq (fUnp (fVar 2) (gTp 2 (gsCons (gNm 6) (gsCons (gNm 7) gsNil)))) (fSeq (fU (iV (fCal HB (aCons (fVar 0) aNil))) (gNm 8) Xh) (fRet (fCst .none))))
def Al:FN:=fN 6 9 Ja
@[reducible] def Sw:FS:=(fSeq (fSet 2 (aD jw (aj (aD fQ (aj (aD bO (aj (aD bO (aj (aD jw (au 0) (aj (fCst (.int 2147483629))))) (aj (aD fQ (aj (aD fQ (au 1) (au 1))) (aj (fCst (.int 7919))))))) (aj (fCst (.int 11))))) (aj (fCst (.int 48271))))) (aj (fCst (.int 2147483647))))) (fRet (aD jw (aj (aD fQ (au 2) (au 2))) (aj (fCst (.int 1999999973))))))
def El:FN:=fN 2 3 Sw
@[reducible] def Np:FS:=(fSeq (fSet 2 (rO (fTst (aD uZ (au 1) (aj (wN 0)))) (Fq 0 (au 1)) (fCst (.int 0)))) (fRet (fLst (aCons (aD bf (aj (fLst (aCons (fCst (.int 0)) (aCons (fFun Ew (bCons (au 2) bNil)) aNil)))) (aj (fFun wO (bCons (aj (aD Km (aj (fFun Ew (bCons (au 2) bNil))) (aj (aD oM (aj (fCst (.int 10))) (aj (fCst (.int 18))))))) bNil)))) (aCons (aD bO (au 2) (aj (aD fQ (aj (fCst (.int 1000003))) (au 1)))) (aCons (fCst (.int 0)) aNil))))))
def HD:FN:=fN 2 3 Np
@[reducible] def JM:FS:=(fSeq (pU 0 (aj (fCst (.int 2))) (aD bO (aj (rP 0 (aj (fCst (.int 2))))) (aj (fCst (.int 1))))) (fSeq (jx (fTst (aD u5 (aj (rP 0 (aj (fCst (.int 0))))) (aj (fCst (.int 0))))) (fSeq (fSet 2 (aD jw (aj (rP 0 (aj (fCst (.int 0))))) (au 1))) (fSeq (pU 0 (aj (fCst (.int 0))) (aD wC (aj (rP 0 (aj (fCst (.int 0))))) (au 1))) (fRetV 2))) fNext) (fRet (aD jw (aj (aD wC (aj (fCal El (aCons (fCal El (aCons (rP 0 (aj (fCst (.int 1)))) (aCons (rP 0 (aj (fCst (.int 2)))) aNil))) (aCons (aD bO (aj (rP 0 (aj (fCst (.int 2))))) (aj (fCst (.int 64)))) aNil)))) (aj (fCst (.int 64))))) (au 1)))))
def bQ:FN:=fN 2 3 JM
@[reducible] def agu(Rq:FN):FE:=(fCal Rq (aCons (fVar 0) (aCons (fVar 1) aNil)))
@[reducible] def Rr(Rq:FN):FS:=(fSeq (jx (fTru (aj (Ke "list" "tuple" (au 1)))) (fSeq (jx (rN (fTst (aD mC (aj (oW "list" (au 0))) (aj (oW "list" (au 1))))) (fTst (aD mC (aj (oW "tuple" (au 0))) (aj (oW "tuple" (au 1)))))) (fRet (fCst (.bool false))) fNext) (fRet (uc (aD mj (aj (fFun jN (bCons (au 0) bNil))) (aj (fFun jN (bCons (au 1) bNil)))) (fFun Tf (bCons (aj (fLC (U0 (bCons (au 0) (bCons (au 1) bNil))) (.many 2) je (agu Rq) [])) bNil))))) fNext) (fSeq (jx (rN (fTst (aD J9 (au 1) (aj (fCst .none)))) (fTru (aj (oW "str" (au 1))))) (fRet (uc (aD mj (au 0) (au 1)) (aD mj (aj (oW "str" (au 0))) (aj (oW "str" (au 1)))))) fNext) (fSeq (jx (fTru (aj (oW "bool" (au 1)))) (fRet (uc (oW "bool" (au 0)) (aD mj (au 0) (au 1)))) fNext) (fRet (uc (oW "int" (au 0)) (uc (Ka (oW "bool" (au 0))) (aD mj (au 0) (au 1))))))))
def qj:Nat→FN
 |0=>Tg
 |n+1=>fN 2 2 (Rr (qj n))
@[reducible] def zN:FS:=(fSeq (fSet 11 (aD jw (aj (aD bO (au 5) (aj (aD fQ (au 6) (au 10))))) (aj (fCst (.int 676))))) (fSeq (fSet 12 (aD bO (aj (aD bf (au 2) (aj (aD wC (au 11) (aj (fCst (.int 26))))))) (aj (aD bf (au 2) (aj (aD jw (au 11) (aj (fCst (.int 26))))))))) (jy 8 (aD bO (aj (aD bO (au 3) (au 12))) (aj (dj (au 4) fV (cN (aj (aD jw (aj (aD bO (aj (aD fQ (au 10) (au 10))) (au 5))) (aj (fCst (.int 4))))))))))))
@[reducible] def Hf:FE:=(aD bf (au 1) (aj (aD jw (aj (aD bO (au 2) (aj (aD fQ (au 3) (au 0))))) (aj (fCst (.int 26))))))
@[reducible] def Mm:FE:=(dj (au 1) (cN (au 0)) (cN (aj (aD bO (au 0) (au 2)))))
@[reducible] def zO:FS:=(Kv 8 (aj (fLC (gY (aj (aD nJ (aj (fCst (.int 9))) (au 9)))) .one je Mm [7,9])))
@[reducible] def Hg:FE:=(aD bf (au 1) (aj (aD jw (aj (aD bO (au 2) (aj (aD fQ (aj (fCst (.int 5))) (au 0))))) (aj (fCst (.int 26))))))
@[reducible] def Mp:FE:=(aD bf (au 1) (aj (fCal bQ (aCons (fVar 2) (aCons (fCst (.int 26)) aNil)))))
@[reducible] def Mq:FE:=(aD bf (au 1) (aj (fCal bQ (aCons (fVar 2) (aCons (fCst (.int 26)) aNil)))))
@[reducible] def CQ:FS:=(fSeq (fSet 2 (fCst (.str (fD "abcdefghijklmnopqrstuvwxyz")))) (fSeq (fSet 3 (rJ (aj (fCst (.str (fD "")))) (aj (fLC (gY (aj (fCal bQ (aCons (fVar 0) (aCons (fCst (.int 4)) aNil))))) .one je Mq [2,0])))) (fSeq (fSet 4 (rJ (aj (fCst (.str (fD "")))) (aj (fLC (gY (aj (fCal bQ (aCons (fVar 0) (aCons (fCst (.int 4)) aNil))))) .one je Mp [2,0])))) (fSeq (fPar [5,6] (oCons (fCal bQ (aCons (fVar 0) (aCons (fCst (.int 676)) aNil))) (oCons (aD bf (aj (fLst (aCons (fCst (.int 1)) (aCons (fCst (.int 3)) (aCons (fCst (.int 5)) (aCons (fCst (.int 7)) (aCons (fCst (.int 25)) (aCons (fCst (.int 675)) aNil)))))))) (aj (fCal bQ (aCons (fVar 0) (aCons (fCst (.int 6)) aNil))))) aNil))) (fSeq (jx (fTst (aD mj (aj (fCal bQ (aCons (fVar 0) (aCons (fCst (.int 4)) aNil)))) (aj (fCst (.int 0))))) (fSeq (fPar [7,8] (oCons (rJ (aj (fCst (.str (fD "")))) (aj (fLC (gY (aj (fCst (.int 8)))) .one je Hg [2,5]))) (oCons (fLst aNil) aNil))) (fSeq (fU (Fw (aj (fCst (.int 1))) (aj (fCst (.int 9)))) (gNm 9) zO) (fRet (dj (au 8) fV (cN (au 1)))))) fNext) (fSeq (jx (mW (fTst (aD uZ (au 1) (aj (fCst (.int 27))))) (fTst (aD mj (aj (fCal bQ (aCons (fVar 0) (aCons (fCst (.int 3)) aNil)))) (aj (fCst (.int 0)))))) (fRet (fLC (gY (au 1)) .one je Hf [2,5,6])) fNext) (fSeq (fSet 8 (fLst aNil)) (fSeq (fU (gY (au 1)) (gNm 10) zN) (fRetV 8)))))))))
def zW:FN:=fN 2 13 CQ
@[reducible] def WM:FT:=(fTst (aD mC (au 2) (aj (fLst aNil))))
@[reducible] def WN:FS:=(Tj 3 2 (aj (fCal bQ (aCons (fVar 0) (aCons (fFun jN (bCons (au 2) bNil)) aNil)))))
@[reducible] def Oj:FS:=(fSeq (fPar [2,3] (oCons (fFun JK (bCons (au 1) bNil)) (oCons (fLst aNil) aNil))) (fSeq (rW WM WN) (fRetV 3)))
def CV:FN:=fN 2 4 Oj
@[reducible] def Ol:FS:=(fSeq (fSet 1 (aD bf (aj (fLst (aCons (fCal bQ (aCons (fVar 0) (aCons (fCst (.int 9)) aNil))) (aCons (fCal bQ (aCons (fVar 0) (aCons (fCst (.int 9)) aNil))) (aCons (aD nJ (aj (fCst (.int 99990))) (aj (fCal bQ (aCons (fVar 0) (aCons (fCst (.int 9)) aNil))))) aNil))))) (aj (fCal bQ (aCons (fVar 0) (aCons (fCst (.int 3)) aNil)))))) (fRet (fTup (aCons (fVar 1) (aCons (fFun pK (bCons (aj (fCst (.int 99999))) (bCons (aj (aD bO (au 1) (aj (aD bf (aj (fLst (aCons (fCst (.int 0)) (aCons (fCal bQ (aCons (fVar 0) (aCons (fCst (.int 12)) aNil))) (aCons (fCst (.int 99999)) aNil))))) (aj (fCal bQ (aCons (fVar 0) (aCons (fCst (.int 3)) aNil)))))))) bNil))) aNil)))))
def Ad:FN:=fN 1 2 Ol
@[reducible] def Om:FS:=(fRet (aD bf (aj (fLst (aCons (fCal bQ (aCons (fVar 0) (aCons (fCst (.int 4)) aNil))) (aCons (aD bO (aj (fCst (.int 100))) (aj (fCal bQ (aCons (fVar 0) (aCons (fCst (.int 4)) aNil))))) (aCons (aD nJ (aj (aD oM (aj (fCst (.int 10))) (aj (fCst (.int 9))))) (aj (fCal bQ (aCons (fVar 0) (aCons (fCst (.int 3)) aNil))))) aNil))))) (aj (fCal bQ (aCons (fVar 0) (aCons (fCst (.int 3)) aNil))))))
def Ae:FN:=fN 1 1 Om
@[reducible] def Cp:FS:=(pU 2 (au 4) (aD bf (aj (aD bO (aj (fLst (aCons (fCst (.str (fD ""))) aNil))) (aj (dj (au 1) fV (cN (au 3)))))) (aj (rO (fTst (aD u5 (aj (fCal bQ (aCons (fVar 0) (aCons (fCst (.int 4)) aNil)))) (aj (fCst (.int 0))))) (fCal bQ (aCons (fVar 0) (aCons (aD bO (au 3) (aj (fCst (.int 1)))) aNil))) (fCst (.int 0))))))
@[reducible] def Nq:FS:=(fSeq (fSet 2 yF) (fSeq (fU (K7 (fVar 1)) (gTp 2 (gsCons (gNm 3) (gsCons (gNm 4) gsNil))) Cp) (fRetV 2)))
def zX:FN:=fN 2 5 Nq
@[reducible] def Wc:FT:=(fTst (aD jP (au 1) (au 0)))
@[reducible] def Wd:FS:=(fSeq (jy 2 (fVar 1)) (fSet 1 (aD bf (au 0) (au 1))))
@[reducible] def Nr:FS:=(fSeq (fSet 2 (fLst aNil)) (fSeq (rW Wc Wd) (fRetV 2)))
def zY:FN:=fN 2 3 Nr
@[reducible] def NQ:FS:=(fSeq (jy 2 (fVar 3)) (fSet 3 (aD bO (aj (aD bO (au 3) (aj (fCst (.int 1))))) (aj (aD fQ (aj (fCal bQ (aCons (fVar 0) (aCons (fCst (.int 2)) aNil)))) (aj (fCal bQ (aCons (fVar 0) (aCons (fCst (.int 3)) aNil)))))))))
@[reducible] def PJ:FS:=(fSeq (fPar [2,3] (oCons (fLst aNil) (oCons (fCal bQ (aCons (fVar 0) (aCons (fCst (.int 3)) aNil))) aNil))) (fSeq (fU (gY (au 1)) (gNm 4) NQ) (fRetV 2)))
def Jb:FN:=fN 2 5 PJ
@[reducible] def xQ:FS:=(fSeq (fSet 9 (fCal bQ (aCons (fVar 0) (aCons (fFun jN (bCons (au 2) bNil)) aNil)))) (fSeq (fSet 10 (aD jw (aj (aD bO (aj (aD bO (au 9) (aj (fCst (.int 1))))) (aj (aD fQ (aj (fCal bQ (aCons (fVar 0) (aCons (aD nJ (aj (fFun jN (bCons (au 2) bNil))) (aj (fCst (.int 1)))) aNil)))) (aj (fCal bQ (aCons (fVar 0) (aCons (fCst (.int 2)) aNil)))))))) (aj (fFun jN (bCons (au 2) bNil))))) (fSeq (fPar [11,12,13] (oCons (aD bf (aj (fFun Dz (bCons (au 1) bNil))) (aj (fCal bQ (aCons (fVar 0) (aCons (fFun jN (bCons (au 1) bNil)) aNil))))) (oCons (fCal Ad (aCons (fVar 0) aNil)) (oCons (fCal Ae (aCons (fVar 0) aNil)) aNil)))) (fSeq (jx (mW (fTst (aD u5 (aj (fCal bQ (aCons (fVar 0) (aCons (fCst (.int 3)) aNil)))) (aj (fCst (.int 0))))) (fTst (aD mC (au 7) (aj (fLst aNil))))) (fSeq (fSet 11 (aD bf (au 7) (aj (fCal bQ (aCons (fVar 0) (aCons (fFun jN (bCons (au 7) bNil)) aNil)))))) (fSeq (fSet 12 (fTup (aCons (fFun tX (bCons (aj (fCst (.int 0))) (bCons (aj (aD nJ (au 5) (aj (fCal bQ (aCons (fVar 0) (aCons (fCst (.int 2)) aNil)))))) bNil))) (aCons (fFun pK (bCons (aj (fCst (.int 99999))) (bCons (aj (aD bO (au 5) (aj (fCal bQ (aCons (fVar 0) (aCons (fCst (.int 2)) aNil)))))) bNil))) aNil)))) (fSet 13 (fFun pK (bCons (aj (aD oM (aj (fCst (.int 10))) (aj (fCst (.int 9))))) (bCons (aj (aD bO (aj (aD bf (au 4) (aj (fCst (.int 1))))) (aj (fCal bQ (aCons (fVar 0) (aCons (fCst (.int 2)) aNil)))))) bNil)))))) fNext) (jy 6 (aD bO (aj (aD bO (aj (fTup (aCons (fVar 8) (aCons (aD bf (au 2) (au 9)) (aCons (aD bf (au 2) (au 10)) (aCons (fVar 11) aNil)))))) (au 12))) (aj (fTup (aCons (fVar 13) aNil)))))))))
@[reducible] def M4:FS:=(fSeq (fPar [6,7] (oCons (fLst aNil) (oCons (fCal zY (aCons (fVar 1) (aCons (aD bf (au 4) (aj (fCst (.int 0)))) aNil))) aNil))) (fSeq (fU (iV (fCal Jb (aCons (fVar 0) (aCons (aD fQ (au 3) (aj (fFun wO (bCons (aj (aD u5 (aj (fFun jN (bCons (au 2) bNil))) (aj (fCst (.int 1))))) bNil)))) aNil)))) (gNm 8) xQ) (fRetV 6)))
def Hr:FN:=fN 6 14 M4
@[reducible] def Oo:FS:=(fRet (fTup (aCons (fFun Dv (bCons (aj (Rj (au 0))) bNil)) (aCons (fTup aNil) (aCons (fFun Dv (bCons (au 1) bNil)) (aCons (fTup aNil) aNil))))))
def Af:FN:=fN 2 2 Oo
@[reducible] def Rt:FS:=(fSeq (fSet 2 (fCal zW (aCons (fVar 0) (aCons (fCst (.int 24)) aNil)))) (fSeq (fSet 3 (fCal zX (aCons (fVar 0) (aCons (dj (au 2) fV (cN (aj (aD bO (aj (fCst (.int 1))) (aj (fCal bQ (aCons (fVar 0) (aCons (fCst (.int 8)) aNil)))))))) aNil)))) (fSeq (fSet 4 (dj (au 2) (cN (aj (fCst (.int 2)))) (cN (aj (aD bO (aj (aD bO (aj (fCst (.int 2))) (aj (fCst (.int 2))))) (aj (fCal bQ (aCons (fVar 0) (aCons (aD bf (aj (fLst (aCons (fCst (.int 4)) (aCons (fCst (.int 9)) (aCons (fCst (.int 16)) aNil))))) (aj (fCal bQ (aCons (fVar 0) (aCons (fCst (.int 3)) aNil))))) aNil))))))))) (fSeq (fSet 5 (aD bO (au 4) (aj (dj (au 2) (cN (aj (fCst (.int 18)))) (cN (aj (fCst (.int 20)))))))) (fSeq (fSet 6 (fTup (aCons (aD bf (au 5) (aj (fCal bQ (aCons (fVar 0) (aCons (fFun jN (bCons (au 5) bNil)) aNil))))) (aCons (aD bf (au 5) (aj (fCal bQ (aCons (fVar 0) (aCons (fFun jN (bCons (au 5) bNil)) aNil))))) aNil)))) (fSeq (jx (fTst (aD u5 (aj (fCal bQ (aCons (fVar 0) (aCons (fCst (.int 3)) aNil)))) (aj (fCst (.int 0))))) (fSet 6 (fTup (aCons (aD bf (au 2) (aj (fCst (.int 20)))) (aCons (aD bf (au 2) (aj (aD bO (aj (fCst (.int 20))) (aj (fCal bQ (aCons (fVar 0) (aCons (fCst (.int 2)) aNil))))))) aNil)))) fNext) (fSeq (fSet 7 (aD bf (aj (aD bO (aj (fFun Dz (bCons (au 3) bNil))) (aj (dj (au 2) (cN (aj (fCst (.int 22)))) (cN (aj (fCst (.int 23)))))))) (aj (fCal bQ (aCons (fVar 0) (aCons (aD bO (aj (fFun jN (bCons (au 3) bNil))) (aj (fFun wO (bCons (aj (aD mj (aj (fCal bQ (aCons (fVar 0) (aCons (fCst (.int 9)) aNil)))) (aj (fCst (.int 0))))) bNil)))) aNil)))))) (fSeq (fPar [8,9] (oCons (aD bO (aj (fTup (aCons (fVar 7) (aCons (fCal Ae (aCons (fVar 0) aNil)) aNil)))) (au 6)) (oCons (aD bf (aj (fCal Ad (aCons (fVar 0) aNil))) (aj (fCal bQ (aCons (fVar 0) (aCons (fCst (.int 2)) aNil))))) aNil))) (fRet (fTup (aCons (fVar 3) (aCons (fVar 4) (aCons (fCal Hr (aCons (fVar 0) (aCons (fVar 3) (aCons (fVar 4) (aCons (fCal bQ (aCons (fVar 0) (aCons (aD bO (au 1) (aj (fCst (.int 1)))) aNil))) (aCons (fVar 8) (aCons (fVar 9) aNil))))))) (aCons (fVar 8) (aCons (fVar 9) aNil)))))))))))))))
def JN:FN:=fN 2 10 Rt
@[reducible] def Ax:FS:=(fSeq (jx (rN (fTst (aD jP (aj (aD bf (au 3) (aj (fCst (.int 1))))) (aj (dj (au 1) (cN (aj (fCst (.int 2)))) fV)))) (rN (fTst (aD jP (aj (aD bf (au 3) (aj (fCst (.int 2))))) (aj (dj (au 1) (cN (aj (fCst (.int 2)))) fV)))) (fTst (aD pD (aj (aD bf (au 3) (aj (fCst (.int 3))))) (aj (fCal zY (aCons (fVar 0) (aCons (aD bf (au 1) (aj (fCst (.int 0)))) aNil)))))))) (fRet (fCst (.bool false))) fNext) (fRet (uc (wX oV oV (aj (aD bf (au 3) (aj (fCst (.int 4))))) (au 2) (aj (aD bf (au 3) (aj (fCst (.int 5)))))) (aD oV (aj (aD bf (au 1) (aj (fCst (.int 1))))) (aj (aD bf (au 3) (aj (fCst (.int 6)))))))))
def JP:FN:=fN 4 4 Ax
@[reducible] def Cu:FS:=(jx (fTst (aD jP (aj (aD bf (au 8) (aj (fCst (.int 1))))) (au 5))) (pU 5 (aj (aD bf (au 8) (aj (fCst (.int 2))))) (fFun tX (bCons (aj (wZ (au 5) (aj (aD bf (au 8) (aj (fCst (.int 2))))) (fNeg (aj (fCst (.int 1)))))) (bCons (aj (fFun pK (bCons (aj (aD bf (au 5) (aj (aD bf (au 8) (aj (fCst (.int 1))))))) (bCons (aj (aD bf (au 8) (aj (fCst (.int 6))))) bNil)))) bNil)))) fNext)
@[reducible] def Wo:FS:=(fU (iV (fVar 6)) (gNm 8) Cu)
@[reducible] def Cv:FT:=(fTru (aj (fCal JP (aCons (fVar 1) (aCons (aD bO (aj (fTup (aCons (aD bf (au 2) (aj (fCst (.int 0)))) (aCons (fCst (.int 0)) aNil)))) (aj (dj (au 2) (cN (aj (fCst (.int 2)))) fV))) (aCons (fVar 3) (aCons (fVar 0) aNil)))))))
@[reducible] def Cw:FE:=(fVar 0)
@[reducible] def Xi:FS:=(fSeq (fSet 5 (rO (fTst (aD pD (au 3) (aj (dj (au 2) (cN (aj (fCst (.int 2)))) fV)))) (wR (au 3) (aD oM (aj (fCst (.int 10))) (aj (fCst (.int 9))))) yF)) (fSeq (fSet 6 (fLC (iB (au 1)) .one Cv Cw [0,2,4])) (fSeq (fU (gY (aj (fFun jN (bCons (au 6) bNil)))) (gNm 7) Wo) (fRetV 5))))
def Ia:FN:=fN 5 9 Xi
@[reducible] def G8:FS:=(fSeq (fPar [16,17] (oCons (fCal bQ (aCons (fVar 0) (aCons (fVar 2) aNil))) (oCons (fCal bQ (aCons (fVar 0) (aCons (fVar 2) aNil))) aNil))) (fSeq (fSet 18 (rO (fTst (aD oV (au 16) (au 17))) (fFun Ej (bCons (aj (aD bO (aj (fLst (aCons (aD oM (aj (fCst (.int 10))) (aj (fCst (.int 9)))) aNil))) (aj (dj (au 7) (cN (au 16)) (cN (au 17)))))) bNil)) (fCst .none))) (jx (uQ (fTru (aj (fCal (qj 3) (aCons (fCal Al (aCons (fVar 14) (aCons (fVar 5) (aCons (fTup (aCons (aD bf (au 1) (aj (fCst (.int 24)))) (aCons (aD bf (au 1) (aj (fCst (.int 25)))) aNil))) (aCons (aD bf (au 4) (au 16)) (aCons (aD bf (au 4) (au 17)) (aCons (fVar 6) aNil))))))) (aCons (fVar 18) aNil)))))) (fRet (fCst (.bool false))) fNext)))
@[reducible] def Mg:FS:=(fSeq (fSet 13 (aD bf (aj (fLst (aCons (fVar 11) (aCons (aD bO (au 11) (aj (aD fQ (aj (fCst (.int 3))) (aj (aD jw (au 12) (aj (fCst (.int 2)))))))) (aCons (aD nJ (aj (aD bO (au 11) (aj (fCst (.int 3))))) (aj (aD fQ (aj (fCst (.int 3))) (aj (aD jw (au 12) (aj (fCst (.int 2)))))))) aNil))))) (au 10))) (jy 8 (fTup (aCons (fVar 12) (aCons (aD bf (au 4) (au 9)) (aCons (aD bf (au 4) (aj (aD bO (au 9) (aj (fCst (.int 1)))))) (aCons (fVar 5) (aCons (fCst (.int 7)) (aCons (fCst (.int 7)) (aCons (fVar 13) aNil))))))))))
@[reducible] def G9:FS:=(fSeq (fPar [10,11] (oCons (fCal bQ (aCons (fVar 0) (aCons (fCst (.int 3)) aNil))) (oCons (aD bf (aj (fLst (aCons (aD fQ (aj (fCst (.int 10))) (au 9)) (aCons (aD nJ (aj (fCst (.int 1000))) (aj (aD fQ (aj (fCst (.int 10))) (au 9)))) (aCons (fCal bQ (aCons (fVar 0) (aCons (fCst (.int 90)) aNil))) aNil))))) (aj (fCal bQ (aCons (fVar 0) (aCons (fCst (.int 3)) aNil))))) aNil))) (fSeq (fU (iV (fTup (aCons (aD fQ (aj (fCst (.int 2))) (au 9)) (aCons (aD bO (aj (aD fQ (aj (fCst (.int 2))) (au 9))) (aj (fCst (.int 1)))) aNil)))) (gNm 12) Mg) (jy 7 (fFun tX (bCons (aj (aD bf (aj (aD bf (au 8) (aj (fNeg (aj (fCst (.int 1))))))) (aj (fCst (.int 6))))) (bCons (aj (aD bf (aj (aD bf (au 8) (aj (fNeg (aj (fCst (.int 2))))))) (aj (fCst (.int 6))))) bNil))))))
@[reducible] def M5:FS:=(fSeq (fPar [1,2] (oCons (fCal zW (aCons (fVar 0) (aCons (fCst (.int 26)) aNil))) (oCons (aD bO (aj (fCst (.int 2))) (aj (fCal bQ (aCons (fVar 0) (aCons (fCst (.int 7)) aNil))))) aNil))) (fSeq (fSet 3 (fCal zX (aCons (fVar 0) (aCons (dj (au 1) fV (cN (aj (aD bO (aj (fCst (.int 1))) (aj (fCal bQ (aCons (fVar 0) (aCons (fCst (.int 8)) aNil)))))))) aNil)))) (fSeq (fPar [4,5,6,7,8] (oCons (dj (au 1) (cN (aj (fCst (.int 9)))) (cN (aj (aD bO (aj (fCst (.int 9))) (au 2))))) (oCons (aD bf (au 1) (aj (fCst (.int 0)))) (oCons (fCst (.int 7)) (oCons (fLst aNil) (oCons (fLst aNil) aNil)))))) (fSeq (fU (gY (aj (aD nJ (au 2) (aj (fCst (.int 1)))))) (gNm 9) G9) (fSeq (fSet 14 (fCal Af (aCons (fVar 3) (aCons (fVar 8) aNil)))) (fSeq (fU (gY (aj (fCst (.int 10)))) (gNm 15) G8) (fRet (fCst (.bool true)))))))))
def Hs:FN:=fN 1 19 M5
@[reducible] def QD:FS:=(jx (uQ (fTru (aj (fCal (qj 3) (aCons (fCal Al (aCons (fVar 8) (aCons (aD bf (au 6) (aj (fCst (.int 0)))) (aCons (dj (au 6) (cN (aj (fCst (.int 2)))) fV) (aCons (fVar 11) (aCons (fVar 13) (aCons (fVar 7) aNil))))))) (aCons (wZ (au 12) (au 13) (fCst .none)) aNil)))))) (fRet (fCst (.bool false))) fNext)
@[reducible] def QF:FS:=(fSeq (fSet 12 (fCal Ia (aCons (fVar 3) (aCons (fVar 5) (aCons (fVar 6) (aCons (fVar 11) (aCons (fVar 7) aNil))))))) (fU (iV (aD bO (au 9) (aj (dj (au 9) fV (cN (aj (fCst (.int 2)))))))) (gNm 13) QD))
@[reducible] def QG:FS:=(fSeq (Fp 2 (fCal HD (aCons (fVar 0) (aCons (fVar 1) aNil)))) (fSeq (fUnp (fCal JN (aCons (fVar 2) (aCons (fCst (.int 16)) aNil))) (gTp 5 (gsCons (gNm 3) (gsCons (gNm 4) (gsCons (gNm 5) (gsCons (gNm 6) (gsCons (gNm 7) gsNil))))))) (fSeq (fPar [8,9] (oCons (fCal Af (aCons (fVar 3) (aCons (fVar 5) aNil))) (oCons (dj (aj (fCal CV (aCons (fVar 2) (aCons (fVar 4) aNil)))) fV (cN (aj (fCst (.int 5))))) aNil))) (fSeq (fSet 10 (fFun J2 (bCons (au 8) bNil))) (fSeq (fU (iV (fVar 9)) (gNm 11) QF) (jx (rN (fTst (aD mC (aj (fFun J2 (bCons (au 8) bNil))) (au 10))) (uQ (fTru (aj (fCal Hs (aCons (fVar 2) aNil)))))) (fRet (fCst (.bool false))) fNext))))))
@[reducible] def Tr:FS:=(fSeq (fU (gY (aj (aD bO (aj (fCst (.int 1))) (aj (fFun pK (bCons (aj (fCst (.int 4))) (bCons (aj (wN 0)) bNil))))))) (gNm 1) QG) (fRet (fCst (.bool true))))
def Bw:FN:=fN 1 14 Tr
theorem afg{P:bh}{w:aZ}{K:aG}{mg:Str→Option Value}{base:aV}{cH:Tok}{f:aa}{fd:dz}(F:fL K "parts_over" "parts_over" HS f fd)(T:Txt K mg cH):dw P w K mg base eY 1 f fd (["house","part"]:List Str) (spT K HY):=
 iR (body:=Nz) F Hw fun cdv A outer s H E hr=>(bG (aii (i:=2) (T:=(.many 2)) (NT:=(["name","within"]:List Str)) (NF:=([]:List Str)) (js:=[]) (qG.ok (N0:=(["house","part","outer","over"]:List Str)) (mZ:=cV HS) (by decide +kernel) rfl rfl) (⟨_,_,_,rfl,(.cons ⟨_,rfl⟩ (.cons ⟨_,rfl⟩ .nil)),rfl⟩) rfl hr.bK (Kf (aq (cz (cg hr.bK) cA (aH (pv 0)) (aq (aK aM)) (fun _ _=>rfl)))) (fun b=>⟨wj,(aO (pv 0)),(aO (pv 1))⟩) (by rfl) Hw.nd rfl rfl) (bG (eN (i:=3) Hw.nd rfl (bU rfl) (jk aR)) (bG (Di j8 (gj (uL hr.bK) uP (aH (pv 1)) (aH (pv 2)) (by with_unfolding_all rfl)) (bG (wG (pv 3) (aO (pv 1))) (cj (eN (i:=1) Hw.nd rfl (bU rfl) (cz (cg hr.bK) cA (aH (pv 2)) (aH (pv 1)) (fun _ _=>rfl)))))) (cj (qi (pv 3))))))
theorem agv{P:bh}{w:aZ}{K:aG}{mg:Str→Option Value}{base:aV}{cH:Tok}{f:aa}{fd:dz}(F:fL K "is_side" "is_side" Pu f fd)(T:Txt K mg cH):dw P w K mg base eY 1 f fd (["paper","person"]:List Str) (spT K vQ):=
 iR (body:=Pz) F agt fun cdv A outer s H E hr=>(cj (gW (tW (uL hr.bK) uP (aH (pv 1)) (aq (kI (aH (pv 0)) (jd (aq (aK aM))) (jd (aq (aK aM))))) (by with_unfolding_all rfl))))
theorem agw{P:bh}{w:aZ}{K:aG}{mg:Str→Option Value}{base:aV}{cH:Tok}{f:aa}{fd:dz}(F:fL K "ways_on" "ways_on" I9 f fd)(T:Txt K mg cH)(NZ:c7 P w K mg base "parts_over" 1 (["house","part"]:List Str) (spT K HY))(vR:c7 P w K mg base "is_side" 1 (["paper","person"]:List Str) (spT K vQ)):dw P w K mg base eY 2 f fd (["house","paper","day"]:List Str) (spT K De):=
 iR (body:=PB) F Yc fun cdv A outer s H E hr=>(bG (eN (i:=3) Yc.nd rfl (rC rfl) (bH NZ (hr.mono (by decide)) rfl (az (aO (pv 0)) (az (cz (cg hr.bK) cA (aH (pv 1)) (aq (aK aM)) (fun _ _=>rfl)) aR)))) (cj (gW (wM (T:=(.many 7)) (NT:=(["number","giver","taker","part","first","last","most"]:List Str)) (NF:=(["over","day","paper"]:List Str)) (js:=[3,2,1]) (qG.ok (N0:=(["house","paper","day","over"]:List Str)) (mZ:=cV I9) (by decide +kernel) rfl rfl) (⟨_,_,_,rfl,(.cons ⟨_,rfl⟩ (.cons ⟨_,rfl⟩ (.cons ⟨_,rfl⟩ (.cons ⟨_,rfl⟩ (.cons ⟨_,rfl⟩ (.cons ⟨_,rfl⟩ (.cons ⟨_,rfl⟩ .nil))))))),rfl⟩) rfl (Kf (aq (cz (cg hr.bK) cA (aH (pv 0)) (aq (aK aM)) (fun _ _=>rfl)))) (fun b=>⟨(JH (PW.pt (uM (gj (uL hr.bK) uP (aH (pv 3)) (aH (pv 7)) (by with_unfolding_all rfl)) (uM (ak5 yE yN yE yN (aH (pv 4)) (aH (pv 8)) (aH (pv 5))) (uM (gj yE yN (aq (cz (cg hr.bK) cA (aH (pv 9)) (aq (aK aM)) (fun _ _=>rfl))) (aH (pv 6)) (gU _)) (uM (Ef (qm (aq (bH vR (hr.mono (by decide)) rfl (az (aO (pv 9)) (az (aO (pv 1)) aR)))))) (Du (Ef (qm (aq (bH vR (hr.mono (by decide)) rfl (az (aO (pv 9)) (az (aO (pv 2)) aR))))))))))))),(lg (az (aO (pv 0)) (az (aO (pv 1)) (az (aO (pv 2)) aR))))⟩)))))
theorem afV{P:bh}{w:aZ}{K:aG}{mg:Str→Option Value}{base:aV}{cH:Tok}{f:aa}{fd:dz}(F:fL K "steps_to" "steps_to" Ir f fd)(T:Txt K mg cH):dw P w K mg base eY 1 f fd (["ways","signer"]:List Str) (spT K Iw):=
 iR (body:=O1) F yg fun cdv A outer s H E hr=>(bG (eN (i:=2) yg.nd rfl (rC rfl) (ZR (aH (pv 1)) (aK aM))) (bG (eN (i:=3) yg.nd rfl (rC rfl) (jk (az (aO (pv 1)) aR))) (bG (eN (i:=4) yg.nd rfl (bU rfl) (aK aM)) (bG (Di j8 (qm (aH (pv 3))) (bG (ak8 (i:=4) yg.nd rfl (bU rfl) (aq (aK aM))) (bG (eN (i:=3) yg.nd rfl (rC rfl) (al8 (T:=(.many 3)) (NT:=(["number","giver","taker"]:List Str)) (NF:=(["newest","steps"]:List Str)) (js:=[3,2]) (qG.ok (N0:=(["ways","signer","steps","newest","many","person"]:List Str)) (mZ:=cV Ir) (by decide +kernel) rfl rfl) (⟨_,_,_,rfl,(.cons ⟨_,rfl⟩ (.cons ⟨_,rfl⟩ (.cons ⟨_,rfl⟩ .nil))),rfl⟩) rfl rfl T.yp (Kf (aH (pv 0))) (fun b=>⟨(JH (PW.pt (uM (gj (uL hr.bK) uP (aH (pv 2)) (aH (pv 3)) (by with_unfolding_all rfl)) (Du (gj (IW hr.bK) Jl (aH (pv 1)) (aH (pv 4)) (by with_unfolding_all rfl)))))),(aO (pv 1))⟩))) (cj (nH j8 rfl (yZ (aO (pv 3))) (fY (i:=5) yg.nd rfl (bU rfl)) ji (cj (Ei hr.bK (pv 2) (aH (pv 5)) (aO (pv 4))))))))) (cj (qi (pv 2)))))))
theorem afh{P:bh}{w:aZ}{K:aG}{mg:Str→Option Value}{base:aV}{cH:Tok}{f:aa}{fd:dz}(F:fL K "nearer_way" "nearer_way" HW f fd)(T:Txt K mg cH):dw P w K mg base eY 1 f fd (["ways","steps","person"]:List Str) (spT K H9):=
 iR (body:=NP) F afe fun cdv A outer s H E hr=>(cj (gW (gR (afd rfl hr.bK) ajV rfl T.uh (by decide +kernel) (cW (aq (wM (T:=(.many 3)) (NT:=(["number","giver","taker"]:List Str)) (NF:=(["person","steps"]:List Str)) (js:=[2,1]) (qG.ok (N0:=(["ways","steps","person"]:List Str)) (mZ:=cV HW) (by decide +kernel) rfl rfl) (⟨_,_,_,rfl,(.cons ⟨_,rfl⟩ (.cons ⟨_,rfl⟩ (.cons ⟨_,rfl⟩ .nil))),rfl⟩) rfl (Kf (aH (pv 0))) (fun b=>⟨(JH (PW.pt (uM (gj (uK hr.units) uO (aH (pv 1)) (aH (pv 3)) (gU _)) (uM (gj (uL hr.bK) uP (aH (pv 2)) (aH (pv 4)) (by with_unfolding_all rfl)) (Du (gj (Ov hr.RK) Te (aq (cz (cg hr.bK) cA (aH (pv 4)) (aH (pv 2)) (fun _ _=>rfl))) (aq (cz (cg hr.bK) cA (aH (pv 4)) (aH (pv 3)) (fun _ _=>rfl))) (gU _))))))),(lg (az (aO (pv 0)) (az (aO (pv 2)) aR)))⟩))) eV))))
theorem afC{P:bh}{w:aZ}{K:aG}{mg:Str→Option Value}{base:aV}{cH:Tok}{f:aa}{fd:dz}(F:fL K "first_row" "first_row" Oc f fd)(T:Txt K mg cH)(O2:c7 P w K mg base "steps_to" 1 (["ways","signer"]:List Str) (spT K Iw))(N5:c7 P w K mg base "nearer_way" 1 (["ways","steps","person"]:List Str) (spT K H9)):dw P w K mg base eY 2 f fd (["ways","holder","signer"]:List Str) (spT K Ih):=
 iR (body:=Ig) F CT fun cdv A outer s H E hr=>(bG (eN (i:=3) CT.nd rfl (bU rfl) (bH O2 (hr.mono (by decide)) rfl (az (aO (pv 0)) (az (aO (pv 2)) aR)))) (bG (lO (gj (IW hr.bK) Jl (aH (pv 1)) (aH (pv 3)) (by with_unfolding_all rfl)) (cj (gW (aK yz))) lM) (bG (eN (i:=4) CT.nd rfl (bU rfl) (jk aR)) (bG (Di j8 (gj (Ba hr.units) Bm (aH (pv 1)) (aH (pv 2)) (gU _)) (bG (RW (bH N5 (hr.mono (by decide)) rfl (az (aO (pv 0)) (az (aO (pv 3)) (az (aO (pv 1)) aR)))) (yC rfl (jW (fY (i:=5) CT.nd rfl (bU rfl)) (jW (fY (i:=1) CT.nd rfl (bU rfl)) yq))) (JW (qZ ji (qZ ji JD)))) (cj (wG (pv 4) (aO (pv 5)))))) (cj (qi (pv 4)))))))
theorem ahp{P:bh}{w:aZ}{K:aG}{mg:Str→Option Value}{base:aV}{cH:Tok}{f:aa}{fd:dz}(F:fL K "row_of" "row_of" QC f fd)(T:Txt K mg cH)(vR:c7 P w K mg base "is_side" 1 (["paper","person"]:List Str) (spT K vQ))(PK:c7 P w K mg base "ways_on" 2 (["house","paper","day"]:List Str) (spT K De))(Oq:c7 P w K mg base "first_row" 2 (["ways","holder","signer"]:List Str) (spT K Ih)):dw P w K mg base eY 3 f fd (["house","paper","holder","signer","day"]:List Str) (spT K Ju):=
 iR (body:=Dk) F aho fun cdv A outer s H E hr=>(bG (lO (PW.pt (Bo (qm (aq (bH vR (hr.mono (by decide)) rfl (az (aO (pv 1)) (az (aO (pv 2)) aR))))) (Eg (qm (aq (bH vR (hr.mono (by decide)) rfl (az (aO (pv 1)) (az (aO (pv 3)) aR)))))))) (cj (gW (aK yz))) lM) (cj (gW (bH Oq (hr.mono (by decide)) rfl (az (bH PK (hr.mono (by decide)) rfl (az (aO (pv 0)) (az (aO (pv 1)) (az (aO (pv 4)) aR)))) (az (aO (pv 2)) (az (aO (pv 3)) aR)))))))
theorem ae1{P:bh}{w:aZ}{K:aG}{mg:Str→Option Value}{base:aV}{cH:Tok}{f:aa}{fd:dz}(F:fL K "sums_to_try" "sums_to_try" Hz f fd)(T:Txt K mg cH):dw P w K mg base eY 1 f fd (["house"]:List Str) (spT K HB):=
 iR (body:=Nm) F Wy fun cdv A outer s H E hr=>(bG (Zw (i:=1) (T:=.one) (NT:=(["leave"]:List Str)) (NF:=([]:List Str)) (js:=[]) (qG.ok (N0:=(["house","bounds"]:List Str)) (mZ:=cV Hz) (by decide +kernel) rfl rfl) (⟨_,⟨_,rfl⟩,rfl⟩) rfl (acy (aq (cz (cg hr.bK) cA (aH (pv 0)) (aq (aK aM)) (fun _ _=>rfl)))) (fun b=>⟨wj,(gR (Aj rfl) Av rfl T.uh (by decide +kernel) (cW (aq (cz (cg hr.bK) cA (aH (pv 0)) (aq (aK aM)) (fun _ _=>rfl))) (cW (aq (aK (aaj (v:=toV (.int 1000000000)) rfl T.WD ⟨_,rfl⟩))) eV)))⟩) (by rfl) Wy.nd rfl rfl) (cj (gW (aiv rfl (aq (bC dB dD (aq (jk (az (aK (aaj (v:=toV (.int 1000000000)) rfl T.WD ⟨_,rfl⟩)) aR))) (aH (pv 1)))) (aq (aK wH)) rfl T.yp))))
theorem agx{P:bh}{w:aZ}{K:aG}{mg:Str→Option Value}{base:aV}{cH:Tok}{f:aa}{fd:dz}(F:fL K "most_of" "most_of" Px f fd)(T:Txt K mg cH)(QH:c7 P w K mg base "row_of" 3 (["house","paper","holder","signer","day"]:List Str) (spT K Ju))(Nt:c7 P w K mg base "sums_to_try" 1 (["house"]:List Str) (spT K HB)):dw P w K mg base eY 4 f fd (["house","part","sides","holder","signer","day"]:List Str) (spT K Al):=
 iR (body:=Ja) F Iu fun cdv A outer s H E hr=>(bG (RW (aO (pv 2)) (yC rfl (jW (fY (i:=6) Iu.nd rfl (bU rfl)) (jW (fY (i:=7) Iu.nd rfl (bU rfl)) yq))) (JW (qZ ji (qZ ji JD)))) (bG (nH j8 rfl (yZ (bH Nt (hr.mono (by decide)) rfl (az (aO (pv 0)) aR))) (fY (i:=8) Iu.nd rfl (bU rfl)) ji (cj (lO (gj aiZ ajw (aq (bH QH (hr.mono (by decide)) rfl (az (aO (pv 0)) (az (lg (az (aO (pv 1)) (az (aO (pv 8)) (az (aO (pv 6)) (az (aO (pv 7)) aR))))) (az (aO (pv 3)) (az (aO (pv 4)) (az (aO (pv 5)) aR))))))) (aq (aK yz)) (gU _)) (cj (qi (pv 8))) lM))) (cj (gW (aK yz)))))
theorem aj1{P:bh}{w:aZ}{K:aG}{mg:Str→Option Value}{base:aV}{cH:Tok}{f:aa}{fd:dz}(F:fL K "_law_mix" "_law_mix" Sv f fd)(T:Txt K mg cH):dw P w K mg base eY 1 f fd (["_law_cell","_law_k"]:List Str) (spT K El):=
 iR (body:=Sw) F aaU fun cdv A outer s H E hr=>(bG (eN (i:=2) aaU.nd rfl (bU rfl) (bC pG pI (aq (bC kY kZ (aq (bC dB dD (aq (bC dB dD (aq (bC pG pI (aH (pv 0)) (aq (aK aM)))) (aq (bC kY kZ (aq (bC kY kZ (aH (pv 1)) (aH (pv 1)))) (aq (aK aM)))))) (aq (aK aM)))) (aq (aK aM)))) (aq (aK aM)))) (cj (gW (bC pG pI (aq (bC kY kZ (aH (pv 2)) (aH (pv 2)))) (aq (aK aM))))))
theorem ae2{P:bh}{w:aZ}{K:aG}{mg:Str→Option Value}{base:aV}{cH:Tok}{f:aa}{fd:dz}(F:fL K "_law_drawn_from" "_law_drawn_from" Ni f fd)(T:Txt K mg cH):dw P w K mg base eY 1 f fd (["_law_script","_law_k"]:List Str) (spT K HD):=
 iR (body:=Np) F Wz fun cdv A outer s H E hr=>(bG (eN (i:=2) Wz.nd rfl (bU rfl) (Kc (gj (Ov hr.RK) Te (aH (pv 1)) (aq (aaK (pv 0) rfl T.lV (by decide +kernel))) (gU _)) (ala (pv 0) (aH (pv 1)) (fun _ _=>rfl)) (aK aM))) (cj (gW (jk (az (cz (cg hr.bK) cA (aq (jk (az (aK aM) (az (gR Y8 abv rfl T.Kg (by decide +kernel) (cW (aH (pv 2)) eV)) aR)))) (aq (vW O8 R7 rfl T.Bv (by decide +kernel) (cW (aq (tW alQ al2 (aq (gR Y8 abv rfl T.Kg (by decide +kernel) (cW (aH (pv 2)) eV))) (aq (bC DR Ec (aq (aK aM)) (aq (aK aM)))) (gU _))) eV))) (fun _ _=>rfl)) (az (bC dB dD (aH (pv 2)) (aq (bC kY kZ (aq (aK aM)) (aH (pv 1))))) (az (aK aM) aR)))))))
theorem aiy{P:bh}{w:aZ}{K:aG}{mg:Str→Option Value}{base:aV}{cH:Tok}{f:aa}{fd:dz}(F:fL K "_law_pick" "_law_pick" Rm f fd)(T:Txt K mg cH)(J3:c7 P w K mg base "_law_mix" 1 (["_law_cell","_law_k"]:List Str) (spT K El)):dw P w K mg base eY 2 f fd (["_law_left","_law_many"]:List Str) (spT K bQ):=
 iR (body:=JM) F Z1 fun cdv A outer s H E hr=>(bG (Ei hr.bK (pv 0) (aq (aK aM)) (bC dB dD (aq (yG (pv 0) (aq (aK aM)) (fun _ _=>rfl))) (aq (aK aM)))) (bG (lO (gj Er Et (aq (yG (pv 0) (aq (aK aM)) (fun _ _=>rfl))) (aq (aK aM)) (gU _)) (bG (eN (i:=2) Z1.nd rfl (bU rfl) (bC pG pI (aq (yG (pv 0) (aq (aK aM)) (fun _ _=>rfl))) (aH (pv 1)))) (bG (Ei hr.bK (pv 0) (aq (aK aM)) (bC QS Q6 (aq (yG (pv 0) (aq (aK aM)) (fun _ _=>rfl))) (aH (pv 1)))) (cj (qi (pv 2))))) lM) (cj (gW (bC pG pI (aq (bC QS Q6 (aq (bH J3 (hr.mono (by decide)) rfl (az (bH J3 (hr.mono (by decide)) rfl (az (yG (pv 0) (aq (aK aM)) (fun _ _=>rfl)) (az (yG (pv 0) (aq (aK aM)) (fun _ _=>rfl)) aR))) (az (bC dB dD (aq (yG (pv 0) (aq (aK aM)) (fun _ _=>rfl))) (aq (aK aM))) aR)))) (aq (aK aM)))) (aH (pv 1)))))))
theorem aiz{P:bh}{w:aZ}{K:aG}{mg:Str→Option Value}{base:aV}{cH:Tok}{f:aa}{fd:dz}(n:Nat)(F:fL K "_law_same" "_law_same" DG f fd)(T:Txt K mg cH)(wz:c7 P w K mg base "_law_same" n (["_law_found","_law_due"]:List Str) (spT K (qj n))):dw P w K mg base eY (n+1) f fd (["_law_found","_law_due"]:List Str) (spT K (qj (n+1))):=
 iR (body:=Rr (qj n)) F aiw fun cdv A outer s H E hr=>(bG (lO (qm (aq (ajE (by decide) (by decide) (aH (pv 1)) (pC (v:=.ty "list") rfl T.Be (by decide +kernel) rfl) (pC (v:=.ty "tuple") rfl T.yx (by decide +kernel) rfl) rfl T.oE (by decide +kernel)))) (bG (lO (PW.pt (Bo (gj (Ba hr.units) Bm (aq (rE (by decide) (aH (pv 0)) (pC (v:=.ty "list") rfl T.Be (by decide +kernel) rfl) rfl T.oE (by decide +kernel))) (aq (rE (by decide) (aH (pv 1)) (pC (v:=.ty "list") rfl T.Be (by decide +kernel) rfl) rfl T.oE (by decide +kernel))) (gU _)) (Eg (gj (Ba hr.units) Bm (aq (rE (by decide) (aH (pv 0)) (pC (v:=.ty "tuple") rfl T.yx (by decide +kernel) rfl) rfl T.oE (by decide +kernel))) (aq (rE (by decide) (aH (pv 1)) (pC (v:=.ty "tuple") rfl T.yx (by decide +kernel) rfl) rfl T.oE (by decide +kernel))) (gU _))))) (cj (gW (aK wH))) lM) (cj (gW (Bb (tW (uK hr.units) uO (aq (gR pA pJ rfl T.lV (by decide +kernel) (cW (aH (pv 0)) eV))) (aq (gR pA pJ rfl T.lV (by decide +kernel) (cW (aH (pv 1)) eV))) (gU _)) (Eh (gR (ahU rfl) alb rfl T.Tp (by decide +kernel) (cW (aq (wM (T:=(.many 2)) (NT:=(["_law_one","_law_other"]:List Str)) (NF:=([]:List Str)) (js:=[]) (qG.ok (N0:=(["_law_found","_law_due"]:List Str)) (mZ:=cV DG) (by decide +kernel) rfl rfl) (⟨_,_,_,rfl,(.cons ⟨_,rfl⟩ (.cons ⟨_,rfl⟩ .nil)),rfl⟩) rfl (ald rfl T.Tq (cW (aH (pv 0)) (cW (aH (pv 1)) eV))) (fun b=>⟨wj,(bH wz hr rfl (az (aO (pv 0)) (az (aO (pv 1)) aR)))⟩))) eV))))))) lM) (bG (lO (PW.pt (Bo (gj akA ak1 (aH (pv 1)) (aq (aK yz)) (gU _)) (Eg (qm (aq (rE (by decide) (aH (pv 1)) (pC (v:=.ty "str") rfl T.yR (by decide +kernel) rfl) rfl T.oE (by decide +kernel))))))) (cj (gW (Bb (tW (uK hr.units) uO (aH (pv 0)) (aH (pv 1)) (gU _)) (Eh (tW (uK hr.units) uO (aq (rE (by decide) (aH (pv 0)) (pC (v:=.ty "str") rfl T.yR (by decide +kernel) rfl) rfl T.oE (by decide +kernel))) (aq (rE (by decide) (aH (pv 1)) (pC (v:=.ty "str") rfl T.yR (by decide +kernel) rfl) rfl T.oE (by decide +kernel))) (gU _)))))) lM) (bG (lO (qm (aq (rE (by decide) (aH (pv 1)) (pC (v:=.ty "bool") rfl T.Ek (by decide +kernel) rfl) rfl T.oE (by decide +kernel)))) (cj (gW (Bb (rE (by decide) (aH (pv 0)) (pC (v:=.ty "bool") rfl T.Ek (by decide +kernel) rfl) rfl T.oE (by decide +kernel)) (Eh (tW (uK hr.units) uO (aH (pv 0)) (aH (pv 1)) (gU _)))))) lM) (cj (gW (Bb (rE (by decide) (aH (pv 0)) (pC (v:=.ty "int") rfl T.Bv (by decide +kernel) rfl) rfl T.oE (by decide +kernel)) (Bb (ak6 (rE (by decide) (aH (pv 0)) (pC (v:=.ty "bool") rfl T.Ek (by decide +kernel) rfl) rfl T.oE (by decide +kernel))) (Eh (tW (uK hr.units) uO (aH (pv 0)) (aH (pv 1)) (gU _))))))))))
theorem YQ{P:bh}{w:aZ}{K:aG}{mg:Str→Option Value}{base:aV}{cH:Tok}{f:aa}{fd:dz}(hm:mg "_law_same"=some (.ref f))(hk:vI K (.ref f)=true)(hb:Binds K fd (["_law_found","_law_due"]:List Str) [])(F:fL K "_law_same" "_law_same" DG f fd)(T:Txt K mg cH):
  ∀n,c7 P w K mg base "_law_same" n (["_law_found","_law_due"]:List Str) (spT K (qj n))
 |0=>⟨f,fd,hm,hk,hb,ajI⟩
 |n+1=>⟨f,fd,hm,hk,hb,aiz n F T (YQ hm hk hb F T n)⟩
theorem ae3{P:bh}{w:aZ}{K:aG}{mg:Str→Option Value}{base:aV}{cH:Tok}{f:aa}{fd:dz}(F:fL K "_law_some_names" "_law_some_names" vL f fd)(T:Txt K mg cH)(bV:c7 P w K mg base "_law_pick" 2 (["_law_left","_law_many"]:List Str) (spT K bQ)):dw P w K mg base eY 3 f fd (["_law_left","_law_many"]:List Str) (spT K zW):=
 iR (body:=CQ) F o7 fun cdv A outer s H E hr=>(bG (eN (i:=2) o7.nd rfl (rC rfl) (aK DN)) (bG (eN (i:=3) o7.nd rfl (bU rfl) (Rf (aq (aK DN)) (aq (wM (T:=.one) (NT:=(["_law_turn"]:List Str)) (NF:=(["_law_letters","_law_left"]:List Str)) (js:=[2,0]) (qG.ok (N0:=(["_law_left","_law_many","_law_letters","_law_head","_law_tail","_law_first","_law_by","_law_stem","_law_found","_law_size","_law_k","_law_value","_law_two"]:List Str)) (mZ:=cV vL) (by decide +kernel) rfl rfl) (⟨_,⟨_,rfl⟩,rfl⟩) rfl (q9 rfl T.oH (aq (bH bV (hr.mono (by decide)) rfl (az (aO (pv 0)) (az (aK aM) aR))))) (fun b=>⟨wj,(cz (cg hr.bK) cA (aH (pv 1)) (aq (bH bV (hr.mono (by decide)) rfl (az (aO (pv 2)) (az (aK aM) aR)))) (fun _ _=>rfl))⟩))))) (bG (eN (i:=4) o7.nd rfl (bU rfl) (Rf (aq (aK DN)) (aq (wM (T:=.one) (NT:=(["_law_turn"]:List Str)) (NF:=(["_law_letters","_law_left"]:List Str)) (js:=[2,0]) (qG.ok (N0:=(["_law_left","_law_many","_law_letters","_law_head","_law_tail","_law_first","_law_by","_law_stem","_law_found","_law_size","_law_k","_law_value","_law_two"]:List Str)) (mZ:=cV vL) (by decide +kernel) rfl rfl) (⟨_,⟨_,rfl⟩,rfl⟩) rfl (q9 rfl T.oH (aq (bH bV (hr.mono (by decide)) rfl (az (aO (pv 0)) (az (aK aM) aR))))) (fun b=>⟨wj,(cz (cg hr.bK) cA (aH (pv 1)) (aq (bH bV (hr.mono (by decide)) rfl (az (aO (pv 2)) (az (aK aM) aR)))) (fun _ _=>rfl))⟩))))) (bG (Q9 (is:=[5,6]) (iz (bH bV (hr.mono (by decide)) rfl (az (aO (pv 0)) (az (aK aM) aR))) (iz (cz (cg hr.bK) cA (aq (jk (az (aK aM) (az (aK aM) (az (aK aM) (az (aK aM) (az (aK aM) (az (aK aM) aR)))))))) (aq (bH bV (hr.mono (by decide)) rfl (az (aO (pv 0)) (az (aK aM) aR)))) (fun _ _=>rfl)) qu)) (yC rfl (jW (fY (i:=5) o7.nd rfl (rC rfl)) (jW (fY (i:=6) o7.nd rfl (rC rfl)) yq)))) (bG (lO (gj (uK hr.units) uO (aq (bH bV (hr.mono (by decide)) rfl (az (aO (pv 0)) (az (aK aM) aR)))) (aq (aK aM)) (gU _)) (bG (Q9 (is:=[7,8]) (iz (Rf (aq (aK DN)) (aq (wM (T:=.one) (NT:=(["_law_k"]:List Str)) (NF:=(["_law_letters","_law_first"]:List Str)) (js:=[2,5]) (qG.ok (N0:=(["_law_left","_law_many","_law_letters","_law_head","_law_tail","_law_first","_law_by","_law_stem","_law_found","_law_size","_law_k","_law_value","_law_two"]:List Str)) (mZ:=cV vL) (by decide +kernel) rfl rfl) (⟨_,⟨_,rfl⟩,rfl⟩) rfl (q9 rfl T.oH (aq (aK aM))) (fun b=>⟨wj,(cz (cg hr.bK) cA (aH (pv 1)) (aq (bC pG pI (aq (bC dB dD (aH (pv 2)) (aq (bC kY kZ (aq (aK aM)) (aH (pv 0)))))) (aq (aK aM)))) (fun _ _=>rfl))⟩)))) (iz (jk aR) qu)) (yC rfl (jW (fY (i:=7) o7.nd rfl (rC rfl)) (jW (fY (i:=8) o7.nd rfl (bU rfl)) yq)))) (bG (nH j8 rfl (ahh rfl T.oH (cW (aq (aK aM)) (cW (aq (aK aM)) eV))) (fY (i:=9) o7.nd rfl (rC rfl)) ji (cj (aln (pv 8) (aq (wM (T:=.one) (NT:=(["_law_k"]:List Str)) (NF:=(["_law_stem","_law_size"]:List Str)) (js:=[7,9]) (qG.ok (N0:=(["_law_left","_law_many","_law_letters","_law_head","_law_tail","_law_first","_law_by","_law_stem","_law_found","_law_size","_law_k","_law_value","_law_two"]:List Str)) (mZ:=cV vL) (by decide +kernel) rfl rfl) (⟨_,⟨_,rfl⟩,rfl⟩) rfl (q9 rfl T.oH (aq (bC wA wB (aq (aK aM)) (aH (pv 9))))) (fun b=>⟨wj,(kI (aH (pv 1)) (jd (aH (pv 0))) (jd (aq (bC dB dD (aH (pv 0)) (aH (pv 2))))))⟩)))))) (cj (gW (kI (aH (pv 8)) qx (jd (aH (pv 1)))))))) lM) (bG (lO (PW.pt (uM (gj (Ov hr.RK) Te (aH (pv 1)) (aq (aK aM)) (gU _)) (Du (gj (uK hr.units) uO (aq (bH bV (hr.mono (by decide)) rfl (az (aO (pv 0)) (az (aK aM) aR)))) (aq (aK aM)) (gU _))))) (cj (gW (wM (T:=.one) (NT:=(["_law_k"]:List Str)) (NF:=(["_law_letters","_law_first","_law_by"]:List Str)) (js:=[2,5,6]) (qG.ok (N0:=(["_law_left","_law_many","_law_letters","_law_head","_law_tail","_law_first","_law_by","_law_stem","_law_found","_law_size","_law_k","_law_value","_law_two"]:List Str)) (mZ:=cV vL) (by decide +kernel) rfl rfl) (⟨_,⟨_,rfl⟩,rfl⟩) rfl (q9 rfl T.oH (aH (pv 1))) (fun b=>⟨wj,(cz (cg hr.bK) cA (aH (pv 1)) (aq (bC pG pI (aq (bC dB dD (aH (pv 2)) (aq (bC kY kZ (aH (pv 3)) (aH (pv 0)))))) (aq (aK aM)))) (fun _ _=>rfl))⟩)))) lM) (bG (eN (i:=8) o7.nd rfl (bU rfl) (jk aR)) (bG (nH j8 rfl (q9 rfl T.oH (aH (pv 1))) (fY (i:=10) o7.nd rfl (bU rfl)) ji (bG (eN (i:=11) o7.nd rfl (bU rfl) (bC pG pI (aq (bC dB dD (aH (pv 5)) (aq (bC kY kZ (aH (pv 6)) (aH (pv 10)))))) (aq (aK aM)))) (bG (eN (i:=12) o7.nd rfl (bU rfl) (bC dB dD (aq (cz (cg hr.bK) cA (aH (pv 2)) (aq (bC QS Q6 (aH (pv 11)) (aq (aK aM)))) (fun _ _=>rfl))) (aq (cz (cg hr.bK) cA (aH (pv 2)) (aq (bC pG pI (aH (pv 11)) (aq (aK aM)))) (fun _ _=>rfl))))) (cj (wG (pv 8) (bC dB dD (aq (bC dB dD (aH (pv 3)) (aH (pv 12)))) (aq (kI (aH (pv 4)) qx (jd (aq (bC pG pI (aq (bC dB dD (aq (bC kY kZ (aH (pv 10)) (aH (pv 10)))) (aH (pv 5)))) (aq (aK aM))))))))))))) (cj (qi (pv 8)))))))))))
theorem afD{P:bh}{w:aZ}{K:aG}{mg:Str→Option Value}{base:aV}{cH:Tok}{f:aa}{fd:dz}(F:fL K "_law_shuffled" "_law_shuffled" Od f fd)(T:Txt K mg cH)(bV:c7 P w K mg base "_law_pick" 2 (["_law_left","_law_many"]:List Str) (spT K bQ)):dw P w K mg base eY 3 f fd (["_law_left","_law_things"]:List Str) (spT K CV):=
 iR (body:=Oj) F Xf fun cdv A outer s H E hr=>(bG (wF (i:=2) (j:=3) rfl Xf.nd rfl rfl (by decide) rfl rfl (iz (vW (agn rfl) aij rfl T.Be (by decide +kernel) (cW (aH (pv 1)) eV)) (iz (jk aR) qu)) rfl) (bG (Di j8 (gj (Ba hr.units) Bm (aH (pv 2)) (aq (jk aR)) (gU _)) (cj (ajX (pv 3) (pv 2) (aq (bH bV (hr.mono (by decide)) rfl (az (aO (pv 0)) (az (gR pA pJ rfl T.lV (by decide +kernel) (cW (aH (pv 2)) eV)) aR))))))) (cj (qi (pv 3)))))
theorem afE{P:bh}{w:aZ}{K:aG}{mg:Str→Option Value}{base:aV}{cH:Tok}{f:aa}{fd:dz}(F:fL K "_law_two_days" "_law_two_days" Oe f fd)(T:Txt K mg cH)(bV:c7 P w K mg base "_law_pick" 2 (["_law_left","_law_many"]:List Str) (spT K bQ)):dw P w K mg base eY 3 f fd (["_law_left"]:List Str) (spT K Ad):=
 iR (body:=Ol) F Xg fun cdv A outer s H E hr=>(bG (eN (i:=1) Xg.nd rfl (bU rfl) (cz (cg hr.bK) cA (aq (jk (az (bH bV (hr.mono (by decide)) rfl (az (aO (pv 0)) (az (aK aM) aR))) (az (bH bV (hr.mono (by decide)) rfl (az (aO (pv 0)) (az (aK aM) aR))) (az (bC wA wB (aq (aK aM)) (aq (bH bV (hr.mono (by decide)) rfl (az (aO (pv 0)) (az (aK aM) aR))))) aR))))) (aq (bH bV (hr.mono (by decide)) rfl (az (aO (pv 0)) (az (aK aM) aR)))) (fun _ _=>rfl))) (cj (gW (lg (az (aO (pv 1)) (az (gR (Aj rfl) Av rfl T.uh (by decide +kernel) (cW (aq (aK aM)) (cW (aq (bC dB dD (aH (pv 1)) (aq (cz (cg hr.bK) cA (aq (jk (az (aK aM) (az (bH bV (hr.mono (by decide)) rfl (az (aO (pv 0)) (az (aK aM) aR))) (az (aK aM) aR))))) (aq (bH bV (hr.mono (by decide)) rfl (az (aO (pv 0)) (az (aK aM) aR)))) (fun _ _=>rfl))))) eV))) aR))))))
theorem afF{P:bh}{w:aZ}{K:aG}{mg:Str→Option Value}{base:aV}{cH:Tok}{f:aa}{fd:dz}(F:fL K "_law_some_sum" "_law_some_sum" Og f fd)(T:Txt K mg cH)(bV:c7 P w K mg base "_law_pick" 2 (["_law_left","_law_many"]:List Str) (spT K bQ)):dw P w K mg base eY 3 f fd (["_law_left"]:List Str) (spT K Ae):=
 iR (body:=Om) F afA fun cdv A outer s H E hr=>(cj (gW (cz (cg hr.bK) cA (aq (jk (az (bH bV (hr.mono (by decide)) rfl (az (aO (pv 0)) (az (aK aM) aR))) (az (bC dB dD (aq (aK aM)) (aq (bH bV (hr.mono (by decide)) rfl (az (aO (pv 0)) (az (aK aM) aR))))) (az (bC wA wB (aq (bC DR Ec (aq (aK aM)) (aq (aK aM)))) (aq (bH bV (hr.mono (by decide)) rfl (az (aO (pv 0)) (az (aK aM) aR))))) aR))))) (aq (bH bV (hr.mono (by decide)) rfl (az (aO (pv 0)) (az (aK aM) aR)))) (fun _ _=>rfl))))
theorem ae4{P:bh}{w:aZ}{K:aG}{mg:Str→Option Value}{base:aV}{cH:Tok}{f:aa}{fd:dz}(F:fL K "_law_some_parts" "_law_some_parts" Nj f fd)(T:Txt K mg cH)(bV:c7 P w K mg base "_law_pick" 2 (["_law_left","_law_many"]:List Str) (spT K bQ)):dw P w K mg base eY 3 f fd (["_law_left","_law_names"]:List Str) (spT K zX):=
 iR (body:=Nq) F Hq fun cdv A outer s H E hr=>(bG (eN (i:=2) Hq.nd rfl (bU rfl) Zo) (bG (nH j8 rfl (ajT rfl T.Oi (aO (pv 1))) (yC rfl (jW (fY (i:=3) Hq.nd rfl (bU rfl)) (jW (fY (i:=4) Hq.nd rfl (bU rfl)) yq))) (JW (qZ ji (qZ ji JD))) (cj (Ei hr.bK (pv 2) (aH (pv 4)) (cz (cg hr.bK) cA (aq (bC dB dD (aq (jk (az (aK DN) aR))) (aq (kI (aH (pv 1)) qx (jd (aH (pv 3))))))) (aq (Kc (gj Er Et (aq (bH bV (hr.mono (by decide)) rfl (az (aO (pv 0)) (az (aK aM) aR)))) (aq (aK aM)) (gU _)) (bH bV (hr.mono (by decide)) rfl (az (aO (pv 0)) (az (bC dB dD (aH (pv 3)) (aq (aK aM))) aR))) (aK aM))) (fun _ _=>rfl))))) (cj (qi (pv 2)))))
theorem ae5{P:bh}{w:aZ}{K:aG}{mg:Str→Option Value}{base:aV}{cH:Tok}{f:aa}{fd:dz}(F:fL K "_law_parts_over" "_law_parts_over" Nk f fd)(T:Txt K mg cH):dw P w K mg base eY 1 f fd (["_law_parts","_law_part"]:List Str) (spT K zY):=
 iR (body:=Nr) F MP fun cdv A outer s H E hr=>(bG (eN (i:=2) MP.nd rfl (bU rfl) (jk aR)) (bG (Di j8 (gj (uL hr.bK) uP (aH (pv 1)) (aH (pv 0)) (by with_unfolding_all rfl)) (bG (wG (pv 2) (aO (pv 1))) (cj (eN (i:=1) MP.nd rfl (bU rfl) (cz (cg hr.bK) cA (aH (pv 0)) (aH (pv 1)) (fun _ _=>rfl)))))) (cj (qi (pv 2)))))
theorem agy{P:bh}{w:aZ}{K:aG}{mg:Str→Option Value}{base:aV}{cH:Tok}{f:aa}{fd:dz}(F:fL K "_law_rising" "_law_rising" Py f fd)(T:Txt K mg cH)(bV:c7 P w K mg base "_law_pick" 2 (["_law_left","_law_many"]:List Str) (spT K bQ)):dw P w K mg base eY 3 f fd (["_law_left","_law_many"]:List Str) (spT K Jb):=
 iR (body:=PJ) F Iv fun cdv A outer s H E hr=>(bG (wF (i:=2) (j:=3) rfl Iv.nd rfl rfl (by decide) rfl rfl (iz (jk aR) (iz (bH bV (hr.mono (by decide)) rfl (az (aO (pv 0)) (az (aK aM) aR))) qu)) rfl) (bG (nH j8 rfl (q9 rfl T.oH (aH (pv 1))) (fY (i:=4) Iv.nd rfl (bU rfl)) ji (bG (wG (pv 2) (aO (pv 3))) (cj (eN (i:=3) Iv.nd rfl (bU rfl) (bC dB dD (aq (bC dB dD (aH (pv 3)) (aq (aK aM)))) (aq (bC kY kZ (aq (bH bV (hr.mono (by decide)) rfl (az (aO (pv 0)) (az (aK aM) aR)))) (aq (bH bV (hr.mono (by decide)) rfl (az (aO (pv 0)) (az (aK aM) aR))))))))))) (cj (qi (pv 2)))))
theorem aeS{P:bh}{w:aZ}{K:aG}{mg:Str→Option Value}{base:aV}{cH:Tok}{f:aa}{fd:dz}(F:fL K "_law_some_leaves" "_law_some_leaves" MT f fd)(T:Txt K mg cH)(bV:c7 P w K mg base "_law_pick" 2 (["_law_left","_law_many"]:List Str) (spT K bQ))(Ag:c7 P w K mg base "_law_two_days" 3 (["_law_left"]:List Str) (spT K Ad))(Ah:c7 P w K mg base "_law_some_sum" 3 (["_law_left"]:List Str) (spT K Ae))(zZ:c7 P w K mg base "_law_parts_over" 1 (["_law_parts","_law_part"]:List Str) (spT K zY))(PL:c7 P w K mg base "_law_rising" 3 (["_law_left","_law_many"]:List Str) (spT K Jb)):dw P w K mg base eY 4 f fd (["_law_left","_law_parts","_law_people","_law_many","_law_paper","_law_day"]:List Str) (spT K Hr):=
 iR (body:=M4) F uA fun cdv A outer s H E hr=>(bG (wF (i:=6) (j:=7) rfl uA.nd rfl rfl (by decide) rfl rfl (iz (jk aR) (iz (bH zZ (hr.mono (by decide)) rfl (az (aO (pv 1)) (az (cz (cg hr.bK) cA (aH (pv 4)) (aq (aK aM)) (fun _ _=>rfl)) aR))) qu)) rfl) (bG (nH j8 rfl (yZ (bH PL (hr.mono (by decide)) rfl (az (aO (pv 0)) (az (bC kY kZ (aH (pv 3)) (aq (vW O8 R7 rfl T.Bv (by decide +kernel) (cW (aq (tW Er Et (aq (gR pA pJ rfl T.lV (by decide +kernel) (cW (aH (pv 2)) eV))) (aq (aK aM)) (gU _))) eV)))) aR)))) (fY (i:=8) uA.nd rfl (bU rfl)) ji (bG (eN (i:=9) uA.nd rfl (bU rfl) (bH bV (hr.mono (by decide)) rfl (az (aO (pv 0)) (az (gR pA pJ rfl T.lV (by decide +kernel) (cW (aH (pv 2)) eV)) aR)))) (bG (eN (i:=10) uA.nd rfl (bU rfl) (bC pG pI (aq (bC dB dD (aq (bC dB dD (aH (pv 9)) (aq (aK aM)))) (aq (bC kY kZ (aq (bH bV (hr.mono (by decide)) rfl (az (aO (pv 0)) (az (bC wA wB (aq (gR pA pJ rfl T.lV (by decide +kernel) (cW (aH (pv 2)) eV))) (aq (aK aM))) aR)))) (aq (bH bV (hr.mono (by decide)) rfl (az (aO (pv 0)) (az (aK aM) aR)))))))) (aq (gR pA pJ rfl T.lV (by decide +kernel) (cW (aH (pv 2)) eV))))) (bG (aj0 (i:=11) (j:=12) (k:=13) rfl uA.nd rfl rfl rfl (by decide) (by decide) (by decide) rfl rfl rfl (iz (cz (cg hr.bK) cA (aq (gR (Wx rfl) Z0 rfl T.yp (by decide +kernel) (cW (aH (pv 1)) eV))) (aq (bH bV (hr.mono (by decide)) rfl (az (aO (pv 0)) (az (gR pA pJ rfl T.lV (by decide +kernel) (cW (aH (pv 1)) eV)) aR)))) (fun _ _=>rfl)) (iz (bH Ag (hr.mono (by decide)) rfl (az (aO (pv 0)) aR)) (iz (bH Ah (hr.mono (by decide)) rfl (az (aO (pv 0)) aR)) qu))) rfl) (bG (lO (PW.pt (uM (gj Er Et (aq (bH bV (hr.mono (by decide)) rfl (az (aO (pv 0)) (az (aK aM) aR)))) (aq (aK aM)) (gU _)) (Du (gj (Ba hr.units) Bm (aH (pv 7)) (aq (jk aR)) (gU _))))) (bG (eN (i:=11) uA.nd rfl (bU rfl) (cz (cg hr.bK) cA (aH (pv 7)) (aq (bH bV (hr.mono (by decide)) rfl (az (aO (pv 0)) (az (gR pA pJ rfl T.lV (by decide +kernel) (cW (aH (pv 7)) eV)) aR)))) (fun _ _=>rfl))) (bG (eN (i:=12) uA.nd rfl (bU rfl) (lg (az (gR (O7 rfl) Rc rfl T.Fe (by decide +kernel) (cW (aq (aK aM)) (cW (aq (bC wA wB (aH (pv 5)) (aq (bH bV (hr.mono (by decide)) rfl (az (aO (pv 0)) (az (aK aM) aR)))))) eV))) (az (gR (Aj rfl) Av rfl T.uh (by decide +kernel) (cW (aq (aK aM)) (cW (aq (bC dB dD (aH (pv 5)) (aq (bH bV (hr.mono (by decide)) rfl (az (aO (pv 0)) (az (aK aM) aR)))))) eV))) aR)))) (cj (eN (i:=13) uA.nd rfl (bU rfl) (gR (Aj rfl) Av rfl T.uh (by decide +kernel) (cW (aq (bC DR Ec (aq (aK aM)) (aq (aK aM)))) (cW (aq (bC dB dD (aq (cz (cg hr.bK) cA (aH (pv 4)) (aq (aK aM)) (fun _ _=>rfl))) (aq (bH bV (hr.mono (by decide)) rfl (az (aO (pv 0)) (az (aK aM) aR)))))) eV))))))) lM) (cj (wG (pv 6) (bC dB dD (aq (bC dB dD (aq (lg (az (aO (pv 8)) (az (cz (cg hr.bK) cA (aH (pv 2)) (aH (pv 9)) (fun _ _=>rfl)) (az (cz (cg hr.bK) cA (aH (pv 2)) (aH (pv 10)) (fun _ _=>rfl)) (az (aO (pv 11)) aR)))))) (aH (pv 12)))) (aq (lg (az (aO (pv 13)) aR))))))))))) (cj (qi (pv 6)))))
theorem afG{P:bh}{w:aZ}{K:aG}{mg:Str→Option Value}{base:aV}{cH:Tok}{f:aa}{fd:dz}(F:fL K "_law_house_of" "_law_house_of" Oh f fd)(T:Txt K mg cH):dw P w K mg base eY 1 f fd (["_law_parts","_law_leaves"]:List Str) (spT K Af):=
 iR (body:=Oo) F afB fun cdv A outer s H E hr=>(cj (gW (lg (az (vW WT Zx rfl T.yx (by decide +kernel) (cW (aq (ahn rfl (aH (pv 0)) rfl T.yp)) eV)) (az (lg aR) (az (vW WT Zx rfl T.yx (by decide +kernel) (cW (aH (pv 1)) eV)) (az (lg aR) aR)))))))
theorem aiA{P:bh}{w:aZ}{K:aG}{mg:Str→Option Value}{base:aV}{cH:Tok}{f:aa}{fd:dz}(F:fL K "_law_case" "_law_case" Ro f fd)(T:Txt K mg cH)(bV:c7 P w K mg base "_law_pick" 2 (["_law_left","_law_many"]:List Str) (spT K bQ))(z6:c7 P w K mg base "_law_some_names" 3 (["_law_left","_law_many"]:List Str) (spT K zW))(Ag:c7 P w K mg base "_law_two_days" 3 (["_law_left"]:List Str) (spT K Ad))(Ah:c7 P w K mg base "_law_some_sum" 3 (["_law_left"]:List Str) (spT K Ae))(z7:c7 P w K mg base "_law_some_parts" 3 (["_law_left","_law_names"]:List Str) (spT K zX))(M6:c7 P w K mg base "_law_some_leaves" 4 (["_law_left","_law_parts","_law_people","_law_many","_law_paper","_law_day"]:List Str) (spT K Hr)):dw P w K mg base eY 5 f fd (["_law_left","_law_most"]:List Str) (spT K JN):=
 iR (body:=Rt) F uG fun cdv A outer s H E hr=>(bG (eN (i:=2) uG.nd rfl (bU rfl) (bH z6 (hr.mono (by decide)) rfl (az (aO (pv 0)) (az (aK aM) aR)))) (bG (eN (i:=3) uG.nd rfl (bU rfl) (bH z7 (hr.mono (by decide)) rfl (az (aO (pv 0)) (az (kI (aH (pv 2)) qx (jd (aq (bC dB dD (aq (aK aM)) (aq (bH bV (hr.mono (by decide)) rfl (az (aO (pv 0)) (az (aK aM) aR)))))))) aR)))) (bG (eN (i:=4) uG.nd rfl (bU rfl) (kI (aH (pv 2)) (jd (aq (aK aM))) (jd (aq (bC dB dD (aq (bC dB dD (aq (aK aM)) (aq (aK aM)))) (aq (bH bV (hr.mono (by decide)) rfl (az (aO (pv 0)) (az (cz (cg hr.bK) cA (aq (jk (az (aK aM) (az (aK aM) (az (aK aM) aR))))) (aq (bH bV (hr.mono (by decide)) rfl (az (aO (pv 0)) (az (aK aM) aR)))) (fun _ _=>rfl)) aR))))))))) (bG (eN (i:=5) uG.nd rfl (bU rfl) (bC dB dD (aH (pv 4)) (aq (kI (aH (pv 2)) (jd (aq (aK aM))) (jd (aq (aK aM))))))) (bG (eN (i:=6) uG.nd rfl (bU rfl) (lg (az (cz (cg hr.bK) cA (aH (pv 5)) (aq (bH bV (hr.mono (by decide)) rfl (az (aO (pv 0)) (az (gR pA pJ rfl T.lV (by decide +kernel) (cW (aH (pv 5)) eV)) aR)))) (fun _ _=>rfl)) (az (cz (cg hr.bK) cA (aH (pv 5)) (aq (bH bV (hr.mono (by decide)) rfl (az (aO (pv 0)) (az (gR pA pJ rfl T.lV (by decide +kernel) (cW (aH (pv 5)) eV)) aR)))) (fun _ _=>rfl)) aR)))) (bG (lO (gj Er Et (aq (bH bV (hr.mono (by decide)) rfl (az (aO (pv 0)) (az (aK aM) aR)))) (aq (aK aM)) (gU _)) (cj (eN (i:=6) uG.nd rfl (bU rfl) (lg (az (cz (cg hr.bK) cA (aH (pv 2)) (aq (aK aM)) (fun _ _=>rfl)) (az (cz (cg hr.bK) cA (aH (pv 2)) (aq (bC dB dD (aq (aK aM)) (aq (bH bV (hr.mono (by decide)) rfl (az (aO (pv 0)) (az (aK aM) aR)))))) (fun _ _=>rfl)) aR))))) lM) (bG (eN (i:=7) uG.nd rfl (bU rfl) (cz (cg hr.bK) cA (aq (bC dB dD (aq (gR (Wx rfl) Z0 rfl T.yp (by decide +kernel) (cW (aH (pv 3)) eV))) (aq (kI (aH (pv 2)) (jd (aq (aK aM))) (jd (aq (aK aM))))))) (aq (bH bV (hr.mono (by decide)) rfl (az (aO (pv 0)) (az (bC dB dD (aq (gR pA pJ rfl T.lV (by decide +kernel) (cW (aH (pv 3)) eV))) (aq (vW O8 R7 rfl T.Bv (by decide +kernel) (cW (aq (tW (uK hr.units) uO (aq (bH bV (hr.mono (by decide)) rfl (az (aO (pv 0)) (az (aK aM) aR)))) (aq (aK aM)) (gU _))) eV)))) aR)))) (fun _ _=>rfl))) (bG (wF (i:=8) (j:=9) rfl uG.nd rfl rfl (by decide) rfl rfl (iz (bC dB dD (aq (lg (az (aO (pv 7)) (az (bH Ah (hr.mono (by decide)) rfl (az (aO (pv 0)) aR)) aR)))) (aH (pv 6))) (iz (cz (cg hr.bK) cA (aq (bH Ag (hr.mono (by decide)) rfl (az (aO (pv 0)) aR))) (aq (bH bV (hr.mono (by decide)) rfl (az (aO (pv 0)) (az (aK aM) aR)))) (fun _ _=>rfl)) qu)) rfl) (cj (gW (lg (az (aO (pv 3)) (az (aO (pv 4)) (az (bH M6 (hr.mono (by decide)) rfl (az (aO (pv 0)) (az (aO (pv 3)) (az (aO (pv 4)) (az (bH bV (hr.mono (by decide)) rfl (az (aO (pv 0)) (az (bC dB dD (aH (pv 1)) (aq (aK aM))) aR))) (az (aO (pv 8)) (az (aO (pv 9)) aR))))))) (az (aO (pv 8)) (az (aO (pv 9)) aR))))))))))))))))
theorem aiB{P:bh}{w:aZ}{K:aG}{mg:Str→Option Value}{base:aV}{cH:Tok}{f:aa}{fd:dz}(F:fL K "_law_lets" "_law_lets" Rp f fd)(T:Txt K mg cH)(zZ:c7 P w K mg base "_law_parts_over" 1 (["_law_parts","_law_part"]:List Str) (spT K zY)):dw P w K mg base eY 2 f fd (["_law_parts","_law_paper","_law_day","_law_leave"]:List Str) (spT K JP):=
 iR (body:=Ax) F aix fun cdv A outer s H E hr=>(bG (lO (PW.pt (Bo (gj (uL hr.bK) uP (aq (cz (cg hr.bK) cA (aH (pv 3)) (aq (aK aM)) (fun _ _=>rfl))) (aq (kI (aH (pv 1)) (jd (aq (aK aM))) qx)) (by with_unfolding_all rfl)) (Bo (gj (uL hr.bK) uP (aq (cz (cg hr.bK) cA (aH (pv 3)) (aq (aK aM)) (fun _ _=>rfl))) (aq (kI (aH (pv 1)) (jd (aq (aK aM))) qx)) (by with_unfolding_all rfl)) (Eg (gj (IW hr.bK) Jl (aq (cz (cg hr.bK) cA (aH (pv 3)) (aq (aK aM)) (fun _ _=>rfl))) (aq (bH zZ (hr.mono (by decide)) rfl (az (aO (pv 0)) (az (cz (cg hr.bK) cA (aH (pv 1)) (aq (aK aM)) (fun _ _=>rfl)) aR)))) (by with_unfolding_all rfl)))))) (cj (gW (aK wH))) lM) (cj (gW (Bb (ak4 yE yN yE yN (aq (cz (cg hr.bK) cA (aH (pv 3)) (aq (aK aM)) (fun _ _=>rfl))) (aH (pv 2)) (aq (cz (cg hr.bK) cA (aH (pv 3)) (aq (aK aM)) (fun _ _=>rfl)))) (Eh (tW yE yN (aq (cz (cg hr.bK) cA (aH (pv 1)) (aq (aK aM)) (fun _ _=>rfl))) (aq (cz (cg hr.bK) cA (aH (pv 3)) (aq (aK aM)) (fun _ _=>rfl))) (gU _)))))))
theorem afi{P:bh}{w:aZ}{K:aG}{mg:Str→Option Value}{base:aV}{cH:Tok}{f:aa}{fd:dz}(F:fL K "_law_widest_of" "_law_widest_of" HX f fd)(T:Txt K mg cH)(Ru:c7 P w K mg base "_law_lets" 2 (["_law_parts","_law_paper","_law_day","_law_leave"]:List Str) (spT K JP)):dw P w K mg base eY 3 f fd (["_law_parts","_law_leaves","_law_paper","_law_holder","_law_day"]:List Str) (spT K Ia):=
 iR (body:=Xi) F CP fun cdv A outer s H E hr=>(bG (eN (i:=5) CP.nd rfl (bU rfl) (Kc (gj (IW hr.bK) Jl (aH (pv 3)) (aq (kI (aH (pv 2)) (jd (aq (aK aM))) qx)) (by with_unfolding_all rfl)) (ZR (aH (pv 3)) (bC DR Ec (aq (aK aM)) (aq (aK aM)))) Zo)) (bG (Zw (i:=6) (T:=.one) (NT:=(["_law_leave"]:List Str)) (NF:=(["_law_parts","_law_paper","_law_day"]:List Str)) (js:=[0,2,4]) (qG.ok (N0:=(["_law_parts","_law_leaves","_law_paper","_law_holder","_law_day","_law_best","_law_steps","_law_turn","_law_leave"]:List Str)) (mZ:=cV HX) (by decide +kernel) rfl rfl) (⟨_,⟨_,rfl⟩,rfl⟩) rfl (acy (aH (pv 1))) (fun b=>⟨(JH (qm (aq (bH Ru (hr.mono (by decide)) rfl (az (aO (pv 1)) (az (bC dB dD (aq (lg (az (cz (cg hr.bK) cA (aH (pv 2)) (aq (aK aM)) (fun _ _=>rfl)) (az (aK aM) aR)))) (aq (kI (aH (pv 2)) (jd (aq (aK aM))) qx))) (az (aO (pv 3)) (az (aO (pv 0)) aR)))))))),(aO (pv 0))⟩) (by rfl) CP.nd rfl rfl) (bG (nH j8 rfl (q9 rfl T.oH (aq (gR pA pJ rfl T.lV (by decide +kernel) (cW (aH (pv 6)) eV)))) (fY (i:=7) CP.nd rfl (bU rfl)) ji (cj (nH j8 rfl (yZ (aO (pv 6))) (fY (i:=8) CP.nd rfl (bU rfl)) ji (cj (lO (gj (uL hr.bK) uP (aq (cz (cg hr.bK) cA (aH (pv 8)) (aq (aK aM)) (fun _ _=>rfl))) (aH (pv 5)) (by with_unfolding_all rfl)) (cj (Ei hr.bK (pv 5) (aq (cz (cg hr.bK) cA (aH (pv 8)) (aq (aK aM)) (fun _ _=>rfl))) (gR (O7 rfl) Rc rfl T.Fe (by decide +kernel) (cW (aq (abB hr.bK (aH (pv 5)) (aq (cz (cg hr.bK) cA (aH (pv 8)) (aq (aK aM)) (fun _ _=>rfl))) (RV (aq (aK aM))) ⟨rfl,rfl,rfl,rfl⟩)) (cW (aq (gR (Aj rfl) Av rfl T.uh (by decide +kernel) (cW (aq (cz (cg hr.bK) cA (aH (pv 5)) (aq (cz (cg hr.bK) cA (aH (pv 8)) (aq (aK aM)) (fun _ _=>rfl))) (fun _ _=>rfl))) (cW (aq (cz (cg hr.bK) cA (aH (pv 8)) (aq (aK aM)) (fun _ _=>rfl))) eV)))) eV))))) lM))))) (cj (qi (pv 5))))))
theorem aeT{P:bh}{w:aZ}{K:aG}{mg:Str→Option Value}{base:aV}{cH:Tok}{f:aa}{fd:dz}(F:fL K "_law_chain_right" "_law_chain_right" M3 f fd)(T:Txt K mg cH)(Am:c7 P w K mg base "most_of" 4 (["house","part","sides","holder","signer","day"]:List Str) (spT K Al))(bV:c7 P w K mg base "_law_pick" 2 (["_law_left","_law_many"]:List Str) (spT K bQ))(wz:c7 P w K mg base "_law_same" 3 (["_law_found","_law_due"]:List Str) (spT K (qj 3)))(z6:c7 P w K mg base "_law_some_names" 3 (["_law_left","_law_many"]:List Str) (spT K zW))(z7:c7 P w K mg base "_law_some_parts" 3 (["_law_left","_law_names"]:List Str) (spT K zX))(Ai:c7 P w K mg base "_law_house_of" 1 (["_law_parts","_law_leaves"]:List Str) (spT K Af)):dw P w K mg base eY 5 f fd (["_law_left"]:List Str) (spT K Hs):=
 iR (body:=M5) F mO fun cdv A outer s H E hr=>(bG (wF (i:=1) (j:=2) rfl mO.nd rfl rfl (by decide) rfl rfl (iz (bH z6 (hr.mono (by decide)) rfl (az (aO (pv 0)) (az (aK aM) aR))) (iz (bC dB dD (aq (aK aM)) (aq (bH bV (hr.mono (by decide)) rfl (az (aO (pv 0)) (az (aK aM) aR))))) qu)) rfl) (bG (eN (i:=3) mO.nd rfl (bU rfl) (bH z7 (hr.mono (by decide)) rfl (az (aO (pv 0)) (az (kI (aH (pv 1)) qx (jd (aq (bC dB dD (aq (aK aM)) (aq (bH bV (hr.mono (by decide)) rfl (az (aO (pv 0)) (az (aK aM) aR)))))))) aR)))) (bG (Q9 (is:=[4,5,6,7,8]) (iz (kI (aH (pv 1)) (jd (aq (aK aM))) (jd (aq (bC dB dD (aq (aK aM)) (aH (pv 2)))))) (iz (cz (cg hr.bK) cA (aH (pv 1)) (aq (aK aM)) (fun _ _=>rfl)) (iz (aK aM) (iz (jk aR) (iz (jk aR) qu))))) (yC rfl (jW (fY (i:=4) mO.nd rfl (bU rfl)) (jW (fY (i:=5) mO.nd rfl (bU rfl)) (jW (fY (i:=6) mO.nd rfl (bU rfl)) (jW (fY (i:=7) mO.nd rfl (bU rfl)) (jW (fY (i:=8) mO.nd rfl (bU rfl)) yq))))))) (bG (nH j8 rfl (q9 rfl T.oH (aq (bC wA wB (aH (pv 2)) (aq (aK aM))))) (fY (i:=9) mO.nd rfl (bU rfl)) ji (bG (wF (i:=10) (j:=11) rfl mO.nd rfl rfl (by decide) rfl rfl (iz (bH bV (hr.mono (by decide)) rfl (az (aO (pv 0)) (az (aK aM) aR))) (iz (cz (cg hr.bK) cA (aq (jk (az (bC kY kZ (aq (aK aM)) (aH (pv 9))) (az (bC wA wB (aq (aK aM)) (aq (bC kY kZ (aq (aK aM)) (aH (pv 9))))) (az (bH bV (hr.mono (by decide)) rfl (az (aO (pv 0)) (az (aK aM) aR))) aR))))) (aq (bH bV (hr.mono (by decide)) rfl (az (aO (pv 0)) (az (aK aM) aR)))) (fun _ _=>rfl)) qu)) rfl) (bG (nH j8 rfl (yZ (lg (az (bC kY kZ (aq (aK aM)) (aH (pv 9))) (az (bC dB dD (aq (bC kY kZ (aq (aK aM)) (aH (pv 9)))) (aq (aK aM))) aR)))) (fY (i:=12) mO.nd rfl (bU rfl)) ji (bG (eN (i:=13) mO.nd rfl (bU rfl) (cz (cg hr.bK) cA (aq (jk (az (aO (pv 11)) (az (bC dB dD (aH (pv 11)) (aq (bC kY kZ (aq (aK aM)) (aq (bC pG pI (aH (pv 12)) (aq (aK aM))))))) (az (bC wA wB (aq (bC dB dD (aH (pv 11)) (aq (aK aM)))) (aq (bC kY kZ (aq (aK aM)) (aq (bC pG pI (aH (pv 12)) (aq (aK aM))))))) aR))))) (aH (pv 10)) (fun _ _=>rfl))) (cj (wG (pv 8) (lg (az (aO (pv 12)) (az (cz (cg hr.bK) cA (aH (pv 4)) (aH (pv 9)) (fun _ _=>rfl)) (az (cz (cg hr.bK) cA (aH (pv 4)) (aq (bC dB dD (aH (pv 9)) (aq (aK aM)))) (fun _ _=>rfl)) (az (aO (pv 5)) (az (aK aM) (az (aK aM) (az (aO (pv 13)) aR)))))))))))) (cj (wG (pv 7) (gR (O7 rfl) Rc rfl T.Fe (by decide +kernel) (cW (aq (cz (cg hr.bK) cA (aq (cz (cg hr.bK) cA (aH (pv 8)) (aq (RV (aq (aK aM)))) (fun _ _=>rfl))) (aq (aK aM)) (fun _ _=>rfl))) (cW (aq (cz (cg hr.bK) cA (aq (cz (cg hr.bK) cA (aH (pv 8)) (aq (RV (aq (aK aM)))) (fun _ _=>rfl))) (aq (aK aM)) (fun _ _=>rfl))) eV)))))))) (bG (eN (i:=14) mO.nd rfl (bU rfl) (bH Ai (hr.mono (by decide)) rfl (az (aO (pv 3)) (az (aO (pv 8)) aR)))) (bG (nH j8 rfl (q9 rfl T.oH (aq (aK aM))) (fY (i:=15) mO.nd rfl (bU rfl)) ji (bG (wF (i:=16) (j:=17) rfl mO.nd rfl rfl (by decide) rfl rfl (iz (bH bV (hr.mono (by decide)) rfl (az (aO (pv 0)) (az (aO (pv 2)) aR))) (iz (bH bV (hr.mono (by decide)) rfl (az (aO (pv 0)) (az (aO (pv 2)) aR))) qu)) rfl) (bG (eN (i:=18) mO.nd rfl (bU rfl) (Kc (gj yE yN (aH (pv 16)) (aH (pv 17)) (gU _)) (gR (agq rfl) ajO rfl T.uh (by decide +kernel) (cW (aq (bC dB dD (aq (jk (az (bC DR Ec (aq (aK aM)) (aq (aK aM))) aR))) (aq (kI (aH (pv 7)) (jd (aH (pv 16))) (jd (aH (pv 17))))))) eV)) (aK yz))) (cj (lO (Ef (qm (aq (bH wz (hr.mono (by decide)) rfl (az (bH Am (hr.mono (by decide)) rfl (az (aO (pv 14)) (az (aO (pv 5)) (az (lg (az (cz (cg hr.bK) cA (aH (pv 1)) (aq (aK aM)) (fun _ _=>rfl)) (az (cz (cg hr.bK) cA (aH (pv 1)) (aq (aK aM)) (fun _ _=>rfl)) aR))) (az (cz (cg hr.bK) cA (aH (pv 4)) (aH (pv 16)) (fun _ _=>rfl)) (az (cz (cg hr.bK) cA (aH (pv 4)) (aH (pv 17)) (fun _ _=>rfl)) (az (aO (pv 6)) aR))))))) (az (aO (pv 18)) aR)))))) (cj (gW (aK wH))) lM))))) (cj (gW (aK wH)))))))))
theorem alu{P:bh}{w:aZ}{K:aG}{mg:Str→Option Value}{base:aV}{cH:Tok}{f:aa}{fd:dz}(F:fL K "law" "law" Tn f fd)(T:Txt K mg cH)(Am:c7 P w K mg base "most_of" 4 (["house","part","sides","holder","signer","day"]:List Str) (spT K Al))(Nu:c7 P w K mg base "_law_drawn_from" 1 (["_law_script","_law_k"]:List Str) (spT K HD))(wz:c7 P w K mg base "_law_same" 3 (["_law_found","_law_due"]:List Str) (spT K (qj 3)))(Ot:c7 P w K mg base "_law_shuffled" 3 (["_law_left","_law_things"]:List Str) (spT K CV))(Ai:c7 P w K mg base "_law_house_of" 1 (["_law_parts","_law_leaves"]:List Str) (spT K Af))(Rv:c7 P w K mg base "_law_case" 5 (["_law_left","_law_most"]:List Str) (spT K JN))(N6:c7 P w K mg base "_law_widest_of" 3 (["_law_parts","_law_leaves","_law_paper","_law_holder","_law_day"]:List Str) (spT K Ia))(M7:c7 P w K mg base "_law_chain_right" 5 (["_law_left"]:List Str) (spT K Hs)):dw P w K mg base eY 6 f fd (["_law_script"]:List Str) (spT K Bw):=
 iR (body:=Tr) F pL fun cdv A outer s H E hr=>(bG (nH j8 rfl (q9 rfl T.oH (aq (bC dB dD (aq (aK aM)) (aq (gR (Aj rfl) Av rfl T.uh (by decide +kernel) (cW (aq (aK aM)) (cW (aq (aaK (pv 0) rfl T.lV (by decide +kernel))) eV))))))) (fY (i:=1) pL.nd rfl (bU rfl)) ji (bG (ak7 (i:=2) pL.nd rfl (bU rfl) (bH Nu (hr.mono (by decide)) rfl (az (aO (pv 0)) (az (aO (pv 1)) aR)))) (bG (RW (bH Rv (hr.mono (by decide)) rfl (az (aO (pv 2)) (az (aK aM) aR))) (yC rfl (jW (fY (i:=3) pL.nd rfl (bU rfl)) (jW (fY (i:=4) pL.nd rfl (bU rfl)) (jW (fY (i:=5) pL.nd rfl (bU rfl)) (jW (fY (i:=6) pL.nd rfl (bU rfl)) (jW (fY (i:=7) pL.nd rfl (bU rfl)) yq)))))) (JW (qZ ji (qZ ji (qZ ji (qZ ji (qZ ji JD))))))) (bG (wF (i:=8) (j:=9) rfl pL.nd rfl rfl (by decide) rfl rfl (iz (bH Ai (hr.mono (by decide)) rfl (az (aO (pv 3)) (az (aO (pv 5)) aR))) (iz (kI (aq (bH Ot (hr.mono (by decide)) rfl (az (aO (pv 2)) (az (aO (pv 4)) aR)))) qx (jd (aq (aK aM)))) qu)) rfl) (bG (eN (i:=10) pL.nd rfl (bU rfl) (vW (YK hr.gd hr.units) aaS rfl T.yR (by decide +kernel) (cW (aH (pv 8)) eV))) (bG (nH j8 rfl (yZ (aO (pv 9))) (fY (i:=11) pL.nd rfl (bU rfl)) ji (bG (eN (i:=12) pL.nd rfl (bU rfl) (bH N6 (hr.mono (by decide)) rfl (az (aO (pv 3)) (az (aO (pv 5)) (az (aO (pv 6)) (az (aO (pv 11)) (az (aO (pv 7)) aR))))))) (cj (nH j8 rfl (yZ (bC dB dD (aH (pv 9)) (aq (kI (aH (pv 9)) qx (jd (aq (aK aM))))))) (fY (i:=13) pL.nd rfl (bU rfl)) ji (cj (lO (Ef (qm (aq (bH wz (hr.mono (by decide)) rfl (az (bH Am (hr.mono (by decide)) rfl (az (aO (pv 8)) (az (cz (cg hr.bK) cA (aH (pv 6)) (aq (aK aM)) (fun _ _=>rfl)) (az (kI (aH (pv 6)) (jd (aq (aK aM))) qx) (az (aO (pv 11)) (az (aO (pv 13)) (az (aO (pv 7)) aR))))))) (az (abB hr.bK (aH (pv 12)) (aH (pv 13)) (aK yz) ⟨rfl,rfl,rfl,rfl⟩) aR)))))) (cj (gW (aK wH))) lM)))))) (cj (lO (PW.pt (Bo (gj (Ba hr.units) Bm (aq (vW (YK hr.gd hr.units) aaS rfl T.yR (by decide +kernel) (cW (aH (pv 8)) eV))) (aH (pv 10)) (gU _)) (Eg (Ef (qm (aq (bH M7 (hr.mono (by decide)) rfl (az (aO (pv 2)) aR)))))))) (cj (gW (aK wH))) lM)))))))) (cj (gW (aK wH))))
local macro_rules|`(tactic|simp_arith[$ts,*])=>`(tactic|simp only[e_bin,e_dat,e_bv,e_and,e_or,e_not,e_if,e_ifv,fVar,fTst,fTru,truD,fCst,dat,still,fCal,fFun,aCons,aNil,bCons,bNil,oCons,fSet,fSeq,fRet,fRetV,fNext,fNeg,fLst,fTup,allIm,iB,iV,iB2,iV2,itD,itD2,fLC,frB,fPar,setM,fUnp,gTp,gsCons,gsNil,gNm,LIM,add_int,sub_int,le_int,lt_int,ge_int,gt_int,eq_int,eq_strs,ne_strs,in_strs,ix_t,ix_l,a_t0,a_t1,a_t2,a_t3,a_t4,a_t5,a_t6,rst_same,r_ow,r_bool,r_int,r_str,r_tl,Option.bind_some,Option.map_some,List.getElem?_cons_zero,List.getElem?_cons_succ,List.set_cons_zero,List.set_cons_succ,List.map_cons,List.map_nil,List.length_cons,List.length_nil,Bool.not_true,Bool.not_false,if_true,if_false,ite_self,Bool.false_eq_true,Option.join,id_eq,Nat.reduceAdd,Nat.reduceLeDiff,Nat.reduceLT,and_true,true_and,and_self,String.reduceBEq,Bool.or_false,Bool.or_true,Bool.false_or,Bool.true_or,Bool.and_true,Bool.and_false,Bool.true_and,Bool.false_and,decide_true,decide_false,reduceCtorEq,eq_bool,ne_bool,ne_int,len_l,len_t,beq_self_eq_true,List.length_map,h_ix0,h_ix1,h_ix2,h_ix3,k_ix0,k_ix1,k_ix2,k_ix3,k_ix4,k_ix5,noLs_strs,noLs_ints,imO,putO,intD,strD,cond_true,cond_false,$ts,*])
theorem abH{C:Ce}{c k:Int}(k0:0≤k)(k1:k≤1000000):∃r:Int,El [.im (.int c),.im (.int k)] C=some (.im (.int r),C)∧0≤r:=by
 obtain⟨m,hm⟩:∃m,(c%2147483629+k*k*7919+11)*48271%2147483647=m:=⟨_,rfl⟩
 have m0:0≤m:=by rw[←hm];exact nu _ (by decide)
 have m1:m<2147483647:=by rw[←hm];exact sO _ (by decide)
 refine⟨m*m%1999999973,gk [some (.im (.int c)),some (.im (.int k)),none] rfl rfl ?_ rfl rfl,nu _ (by decide)⟩
 simp_arith[Sw,mod_eq (i:=c) (j:=2147483629) (by decide),mul_eq (i:=k) (j:=k) (.inl (by omega)),mul_eq (i:=k*k) (j:=7919) (.inr (by decide)),mul_eq (i:=c%2147483629+k*k*7919+11) (j:=48271) (.inr (by decide)),mod_eq (i:=(c%2147483629+k*k*7919+11)*48271) (j:=2147483647) (by decide),hm,mul_eq (i:=m) (j:=m) (.inl (by omega)),mod_eq (i:=m*m) (j:=1999999973) (by decide)]
theorem dg{C:Ce}{b L k:Nat}{m:Int}(h:Bl L C b (k+1))(h0:0<m)(h1:m<1073741824):
  ∃t C',bQ [.ce b,.im (.int m)] C=some (.im (.int t),C')∧0≤t∧t<m∧Bl L C' b k:=by
 obtain⟨hL,x,y,z,hc,hx,hz,hz2⟩:=h
 have i0:mD 3 0=some 0:=rfl;have i2:mD 3 2=some 2:=rfl;have c2:(C.set b [x,y,z+1])[b]?=some [x,y,z+1]:=abD hc;by_cases hp:0<x
 ·refine⟨x%m,(C.set b [x,y,z+1]).set b [x / m,y,z+1],gk [some (.ce b),some (.im (.int m)),none] rfl rfl ?_ rfl (by simp),nu _ (by omega),sO _ h0,⟨by simpa using hL,x / m,y,z+1,abD c2,aeU hx (by omega),by omega,by omega⟩⟩
  simp_arith[JM,rP,hc,c2,hp,mod_eq h0,fdiv_eq h0 h1,pU,rH,i0,i2]
 ·obtain⟨r1,e1,p1⟩:=abH (C:=C.set b [x,y,z+1]) (c:=y) (k:=z+1) (by omega) (by omega)
  obtain⟨r2,e2,p2⟩:=abH (C:=C.set b [x,y,z+1]) (c:=r1) (k:=z+1+64) (by omega) (by omega)
  refine⟨r2 / 64%m,C.set b [x,y,z+1],gk [some (.ce b),some (.im (.int m)),none] rfl rfl ?_ rfl (by simp),nu _ (by omega),sO _ h0,⟨by simpa using hL,x,y,z+1,c2,hx,by omega,by omega⟩⟩
  simp_arith[JM,rP,hc,c2,hp,pU,rH,i0,i2,e1,e2,fdiv_eq (j:=64) (by omega) (by omega),mod_eq h0]
theorem aiC{C:Ce}{ns:List Int}{k:Int}(k0:0≤k)(k9:k≤100):∃x y:Int,HD [.sc ns,.im (.int k)] C=some (.ow (.list [.int x,.int y,.int 0]),C)∧0≤x:=by
 obtain⟨c,hc⟩:∃c:Int,rO (fTst (aD uZ (au 1) (aj (wN 0)))) (Fq 0 (au 1)) (fCst (.int 0)) [some (.sc ns),some (.im (.int k)),none] C=some (.im (.int c),[some (.sc ns),some (.im (.int k)),none],C):=by
  by_cases h:k<ns.length
  ·obtain⟨c,hc,_⟩:=abE (xs:=ns) k0 h
   exact⟨c,by simp_arith[wN,Fq,h,hc]⟩
  ·exact⟨0,by simp_arith[wN,h]⟩
 have a0:0≤(if c<0 then -c else c):=by split<;>omega
 obtain⟨a,hA⟩:∃a,(if c<0 then -c else c)=a:=⟨_,rfl⟩
 rw[hA] at a0;have pw:oM (.int 10) (.int 18)=some (.im (.int 1000000000000000000)):=rfl
 obtain⟨j,x,hj,hx,x0⟩:∃(j x:Int),(if decide (1000000000000000000≤a)=true then(1:Int) else 0)=j∧cX [lH 0,.int a] j=some (.int x)∧0≤x:=by
  by_cases h:1000000000000000000≤a
  ·exact⟨1,a,by rw[if_pos (decide_eq_true h)],rfl,a0⟩
  ·exact⟨0,0,by rw[if_neg (by simpa using h)],rfl,o9 _⟩
 refine⟨x,c+1000003*k,gk [some (.sc ns),some (.im (.int k)),none] rfl rfl ?_ rfl rfl,x0⟩
 simp_arith[Np,↓hc,Ew,hA,pw,wO,hj,hx,mul_eq (i:=1000003) (j:=k) (.inl (by decide))]
theorem aj2{fe:FE}(he:fe=aD bf (au 1) (aj (fCal bQ (aCons (fVar 2) (aCons (fCst (.int 26)) aNil))))){C:Ce}{b L j:Nat}{size:Int}(h:Bl L C b (j+3))(h0:0≤size)(h1:size≤3):
  ∃(cs:List Nat)(C':Ce),kE .one je fe [some (.im (.str abc)),some (.ce b)] (gn 0 size.toNat) C=some ((cs.map fun c=>.str ⟨#[c]⟩),C')∧cs.length=size.toNat∧(∀c∈cs,97≤c∧c≤122)∧Bl L C' b j:=by
 subst he;refine hide fun GG gg=>?_
 obtain⟨ys,C',e,hB,hl,hr⟩:=Yw (T:=.one) (fe:=aD bf (au 1) (aj (fCal bQ (aCons (fVar 2) (aCons (fCst (.int 26)) aNil))))) (fs:=[some (.im (.str abc)),some (.ce b)]) (fun i C1=>Bl L C1 b (j+(3-i))) (fun _ y=>∃c:Nat,y=.str ⟨#[c]⟩∧97≤c∧c≤122) (its:=gn 0 size.toNat) (C:=C) (k:=0) h (fun i d C1 hd hB=>by
  obtain⟨rfl,hi⟩:=yw hd
  rw[HN] at hB⊢;rw[alm j (by omega:i<3)] at hB
  obtain⟨k1,C2,e1,a1,b1,gA⟩:=dg (m:=26) hB (by decide) (by decide)
  refine⟨_,.im (.str ⟨#[97+k1.toNat]⟩),[some (.im (.int (0+i))),some (.im (.str abc)),some (.ce b)],C2,.str ⟨#[97+k1.toNat]⟩,rfl,?_,rfl,⟨_,rfl,by omega,by omega⟩,gA⟩
  simp_arith[eZ,jV,jC,e1,bf,letters k1 a1 b1])
 rw[Jq] at hB hl
 obtain⟨cs,rfl,hcs⟩:∃cs:List Nat,ys=cs.map (fun c=>.str ⟨#[c]⟩)∧∀c∈cs,97≤c∧c≤122:=by
  clear e hl hB gg;induction ys with
  |nil=>exact⟨[],rfl,fun _ m=>(nomatch m)⟩
  |cons y ys ih=>
   obtain⟨c,rfl,c1,c2⟩:=hr 0 y rfl
   obtain⟨cs,rfl,h2⟩:=ih fun i z hz=>hr (i+1) z (by simpa using hz)
   exact⟨c::cs,rfl,fun x hx=>by
    rcases bI.mp hx with rfl|hx
    ·exact⟨c1,c2⟩
    ·exact h2 x hx⟩
 exact gg ⟨cs,C',e,by simpa using hl,hcs,hB.mono (Mr _ _)⟩
theorem aaV{cs:List Nat}(h:cs.length≤100):∃z:Str,J0 (.str (fD "")) (.list (cs.map fun c=>.str ⟨#[c]⟩))=some (.im (.str z))∧z.cps.toList=cs∧z.length=cs.length:=by
 refine⟨Txt.join (fD "") (cs.map fun c=>⟨#[c]⟩),?_,X4 cs,?_⟩
 ·simp only[J0,Xd];refine if_pos ?_;rw[fO,aaN,ahi,Nat.mul_zero];unfold LIM;omega
 ·have:=congrArg qU (X4 cs);rw[←this];show _=(Txt.join (fD "") (cs.map fun c=>⟨#[c]⟩)).cps.toList.length;simp;rfl
theorem Rw(n:Nat):gn 0 n=(dZ n).map fun(i:Nat)=>lH (i:Int):=by
 unfold gn;refine zE fun i _=>?_
 rw[Xj]
theorem ahq{C:Ce}(f:Int):kE .one je Hg [some (.im (.str abc)),some (.im (.int f))] (gn 0 8) C=some ((lU f).map (fun c=>.str ⟨#[c]⟩),C):=by
 rw[Rw];have:=uD (T:=.one) (ft:=je) (fe:=Hg) (fs:=[some (.im (.str abc)),some (.im (.int f))]) (C:=C) (fun(i:Nat)=>lH (i:Int)) (fun _=>true) (fun(k:Nat)=>.str ⟨#[97+((f+5*(k:Int))%26).toNat]⟩) (l:=dZ 8) fun k _=>by
  have a1:0≤(f+5*(k:Int))%26:=nu _ (by decide);have a2:(f+5*(k:Int))%26<26:=sO _ (by decide)
  refine⟨[.int (k:Int)],rfl,rfl,fun _=>⟨.im (.str ⟨#[97+((f+5*(k:Int))%26).toNat]⟩),[some (.im (.int (k:Int))),some (.im (.str abc)),some (.im (.int f))],?_,rfl⟩⟩
  simp_arith[eZ,jV,jC,mul_eq (i:=5) (j:=(k:Int)) (.inl (by decide)),mod_eq (i:=f+5*(k:Int)) (j:=26) (by decide),bf,letters _ a1 a2]
 rw[Ls.mpr fun _ _=>rfl] at this;unfold lU;rw[fO];exact this
theorem aiD{C:Ce}{f s:Int}(s0:0<s)(s1:s≤675)(n:Nat):kE .one je Hf [some (.im (.str abc)),some (.im (.int f)),some (.im (.int s))] (gn 0 n) C=some (((dZ n).map (n1 f s)).map .str,C):=by
 rw[Rw];have:=uD (T:=.one) (ft:=je) (fe:=Hf) (fs:=[some (.im (.str abc)),some (.im (.int f)),some (.im (.int s))]) (C:=C) (fun(i:Nat)=>lH (i:Int)) (fun _=>true) (fun(k:Nat)=>.str (n1 f s k)) (l:=dZ n) fun k _=>by
  have a1:0≤(f+s*(k:Int))%26:=nu _ (by decide);have a2:(f+s*(k:Int))%26<26:=sO _ (by decide)
  refine⟨[.int (k:Int)],rfl,rfl,fun _=>⟨.im (.str (n1 f s k)),[some (.im (.int (k:Int))),some (.im (.str abc)),some (.im (.int f)),some (.im (.int s))],?_,rfl⟩⟩
  simp_arith[eZ,jV,jC,mul_eq (i:=s) (j:=(k:Int)) (.inl (by omega)),mod_eq (i:=f+s*(k:Int)) (j:=26) (by decide),bf,letters _ a1 a2];rfl
 rw[Ls.mpr fun _ _=>rfl] at this;rw[fO];exact this
theorem aiE{C:Ce}{z:Str}(hz:z.length≤8)(n:Nat):kE .one je Mm [some (.im (.str z)),some (.im (.int (1+(n:Int))))] (gn 0 (8-n)) C=some ((sb z n).map .str,C):=by
 rw[Rw];have hl:(z.length≤1000000)=True:=eq_true (by omega);have:=uD (T:=.one) (ft:=je) (fe:=Mm) (fs:=[some (.im (.str z)),some (.im (.int (1+(n:Int))))]) (C:=C) (fun(i:Nat)=>lH (i:Int)) (fun _=>true) (fun(k:Nat)=>.str (sl z (n+1) k)) (l:=dZ (8-n)) fun k _=>by
  refine⟨[.int (k:Int)],rfl,rfl,fun _=>⟨.im (.str (sl z (n+1) k)),[some (.im (.int (k:Int))),some (.im (.str z)),some (.im (.int (1+(n:Int))))],?_,rfl⟩⟩
  have e:(k:Int)+(1+(n:Int))=(k:Int)+((n+1:Nat):Int):=by omega
  simp_arith[eZ,jV,jC,dj,cN,jz,hl,e];rfl
 rw[Ls.mpr fun _ _=>rfl] at this;unfold sb;rw[fO];exact this
theorem Tt{x y:Str}(h:x.length+y.length≤1000000):bO (.str x) (.str y)=some (.im (.str (x++y))):=if_pos h
abbrev fM(b:Nat)(m:Int)(hd tl:Str)(f s:Int)(v7 v8 v9 v10 v11 bJ:Option Vl):En:=
 [some (.ce b),some (.im (.int m)),some (.im (.str abc)),some (.im (.str hd)),some (.im (.str tl)),some (.im (.int f)),some (.im (.int s)),v7,v8,v9,v10,v11,bJ]
theorem amb{C:Ce}{b:Nat}{m f s k q:Int}{hd tl:Str}{v7 v8 v9 v11 bJ:Option Vl}(k0:0≤k)(k1:k<40)(hq:(k*k+f)%4=q):aD jw (aj (aD bO (aj (aD fQ (au 10) (au 10))) (au 5))) (aj (fCst (.int 4))) (fM b m hd tl f s v7 v8 v9 (some (.im (.int k))) v11 bJ) C=some (.im (.int q),fM b m hd tl f s v7 v8 v9 (some (.im (.int k))) v11 bJ,C):=by
 have m1:fQ (.int k) (.int k)=some (.im (.int (k*k))):=mul_eq (.inl (by omega));generalize k*k=kk at m1 hq;have m2:jw (.int (kk+f)) (.int 4)=some (.im (.int ((kk+f)%4))):=mod_eq (by omega);rw[hq] at m2;simp_arith[fM,m1,m2]
theorem amc{C:Ce}{b:Nat}{m f s k q:Int}{hd tl cut:Str}{v7 v8 v9 v11 bJ:Option Vl}(k0:0≤k)(k1:k<40)(hq:(k*k+f)%4=q)(ht:tl.length≤3)(hc:Txt.slice tl none (some q)=cut):dj (au 4) fV (cN (aj (aD jw (aj (aD bO (aj (aD fQ (au 10) (au 10))) (au 5))) (aj (fCst (.int 4)))))) (fM b m hd tl f s v7 v8 v9 (some (.im (.int k))) v11 bJ) C=some (.im (.str cut),fM b m hd tl f s v7 v8 v9 (some (.im (.int k))) v11 bJ,C):=by
 have e:=amb (C:=C) (b:=b) (m:=m) (s:=s) (hd:=hd) (tl:=tl) (v7:=v7) (v8:=v8) (v9:=v9) (v11:=v11) (bJ:=bJ) k0 k1 hq;have q1:(tl.length≤1000000)=True:=eq_true (by omega);simp only[fM] at e⊢;simp_arith[dj,fV,cN,↓e,jz,q1,hc]
theorem alv{C:Ce}{b:Nat}{m f s k q v:Int}{hd tl cut tw ht nm:Str}{acc:List ao}{v7 v9:Option Vl}(k0:0≤k)(k1:k<40)(hq:(k*k+f)%4=q)(hl:tl.length≤3)(hc:Txt.slice tl none (some q)=cut)(t2:bO (.str hd) (.str tw)=some (.im (.str ht)))(t3:bO (.str ht) (.str cut)=some (.im (.str nm)))(la:(acc.length<1000000)=True):
  jy 8 (aD bO (aj (aD bO (au 3) (au 12))) (aj (dj (au 4) fV (cN (aj (aD jw (aj (aD bO (aj (aD fQ (au 10) (au 10))) (au 5))) (aj (fCst (.int 4))))))))) (fM b m hd tl f s v7 (some (.ow (.list acc))) v9 (some (.im (.int k))) (some (.im (.int v))) (some (.im (.str tw)))) C=some (.nx,fM b m hd tl f s v7 (some (.ow (.list (acc++[.str nm])))) v9 (some (.im (.int k))) (some (.im (.int v))) (some (.im (.str tw))),C):=by
 have e:=amc (C:=C) (b:=b) (m:=m) (s:=s) (hd:=hd) (tl:=tl) (v7:=v7) (v8:=some (.ow (.list acc))) (v9:=v9) (v11:=some (.im (.int v))) (bJ:=some (.im (.str tw))) k0 k1 hq hl hc;simp only[fM] at e⊢;simp_arith[jy,lQ,t2,↓e,t3,la]
theorem alw{C:Ce}{b:Nat}{m f s:Int}{hd tl z:Str}{i:Nat}{v10 v11 bJ:Option Vl}(hz:z.length=8)(hi:i<8):
  zO (fM b m hd tl f s (some (.im (.str z))) (some (.ow (.list ((subs z i).map .str)))) (some (.im (.int (1+(i:Int))))) v10 v11 bJ) C=some (.nx,fM b m hd tl f s (some (.im (.str z))) (some (.ow (.list ((subs z (i+1)).map .str)))) (some (.im (.int (1+(i:Int))))) v10 v11 bJ,C):=by
 have e:=aiE (C:=C) (z:=z) (by omega) i;have e1:(9-(1+(i:Int))).toNat=8-i:=by omega
 have l1:(sb z i).length≤8:=by unfold sb;rw[aX,lC];omega
 have l2:(subs z i).length≤64:=by
  unfold subs sb;rw[ad6];have:∀n,n≤8→((dZ n).map fun a=>((dZ (8-a)).map (sl z (a+1))).length).sum≤8*n:=by
   intro n;induction n with
   |zero=>intro _;exact bN _
   |succ n ih=>
    intro h;rw[Mu,gC,List.sum_append];have:=ih (by omega);simp only[cJ,jo,WY,List.sum_nil,aX,lC] at this⊢;omega
  have:=this i (by omega);omega
 have q1:((sb z i).length≤1000000)=True:=eq_true (by omega);have q2:((subs z i).length+(sb z i).length≤1000000)=True:=eq_true (by omega);have es:subs z (i+1)=subs z i++sb z i:=by
  unfold subs;rw[Mu,List.flatMap_append,List.flatMap_singleton]
 rw[es,gC];simp_arith[zO,fM,Kv,lQ,gY,w5 (m:=9-(1+(i:Int))) (by omega) (by omega),e1,e,q1,q2]
theorem alx{C:Ce}{b:Nat}{m f s:Int}{hd tl:Str}{i:Nat}{v7 v9 v11 bJ:Option Vl}(f0:0≤f)(f1:f<676)(s0:0<s)(s1:s≤675)(hi:i<40)(hh:hd.length≤3)(ht:tl.length≤3):
  ∃w11 w12,zN (fM b m hd tl f s v7 (some (.ow (.list (((dZ i).map (n2 hd tl f s fun k=>((k:Int)*k+f)%4)).map .str)))) v9 (some (.im (.int (i:Int)))) v11 bJ) C
   =some (.nx,fM b m hd tl f s v7 (some (.ow (.list (((dZ (i+1)).map (n2 hd tl f s fun k=>((k:Int)*k+f)%4)).map .str)))) v9 (some (.im (.int (i:Int)))) w11 w12,C):=by
 obtain⟨v,hv⟩:∃v,v2 f s i=v:=⟨_,rfl⟩
 have hv':(f+s*(i:Int))%676=v:=hv;have v0:0≤v:=by rw[←hv];exact nu _ (by decide)
 have v1:v<676:=by rw[←hv];exact sO _ (by decide)
 have a1:0≤v / 26:=aeU v0 (by decide);have a2:v / 26<26:=by omega
 have a3:0≤v%26:=nu _ (by decide);have a4:v%26<26:=sO _ (by decide);have t1:bO (.str ⟨#[97+(v / 26).toNat]⟩) (.str ⟨#[97+(v%26).toNat]⟩)=some (.im (.str (two v))):=Tt (by show 1+1≤1000000;omega);have lt:(two v).length=2:=by
  show((#[97+(v / 26).toNat]:Array Nat)++#[97+(v%26).toNat]).size=2
  rw[V5];rfl
 have t2:bO (.str hd) (.str (two v))=some (.im (.str (hd++two v))):=Tt (by rw[lt];omega);have l3:=PyProof.Txt.length_slice_le tl none (some (((i:Int)*i+f)%4));have l4:(hd++two v).length=hd.length+2:=by
  show(hd.cps++(two v).cps).size=hd.cps.size+2
  rw[V5,show(two v).cps.size=2 from lt]
 have t3:bO (.str (hd++two v)) (.str (Txt.slice tl none (some (((i:Int)*i+f)%4))))=some (.im (.str (n2 hd tl f s (fun k=>((k:Int)*k+f)%4) i))):=by
  unfold n2;rw[hv];exact Tt (by rw[l4];omega)
 have q1:(tl.length≤1000000)=True:=eq_true (by omega);have q2:(i<1000000)=True:=eq_true (by omega)
 obtain⟨acc,hacc⟩:∃acc,acc=((dZ i).map (n2 hd tl f s fun k=>((k:Int)*k+f)%4)).map cL:=⟨_,rfl⟩
 have la:(acc.length<1000000)=True:=eq_true (by rw[hacc,aX,aX,lC];omega);have hn:((dZ (i+1)).map (n2 hd tl f s fun k=>((k:Int)*k+f)%4)).map cL=acc++[.str (n2 hd tl f s (fun k=>((k:Int)*k+f)%4) i)]:=by
  rw[Mu,gC,gC,hacc];rfl
 rw[hn,←hacc];clear hn hacc;generalize n2 hd tl f s (fun k=>((k:Int)*k+f)%4) i=nm at t3⊢
 obtain⟨cut,Ub⟩:∃c,Txt.slice tl none (some (((i:Int)*i+f)%4))=c:=⟨_,rfl⟩
 rw[Ub] at t3;have s1:fSet 11 (aD jw (aj (aD bO (au 5) (aj (aD fQ (au 6) (au 10))))) (aj (fCst (.int 676)))) (fM b m hd tl f s v7 (some (.ow (.list acc))) v9 (some (.im (.int (i:Int)))) v11 bJ) C=some (.nx,fM b m hd tl f s v7 (some (.ow (.list acc))) v9 (some (.im (.int (i:Int)))) (some (.im (.int v))) bJ,C):=by
  simp_arith[fM,mul_eq (i:=s) (j:=(i:Int)) (.inl (by omega)),mod_eq (i:=f+s*(i:Int)) (j:=676) (by omega),hv']
 have s2:fSet 12 (aD bO (aj (aD bf (au 2) (aj (aD wC (au 11) (aj (fCst (.int 26))))))) (aj (aD bf (au 2) (aj (aD jw (au 11) (aj (fCst (.int 26)))))))) (fM b m hd tl f s v7 (some (.ow (.list acc))) v9 (some (.im (.int (i:Int)))) (some (.im (.int v))) bJ) C=some (.nx,fM b m hd tl f s v7 (some (.ow (.list acc))) v9 (some (.im (.int (i:Int)))) (some (.im (.int v))) (some (.im (.str (two v)))),C):=by
  simp_arith[fM,fdiv_eq (i:=v) (j:=26) (by omega) (by omega),mod_eq (i:=v) (j:=26) (by omega),bf,letters _ a1 a2,letters _ a3 a4,t1]
 obtain⟨q,hq⟩:∃q,((i:Int)*(i:Int)+f)%4=q:=⟨_,rfl⟩
 rw[hq] at Ub;have s3:=alv (C:=C) (b:=b) (m:=m) (s:=s) (v:=v) (v7:=v7) (v9:=v9) (by omega) (by omega) hq ht Ub t2 t3 la
 refine⟨some (.im (.int v)),some (.im (.str (two v))),?_⟩
 unfold zN;simp only[fSeq,s1,s2,s3]
theorem aaW{fe:FE}(he:fe=aD bf (au 1) (aj (fCal bQ (aCons (fVar 2) (aCons (fCst (.int 26)) aNil))))){C:Ce}{b L j:Nat}{v1 v3 v4 v5 v6 v7 v8 v9 v10 v11 bJ:Option Vl}(h:Bl L C b (j+4)):
  ∃(z:Str)(C':Ce),rJ (aj (fCst (.str (fD "")))) (aj (fLC (gY (aj (fCal bQ (aCons (fVar 0) (aCons (fCst (.int 4)) aNil))))) .one je fe [2,0])) [some (.ce b),v1,some (.im (.str abc)),v3,v4,v5,v6,v7,v8,v9,v10,v11,bJ] C=some (.im (.str z),[some (.ce b),v1,some (.im (.str abc)),v3,v4,v5,v6,v7,v8,v9,v10,v11,bJ],C')∧z.length≤3∧(∀c∈z.cps.toList,97≤c∧c≤122)∧Bl L C' b j:=by
 refine hide fun GG gg=>?_
 obtain⟨k1,C1,e1,a1,b1,gA⟩:=dg (m:=4) h (by decide) (by decide)
 obtain⟨cs,C2,e2,l2,hc,hB2⟩:=aj2 he (j:=j) (size:=k1) gA a1 (by omega)
 obtain⟨z,e3,e4,e5⟩:=aaV (cs:=cs) (by omega)
 have g5:(k1.toNat≤1000000)=True:=eq_true (by omega);refine gg ⟨z,C2,?_,by omega,by rw[e4];exact hc,hB2⟩;simp_arith[rJ,gY,e1,w5 (m:=k1) (by omega) (by omega),e2,l2,g5,OJ,e3]
theorem aly{C:Ce}{b L j:Nat}{m:Int}(R:FS)(h:Bl L C b (j+10)):
  ∃(hd tl:Str)(f s:Int)(C':Ce),(fSeq (fSet 2 (fCst (.str (fD "abcdefghijklmnopqrstuvwxyz")))) (fSeq (fSet 3 (rJ (aj (fCst (.str (fD "")))) (aj (fLC (gY (aj (fCal bQ (aCons (fVar 0) (aCons (fCst (.int 4)) aNil))))) .one je Mq [2,0])))) (fSeq (fSet 4 (rJ (aj (fCst (.str (fD "")))) (aj (fLC (gY (aj (fCal bQ (aCons (fVar 0) (aCons (fCst (.int 4)) aNil))))) .one je Mp [2,0])))) (fSeq (fPar [5,6] (oCons (fCal bQ (aCons (fVar 0) (aCons (fCst (.int 676)) aNil))) (oCons (aD bf (aj (fLst (aCons (fCst (.int 1)) (aCons (fCst (.int 3)) (aCons (fCst (.int 5)) (aCons (fCst (.int 7)) (aCons (fCst (.int 25)) (aCons (fCst (.int 675)) aNil)))))))) (aj (fCal bQ (aCons (fVar 0) (aCons (fCst (.int 6)) aNil))))) aNil))) R)))) [some (.ce b),some (.im (.int m)),none,none,none,none,none,none,none,none,none,none,none] C
   =R (fM b m hd tl f s none none none none none none) C'∧hd.length≤3∧tl.length≤3∧(∀c∈hd.cps.toList,97≤c∧c≤122)∧(∀c∈tl.cps.toList,97≤c∧c≤122)∧0≤f∧f<676∧Fb s∧Bl L C' b j:=by
 refine hide fun GG gg=>?_
 obtain⟨hd,C1,e1,l1,c1,gA⟩:=aaW (fe:=Mq) rfl (j:=j+6) (v1:=some (.im (.int m))) (v3:=none) (v4:=none) (v5:=none) (v6:=none) (v7:=none) (v8:=none) (v9:=none) (v10:=none) (v11:=none) (bJ:=none) h
 obtain⟨tl,C2,e2,l2,c2,hB2⟩:=aaW (fe:=Mp) rfl (j:=j+2) (v1:=some (.im (.int m))) (v3:=some (.im (.str hd))) (v4:=none) (v5:=none) (v6:=none) (v7:=none) (v8:=none) (v9:=none) (v10:=none) (v11:=none) (bJ:=none) gA
 obtain⟨f,C3,e3,f0,f1,hB3⟩:=dg (m:=676) hB2 (by decide) (by decide)
 obtain⟨k,C4,e4,k0,k1,p6⟩:=dg (m:=6) hB3 (by decide) (by decide)
 obtain⟨s,e5,hs⟩:=step_at k0 k1
 refine gg ⟨hd,tl,f,s,C4,?_,l1,l2,c1,c2,f0,f1,hs,p6⟩;simp_arith[↓e1,↓e2,e3,e4,e5]
section
variable{C:Ce}{b:Nat}{m f s:Int}{hd tl:Str}
theorem amL{v10 v11 bJ:Option Vl}(z:Str)(hz:z.length=8)(v9:Option Vl):∃w9,gO (gNm 9) zO (gn 1 8) (fM b m hd tl f s (some (.im (.str z))) (some (.ow (.list []))) v9 v10 v11 bJ) C=some (.nx,fM b m hd tl f s (some (.im (.str z))) (some (.ow (.list ((subs z 8).map .str)))) w9 v10 v11 bJ,C):=by
 obtain⟨env',C',e,w9,he,hC⟩:=vP (g:=gNm 9) (body:=zO) (its:=gn 1 8) (env:=fM b m hd tl f s (some (.im (.str z))) (some (.ow (.list []))) v9 v10 v11 bJ) (C:=C)
  (fun i env C1=>∃w9,env=fM b m hd tl f s (some (.im (.str z))) (some (.ow (.list ((subs z i).map .str)))) w9 v10 v11 bJ∧C1=C) ⟨v9,rfl,rfl⟩ (fun i d env C1 hd hI=>by
   obtain⟨w9,rfl,rfl⟩:=hI
   obtain⟨rfl,hi⟩:=yw hd
   exact⟨_,.nx,_,C1,rfl,alw hz hi,.inl rfl,_,rfl,rfl⟩)
 rw[Jq] at he;subst he;subst hC
 exact⟨w9,e⟩
theorem amM{v7 v9 v11 bJ:Option Vl}{n:Nat}(hn:n≤30)(f0:0≤f)(f1:f<676)(hs:Fb s)(hh:hd.length≤3)(ht:tl.length≤3)(v10:Option Vl):
  ∃w10 w11 w12,gO (gNm 10) zN (gn 0 n) (fM b m hd tl f s v7 (some (.ow (.list []))) v9 v10 v11 bJ) C=some (.nx,fM b m hd tl f s v7 (some (.ow (.list (((dZ n).map (n2 hd tl f s fun k=>((k:Int)*k+f)%4)).map .str)))) v9 w10 w11 w12,C):=by
 obtain⟨env',C',e,w10,w11,w12,he,hC⟩:=vP (g:=gNm 10) (body:=zN) (its:=gn 0 n) (env:=fM b m hd tl f s v7 (some (.ow (.list []))) v9 v10 v11 bJ) (C:=C)
  (fun i env C1=>∃w10 w11 w12,env=fM b m hd tl f s v7 (some (.ow (.list (((dZ i).map (n2 hd tl f s fun k=>((k:Int)*k+f)%4)).map .str)))) v9 w10 w11 w12∧C1=C) ⟨v10,v11,bJ,rfl,rfl⟩ (fun i d env C1 hd' hI=>by
   obtain⟨w10,w11,w12,rfl,rfl⟩:=hI
   obtain⟨rfl,hi⟩:=yw hd'
   rw[Xj]
   obtain⟨u11,u12,e⟩:=alx (C:=C1) (b:=b) (m:=m) (v7:=v7) (v9:=v9) (v11:=w11) (bJ:=w12) (i:=i) f0 f1 hs.1.1 hs.1.2 (by omega) hh ht
   exact⟨_,.nx,_,C1,rfl,e,.inl rfl,_,u11,u12,rfl,rfl⟩)
 rw[Jq] at he;subst he;subst hC
 exact⟨w10,w11,w12,e⟩
end
theorem J4{zs:List Str}{m:Int}(m0:0≤m)(m1:m≤zs.length):iW (zs.map cL) none (some m)=(zs.take m.toNat).map .str:=by
 obtain⟨k,rfl⟩:∃k:Nat,m=(k:Int):=⟨m.toNat,by omega⟩
 unfold iW;rw[aX,HT.Jv,show HT.bY zs.length 0 none=0 from rfl,List.drop_zero,Nat.sub_zero,Nv,zG,Wq (by omega)]
theorem Z2{C:Ce}{b L j:Nat}{m:Int}(h:Bl L C b (j+12))(m0:0≤m)(m1:m≤30):
  ∃(zs:List Str)(C':Ce),zW [.ce b,.im (.int m)] C=some (.ow (.list (zs.map .str)),C')∧Names zs∧zs.length=m.toNat∧Bl L C' b j:=by
 refine hide fun GG gg=>?_
 obtain⟨R,hR⟩:∃R:FS,R=fSeq (jx (fTst (aD mj (aj (fCal bQ (aCons (fVar 0) (aCons (fCst (.int 4)) aNil)))) (aj (fCst (.int 0))))) (fSeq (fPar [7,8] (oCons (rJ (aj (fCst (.str (fD "")))) (aj (fLC (gY (aj (fCst (.int 8)))) .one je Hg [2,5]))) (oCons (fLst aNil) aNil))) (fSeq (fU (Fw (aj (fCst (.int 1))) (aj (fCst (.int 9)))) (gNm 9) zO) (fRet (dj (au 8) fV (cN (au 1)))))) fNext) (fSeq (jx (mW (fTst (aD uZ (au 1) (aj (fCst (.int 27))))) (fTst (aD mj (aj (fCal bQ (aCons (fVar 0) (aCons (fCst (.int 3)) aNil)))) (aj (fCst (.int 0)))))) (fRet (fLC (gY (au 1)) .one je Hf [2,5,6])) fNext) (fSeq (fSet 8 (fLst aNil)) (fSeq (fU (gY (au 1)) (gNm 10) zN) (fRetV 8)))):=⟨_,rfl⟩
 obtain⟨hd,tl,f,s,C1,e1,l1,l2,c1,c2,f0,f1,hs,gA⟩:=aly (m:=m) (j:=j+2) R h
 rw[hR] at e1
 obtain⟨k,C2,e2,a2,b2,hB2⟩:=dg (m:=4) gA (by decide) (by decide)
 by_cases hk:k=0
 ·subst hk
  obtain⟨z,e3,e4,e5⟩:=aaV (cs:=lU f) (by simp[lU])
  have hz:z.length=8:=by rw[e5];simp[lU]
  have st:=ahq (C:=C2) f
  obtain⟨w9,e6⟩:=amL (C:=C2) (b:=b) (m:=m) (f:=f) (s:=s) (hd:=hd) (tl:=tl) (v10:=none) (v11:=none) (bJ:=none) z hz none
  have ct:=J4 (zs:=subs z 8) m0 (by rw[ZZ];omega);have nm:=ags e4;have q:((lU f).length≤1000000)=True:=eq_true (by simp[lU]);refine gg ⟨(subs z 8).take m.toNat,C2,gk [some (.ce b),some (.im (.int m)),none,none,none,none,none,none,none,none,none,none,none] rfl rfl ?_ rfl (h.eq hB2),⟨nm.1.sublist (zF _ _),fun x hx=>nm.2 x (ux hx)⟩,by rw[jU,ZZ];omega,hB2.mono (by omega)⟩;unfold CQ;rw[e1];have i8:YS 8=8:=rfl;have i9:YS (9-1)=8:=rfl;have rg2:(-(2^62)≤(1:Int)∧(1:Int)<2^62∧-(2^62)≤(9:Int)∧(9:Int)<2^62)=True:=eq_true (by decide);simp only[fM] at e6;simp_arith[fM,e2,rJ,gY,w5 (m:=(8:Int)) (by decide) (by decide),i8,st,q,OJ,e3,Fw,rg2,i9,fU,e6,dj,fV,cN,jz,ct]
 ·have hk':(k==0)=false:=beq_eq_false_iff_ne.mpr hk;have fin:∀C3,Bl L C3 b j→mW (fTst (aD uZ (au 1) (aj (fCst (.int 27))))) (fTst (aD mj (aj (fCal bQ (aCons (fVar 0) (aCons (fCst (.int 3)) aNil)))) (aj (fCst (.int 0))))) (fM b m hd tl f s none none none none none none) C2=some (false,C3)→GG:=fun C3 hB3 ht=>by
   obtain⟨w10,w11,w12,e7⟩:=amM (C:=C3) (b:=b) (m:=m) (v7:=none) (v9:=none) (v11:=none) (bJ:=none) (n:=m.toNat) (by omega) f0 f1 hs l1 l2 none
   refine gg ⟨_,C3,gk [some (.ce b),some (.im (.int m)),none,none,none,none,none,none,none,none,none,none,none] rfl rfl ?_ rfl (h.eq hB3),air (f:=f) (q:=fun k=>((k:Int)*k+f)%4) (n:=m.toNat) hs (by omega) l1 l2 c1 c2,by rw[aX,lC],hB3⟩;unfold CQ;rw[e1];simp only[fM] at e7 ht;simp_arith[fM,e2,hk',↓ht,fU,gY,w5 (m:=m) (by omega) (by omega),e7]
  by_cases U5:m<27
  ·obtain⟨k6,C3,e3,a3,b3,hB3⟩:=dg (m:=3) hB2 (by decide) (by decide)
   by_cases hk6:k6=0
   ·subst hk6;have lc:=aiD (C:=C3) (f:=f) (s:=s) hs.1.1 hs.1.2 m.toNat;have q:(m.toNat≤1000000)=True:=eq_true (by omega);refine gg ⟨_,C3,gk [some (.ce b),some (.im (.int m)),none,none,none,none,none,none,none,none,none,none,none] rfl rfl ?_ rfl (h.eq hB3),aiq (f:=f) (n:=m.toNat) hs (by omega),by rw[aX,lC],hB3⟩;unfold CQ;rw[e1];simp_arith[fM,e2,hk',U5,e3,gY,w5 (m:=m) (by omega) (by omega),lc,lC,q]
   ·have amN:(k6==0)=false:=beq_eq_false_iff_ne.mpr hk6;exact fin C3 hB3 (by simp_arith[fM,U5,e3,amN])
  ·exact fin C2 hB2.dec (by simp_arith[fM,U5])
theorem YT{C:Ce}{b L j:Nat}{zs:List Str}(h:Bl L C b (j+16))(h8:zs.length≤8)(hz:Names zs):
  ∃(ps:List (Str×Str))(C':Ce),zX [.ce b,.im (.list (zs.map .str))] C=some (.ow (.dict (aP (bz ps))),C')∧gh zs ps∧ps.length=zs.length∧Bl L C' b j:=by
 refine hide fun GG gg=>?_
 obtain⟨env',C',e,ps,v3,v4,he,hl,hP,hB⟩:=vP (g:=gTp 2 (gsCons (gNm 3) (gsCons (gNm 4) gsNil))) (body:=Cp) (its:=yQ (zs.map .str)) (env:=[some (.ce b),some (.im (.list (zs.map .str))),some (.ow (.dict [])),none,none]) (C:=C)
  (fun i env C2=>∃(ps:List (Str×Str))(v3 v4:Option Vl),env=[some (.ce b),some (.im (.list (zs.map .str))),some (.ow (.dict (aP (bz ps)))),v3,v4]∧ps.length=i∧gh zs ps∧Bl L C2 b (j+2*(8-i)))
  ⟨[],none,none,rfl,rfl,(fun i x e=>by simp at e),h⟩ (fun i d env C2 hd hI=>by
   obtain⟨ps,v3,v4,rfl,hl,hP,hB⟩:=hI
   obtain⟨x,hx,rfl⟩:=ZS hd
   obtain⟨z,hz1,rfl⟩:=alk hx
   refine hide fun GG gg=>?_
   have hi:i<zs.length:=(gZ.mp hz1).1;rw[Ez j 2 (by omega:i<8)] at hB
   obtain⟨k1,C3,e1,a1,b1,gA⟩:=dg (m:=4) hB (by decide) (by decide)
   have ct:=J4 (zs:=zs) (m:=(i:Int)) (by omega) (by omega);rw[zG] at ct;have ad:bO (.list [.str (fD "")]) (.list ((zs.take i).map .str))=some (.ow (.list (cL (fD "")::(zs.take i).map .str))):=add_l (xs:=[.str (fD "")]) (by rw[aX,jU];show 1+_≤_;omega);have g:((aP (bz ps)).length<1000000)=True:=eq_true (by unfold aP bz;rw[aX,aX];omega);have fin:∀(t:Int)(C4:Ce),0≤t→t≤i→Bl L C4 b (j+2*(8-(i+1)))→(∀y:Str,cX (cL (fD "")::(zs.take i).map .str) t=some (.str y)→putD (aP (bz ps)) (.str z) (.str y)=some (aP (bz (ps++[(z,y)])))→
     Cp [some (.ce b),some (.im (.list (zs.map .str))),some (.ow (.dict (aP (bz ps)))),some (.im (.int (i:Int))),some (.im (.str z))] C2=some (.nx,[some (.ce b),some (.im (.list (zs.map .str))),some (.ow (.dict (aP (bz (ps++[(z,y)]))))),some (.im (.int (i:Int))),some (.im (.str z))],C4))→GG:=fun t C4 t0 t1 hB2 run=>by
    obtain⟨y,my,hy1,iy⟩:=mR (zs:=fD ""::zs.take i) (k:=t) t0 (by rw[dH,jU];omega)
    have hy2:y=fD ""∨∃j,j<ps.length∧zs[j]?=some y:=by
     rcases bI.mp my with rfl|my
     ·exact .inl rfl
     ·obtain⟨jj,hj,e⟩:=sI my
      rw[jU] at hj;refine .inr ⟨jj,by omega,?_⟩;rw[V1] at e;rw[←e];exact gQ (by omega)
    have pu:putD (aP (bz ps)) (.str z) (.str y)=some (aP (bz (ps++[(z,y)]))):=by
     rw[Qx (l:=bz ps) (z:=z) (d:=.str y)]
     ·unfold bz;rw[gC];rfl
     ·unfold bz;rw[fO];intro hm
      obtain⟨q,hq,e⟩:=cY.mp hm
      obtain⟨jj,hj,rfl⟩:=sI hq
      have g1:=(hP jj ps[jj] (gQ hj)).1;have e:ps[jj].1=z:=e;rw[e] at g1
      obtain⟨x1,y1⟩:=gZ.mp g1
      obtain⟨x2,y2⟩:=gZ.mp hz1
      exact GK.mp hz.1 jj i x1 x2 (by omega) (y1.trans y2.symm)
    rw[cJ] at iy;exact gg ⟨_,.nx,_,C4,rfl,run y iy pu,.inl rfl,ps++[(z,y)],_,_,rfl,by simp[hl],hP.snoc (by rw[hl];exact hz1) hy2,hB2⟩
   by_cases hk:0<k1
   ·obtain⟨t,C4,e3,t0,t1,hB2⟩:=dg (m:=(i:Int)+1) gA (by omega) (by omega)
    exact fin t C4 t0 (by omega) hB2 fun y iy pu=>by simp_arith[Cp,dj,fV,cN,jz,ct,ad,e1,hk,e3,iy,pU,rH,pu,g]
   ·exact fin 0 C3 (by omega) (by omega) gA.dec fun y iy pu=>by simp_arith[Cp,dj,fV,cN,jz,ct,ad,e1,hk,iy,pU,rH,pu,g])
 rw[YH,aX] at hl hB;subst he;refine gg ⟨ps,C',gk [some (.ce b),some (.im (.list (zs.map .str))),none,none,none] rfl rfl ?_ rfl (h.eq hB),hP,hl,hB.mono (Mr _ _)⟩;simp_arith[Nq,yF,fU,K7,e]
theorem aiF{C:Ce}{ps:List (Str×Str)}:∀{z:Str}{os:List Str},Over (iC ps) z os→∀(n:Nat)(acc:List Str),os.length<n→acc.length+os.length<1000→
  ∃z',jF Wc Wd n [some (.im (.dict (aP (bz ps)))),some (.im (.str z)),some (.ow (.list (acc.map .str)))] C=some (.nx,[some (.im (.dict (aP (bz ps)))),some (.im (.str z')),some (.ow (.list ((acc++os).map .str)))],C):=by
 have hin:∀z,jP (.str z) (.dict (aP (bz ps)))=some (.im (.bool (iC ps z).isSome)):=fun z=>by
  show((oN (aP (bz ps)) (.str z)).map (·.isSome)).map (fun b=>Vl.im (.bool b))=_
  rw[Js];cases iC ps z<;>rfl
 intro z os ho;induction ho with
 |@stop z h=>
  intro n acc hn ha;cases n with
  |zero=>exact absurd hn (xW _)
  |succ n=>
   refine⟨z,?_⟩
   unfold jF;simp_arith[hin,h,aeg,mK]
 |@step z y r h _ ih=>
  intro n acc hn ha;cases n with
  |zero=>exact absurd hn (xW _)
  |succ n=>
   rw[dH] at hn ha
   obtain⟨z',e⟩:=ih n (acc++[z]) (by omega) (by rw[gf];show acc.length+1+_<_;omega)
   refine⟨z',?_⟩
   have g:(acc.length<1000000)=True:=eq_true (by omega);have i:bf (.dict (aP (bz ps))) (.str z)=some (.im (.str y)):=by
    unfold bf vp;simp only[Js,h,mL]
   simp only[gC,cJ,jo,lB,jV,jC] at e⊢;unfold jF;simp_arith[hin,h,VG,g,jy,lQ,i,e]
theorem Z3{C:Ce}{zs:List Str}{ps:List (Str×Str)}(hN:Names zs)(hP:gh zs ps)(h8:ps.length≤8)(z:Str):
  zY [.im (.dict (aP (bz ps))),.im (.str z)] C=some (.ow (.list ((up ps z).map .str)),C):=by
 have hul:=Sd ps z
 obtain⟨z',e⟩:=aiF (C:=C) (Dw hN hP z) Bp [] (by show _<100000;omega) (by show 0+_<1000;omega)
 rw[jo,jC] at e;refine gk [some (.im (.dict (aP (bz ps)))),some (.im (.str z)),none] rfl rfl ?_ rfl rfl;simp_arith[Nr,rW,e]
theorem ahr{C:Ce}{b L j:Nat}{m:Int}(h:Bl L C b (j+101))(h0:0≤m)(h1:m≤50):
  ∃(ns:List Int)(C':Ce),Jb [.ce b,.im (.int m)] C=some (.ow (.list (ns.map .int)),C')∧ns.length=m.toNat∧(∀x∈ns,0≤x∧x≤2000)∧ns.Pairwise (·<·)∧Bl L C' b j:=by
 refine hide fun GG gg=>?_
 obtain⟨k0,C0,e0,a0,b0,hB0⟩:=dg (m:=3) (k:=j+100) h (by decide) (by decide)
 obtain⟨env',C',e,ns,nx,v4,he,hl,hr,hp,hx0,hx1,hB⟩:=vP (g:=gNm 4) (body:=NQ) (its:=gn 0 m.toNat) (env:=[some (.ce b),some (.im (.int m)),some (.ow (.list [])),some (.im (.int k0)),none]) (C:=C0)
  (fun i env C1=>∃(ns:List Int)(nx:Int)(v4:Option Vl),env=[some (.ce b),some (.im (.int m)),some (.ow (.list (ns.map .int))),some (.im (.int nx)),v4]∧ns.length=i∧(∀x∈ns,0≤x∧x<nx)∧ns.Pairwise (·<·)∧0≤nx∧nx≤2+3*i∧Bl L C1 b (j+2*(50-i)))
  ⟨[],k0,none,rfl,rfl,(fun _ m=>nomatch m),zH,a0,by omega,hB0⟩ (fun i d env C1 hd hI=>by
   obtain⟨ns,nx,v4,rfl,hl,hr,hp,hx0,hx1,hB⟩:=hI
   obtain⟨rfl,hi⟩:=yw hd
   refine hide fun GG gg=>?_
   rw[Ez j 2 (by omega:i<50)] at hB
   obtain⟨k1,C2,e1,a1,b1,gA⟩:=dg (m:=2) hB (by decide) (by decide)
   obtain⟨k2,C3,e2,a2,b2,hB2⟩:=dg (m:=3) gA (by decide) (by decide)
   obtain⟨y,hy,y0,y2⟩:∃y,k1*k2=y∧0≤y∧y≤2:=by
    have hk:k1=0∨k1=1:=by omega
    rcases hk with rfl|rfl
    ·exact⟨0,by rw[Int.zero_mul],by decide,by decide⟩
    ·exact⟨k2,by rw[Int.one_mul],a2,by omega⟩
   have lm:(ns.length<1000000)=True:=eq_true (by omega);refine gg ⟨_,.nx,[some (.ce b),some (.im (.int m)),some (.ow (.list ((ns++[nx]).map .int))),some (.im (.int (nx+1+y))),some (.im (.int (0+i)))],C3,rfl,?_,.inl rfl,ns++[nx],nx+1+y,_,rfl,by simp[hl],fun x hx=>?_,?_,by omega,by omega,hB2⟩
   ·simp_arith[NQ,e1,e2,mul_eq (i:=k1) (j:=k2) (.inl (by omega)),hy,jy,lQ,lm,gC]
   ·rcases cQ.mp hx with hx|hx
    ·have:=hr x hx;omega
    ·rw[gB.mp hx];omega
   ·rw[Lr]
    refine⟨hp,by simp,fun x hx z hz=>?_⟩
    rw[gB.mp hz]
    exact(hr x hx).2)
 rw[Jq] at hl hx1 hB;subst he;refine gg ⟨ns,C',gk [some (.ce b),some (.im (.int m)),none,none,none] rfl rfl ?_ rfl (h.eq hB),hl,fun x hx=>?_,hp,hB.mono (Mr _ _)⟩
 ·simp_arith[PJ,e0,fU,gY,w5 (m:=m) (by omega) (by omega),e]
 ·have:=hr x hx;omega
theorem Z4{C:Ce}:∀(l q:List (Str×Str)),((q++l).map (·.1)).Nodup→(q++l).length≤8→wQ (.many 2) je Mw Mx [] (l.map nQ) (aP (bz q)) C=some (aP (bz (q++l)),C)
 |[],q,_,_=>by rw[mK];rfl
 |x::l,q,nd,h8=>by
  have ih:=Z4 (C:=C) l (q++[x]) (by rw[lB];exact nd) (by rw[lB];exact h8);have hx:x.1∉(bz q).map (·.1):=by
   unfold bz;rw[fO];show x.1∉q.map (·.1);rw[gC,j6] at nd;exact fun hm=>nd.2.2 _ hm _ dm rfl
  have hl:(aP (bz q)).length<LIM:=by
   unfold aP bz;rw[gf] at h8;rw[aX,aX];show _<1000000;omega
  rw[cJ];unfold wQ;rw[show zu (.many 2) (nQ x)=some [.str x.1,.str x.2] from rfl]
  show(if(aP (bz q)).length<LIM then wQ (.many 2) je Mw Mx [] (l.map nQ) (nW di (.inr x.1) (.str x.1) (.str x.2) (aP (bz q))) C else none)=_
  rw[if_pos hl,ZM hx];have e:bz q++[(x.1,.str x.2)]=bz (q++[x]):=by unfold bz;rw[gC];rfl
  rw[e,ih,lB];rfl
theorem aj3{C:Ce}{hs:Option Vl}{q ps:List (Str×Str)}(hl:∀z,iC q z=iC ps z):∀{z:Str}{os:List Str},Over (iC ps) z os→∀(n:Nat)(acc:List Str),os.length<n→acc.length+os.length<1000→
  ∃z',jF Wk Wl n [hs,some (.im (.str z)),some (.ow (.dict (aP (bz q)))),some (.ow (.list (acc.map .str)))] C=some (.nx,[hs,some (.im (.str z')),some (.ow (.dict (aP (bz q)))),some (.ow (.list ((acc++os).map .str)))],C):=by
 have hin:∀z,jP (.str z) (.dict (aP (bz q)))=some (.im (.bool (iC ps z).isSome)):=fun z=>by
  show((oN (aP (bz q)) (.str z)).map (·.isSome)).map (fun b=>Vl.im (.bool b))=_
  rw[Js,hl];cases iC ps z<;>rfl
 intro z os ho;induction ho with
 |@stop z h=>
  intro n acc hn ha;cases n with
  |zero=>exact absurd hn (xW _)
  |succ n=>
   refine⟨z,?_⟩
   unfold jF;simp_arith[hin,h,aeg,mK]
 |@step z y r h _ ih=>
  intro n acc hn ha;cases n with
  |zero=>exact absurd hn (xW _)
  |succ n=>
   rw[dH] at hn ha
   obtain⟨z',e⟩:=ih n (acc++[z]) (by omega) (by rw[gf];show acc.length+1+_<_;omega)
   refine⟨z',?_⟩
   have g:(acc.length<1000000)=True:=eq_true (by omega);have i:bf (.dict (aP (bz q))) (.str z)=some (.im (.str y)):=by
    unfold bf vp;simp only[Js,hl,h,mL]
   simp only[gC,cJ,jo,lB,jV,jC] at e⊢;unfold jF;simp_arith[hin,h,VG,g,jy,lQ,i,e]
theorem afj{C:Ce}{zs:List Str}{ps:List (Str×Str)}{ht:jc}(hN:Names zs)(hP:gh zs ps)(hG:kW zs ps ht)(z:Str):
  HY [.im (gM ht),.im (.str z)] C=some (.ow (.list ((up ps z).map .str)),C):=by
 have nd:=Ac hN hP;have nd':(ht.ps.map (·.1)).Nodup:=(hG.parts.map (·.1)).nodup_iff.mpr nd;have hL:ht.ps.length≤8:=by rw[hG.parts.length_eq];exact hG.p8
 have t:=Z4 (C:=C) ht.ps [] nd' hL;rw[show aP (bz [])=[] from rfl,jC] at t;have hul:=Sd ps z;have h8:=hG.p8
 obtain⟨z',e⟩:=aj3 (C:=C) (hs:=some (.im (gM ht))) (agp hG.parts nd) (Dw hN hP z) Bp [] (by show _<100000;omega) (by show 0+_<1000;omega)
 rw[jo,jC] at e;refine gk [some (.im (gM ht)),some (.im (.str z)),none,none] rfl rfl ?_ rfl rfl;simp_arith[Nz,Gr,t,ZP,rW,e]
theorem JQ{C:Ce}{z a1 b1 p:Str}{n:Int}:vQ [.im (.tuple [.str z,.int n,.str a1,.str b1]),.im (.str p)] C=some (.im (.bool (decide (p=a1∨p=b1))),C):=by
 have ct:iW [cL z,.int n,.str a1,.str b1] (some 2) (some 4)=[.str a1,.str b1]:=rfl;have i1:jP (.str p) (.tuple [.str a1,.str b1])=some (.im (.bool (decide (p=a1∨p=b1)))):=by
  have:inB (.str p) (.tuple [.str a1,.str b1])=some (inD (.str p) ([a1,b1].map .str)):=if_pos (c:=(jM (.str p)&&[cL a1,.str b1].all jM)=true) (e:=none) rfl;unfold jP;rw[this,Jr];simp
 refine gk [some (.im (.tuple [.str z,.int n,.str a1,.str b1])),some (.im (.str p))] rfl rfl ?_ rfl rfl;simp_arith[Pz,dj,cN,jz,ct,i1]
def iD(os:List Str)(n day:Int)(a1 b1:Str)(r:cC):Bool:=decide (r.2.2.2.1∈os)&&((decide (r.2.2.2.2.1≤day)&&decide (day≤r.2.2.2.2.2.1))&&(decide (n≤r.2.2.2.2.2.2)&&(!decide (r.2.1=a1∨r.2.1=b1)&&!decide (r.2.2.1=a1∨r.2.2.1=b1))))
def BP(r:cC):ao:=.tuple [.int r.1,.str r.2.1,.str r.2.2.1]
abbrev dN(z a1 b1:Str)(n:Int):ao:=.tuple [.str z,.int n,.str a1,.str b1]
theorem aj4{C:Ce}{zs:List Str}{ps:List (Str×Str)}{ht:jc}(hN:Names zs)(hP:gh zs ps)(hG:kW zs ps ht)(z a1 b1:Str)(n day:Int):
  De [.im (gM ht),.im (dN z a1 b1 n),.im (.int day)] C=some (.ow (.list ((ht.leaves.filter (iD (up ps z) n day a1 b1)).map BP)),C):=by
 have p:=afj (C:=C) hN hP hG z;have h16:=hG.m5
 obtain⟨l,lE⟩:∃l,l=ht.leaves.filter (iD (up ps z) n day a1 b1):=⟨_,rfl⟩
 have ll:l.length≤16:=by rw[lE];exact jD (GQ _ _) h16
 have t:kE (.many 7) NB NK [some (.im (.list ((up ps z).map .str))),some (.im (.int day)),some (.im (dN z a1 b1 n))] (ht.leaves.map bD) C=some (l.map BP,C):=by
  rw[lE];refine uD (T:=.many 7) (ft:=NB) (fe:=NK) (fs:=[some (.im (.list ((up ps z).map .str))),some (.im (.int day)),some (.im (dN z a1 b1 n))]) (C:=C) bD (iD (up ps z) n day a1 b1) BP (l:=ht.leaves) fun r _=>?_
  refine⟨[.int r.1,.str r.2.1,.str r.2.2.1,.str r.2.2.2.1,.int r.2.2.2.2.1,.int r.2.2.2.2.2.1,.int r.2.2.2.2.2.2],rfl,?_,fun _=>⟨.im (BP r),[some (.im (.int r.1)),some (.im (.str r.2.1)),some (.im (.str r.2.2.1)),some (.im (.str r.2.2.2.1)),some (.im (.int r.2.2.2.2.1)),some (.im (.int r.2.2.2.2.2.1)),some (.im (.int r.2.2.2.2.2.2)),some (.im (.list ((up ps z).map .str))),some (.im (.int day)),some (.im (dN z a1 b1 n))],by simp_arith[eZ,jV,jC];rfl,rfl⟩⟩
  have c:=ab0 oV oV (au 4) (au 8) (au 5) (env:=[some (.im (.int r.1)),some (.im (.str r.2.1)),some (.im (.str r.2.2.1)),some (.im (.str r.2.2.2.1)),some (.im (.int r.2.2.2.2.1)),some (.im (.int r.2.2.2.2.2.1)),some (.im (.int r.2.2.2.2.2.2)),some (.im (.list ((up ps z).map .str))),some (.im (.int day)),some (.im (dN z a1 b1 n))]) (C:=C) (a:=decide (r.2.2.2.2.1≤day)) (b:=decide (day≤r.2.2.2.2.2.1)) rfl rfl rfl rfl rfl;have s1:=JQ (C:=C) (z:=z) (a1:=a1) (b1:=b1) (n:=n) (p:=r.2.1);have s2:=JQ (C:=C) (z:=z) (a1:=a1) (b1:=b1) (n:=n) (p:=r.2.2.1);simp_arith[eZ,jV,jC,c,s1,s2];unfold iD;cases decide (r.2.2.2.1∈up ps z)<;>cases decide (r.2.2.2.2.1≤day)<;>cases decide (day≤r.2.2.2.2.2.1)<;>cases decide (n≤r.2.2.2.2.2.2)<;>cases decide (r.2.1=a1∨r.2.1=b1)<;>rfl
 have q:(l.length≤1000000)=True:=eq_true (by omega);have nl:gH (l.map BP)=true:=by
  clear t lE ll q;induction l with
  |nil=>rfl
  |cons r l ih=>show(true&&gH (l.map BP))=true;rw[ih];rfl
 refine gk [some (.im (gM ht)),some (.im (dN z a1 b1 n)),some (.im (.int day)),none] rfl rfl ?_ rfl rfl;simp_arith[PB,p,t,q,nl];rw[lE]
theorem Em(p a1 b1:Str):jP (.str p) (.tuple [.str a1,.str b1])=some (.im (.bool (decide (p=a1∨p=b1)))):=by
 have:inB (.str p) (.tuple [.str a1,.str b1])=some (inD (.str p) ([a1,b1].map .str)):=if_pos (c:=(jM (.str p)&&[cL a1,.str b1].all jM)=true) (e:=none) rfl;unfold jP;rw[this,Jr];simp
theorem Yd(o:Str)(zs:List Str):pD (.str o) (.list (zs.map .str))=some (.im (.bool (!decide (o∈zs)))):=by
 have:inB (.str o) (.list (zs.map .str))=some (inD (.str o) (zs.map .str)):=if_pos (by rw[Pr];rfl);unfold pD;rw[this,Jr,mL]
theorem Z5:∀ps:List (Str×Str),FJ (aP (bz ps))=some (ps.map fun p=>(.inr p.1,.inr p.2))
 |[]=>rfl
 |p::ps=>by
  show((some (jE p.1):Option Key).bind fun k=>(some (jE p.2):Option Key).bind fun v=>(FJ (aP (bz ps))).map fun t=>(k,v)::t)=_
  rw[Z5 ps];rfl
theorem afW(ps:List (Str×Str))(h0:0<ps.length)(h8:ps.length≤8):∃ps':List (Str×Str),ps'.Perm ps∧Sg (aP (bz ps))=some (ps'.map nQ):=by
 have em:(aP (bz ps)).map (fun p=>vN [p.1,p.2])=ps.map nQ:=by
  unfold aP bz;rw[fO,fO];rfl
 obtain⟨ps',p1,p2⟩:=afw (ahd (ds:=ps.map nQ) fun d hd=>by obtain⟨p,_,rfl⟩:=cY.mp hd;rfl)
 refine⟨ps',p1,?_⟩
 unfold Sg;rw[Z5,em];cases ps with
 |nil=>cases h0
 |cons p r=>
  rw[iZ,cJ,List.head?_cons,iZ,if_pos,p2]
  refine⟨by rw[dH,aX];rw[dH] at h8;omega,fun q hq=>?_⟩
  rw[←cJ (f:=fun p:Str×Str=>((jE p.1,jE p.2):Key×Key))] at hq
  obtain⟨x,_,rfl⟩:=cY.mp hq
  exact⟨rfl,rfl⟩
theorem Xv{C:Ce}{ps:List (Str×Str)}(h0:0<ps.length)(h8:ps.length≤8)(lv:List cC):∃ps':List (Str×Str),ps'.Perm ps∧Af [.im (.dict (aP (bz ps))),.im (.list (lv.map bD))] C=some (.im (gM ⟨ps',[],lv,[]⟩),C):=by
 obtain⟨ps',p1,e⟩:=afW ps h0 h8
 refine⟨ps',p1,gk [some (.im (.dict (aP (bz ps)))),some (.im (.list (lv.map bD)))] rfl rfl ?_ rfl rfl⟩
 simp_arith[Oo,Rj,Ti,e,Dv];rfl
theorem same_none{C:Ce}(n:Nat):qj (n+1) [.im .none,.im .none] C=some (.im (.bool true),C):=
 ab1 (k:=2) (n:=2) (en:=[some (.im .none),some (.im .none)]) (e1:=[some (.im .none),some (.im .none)]) rfl rfl rfl rfl rfl
theorem same_int{C:Ce}(n:Nat)(x:Int):qj (n+1) [.im (.int x),.im (.int x)] C=some (.im (.bool true),C):=by
 refine ab1 (k:=2) (n:=2) (en:=[some (.im (.int x)),some (.im (.int x))]) (e1:=[some (.im (.int x)),some (.im (.int x))]) rfl rfl ?_ rfl rfl;simp_arith[Rr,oW,Ke,BL,J9,isNone,uc,Ka]
def stL(st:List (Str×Int)):List (Str×ao):=st.map fun x=>(x.1,.int x.2)
abbrev wD(w:Int×Str×Str):ao:=.tuple [.int w.1,.str w.2.1,.str w.2.2]
theorem JR(st:List (Str×Int))(z:Str):oN (aP (stL st)) (.str z)=some ((bT st z).map .int):=by
 rw[Yy];unfold stL bT;rw[ae0,MK,MK];rfl
theorem Ff(st:List (Str×Int))(z:Str):((bT st z).map lH).isSome=decide (z∈st.map (·.1)):=by
 by_cases h:z∈st.map (·.1)
 ·cases e:bT st z with
  |none=>exact absurd h (nD.mp e)
  |some d=>rw[decide_eq_true h];rfl
 ·rw[nD.mpr h,decide_eq_false h];rfl
theorem Fg(st:List (Str×Int))(z:Str):jP (.str z) (.dict (aP (stL st)))=some (.im (.bool (decide (z∈st.map (·.1))))):=by
 show((oN (aP (stL st)) (.str z)).map (·.isSome)).map (fun b=>Vl.im (.bool b))=_
 rw[JR,mL,Ff];rfl
theorem QJ(st:List (Str×Int))(z:Str):pD (.str z) (.dict (aP (stL st)))=some (.im (.bool (!decide (z∈st.map (·.1))))):=by
 show((oN (aP (stL st)) (.str z)).map (·.isSome)).map (fun b=>Vl.im (.bool (!b)))=_
 rw[JR,mL,Ff];rfl
theorem Tu{st:List (Str×Int)}{z:Str}{d:Int}(h:bT st z=some d):bf (.dict (aP (stL st))) (.str z)=some (.im (.int d)):=by
 unfold bf vp;simp only[JR,h,mL]
theorem aaX{C:Ce}{v0 v1 nw:Option Vl}{k:Int}:∀(new:List Str)(st:List (Str×Int))(v5:Option Vl),(st.map (·.1)++new).Nodup→st.length+new.length≤1000→
  ∃Gy,gO (gNm 5) W0 (new.map .str) [v0,v1,some (.ow (.dict (aP (stL st)))),nw,some (.im (.int k)),v5] C=some (.nx,[v0,v1,some (.ow (.dict (aP (stL (st++new.map fun g=>(g,k)))))),nw,some (.im (.int k)),Gy],C)
 |[],st,v5,_,_=>⟨v5,by rw[jo,jo,mK];rfl⟩
 |g::new,st,v5,nd,hl=>by
  rw[dH] at hl
  obtain⟨Gy,e⟩:=aaX (C:=C) (v0:=v0) (v1:=v1) (nw:=nw) (k:=k) new (st++[(g,k)]) (some (.im (.str g))) (by rw[gC,lB];exact nd) (by rw[gf];show st.length+1+_≤_;omega)
  refine⟨Gy,?_⟩
  have hn:g∉(stL st).map (·.1):=by
   unfold stL;rw[fO];exact fun hm=>(j6.mp nd).2.2 _ hm _ dm rfl
  have pu:putD (aP (stL st)) (.str g) (.int k)=some (aP (stL (st++[(g,k)]))):=by
   rw[Qx hn];unfold stL;rw[gC];rfl
  have q:((aP (stL st)).length<1000000)=True:=eq_true (by unfold aP stL;rw[aX,aX];omega);rw[lB] at e;rw[cJ];unfold gO;simp_arith[pU,rH,pu,q];exact e
theorem Ye{C:Ce}{ws:List (Int×Str×Str)}{s:Str}(hl:ws.length≤60):∀(n:Nat)(st:List (Str×Int))(new:List Str)(k:Nat)(nv:Vl)(v5:Option Vl),(nv=.ow (.list (new.map .str))∨nv=.im (.list (new.map .str)))→rZ ws s st new k→(new=[]→0<n)→(new≠[]→ws.length+2-st.length<n)→
  ∃(st':List (Str×Int))(e':En),jF W4 W5 n [some (.im (.list (ws.map wD))),some (.im (.str s)),some (.ow (.dict (aP (stL st)))),some nv,some (.im (.int k)),v5] C=some (.nx,e',C)∧e'[2]?=some (some (.ow (.dict (aP (stL st')))))∧sr ws s st'
 |0,st,new,k,nv,v5,hv,B,h0,h1=>by
  by_cases h:new=[]
  ·exact absurd (h0 h) (vK _)
  ·exact absurd (h1 h) (xW _)
 |n+1,st,new,k,nv,v5,hv,B,h0,h1=>by
  by_cases hnew:new=[]
  ·subst hnew
   refine⟨st,[some (.im (.list (ws.map wD))),some (.im (.str s)),some (.ow (.dict (aP (stL st)))),some nv,some (.im (.int k)),v5],?_,rfl,B.done⟩
   unfold jF;rcases hv with rfl|rfl<;>simp_arith[]<;>rfl
  have h1:=h1 hnew;have ht:(new.map cL).isEmpty=false:=by cases new with|nil=>exact absurd rfl hnew|cons _ _=>rfl
  have c:=uD (T:=.many 3) (ft:=W2) (fe:=W3) (fs:=[some (.im (.list (new.map .str))),some (.im (.dict (aP (stL st))))]) (C:=C) wD (fun w=>decide (w.2.2∈new)&&!decide (w.2.1∈st.map (·.1))) (fun w=>.str w.2.1) (l:=ws) fun w _=>by
   refine⟨[.int w.1,.str w.2.1,.str w.2.2],rfl,?_,fun _=>⟨.im (.str w.2.1),_,by simp_arith[eZ,jV,jC];rfl,rfl⟩⟩
   simp_arith[eZ,jV,jC,QJ];cases decide (w.2.2∈new)<;>rfl
  obtain⟨gs,U6⟩:∃gs,gs=(ws.filter fun w=>decide (w.2.2∈new)&&!decide (w.2.1∈st.map (·.1))).map (·.2.1):=⟨_,rfl⟩
  have c2:(ws.filter fun w=>decide (w.2.2∈new)&&!decide (w.2.1∈st.map (·.1))).map (fun w=>cL w.2.1)=gs.map .str:=by rw[U6,fO];rfl
  rw[c2] at c;have gl:gs.length≤60:=by rw[U6,aX];exact jD (GQ _ _) hl
  have sS:Jp (gs.map .str)=some ((nO strLt (dedup gs)).map .str):=by
   unfold Jp;rw[if_pos (by rw[aX];omega),Oz]
  obtain⟨ns,nsE⟩:∃ns,ns=nO strLt (dedup gs):=⟨_,rfl⟩
  rw[←nsE] at sS;have hm:∀g,g∈ns↔∃w∈ws,w.2.2∈new∧w.2.1∉st.map (·.1)∧w.2.1=g:=fun g=>by
   rw[nsE,(yj _).mem_iff,ag4,U6,cY];constructor
   ·rintro⟨w,h1,h2⟩
    obtain⟨h1,h3⟩:=j7.mp h1
    rw[ie,decide_eq_true_eq,V4,decide_eq_false_iff_not] at h3
    exact⟨w,h1,h3.1,h3.2,h2⟩
   ·rintro⟨w,h1,h2,h3,h4⟩
    exact⟨w,j7.mpr ⟨h1,by rw[decide_eq_true h2,decide_eq_false h3];rfl⟩,h4⟩
  have hn:ns.Nodup:=by rw[nsE];exact(yj _).nodup_iff.mpr (afR _)
  have B2:=B.step hn hm;have f1:=B.few;have f2:=B2.few;have nd:=B2.nd;rw[gC,fO,show((fun x:Str×Int=>x.1) ∘ fun g=>(g,(k:Int)+1))=id from rfl,N8] at nd;rw[gf,aX] at f2
  obtain⟨Gy,e1⟩:=aaX (C:=C) (v0:=some (.im (.list (ws.map wD)))) (v1:=some (.im (.str s))) (nw:=some (.im (.list (ns.map .str)))) (k:=(k:Int)+1) ns st v5 nd (by omega)
  obtain⟨st',e',e2,e3,e4⟩:=Ye (C:=C) hl n (st++ns.map fun g=>(g,(k:Int)+1)) ns (k+1) (.im (.list (ns.map .str))) Gy (.inr rfl) B2 (fun z=>by omega) (fun z=>by
   rw[gf,aX];have:=G3.mpr z;omega)
  refine⟨st',e',?_,e3,e4⟩
  unfold jF;rcases hv with rfl|rfl<;>simp_arith[ht,Kr,Gs,↓c,sS,fU,e1]<;>exact e2
theorem Z6{C:Ce}{ws:List (Int×Str×Str)}{s:Str}(hl:ws.length≤60):∃st:List (Str×Int),Iw [.im (.list (ws.map wD)),.im (.str s)] C=some (.ow (.dict (aP (stL st))),C)∧sr ws s st:=by
 obtain⟨st,e',e1,e2,e3⟩:=Ye (C:=C) hl Bp [(s,0)] [s] 0 (.ow (.list [.str s])) none (.inl rfl) (rZ.init ws s) (fun z=>nomatch z) (fun _=>by show _+2-1<100000;omega)
 rw[show(((0:Nat):Nat):Int)=0 from rfl] at e1
 refine⟨st,gk [some (.im (.list (ws.map wD))),some (.im (.str s)),none,none,none,none] rfl rfl ?_ rfl rfl,e3⟩
 simp_arith[O1,wR,rW,di];rw[show[(cL s,lH 0)]=aP (stL [(s,0)]) from rfl];simp only[e1];simp_arith[e2]
def uU(st:List (Str×Int))(d:Int)(p:Str)(w:Int×Str×Str):Bool:=decide (w.2.1=p)&&(decide (w.2.2∈st.map (·.1))&&(bT st w.2.2).any fun e=>decide (e<d))
theorem PN{st:List (Str×Int)}{d:Int}{p:Str}{w:Int×Str×Str}:uU st d p w=true↔w.2.1=p∧∃e,bT st w.2.2=some e∧e<d:=by
 unfold uU;rw[ie,ie,decide_eq_true_eq,decide_eq_true_eq];refine and_congr_right fun _=>⟨fun h=>?_,fun⟨e,h1,h2⟩=>⟨?_,by rw[h1];exact decide_eq_true h2⟩⟩
 ·cases e:bT st w.2.2 with
  |none=>exact absurd h.1 (nD.mp e)
  |some x=>
   have:=h.2;rw[e] at this
   exact⟨x,rfl,of_decide_eq_true this⟩
 ·apply adC;intro n;rw[nD.mpr n] at h1;cases h1
theorem aaY(bt:Nat→Nat→Bool)(val:Nat→Int)(h1:∀i j,bt i j=true→val i≤val j)(h2:∀i j,bt i j=false→val j≤val i):∀k,jt bt k≤k∧∀i,i≤k→val (jt bt k)≤val i
 |0=>⟨bN _,fun i hi=>by rw[Nat.le_zero.mp hi];exact o9 _⟩
 |k+1=>by
  obtain⟨a,b⟩:=aaY bt val h1 h2 k
  unfold jt;cases e:bt (k+1) (jt bt k) with
  |true=>
   rw[if_pos rfl]
   refine⟨bN _,fun i hi=>?_⟩
   rcases VM hi with hi|rfl
   ·exact sY (h1 _ _ e) (b i (aew hi))
   ·exact o9 _
  |false=>
   rw[if_neg jm]
   refine⟨Nat.le_succ_of_le a,fun i hi=>?_⟩
   rcases VM hi with hi|rfl
   ·exact b i (aew hi)
   ·exact h2 _ _ e
theorem ahs(cs:List (Int×Str))(h:cs≠[]):∃c∈cs,J1 [.list (cs.map fun c=>.tuple [.int c.1,.str c.2])]=some (.im (.tuple [.int c.1,.str c.2]))∧∀c'∈cs,c.1≤c'.1:=by
 obtain⟨c0,hc0⟩:∃c0,cs.head?=some c0:=by
  cases cs with
  |nil=>exact absurd rfl h
  |cons c _=>exact⟨c,rfl⟩
 have ek:(cs.map fun c=>vN [.int c.1,.str c.2]).map Bs=cs.map fun c=>[lK c.1,jE c.2]:=by
  rw[fO];rfl
 have hd:(cs.map fun c=>([lK c.1,jE c.2]:List Key)).headD []=[lK c0.1,jE c0.2]:=by
  cases cs with
  |nil=>cases hc0
  |cons c _=>cases hc0;rfl
 have gt:∀i,(cs.map fun c=>([lK c.1,jE c.2]:List Key)).getD i [lK c0.1,jE c0.2]=[lK (cs.getD i c0).1,jE (cs.getD i c0).2]:=fun i=>by
  rw[Lg,Lg,gK];cases cs[i]?<;>rfl
 obtain⟨b1,b2⟩:=aaY (fun i j=>iU ((cs.map fun c=>([lK c.1,jE c.2]:List Key)).getD i [lK c0.1,jE c0.2]) ((cs.map fun c=>([lK c.1,jE c.2]:List Key)).getD j [lK c0.1,jE c0.2])) (fun i=>(cs.getD i c0).1) (fun i j e=>by
   simp only[gt,iU] at e;split at e
   ·rename_i z;have:=Xl z;omega
   ·exact afH (of_decide_eq_true e)) (fun i j e=>by
   simp only[gt,iU] at e;split at e
   ·rename_i z;have:=Xl z;omega
   ·have:=of_decide_eq_false e;omega) (cs.length-1)
 have pos:0<cs.length:=G3.mpr h
 obtain⟨k,hk⟩:∃k,k=EY (cs.map fun c=>([lK c.1,jE c.2]:List Key)):=⟨_,rfl⟩
 have hk':=hk;unfold EY at hk';rw[hd,aX] at hk';rw[←hk'] at b1 b2;have lt:k<cs.length:=by omega
 refine⟨cs[k],xR lt,?_,fun c' hc'=>?_⟩
 ·show Sh (cs.map fun c=>.tuple [.int c.1,.str c.2])=_;unfold Sh;rw[List.head?_map,hc0,ek,←hk,gK,gQ lt];refine if_pos fun d hd=>?_
  obtain⟨c,_,rfl⟩:=cY.mp hd
  rfl
 ·obtain⟨i,hi,rfl⟩:=sI hc'
  have:=b2 i (by omega);rw[Lg,Lg,gQ lt,gQ hi] at this;exact this
theorem aht{C:Ce}{ws:List (Int×Str×Str)}{st:List (Str×Int)}{p:Str}{d:Int}(hl:ws.length≤60)(hp:bT st p=some d)(hne:∃w∈ws,uU st d p w=true):
  ∃(n:Int)(t:Str),H9 [.im (.list (ws.map wD)),.im (.dict (aP (stL st))),.im (.str p)] C=some (.im (.tuple [.int n,.str t]),C)∧(n,p,t)∈ws∧(∃e,bT st t=some e∧e<d)∧∀n' q' e,(n',p,q')∈ws→bT st q'=some e→e<d→n≤n':=by
 have c:=uD (T:=.many 3) (ft:=Wm) (fe:=Wn) (fs:=[some (.im (.str p)),some (.im (.dict (aP (stL st))))]) (C:=C) wD (uU st d p) (fun w=>.tuple [.int w.1,.str w.2.2]) (l:=ws) fun w _=>by
  refine⟨[.int w.1,.str w.2.1,.str w.2.2],rfl,?_,fun _=>⟨.im (.tuple [.int w.1,.str w.2.2]),_,by simp_arith[eZ,jV,jC];rfl,rfl⟩⟩
  have ip:=Tu hp;unfold uU;cases h1:decide (w.2.1=p) with
  |false=>simp_arith[eZ,jV,jC,h1]
  |true=>
   cases e:bT st w.2.2 with
   |none=>
    have h2:=decide_eq_false (nD.mp e);simp_arith[eZ,jV,jC,h1,Fg,h2]
   |some x=>
    have h2:decide (w.2.2∈st.map (·.1))=true:=by rw[←Ff,e];rfl
    have iw:=Tu e;simp_arith[eZ,jV,jC,h1,Fg,h2,ip,iw,Option.any_some]
 obtain⟨cs,Gz⟩:∃cs:List (Int×Str),cs=(ws.filter (uU st d p)).map fun w=>(w.1,w.2.2):=⟨_,rfl⟩
 have c2:(ws.filter (uU st d p)).map (fun w=>vN [.int w.1,.str w.2.2])=cs.map fun c=>.tuple [.int c.1,.str c.2]:=by rw[Gz,fO];rfl
 rw[c2] at c;have cl:(cs.length≤1000000)=True:=eq_true (by rw[Gz,aX];have:=GQ (uU st d p) ws;omega);have mem:∀n t,(n,t)∈cs↔(n,p,t)∈ws∧∃e,bT st t=some e∧e<d:=fun n t=>by
  rw[Gz,cY];constructor
  ·rintro⟨w,hw,e⟩
   cases e
   obtain⟨h1,h2⟩:=j7.mp hw
   obtain⟨h3,h4⟩:=PN.mp h2
   rw[←h3]
   exact⟨h1,h4⟩
  ·rintro⟨h1,h2⟩
   exact⟨(n,p,t),j7.mpr ⟨h1,PN.mpr ⟨rfl,h2⟩⟩,rfl⟩
 have ne:cs≠[]:=fun z=>by
  obtain⟨w,hw,h⟩:=hne
  have:(w.1,w.2.2)∈cs:=by rw[Gz];exact cY.mpr ⟨w,j7.mpr ⟨hw,h⟩,rfl⟩
  rw[z] at this;cases this
 have nl:gH (cs.map fun c=>vN [.int c.1,.str c.2])=true:=by
  clear c c2 Gz cl mem ne;induction cs with
  |nil=>rfl
  |cons r l ih=>show(true&&gH (l.map _))=true;rw[ih];rfl
 obtain⟨⟨n,t⟩,m,e,hmin⟩:=ahs cs ne
 obtain⟨m1,m2⟩:=(mem n t).mp m
 refine⟨n,t,gk [some (.im (.list (ws.map wD))),some (.im (.dict (aP (stL st)))),some (.im (.str p))] rfl rfl ?_ rfl rfl,m1,m2,fun n' q' e' h1 h2 h3=>hmin (n',q') ((mem n' q').mpr ⟨h1,e',h2,h3⟩)⟩
 simp_arith[NP,c,cl,nl,e]
theorem aiG{C:Ce}{ws:List (Int×Str×Str)}{s:Str}{st:List (Str×Int)}(hl:ws.length≤60)(hU:∀w∈ws,∀w'∈ws,w.1=w'.1→w=w')(B:sr ws s st):∀(m:Nat)(p:Str)(d:Int),bT st p=some d→d≤m→∀(n:Nat)(acc:List Int)(v5:Option Vl),m<n→acc.length+m≤100000→
  ∃(r:List Int)(e':En),jF WK WL n [some (.im (.list (ws.map wD))),some (.im (.str p)),some (.im (.str s)),some (.ow (.dict (aP (stL st)))),some (.ow (.list (acc.map .int))),v5] C=some (.nx,e',C)∧e'[4]?=some (some (.ow (.list ((acc++r).map .int))))∧oR ws p s r:=by
 intro m;induction m with
 |zero=>
  intro p d hp hd n acc v5 hn ha;have:p=s:=by
   obtain⟨r,h1,h2⟩:=B.sound p d hp
   cases h1 with
   |nil=>rfl
   |cons _ _=>rw[dH] at h2;omega
  subst this;cases n with
  |zero=>exact absurd hn (vK _)
  |succ n=>
   refine⟨[],[some (.im (.list (ws.map wD))),some (.im (.str p)),some (.im (.str p)),some (.ow (.dict (aP (stL st)))),some (.ow (.list (acc.map .int))),v5],?_,by rw[mK];rfl,oR.self ws p⟩
   unfold jF;simp_arith[ne_strs]
 |succ m ih=>
  intro p d hp hd n acc v5 hn ha;cases n with
  |zero=>exact absurd hn (xW _)
  |succ n=>
   by_cases hs:p=s
   ·subst hs
    refine⟨[],[some (.im (.list (ws.map wD))),some (.im (.str p)),some (.im (.str p)),some (.ow (.dict (aP (stL st)))),some (.ow (.list (acc.map .int))),v5],?_,by rw[mK];rfl,oR.self ws p⟩
    unfold jF;simp_arith[ne_strs]
   ·have hne:∃w∈ws,uU st d p w=true:=by
     obtain⟨r,h1,h2⟩:=B.sound p d hp
     cases h1 with
     |nil=>exact absurd rfl hs
     |cons hw hr=>
      rename_i n q r
      obtain⟨e,h3,h4⟩:=B.whole q r hr
      rw[dH] at h2
      exact⟨_,hw,PN.mpr ⟨rfl,e,h3,by omega⟩⟩
    obtain⟨n1,t,e1,m1,⟨e,m2,m3⟩,hmin⟩:=aht (C:=C) hl hp hne
    obtain⟨r,e',e2,e3,e4⟩:=ih t e m2 (by omega) n (acc++[n1]) (some (.im (.int n1))) (by omega) (by rw[gf];show acc.length+1+_≤_;omega)
    have R:=oR.go hU B hp m1 ⟨e,m2,m3⟩ hmin e4;rw[lB] at e3
    refine⟨n1::r,e',?_,e3,R⟩
    have g:(acc.length<1000000)=True:=eq_true (by omega);have q:(p=s)=False:=eq_false hs;rw[gC] at e2;unfold jF;have rp:∀e e',rst (.im (.tuple [.int n1,.str t])) e e'=e:=fun _ _=>rfl
    simp_arith[ne_strs,q,e1,jy,lQ,g,rp];exact e2
def FP:Option (List Int)→Vl
 |none=>.im .none
 |some r=>.ow (.list (r.map .int))
def Fi(ws:List (Int×Str×Str))(h s:Str):Option (List Int)→Prop
 |none=>∀r,¬jf ws h r s
 |some r=>oR ws h s r
theorem aiH{C:Ce}{ws:List (Int×Str×Str)}{h s:Str}(hl:ws.length≤60)(hU:∀w∈ws,∀w'∈ws,w.1=w'.1→w=w'):∃o,Ih [.im (.list (ws.map wD)),.im (.str h),.im (.str s)] C=some (FP o,C)∧Fi ws h s o:=by
 obtain⟨st,e1,B⟩:=Z6 (C:=C) (s:=s) hl
 cases e:bT st h with
 |none=>
  have hn:=nD.mp e
  refine⟨none,gk [some (.im (.list (ws.map wD))),some (.im (.str h)),some (.im (.str s)),none,none,none] rfl rfl ?_ rfl rfl,fun r p=>hn ((B.iff h).mpr ⟨r,p⟩)⟩
  have q:=decide_eq_false hn;simp_arith[Ig,e1,QJ,q];rfl
 |some d=>
  obtain⟨r0,h1,h2⟩:=B.sound h d e
  have q:decide (h∈st.map (·.1))=true:=by rw[←Ff,e];rfl
  obtain⟨r,e',e2,e3,e4⟩:=aiG (C:=C) hl hU B d.toNat h d e (by omega) Bp [] none (by have:=B.few h d e;show _<100000;omega) (by have:=B.few h d e;show 0+_≤_;omega)
  refine⟨some r,gk [some (.im (.list (ws.map wD))),some (.im (.str h)),some (.im (.str s)),none,none,none] rfl rfl ?_ rfl rfl,e4⟩
  rw[jo] at e2;rw[jC] at e3;simp_arith[Ig,e1,QJ,q,rW,e2,e3];rfl
def FQ(r:cC):Int×Str×Str:=(r.1,r.2.1,r.2.2.1)
theorem aaZ:∀{l:List cC},(l.map (·.1)).Nodup→∀r∈l,∀r'∈l,r.1=r'.1→r=r'
 |[],_,_,h,_,_,_=>nomatch h
 |a::l,hp,r,h,r',h',e=>by
  rw[cJ,jH] at hp;rcases bI.mp h with h1|h1<;>rcases bI.mp h' with h2|h2
  ·rw[h1,h2]
  ·exact absurd (cY.mpr ⟨r',h2,by rw[←h1,e]⟩) hp.1
  ·exact absurd (cY.mpr ⟨r,h1,by rw[←h2,e]⟩) hp.1
  ·exact aaZ hp.2 r h1 r' h2 e
theorem Fi.unique{ws:List (Int×Str×Str)}{h s:Str}:∀{o o':Option (List Int)},Fi ws h s o→Fi ws h s o'→o=o'
 |none,none,_,_=>rfl
 |none,some r,a,b=>absurd b.1 (a r)
 |some r,none,a,b=>absurd a.1 (b r)
 |some r,some r',a,b=>congrArg some (oR.unique a b)
def lW(ht:jc)(os:List Str)(n day:Int)(a1 b1:Str):List (Int×Str×Str):=(ht.leaves.filter (iD os n day a1 b1)).map FQ
theorem Z7{zs:List Str}{ps:List (Str×Str)}{ht:jc}(hG:kW zs ps ht)(os:List Str)(n day:Int)(a1 b1:Str):(lW ht os n day a1 b1).length≤60:=by
 unfold lW;rw[aX];have:=GQ (iD os n day a1 b1) ht.leaves;have:=hG.m5;omega
theorem afX{zs:List Str}{ps:List (Str×Str)}{ht:jc}(hG:kW zs ps ht)(os:List Str)(n day:Int)(a1 b1:Str):∀w∈lW ht os n day a1 b1,∀w'∈lW ht os n day a1 b1,w.1=w'.1→w=w':=fun w h w' h' e=>by
 obtain⟨r,m,rfl⟩:=cY.mp h
 obtain⟨r',m',rfl⟩:=cY.mp h'
 rw[aaZ hG.lnd r (j7.mp m).1 r' (j7.mp m').1 e]
theorem alz{C:Ce}{zs:List Str}{ps:List (Str×Str)}{ht:jc}(hN:Names zs)(hP:gh zs ps)(hG:kW zs ps ht)(z a1 b1:Str)(n day:Int):
  De [.im (gM ht),.im (dN z a1 b1 n),.im (.int day)] C=some (.ow (.list ((lW ht (up ps z) n day a1 b1).map wD)),C):=by
 rw[aj4 hN hP hG];unfold lW;rw[fO];rfl
theorem aiI{C:Ce}{zs:List Str}{ps:List (Str×Str)}{ht:jc}(hN:Names zs)(hP:gh zs ps)(hG:kW zs ps ht)(z a1 b1:Str)(n day:Int)(h s:Str):
  ∃o,Ju [.im (gM ht),.im (dN z a1 b1 n),.im (.str h),.im (.str s),.im (.int day)] C=some (FP o,C)∧(((h=a1∨h=b1)∨(s=a1∨s=b1))→o=none)∧(¬((h=a1∨h=b1)∨(s=a1∨s=b1))→Fi (lW ht (up ps z) n day a1 b1) h s o):=by
 have s1:=JQ (C:=C) (z:=z) (a1:=a1) (b1:=b1) (n:=n) (p:=h);have s2:=JQ (C:=C) (z:=z) (a1:=a1) (b1:=b1) (n:=n) (p:=s);have w:=alz (C:=C) hN hP hG z a1 b1 n day
 obtain⟨o,e,ho⟩:=aiH (C:=C) (h:=h) (s:=s) (Z7 hG (up ps z) n day a1 b1) (afX hG (up ps z) n day a1 b1)
 have ok:Bq C.length (FP o)=true:=by cases o<;>rfl
 by_cases h1:h=a1∨h=b1
 ·refine⟨none,gk [some (.im (gM ht)),some (.im (dN z a1 b1 n)),some (.im (.str h)),some (.im (.str s)),some (.im (.int day))] rfl rfl ?_ rfl rfl,fun _=>rfl,fun z=>absurd (.inl h1) z⟩
  rw[decide_eq_true h1] at s1;simp_arith[Dk,s1];rfl
 ·rw[decide_eq_false h1] at s1;by_cases h2:s=a1∨s=b1
  ·refine⟨none,gk [some (.im (gM ht)),some (.im (dN z a1 b1 n)),some (.im (.str h)),some (.im (.str s)),some (.im (.int day))] rfl rfl ?_ rfl rfl,fun _=>rfl,fun z=>absurd (.inr h2) z⟩
   rw[decide_eq_true h2] at s2;simp_arith[Dk,s1,s2];rfl
  ·rw[decide_eq_false h2] at s2
   refine⟨o,gk [some (.im (gM ht)),some (.im (dN z a1 b1 n)),some (.im (.str h)),some (.im (.str s)),some (.im (.int day))] rfl rfl ?_ ok rfl,fun z=>absurd z fun z=>z.elim h1 h2,fun _=>ho⟩
   simp_arith[Dk,s1,s2,w,e]
theorem J5{α:Type}{f:α→ao}(h:∀a,jK (f a)=true):∀l:List α,gH (l.map f)=true
 |[]=>rfl
 |a::l=>by
  show(jK (f a)&&gH (l.map f))=true
  rw[h a,J5 h l];rfl
theorem aa0(h:jc)(e f:En):rst (.im (gM h)) e f=e:=by
 refine if_pos ?_
 show(gH (h.ps.map nQ)&&(gH (h.qC.map nP)&&(gH (h.leaves.map bD)&&(gH (h.rules.map uf)&&true))))=true
 rw[J5 (fun _=>rfl),J5 (fun _=>rfl),J5 (fun _=>rfl),YB];rfl
theorem YW(ps:List (Str×Str)):jN [.dict (aP (bz ps))]=some (.im (.int ps.length)):=by
 have:Ft (.dict (aP (bz ps)))=some ps.length:=by
  show(if(cO di (aP (bz ps))).isSome then some (aP (bz ps)).length else none)=_
  rw[Dj];unfold aP bz;rw[aX,aX];rfl
 unfold jN;simp only[this];rfl
theorem aa1{zs:List Str}{k:Nat}(h:k<zs.length):∃z,z∈zs∧zs[k]?=some z∧cX (zs.map cL) (k:Int)=some (.str z):=by
 obtain⟨z,h1,h2,h3⟩:=mR (zs:=zs) (k:=(k:Int)) (by omega) (by omega)
 exact⟨z,h1,by rw[zG] at h2;exact h2,h3⟩
theorem Yg{zs:List Str}{m:Nat}{ps:List (Str×Str)}(h:gh (zs.take m) ps):gh zs ps:=fun i x e=>by
 have up:∀j z,(zs.take m)[j]?=some z→zs[j]?=some z:=fun j z e=>by
  rw[Cj] at e;split at e
  ·exact e
  ·cases e
 obtain⟨h1,h2⟩:=h i x e
 exact⟨up i _ h1,h2.imp_right fun⟨j,a,b⟩=>⟨j,a,up j _ b⟩⟩
theorem aj5{zs:List Str}{ps:List (Str×Str)}(hP:gh zs ps){k:Int}(h0:0≤k)(h1:k<ps.length):∃z,z∈ps.map (·.1)∧z∈zs∧cX (zs.map cL) k=some (.str z):=by
 have hk:=Ip hP;have hl:ps.length≤zs.length:=by
  have:=congrArg qU hk;rw[aX,jU] at this;omega
 obtain⟨z,m,e,a⟩:=mR (zs:=zs) (k:=k) h0 (by omega)
 refine⟨z,?_,m,a⟩
 rw[hk];refine jB (i:=k.toNat) ?_;rw[Cj,if_pos (by omega)];exact e
theorem aiJ{f:Str→Option Str}{z:Str}{os:List Str}(h:Over f z os):∀y∈os,∃w,f y=some w:=by
 induction h with
 |stop _=>exact fun y hy=>absurd hy jg
 |step h _ ih=>
  intro y hy;rcases bI.mp hy with rfl|hy
  ·exact⟨_,h⟩
  ·exact ih y hy
theorem abI{zs:List Str}{ps:List (Str×Str)}(hN:Names zs)(hP:gh zs ps){z y:Str}(h:y∈up ps z):y∈ps.map (·.1):=by
 obtain⟨w,e⟩:=aiJ (Dw hN hP z) y h
 exact cY.mpr ⟨(y,w),(tH (Ac hN hP)).mp e,rfl⟩
theorem abJ{zs:List Str}{ps ps':List (Str×Str)}{lv:List cC}(p1:ps'.Perm ps)(p8:ps.length≤8)(m5:lv.length≤16)(hl:∀r∈lv,wu zs (ps.map (·.1)) r)(up:(lv.map (·.1)).Nodup):kW zs ps ⟨ps',[],lv,[]⟩ where
 parts:=p1
 p8:=p8
 r20:=lD _
 m5:=m5
 u10:=lD _
 qC:=fun r h=>absurd h jg
 rup:=zH
 leaves:=hl
 lnd:=up
 rules:=fun r h=>absurd h jg
 unlike:=oA
theorem Eo{α:Type}{zs:List α}(h:zs.Nodup){i j:Nat}{x:α}(hi:zs[i]?=some x)(hj:zs[j]?=some x):i=j:=by
 obtain⟨x1,y1⟩:=gZ.mp hi
 obtain⟨x2,y2⟩:=gZ.mp hj
 have hp:=GK.mp h;rcases aet i j with l|l|l
 ·exact absurd (y1.trans y2.symm) (hp i j x1 x2 l)
 ·exact l
 ·exact absurd (y2.trans y1.symm) (hp j i x2 x1 l)
theorem DK{α:Type}(D:α→ao){xs:List α}{a b:Nat}(h:a≤b)(hb:b≤xs.length):iW (xs.map D) (some (a:Int)) (some (b:Int))=((xs.drop a).take (b-a)).map D:=by
 unfold iW;rw[aX,HT.Jv,HT.Jv,Wq (show a≤xs.length by omega),Wq hb,Nv,W6]
theorem aj6{C:Ce}{zs:List Str}{ps:List (Str×Str)}(hN:Names zs)(hP:gh zs ps)(h8:ps.length≤8)(z a1 b1:Str)(n day:Int)(r:cC):
  JP [.im (.dict (aP (bz ps))),.im (dN z a1 b1 n),.im (.int day),.im (bD r)] C=some (.im (.bool (iD (up ps z) n day a1 b1 r)),C):=by
 have p:=Z3 (C:=C) hN hP h8 z;have ct:iW [cL z,.int n,.str a1,.str b1] (some 2) none=[.str a1,.str b1]:=rfl;have c:=ab0 oV oV (aj (aD bf (au 3) (aj (fCst (.int 4))))) (au 2) (aj (aD bf (au 3) (aj (fCst (.int 5))))) (env:=[some (.im (.dict (aP (bz ps)))),some (.im (dN z a1 b1 n)),some (.im (.int day)),some (.im (bD r))]) (e1:=[some (.im (.dict (aP (bz ps)))),some (.im (dN z a1 b1 n)),some (.im (.int day)),some (.im (bD r))]) (e2:=[some (.im (.dict (aP (bz ps)))),some (.im (dN z a1 b1 n)),some (.im (.int day)),some (.im (bD r))]) (e3:=[some (.im (.dict (aP (bz ps)))),some (.im (dN z a1 b1 n)),some (.im (.int day)),some (.im (bD r))]) (C:=C) (C1:=C) (C2:=C) (x:=.int r.2.2.2.2.1) (y:=.int day) (z:=.int r.2.2.2.2.2.1) (a:=decide (r.2.2.2.2.1≤day)) (b:=decide (day≤r.2.2.2.2.2.1)) (by simp_arith[bD]) rfl rfl (by simp_arith[bD]) rfl;refine gk [some (.im (.dict (aP (bz ps)))),some (.im (dN z a1 b1 n)),some (.im (.int day)),some (.im (bD r))] rfl rfl ?_ rfl rfl;simp only[bD] at c⊢;unfold iD;cases hA:decide (r.2.1=a1∨r.2.1=b1) with
 |true=>
  simp_arith[Ax,dj,cN,fV,jz,ct,Em,hA]
 |false=>
  cases hB:decide (r.2.2.1=a1∨r.2.2.1=b1) with
  |true=>
   simp_arith[Ax,dj,cN,fV,jz,ct,Em,hA,hB]
  |false=>
   cases hC:decide (r.2.2.2.1∈up ps z) with
   |false=>simp_arith[Ax,dj,cN,fV,jz,ct,Em,hA,hB,p,Yd,hC]
   |true=>
    simp_arith[Ax,dj,cN,fV,jz,ct,Em,hA,hB,p,Yd,hC,uc,c];cases decide (r.2.2.2.2.1≤day)<;>cases decide (day≤r.2.2.2.2.2.1)<;>rfl
theorem YX{α:Type}(D:α→ao):∀(l:List α)(n:Nat),(l.map D).eraseIdx n=(l.eraseIdx n).map D
 |[],_=>rfl
 |_::_,0=>rfl
 |x::l,n+1=>congrArg (D x::·) (YX D l n)
theorem Yh{α:Type}:∀{l:List α}{n:Nat}{x:α},l[n]?=some x→(x::l.eraseIdx n).Perm l
 |[],_,_,h=>by cases h
 |y::l,0,x,h=>by cases h;exact .refl _
 |y::l,n+1,x,h=>(MJ y x _).trans ((Yh (l:=l) (n:=n) h).cons y)
theorem YZ{α:Type}{D:α→ao}(hne:∀l:List α,mC (.list (l.map D)) (.list [])=some (.im (.bool (!l.isEmpty)))){b L j:Nat}{v1:Option Vl}:∀(n:Nat)(rest found:List α)(C:Ce),rest.length<n→found.length+rest.length≤100→Bl L C b (j+rest.length)→
  ∃(ys:List α)(C':Ce),jF WM WN n [some (.ce b),v1,some (.ow (.list (rest.map D))),some (.ow (.list (found.map D)))] C=some (.nx,[some (.ce b),v1,some (.ow (.list [])),some (.ow (.list ((found++ys).map D)))],C')∧ys.Perm rest∧Bl L C' b j
 |0,rest,found,C,h,_,_=>absurd h (xW _)
 |n+1,rest,found,C,hn,hl,hB=>by
  have e0:=hne rest;by_cases hr:rest=[]
  ·subst hr
   refine⟨[],C,?_,.refl _,hB⟩
   unfold jF;rw[mK];simp only[jo,Wa] at e0;simp_arith[e0]
  ·have hp:0<rest.length:=G3.mpr hr;have e0:mC (.list (rest.map D)) (.list [])=some (.im (.bool true)):=by
    rw[e0];cases rest with
    |nil=>exact absurd rfl hr
    |cons _ _=>rfl
   obtain⟨t,C1,e1,t0,t1,gA⟩:=dg (m:=(rest.length:Int)) (k:=j+(rest.length-1)) (by rw[show j+(rest.length-1)+1=j+rest.length by omega];exact hB) (by omega) (by omega)
   have hk:t.toNat<rest.length:=by omega
   have q1:(rest.map D)[t.toNat]?=some (D rest[t.toNat]):=by rw[gK,gQ hk];rfl
   have q2:(rest.map D).eraseIdx t.toNat=(rest.eraseIdx t.toNat).map D:=YX D _ _;have pm:(rest[t.toNat]::rest.eraseIdx t.toNat).Perm rest:=Yh (gQ hk);have ll:(rest.eraseIdx t.toNat).length=rest.length-1:=List.length_eraseIdx_of_lt hk
   obtain⟨ys,C',e2,p2,hB2⟩:=YZ hne n (rest.eraseIdx t.toNat) (found++[rest[t.toNat]]) C1 (by omega) (by rw[gf];show found.length+1+_≤_;omega) (by rw[ll];exact gA)
   refine⟨rest[t.toNat]::ys,C',?_,(p2.cons _).trans pm,hB2⟩
   have g1:(0≤t∧t<((1000000:Nat):Int))=True:=eq_true ⟨t0,by omega⟩;have g2:(found.length<1000000)=True:=eq_true (by omega);rw[lB,gC (l₁:=found)] at e2;unfold jF;simp_arith[e0,Tj,zb,intD,e1,g1,q1,g2,q2,ne_eq,not_false_eq_true,Nat.reduceEqDiff];exact e2
theorem aj7{α:Type}{D:α→ao}(hne:∀l:List α,mC (.list (l.map D)) (.list [])=some (.im (.bool (!l.isEmpty)))){C:Ce}{b L j:Nat}{xs:List α}(hl:xs.length≤100)(hB:Bl L C b (j+xs.length)):
  ∃(ys:List α)(C':Ce),CV [.ce b,.im (.list (xs.map D))] C=some (.ow (.list (ys.map D)),C')∧ys.Perm xs∧Bl L C' b j:=by
 obtain⟨ys,C',e,p,hB'⟩:=YZ hne (v1:=some (.im (.list (xs.map D)))) Bp xs [] C (by show _<100000;omega) (by show 0+_≤_;omega) hB
 rw[jo,jC] at e
 refine⟨ys,C',gk [some (.ce b),some (.im (.list (xs.map D))),none,none] rfl rfl ?_ rfl (hB.eq hB'),p,hB'⟩
 simp_arith[Oj,JK,rW,e]
theorem K8(a b c:ao){k:Int}(h0:0≤k)(h1:k<3):∃x,cX [a,b,c] k=some x∧(x=a∨x=b∨x=c):=by
 have:k=0∨k=1∨k=2:=by omega
 rcases this with rfl|rfl|rfl
 ·exact⟨a,a_t0 _ _,.inl rfl⟩
 ·exact⟨b,a_t1 _ _ _,.inr (.inl rfl)⟩
 ·exact⟨c,a_t2 _ _ _ _,.inr (.inr rfl)⟩
theorem Rx(a b:Int):∃v,pK [.int a,.int b]=some (.im (.int v))∧v≤a∧v≤b∧(v=a∨v=b):=by
 by_cases h:b<a
 ·exact⟨b,by simp only[pK,if_pos h],by omega,by omega,.inr rfl⟩
 ·exact⟨a,by simp only[pK,if_neg h],by omega,by omega,.inl rfl⟩
theorem aj8(a b:Int):∃v,tX [.int a,.int b]=some (.im (.int v))∧a≤v∧b≤v∧(v=a∨v=b):=by
 by_cases h:b>a
 ·exact⟨b,by simp only[tX,if_pos h],by omega,by omega,.inr rfl⟩
 ·exact⟨a,by simp only[tX,if_neg h],by omega,by omega,.inl rfl⟩
theorem aa2{C:Ce}{b L j:Nat}(h:Bl L C b (j+6)):∃(f l:Int)(C':Ce),Ad [.ce b] C=some (.im (.tuple [.int f,.int l]),C')∧0≤f∧f≤l∧l≤99999∧Bl L C' b j:=by
 refine hide fun GG gg=>?_
 obtain⟨t1,C1,e1,a1,b1,gA⟩:=dg (m:=9) (k:=j+5) h (by decide) (by decide)
 obtain⟨t2,C2,e2,a2,b2,hB2⟩:=dg (m:=9) (k:=j+4) gA (by decide) (by decide)
 obtain⟨t3,C3,e3,a3,b3,hB3⟩:=dg (m:=9) (k:=j+3) hB2 (by decide) (by decide)
 obtain⟨t4,C4,e4,a4,b4,p6⟩:=dg (m:=3) (k:=j+2) hB3 (by decide) (by decide)
 obtain⟨t5,C5,e5,a5,b5,su⟩:=dg (m:=12) (k:=j+1) p6 (by decide) (by decide)
 obtain⟨t6,C6,e6,a6,b6,vz⟩:=dg (m:=3) (k:=j) su (by decide) (by decide)
 obtain⟨x,i1,hx⟩:=K8 (.int t1) (.int t2) (.int (99990-t3)) a4 b4
 obtain⟨y,i2,hy⟩:=K8 (.int 0) (.int t5) (.int 99999) a6 b6
 obtain⟨f,rfl,f0,f1⟩:∃f,x=.int f∧0≤f∧f≤99990:=by rcases hx with rfl|rfl|rfl<;>exact⟨_,rfl,by omega,by omega⟩
 obtain⟨g,rfl,g0⟩:∃g,y=.int g∧0≤g:=by rcases hy with rfl|rfl|rfl<;>exact⟨_,rfl,by omega⟩
 obtain⟨l,e7,l1,l2,l3⟩:=Rx 99999 (f+g)
 refine gg ⟨f,l,C6,gk [some (.ce b),none] rfl rfl ?_ rfl (h.eq vz),f0,by omega,l1,vz⟩;simp_arith[Ol,e1,e2,e3,e4,i1,e5,e6,i2,e7]
theorem abK{C:Ce}{b L j:Nat}(h:Bl L C b (j+4)):∃(n:Int)(C':Ce),Ae [.ce b] C=some (.im (.int n),C')∧0≤n∧n≤1000000000∧Bl L C' b j:=by
 refine hide fun GG gg=>?_
 obtain⟨t1,C1,e1,a1,b1,gA⟩:=dg (m:=4) (k:=j+3) h (by decide) (by decide)
 obtain⟨t2,C2,e2,a2,b2,hB2⟩:=dg (m:=4) (k:=j+2) gA (by decide) (by decide)
 obtain⟨t3,C3,e3,a3,b3,hB3⟩:=dg (m:=3) (k:=j+1) hB2 (by decide) (by decide)
 obtain⟨t4,C4,e4,a4,b4,p6⟩:=dg (m:=3) (k:=j) hB3 (by decide) (by decide)
 obtain⟨x,i1,hx⟩:=K8 (.int t1) (.int (100+t2)) (.int (1000000000-t3)) a4 b4
 obtain⟨f,rfl,f0,f1⟩:∃f,x=.int f∧0≤f∧f≤1000000000:=by rcases hx with rfl|rfl|rfl<;>exact⟨_,rfl,by omega,by omega⟩
 have pw:oM (.int 10) (.int 9)=some (.im (.int 1000000000)):=rfl;refine gg ⟨f,C4,gk [some (.ce b)] rfl rfl ?_ rfl (h.eq p6),f0,f1,p6⟩;simp_arith[Om,e1,e2,pw,e3,e4,i1]
theorem Xk(ps:List (Str×Str))(h:ps.length≤60):∃qs:List Str,qs.Perm (ps.map (·.1))∧Dz [.dict (aP (bz ps))]=some (.ow (.list (qs.map .str))):=by
 refine⟨nO strLt (ps.map (·.1)),yj _,?_⟩
 have e:(aP (bz ps)).map (·.1)=(ps.map (·.1)).map cL:=by
  unfold aP bz;rw[fO,fO,fO];rfl
 show((strsOf ((aP (bz ps)).map (·.1))).bind _)=_
 rw[e,Oz,iZ,decide_eq_true (by rw[aX];omega)];rfl
theorem aj9{a d m:Int}(a0:0≤a)(a1:a<m)(d0:1≤d)(d1:d<m):0≤(a+d)%m∧(a+d)%m<m∧(a+d)%m≠a:=by
 refine⟨nu _ (by omega),sO _ (by omega),?_⟩
 by_cases h:a+d<m
 ·rw[Mf (by omega) h];omega
 ·have e:(a+d)%m=a+d-m:=by
   rw[show a+d=m+(a+d-m) by omega,Int.add_emod_left,Mf (by omega) (by omega)];omega
  omega
abbrev uv(b:Nat)(ps:List (Str×Str))(pe:List Str)(many:Int)(pap:ao)(day:Int)(lv:List cC)(os:List Str)(v8 v9 v10 v11 bJ cF:Option Vl):En:=
 [some (.ce b),some (.im (.dict (aP (bz ps)))),some (.im (.list (pe.map .str))),some (.im (.int many)),some (.im pap),some (.im (.int day)),some (.ow (.list (lv.map bD))),some (.ow (.list (os.map .str))),v8,v9,v10,v11,bJ,cF]
structure acC(zs own pe:List Str)(num:Int)(r:cC):Prop where
 num:r.1=num
 ok:wu zs own r
 giver:r.2.1∈pe
 taker:r.2.2.1∈pe
theorem afY{C:Ce}{b L j:Nat}{zs pe:List Str}{ps:List (Str×Str)}{z a1 b1:Str}{n day num many:Int}{lv:List cC}(hB:Bl L C b (j+19))(hN:Names zs)(hP:gh zs ps)(p0:0<ps.length)(p8:ps.length≤8)(pl:2≤pe.length)(pl2:pe.length≤20)(pn:pe.Nodup)(pz:∀x∈pe,x∈zs)(n0:0≤n)(n1:n≤1000000000)(d0:0≤day)(d1:day≤99999)(nb:0≤num∧num≤2000)(ll:lv.length≤16)(v9 v10 v11 bJ cF:Option Vl):
  ∃(r:cC)(C':Ce)(w9 w10 w11 w12 w13:Option Vl),xQ (uv b ps pe many (dN z a1 b1 n) day lv (up ps z) (some (.im (.int num))) v9 v10 v11 bJ cF) C=some (.nx,uv b ps pe many (dN z a1 b1 n) day (lv++[r]) (up ps z) (some (.im (.int num))) w9 w10 w11 w12 w13,C')∧acC zs (ps.map (·.1)) pe num r∧Bl L C' b j:=by
 refine hide fun GG gg=>?_
 obtain⟨t1,C1,e1,a1',Gp,gA⟩:=dg (m:=(pe.length:Int)) (k:=j+18) hB (by omega) (by omega)
 obtain⟨t2,C2,e2,a2,b2,hB2⟩:=dg (m:=(pe.length:Int)-1) (k:=j+17) gA (by omega) (by omega)
 obtain⟨t3,C3,e3,a3,b3,hB3⟩:=dg (m:=2) (k:=j+16) hB2 (by decide) (by decide)
 have mu:fQ (.int t2) (.int t3)=some (.im (.int (t2*t3))):=mul_eq (.inl (by omega));have md:=mod_eq (i:=t1+1+t2*t3) (j:=(pe.length:Int)) (by omega)
 obtain⟨d,hd,dl,dh⟩:∃d:Int,t1+1+t2*t3=t1+d∧1≤d∧d<pe.length:=by
  have:t3=0∨t3=1:=by omega
  rcases this with rfl|rfl
  ·exact⟨1,by rw[Int.mul_zero];omega,by omega,by omega⟩
  ·exact⟨1+t2,by rw[Xn];omega,by omega,by omega⟩
 obtain⟨r0,r1,r2⟩:=aj9 a1' Gp dl dh
 rw[←hd] at r0 r1 r2
 generalize(t1+1+t2*t3)%(pe.length:Int)=to at md r0 r1 r2
 obtain⟨g,mg,ig,xg⟩:=mR (zs:=pe) a1' Gp
 obtain⟨t,mt,it,xt⟩:=mR (zs:=pe) r0 r1
 have hne:g≠t:=fun z=>by
  subst z;have:=Eo pn ig it;omega
 obtain⟨qs,qp,so⟩:=Xk ps (by omega)
 have ln:=YW ps
 obtain⟨t4,C4,e4,a4,b4,p6⟩:=dg (m:=(ps.length:Int)) (k:=j+15) hB3 (by omega) (by omega)
 obtain⟨y,my,_,xy⟩:=mR (zs:=qs) a4 (by rw[qp.length_eq,aX];exact b4)
 have oy:y∈ps.map (·.1):=qp.mem_iff.mp my
 obtain⟨f,l,C5,e5,f0,f1,f2,su⟩:=aa2 (j:=j+9) p6
 obtain⟨s,C6,e6,s0,s1,vz⟩:=abK (j:=j+5) su
 obtain⟨t7,C7,e7,a7,b7,GC⟩:=dg (m:=3) (k:=j+4) vz (by decide) (by decide)
 have q:(lv.length<1000000)=True:=eq_true (by omega);have U7:∀a b c d e f:ao,bO (.tuple [a,b,c,d]) (.tuple [e,f])=some (.im (.tuple [a,b,c,d,e,f])):=fun _ _ _ _ _ _=>Ey (zA rfl)
 have U8:∀a b c d e f g:ao,bO (.tuple [a,b,c,d,e,f]) (.tuple [g])=some (.im (.tuple [a,b,c,d,e,f,g])):=fun _ _ _ _ _ _ _=>Ey (zA rfl)
 have pw:oM (.int 10) (.int 9)=some (.im (.int 1000000000)):=rfl;have nn:=ne_nil (up ps z) fun x hx=>X6 hN hP (abI hN hP hx)
 have gr:∀(y:Str)(f l m:Int)(w9:Option Vl),y∈ps.map (·.1)→(0≤f∧f≤l∧l≤99999)→(0≤m∧m≤1000000000)→acC zs (ps.map (·.1)) pe num (num,g,t,y,f,l,m):=fun y f l m w9 hy hd hm=>⟨rfl,⟨nb,pz _ mg,pz _ mt,hne,hy,hd,hm⟩,mg,mt⟩
 have other:∀C8,Bl L C8 b j→(xQ (uv b ps pe many (dN z a1 b1 n) day lv (up ps z) (some (.im (.int num))) v9 v10 v11 bJ cF) C=some (.nx,uv b ps pe many (dN z a1 b1 n) day (lv++[(num,g,t,y,f,l,s)]) (up ps z) (some (.im (.int num))) (some (.im (.int t1))) (some (.im (.int to))) (some (.im (.str y))) (some (.im (.tuple [.int f,.int l]))) (some (.im (.int s))),C8))→GG:=fun C8 h8 run=>gg ⟨_,C8,_,_,_,_,_,run,gr y f l s none oy ⟨f0,f1,f2⟩ ⟨s0,s1⟩,h8⟩
 by_cases h7:0<t7
 ·have K9:=decide_eq_true h7;by_cases hu:up ps z=[]
  ·rw[hu] at nn;refine other C7 (GC.mono (by omega)) ?_;simp only[uv,hu,jo,Wa] at nn⊢;simp_arith[xQ,e1,e2,e3,mu,md,so,ln,e4,xy,e5,e6,e7,K9,nn,xg,xt,U7,U8,jy,lQ,q];simp only[gC,cJ,jo,bD]
  ·have u0:0<(up ps z).length:=G3.mpr hu;have ul:=Sd ps z;have nn:mC (.list ((up ps z).map .str)) (.list [])=some (.im (.bool true)):=by
    rw[nn];cases hh:up ps z with
    |nil=>exact absurd hh hu
    |cons _ _=>rfl
   obtain⟨t8,C8,e8,a8,b8,hB8⟩:=dg (m:=((up ps z).length:Int)) (k:=j+3) GC (by omega) (by omega)
   obtain⟨y2,my2,_,xy2⟩:=mR (zs:=up ps z) a8 b8
   obtain⟨t9,C9,e9,a9,b9,hB9⟩:=dg (m:=2) (k:=j+2) hB8 (by decide) (by decide)
   obtain⟨tA,CA,eA,aA,bA,U9⟩:=dg (m:=2) (k:=j+1) hB9 (by decide) (by decide)
   obtain⟨tB,CB,eB,aB,bB,Va⟩:=dg (m:=2) (k:=j) U9 (by decide) (by decide)
   obtain⟨f',x1,x2,x3,x4⟩:=aj8 0 (day-t9)
   obtain⟨l',x5,x6,x7,x8⟩:=Rx 99999 (day+tA)
   obtain⟨m',x9,xA,xB,xC⟩:=Rx 1000000000 (n+tB)
   refine gg ⟨(num,g,t,y2,f',l',m'),CB,some (.im (.int t1)),some (.im (.int to)),some (.im (.str y2)),some (.im (.tuple [.int f',.int l'])),some (.im (.int m')),?_,gr y2 f' l' m' none (abI hN hP my2) ⟨x2,by omega,x6⟩ ⟨by omega,xA⟩,Va⟩;simp_arith[xQ,e1,e2,e3,mu,md,so,ln,e4,xy,e5,e6,e7,K9,nn,e8,xy2,e9,x1,eA,x5,pw,eB,x9,xg,xt,U7,U8,jy,lQ,q];simp only[uv,gC,cJ,jo,bD]
 ·have K9:=decide_eq_false h7;refine other C7 (GC.mono (by omega)) ?_;simp_arith[xQ,e1,e2,e3,mu,md,so,ln,e4,xy,e5,e6,e7,K9,xg,xt,U7,U8,jy,lQ,q];simp only[uv,gC,cJ,jo,bD]
theorem ahu{C:Ce}{b L j:Nat}{zs pe:List Str}{ps:List (Str×Str)}{z a1 b1:Str}{n day:Int}{many:Int}(hB:Bl L C b (j+405))(hN:Names zs)(hP:gh zs ps)(p0:0<ps.length)(p8:ps.length≤8)(pl:2≤pe.length)(pl2:pe.length≤20)(pn:pe.Nodup)(pz:∀x∈pe,x∈zs)(n0:0≤n)(n1:n≤1000000000)(d0:0≤day)(d1:day≤99999)(m0:0≤many)(m1:many≤16):
  ∃(lv:List cC)(C':Ce),Hr [.ce b,.im (.dict (aP (bz ps))),.im (.list (pe.map .str)),.im (.int many),.im (dN z a1 b1 n),.im (.int day)] C=some (.ow (.list (lv.map bD)),C')∧lv.length≤16∧(∀r∈lv,wu zs (ps.map (·.1)) r∧r.2.1∈pe∧r.2.2.1∈pe)∧(lv.map (·.1)).Pairwise (·<·)∧Bl L C' b j:=by
 refine hide fun GG gg=>?_
 have o1:=Z3 (C:=C) hN hP p8 z;have ig:decide ((1:Int)<(pe.length:Int))=true:=decide_eq_true (by omega);have mu:fQ (.int many) (.int 1)=some (.im (.int (many*1))):=mul_eq (.inl (by omega));rw[Xn] at mu
 obtain⟨ns,C1,e1,nl,hn,rise,gA⟩:=ahr (j:=j+304) (m:=many) hB m0 (by omega)
 obtain⟨env',C',e,lv,w8,w9,w10,w11,w12,w13,he,hm,hr,hB'⟩:=vP (g:=gNm 8) (body:=xQ) (its:=ns.map .int) (env:=uv b ps pe many (dN z a1 b1 n) day [] (up ps z) none none none none none none) (C:=C1)
  (fun i env C2=>∃(lv:List cC)(w8 w9 w10 w11 w12 w13:Option Vl),env=uv b ps pe many (dN z a1 b1 n) day lv (up ps z) w8 w9 w10 w11 w12 w13∧lv.map (·.1)=ns.take i∧(∀r∈lv,wu zs (ps.map (·.1)) r∧r.2.1∈pe∧r.2.2.1∈pe)∧Bl L C2 b (j+19*(16-i)))
  ⟨[],none,none,none,none,none,none,rfl,rfl,(fun _ h=>nomatch h),gA⟩ (fun i d env C2 hd hI=>by
   obtain⟨lv,w8,w9,w10,w11,w12,w13,rfl,hm,hr,hB⟩:=hI
   obtain⟨x,rfl,hx,mx,hi⟩:=ajN hd
   rw[Ez j 19 (by omega:i<16)] at hB;have ll:lv.length≤16:=by
    have:=congrArg qU hm;rw[aX,jU] at this;omega
   obtain⟨r,C3,w9,w10,w11,w12,w13,e,h1,hB3⟩:=afY (z:=z) (a1:=a1) (b1:=b1) (many:=many) (lv:=lv) hB hN hP p0 p8 pl pl2 pn pz n0 n1 d0 d1 (hn x mx) ll w9 w10 w11 w12 w13
   refine⟨_,.nx,_,C3,rfl,e,.inl rfl,lv++[r],_,_,_,_,_,_,rfl,?_,fun q hq=>?_,hB3⟩
   ·rw[gC,hm,take_snoc hx,cJ,h1.num];rfl
   ·rcases cQ.mp hq with hq|hq
    ·exact hr q hq
    ·rw[gB.mp hq]
     exact⟨h1.ok,h1.giver,h1.taker⟩)
 rw[aX] at hm hB';rw[List.take_length] at hm;subst he;have ll:lv.length≤16:=by
  have:=congrArg qU hm;rw[aX] at this;omega
 have hB2:Bl L C' b j:=hB'.mono (Mr _ _);refine gg ⟨lv,C',gk [some (.ce b),some (.im (.dict (aP (bz ps)))),some (.im (.list (pe.map .str))),some (.im (.int many)),some (.im (dN z a1 b1 n)),some (.im (.int day)),none,none,none,none,none,none,none,none] rfl rfl ?_ rfl (hB.eq hB2),ll,hr,by rw[hm];exact rise,hB2⟩;simp only[uv,jo] at e;simp_arith[M4,o1,ig,wO,mu,e1,fU,e]
structure alA(zs:List Str)(ps:List (Str×Str))(pe:List Str)(lv:List cC)(z a1 b1:Str)(n day:Int):Prop where
 names:Names zs
 len:zs.length=24
 parts:gh zs ps
 p0:0<ps.length
 p8:ps.length≤8
 two:2≤pe.length
 few:pe.length≤17
 aoM:pe.Nodup
 amd:∀x∈pe,x∈zs
 aoO:z∈zs
 aoP:a1∈zs
 aoQ:b1∈zs
 n0:0≤n
 n1:n≤1000000000
 d0:0≤day
 d1:day≤99999
 m5:lv.length≤16
 leaves:∀r∈lv,wu zs (ps.map (·.1)) r∧r.2.1∈pe∧r.2.2.1∈pe
 rise:(lv.map (·.1)).Pairwise (·<·)
abbrev ame(ps:List (Str×Str))(pe:List Str)(lv:List cC)(z a1 b1:Str)(n day:Int):ao:=.tuple [.dict (aP (bz ps)),.list (pe.map .str),.list (lv.map bD),dN z a1 b1 n,.int day]
theorem aka{C:Ce}{b L j:Nat}{most:Int}(hB:Bl L C b (j+460))(m0:0≤most)(m1:most≤16):
  ∃(zs:List Str)(ps:List (Str×Str))(pe:List Str)(lv:List cC)(z a1 b1:Str)(n day:Int)(C':Ce),JN [.ce b,.im (.int most)] C=some (.im (ame ps pe lv z a1 b1 n day),C')∧alA zs ps pe lv z a1 b1 n day∧Bl L C' b j:=by
 refine hide fun GG gg=>?_
 obtain⟨zs,C1,e1,hN,Vb,gA⟩:=Z2 (m:=24) (j:=j+448) hB (by decide) (by decide)
 have Vb:zs.length=24:=Vb
 obtain⟨t2,C2,e2,a2,b2,hB2⟩:=dg (m:=8) (k:=j+447) gA (by decide) (by decide)
 have ct:=J4 (zs:=zs) (m:=1+t2) (by omega) (by omega);have tl:(zs.take (1+t2).toNat).length=(1+t2).toNat:=by rw[jU];omega
 obtain⟨ps,C3,e3,hP,pl,hB3⟩:=YT (j:=j+431) (zs:=zs.take (1+t2).toNat) hB2 (by omega) ⟨hN.1.sublist (zF _ _),fun z hz=>hN.2 z (ux hz)⟩
 have hP:=Yg hP;have p0:0<ps.length:=by omega
 have p8:ps.length≤8:=by omega
 have ln:=YW ps
 obtain⟨t4,C4,e4,a4,b4,p6⟩:=dg (m:=3) (k:=j+430) hB3 (by decide) (by decide)
 obtain⟨x4,i4,h4⟩:=K8 (.int 4) (.int 9) (.int 16) a4 b4
 obtain⟨w,rfl,w0,w1⟩:∃w,x4=.int w∧0<w∧w≤16:=by rcases h4 with rfl|rfl|rfl<;>exact⟨_,rfl,by omega,by omega⟩
 obtain⟨t5,C5,e5,a5,b5,su⟩:=dg (m:=w) (k:=j+429) p6 w0 (by omega)
 obtain⟨k5,hk5⟩:∃k5:Nat,2+2+t5=((2+(2+k5):Nat):Int):=⟨t5.toNat,by omega⟩
 have sy:=DK cL (xs:=zs) (a:=2) (b:=2+(2+k5)) (by omega) (by omega);rw[←hk5,show 2+(2+k5)-2=2+k5 by omega] at sy;have sy:iW (zs.map cL) (some 2) (some (2+2+t5))=_:=sy
 obtain⟨pe,hpe⟩:∃pe,pe=(zs.drop 2).take (2+k5):=⟨_,rfl⟩
 rw[←hpe] at sy;have Vc:pe.length=2+k5:=by rw[hpe,jU,zK];omega
 have GD:pe.Nodup:=by rw[hpe];exact hN.1.sublist ((zF _ _).trans (aex _ _))
 have pin:∀x∈pe,x∈zs:=fun x hx=>by rw[hpe] at hx;exact GR (ux hx)
 have La:=DK cL (xs:=zs) (a:=18) (b:=20) (by decide) (by omega);have La:iW (zs.map cL) (some 18) (some 20)=_:=La
 obtain⟨ex,hex⟩:∃ex,ex=(zs.drop 18).take (20-18):=⟨_,rfl⟩
 rw[←hex] at La;have exl:ex.length≤2:=by rw[hex,jU];omega
 have xin:∀x∈ex,x∈zs:=fun x hx=>by rw[hex] at hx;exact GR (ux hx)
 have ad1:bO (.list (pe.map .str)) (.list (ex.map .str))=some (.ow (.list ((pe++ex).map .str))):=by
  rw[gC];exact add_l (by rw[aX,aX];omega)
 obtain⟨sm,hsm⟩:∃sm,sm=pe++ex:=⟨_,rfl⟩
 rw[←hsm] at ad1;have sl:0<sm.length∧sm.length≤100:=by rw[hsm,gf];omega
 have sin:∀x∈sm,x∈zs:=fun x hx=>by
  rw[hsm] at hx;rcases cQ.mp hx with hx|hx
  ·exact pin x hx
  ·exact xin x hx
 obtain⟨t6,C6,e6,a6,b6,vz⟩:=dg (m:=(sm.length:Int)) (k:=j+428) su (by omega) (by omega)
 obtain⟨s1,m1',_,x1⟩:=mR (zs:=sm) a6 b6
 obtain⟨t7,C7,e7,a7,b7,GC⟩:=dg (m:=(sm.length:Int)) (k:=j+427) vz (by omega) (by omega)
 obtain⟨s2,m2',_,x2⟩:=mR (zs:=sm) a7 b7
 have fin:∀(C9:Ce)(a1 b1:Str),a1∈zs→b1∈zs→Bl L C9 b (j+425)→(jx (fTst (aD u5 (aj (fCal bQ (aCons (fVar 0) (aCons (fCst (.int 3)) aNil)))) (aj (fCst (.int 0))))) (fSet 6 (fTup (aCons (aD bf (au 2) (aj (fCst (.int 20)))) (aCons (aD bf (au 2) (aj (aD bO (aj (fCst (.int 20))) (aj (fCal bQ (aCons (fVar 0) (aCons (fCst (.int 2)) aNil))))))) aNil)))) fNext [some (.ce b),some (.im (.int most)),some (.ow (.list (zs.map .str))),some (.ow (.dict (aP (bz ps)))),some (.ow (.list (pe.map .str))),some (.ow (.list (sm.map .str))),some (.im (.tuple [.str s1,.str s2])),none,none,none] C7=some (.nx,[some (.ce b),some (.im (.int most)),some (.ow (.list (zs.map .str))),some (.ow (.dict (aP (bz ps)))),some (.ow (.list (pe.map .str))),some (.ow (.list (sm.map .str))),some (.im (.tuple [.str a1,.str b1])),none,none,none],C9))→GG:=fun C9 a1 b1 ha hb hB9 e9=>by
  obtain⟨qs,qp,so⟩:=Xk ps (by omega)
  have Lb:=DK cL (xs:=zs) (a:=22) (b:=23) (by decide) (by omega);have Lb:iW (zs.map cL) (some 22) (some 23)=_:=Lb
  obtain⟨ey,Vd⟩:∃ey,ey=(zs.drop 22).take (23-22):=⟨_,rfl⟩
  rw[←Vd] at Lb;have eyl:ey.length=1:=by rw[Vd,jU,zK];omega
  have yin:∀x∈ey,x∈zs:=fun x hx=>by rw[Vd] at hx;exact GR (ux hx)
  have ql:qs.length=ps.length:=by rw[qp.length_eq,aX]
  have ad2:bO (.list (qs.map .str)) (.list (ey.map .str))=some (.ow (.list ((qs++ey).map .str))):=by
   rw[gC];exact add_l (by rw[aX,aX];omega)
  obtain⟨qy,Ve⟩:∃qy,qy=qs++ey:=⟨_,rfl⟩
  rw[←Ve] at ad2;have qyl:qy.length=ps.length+1:=by rw[Ve,gf];omega
  have qin:∀x∈qy,x∈zs:=fun x hx=>by
   rw[Ve] at hx;rcases cQ.mp hx with hx|hx
   ·have:=qp.mem_iff.mp hx;rw[Ip hP] at this;exact ux this
   ·exact yin x hx
  obtain⟨tA,CA,eA,aA,bA,U9⟩:=dg (m:=9) (k:=j+424) hB9 (by decide) (by decide)
  obtain⟨u,hu,u0,u1⟩:∃u:Int,(if(tA==0)=true then(1:Int) else 0)=u∧0≤u∧u≤1:=⟨_,rfl,by split<;>omega,by split<;>omega⟩
  obtain⟨tB,CB,eB,aB,bB,Va⟩:=dg (m:=(ps.length:Int)+u) (k:=j+423) U9 (by omega) (by omega)
  obtain⟨z,mz,_,xz⟩:=mR (zs:=qy) aB (by omega)
  obtain⟨n,CC,eC,n0,n1,hBC⟩:=abK (j:=j+419) Va
  obtain⟨f,l,CD,eD,f0,f1,f2,hBD⟩:=aa2 (j:=j+413) hBC
  obtain⟨tE,CE,eE,aE,bE,hBE⟩:=dg (m:=2) (k:=j+412) hBD (by decide) (by decide)
  obtain⟨day,iE,d0,d1⟩:∃day:Int,cX [lH f,.int l] tE=some (.int day)∧0≤day∧day≤99999:=by
   have:tE=0∨tE=1:=by omega
   rcases this with rfl|rfl
   ·exact⟨f,a_t0 _ _,f0,by omega⟩
   ·exact⟨l,a_t1 _ _ _,by omega,f2⟩
  obtain⟨tF,CF,eF,aF,bF,hBF⟩:=dg (m:=most+1) (k:=j+411) hBE (by omega) (by omega)
  obtain⟨lv,CG,eG,m5,hr,rise,hBG⟩:=ahu (many:=tF) (j:=j+6) (z:=z) (a1:=a1) (b1:=b1) (n:=n) (day:=day) hBF hN hP p0 p8 (by omega) (by omega) GD pin n0 n1 d0 d1 aF (by omega)
  refine gg ⟨zs,ps,pe,lv,z,a1,b1,n,day,CG,gk [some (.ce b),some (.im (.int most)),none,none,none,none,none,none,none,none] rfl rfl ?_ rfl (hB.eq hBG),⟨hN,Vb,hP,p0,p8,by omega,by omega,GD,pin,qin z mz,ha,hb,n0,n1,d0,d1,m5,hr,rise⟩,hBG.mono (by omega)⟩;have Ld:∀a b c d:ao,bO (.tuple [a,b]) (.tuple [c,d])=some (.im (.tuple [a,b,c,d])):=fun _ _ _ _=>Ey (zA rfl)
  simp_arith[Rt,e1,e2,dj,cN,fV,jz,ct,e3,e4,i4,e5,sy,La,ad1,e6,x1,e7,x2,↓e9,so,Lb,ad2,ln,eA,wO,hu,eB,xz,eC,Ld,eD,eE,iE,eF,eG]
 obtain⟨t8,C8,e8,a8,b8,hB8⟩:=dg (m:=3) (k:=j+426) GC (by decide) (by decide)
 by_cases h8:0<t8
 ·have Vf:=decide_eq_true h8
  obtain⟨t9,C9,e9,a9,b9,hB9⟩:=dg (m:=2) (k:=j+425) hB8 (by decide) (by decide)
  obtain⟨y0,n0,_,z0⟩:=mR (zs:=zs) (k:=20) (by omega) (by omega)
  obtain⟨y1,n1,_,z1⟩:=mR (zs:=zs) (k:=20+t9) (by omega) (by omega)
  exact fin C9 y0 y1 n0 n1 hB9 (by simp_arith[e8,Vf,z0,e9,z1])
 ·have Vf:=decide_eq_false h8;exact fin C8 s1 s2 (sin _ m1') (sin _ m2') hB8.dec (by simp_arith[e8,Vf])
def tY(R:Int→Prop):Option Int→Prop
 |none=>∀n,0≤n→n≤1000000000→¬R n
 |some m=>(0≤m∧m≤1000000000)∧R m∧∀n,m<n→n≤1000000000→¬R n
theorem tY.unique{R:Int→Prop}:∀{o o':Option Int},tY R o→tY R o'→o=o'
 |none,none,_,_=>rfl
 |none,some m,a,b=>absurd b.2.1 (a m b.1.1 b.1.2)
 |some m,none,a,b=>absurd a.2.1 (b m a.1.1 a.1.2)
 |some m,some m',a,b=>by
  rcases Int.lt_trichotomy m m' with l|l|l
  ·exact absurd b.2.1 (a.2.2 m' l b.1.2)
  ·rw[l]
  ·exact absurd a.2.1 (b.2.2 m l a.1.2)
theorem Z8{ws ws':List (Int×Str×Str)}(h:∀w∈ws,w∈ws'){a b:Str}{r:List Int}(p:jf ws a r b):jf ws' a r b:=by
 induction p with
 |nil p=>exact .nil p
 |cons h1 _ ih=>exact .cons (h _ h1) ih
def Rn(ht:jc)(os:List Str)(day:Int)(a1 b1 h s:Str)(n:Int):Prop:=¬((h=a1∨h=b1)∨(s=a1∨s=b1))∧xO (lW ht os n day a1 b1) h s
theorem Dl{os:List Str}{n m day:Int}{a1 b1:Str}{r:cC}(h:iD os n day a1 b1 r=true)(hm:m≤r.2.2.2.2.2.2):iD os m day a1 b1 r=true:=by
 unfold iD at h⊢;simp only[ie] at h⊢
 exact⟨h.1,h.2.1,decide_eq_true hm,h.2.2.2⟩
theorem Bg{os:List Str}{n day:Int}{a1 b1:Str}{r:cC}(h:iD os n day a1 b1 r=true):n≤r.2.2.2.2.2.2:=by
 unfold iD at h;simp only[ie] at h;exact of_decide_eq_true h.2.2.1
theorem Z9:∀(ns:List Int)(n:Int),(∃x∈ns,n≤x)→∃m∈ns,n≤m∧∀x∈ns,n≤x→m≤x
 |[],_,⟨_,h,_⟩=>absurd h jg
 |y::ns,n,⟨x,hx,l⟩=>by
  by_cases c:∃x∈ns,n≤x
  ·obtain⟨m,h1,h2,h3⟩:=Z9 ns n c
   by_cases d:n≤y∧y≤m
   ·exact⟨y,dm,d.1,fun x hx l=>(bI.mp hx).elim (fun e=>by rw[e];exact o9 _) fun hx=>sY d.2 (h3 x hx l)⟩
   ·exact⟨m,dM _ h1,h2,fun x hx l=>(bI.mp hx).elim (fun e=>by subst e;omega) fun hx=>h3 x hx l⟩
  ·rcases bI.mp hx with rfl|hx
   ·exact⟨x,dm,l,fun w hw k=>(bI.mp hw).elim (fun e=>by rw[e];exact o9 _) fun hw=>absurd ⟨w,hw,k⟩ c⟩
   ·exact absurd ⟨x,hx,l⟩ c
structure FW(ht:jc)(ns:List Int):Prop where
 down:ns.Pairwise (·≥·)
 vd:∀n∈ns,0≤n∧n≤1000000000
 top:1000000000∈ns
 each:∀r∈ht.leaves,r.2.2.2.2.2.2∈ns
 len:ns.length≤17
theorem FW.up{ht:jc}{ns:List Int}(S:FW ht ns){os:List Str}{day n:Int}{a1 b1 h s:Str}(hn:n≤1000000000)(R:Rn ht os day a1 b1 h s n):∃m∈ns,n≤m∧Rn ht os day a1 b1 h s m:=by
 obtain⟨m,h1,h2,h3⟩:=Z9 ns n ⟨_,S.top,hn⟩
 obtain⟨k,r,p⟩:=R
 refine⟨m,h1,h2,k,r,Z8 (fun w hw=>?_) p⟩
 obtain⟨l,hl,rfl⟩:=cY.mp hw
 obtain⟨q1,q2⟩:=j7.mp hl
 exact cY.mpr ⟨l,j7.mpr ⟨q1,Dl q2 (h3 _ (S.each l q1) (Bg q2))⟩,rfl⟩
theorem FW.most{ht:jc}{ns:List Int}(S:FW ht ns){os:List Str}{day:Int}{a1 b1 h s:Str}{o:Option Int}(ho:match o with|none=>∀n∈ns,¬Rn ht os day a1 b1 h s n|some m=>∃l r,ns=l++m::r∧Rn ht os day a1 b1 h s m∧∀n∈l,¬Rn ht os day a1 b1 h s n):tY (Rn ht os day a1 b1 h s) o:=by
 cases o with
 |none=>
  intro n _ h2 R
  obtain⟨m,h3,_,h4⟩:=S.up h2 R
  exact ho m h3 h4
 |some m=>
  obtain⟨l,r,e,h1,h2⟩:=ho
  refine⟨S.vd m (by rw[e];exact dX _ dm),h1,fun n h3 h4 R=>?_⟩
  obtain⟨x,h5,h6,h7⟩:=S.up h4 R
  rw[e] at h5;rcases cQ.mp h5 with h5|h5
  ·exact h2 x h5 h7
  ·rcases bI.mp h5 with rfl|h5
   ·omega
   ·have:=S.down;rw[e] at this;have:=(sJ.mp (Lr.mp this).2.1).1 x h5;omega
theorem akb{C:Ce}{zs:List Str}{ps:List (Str×Str)}{ht:jc}(hG:kW zs ps ht):∃ns,HB [.im (gM ht)] C=some (.ow (.list (ns.map .int)),C)∧FW ht ns:=by
 have c:=uD (T:=.one) (ft:=je) (fe:=Wb) (fs:=[]) (C:=C) bD (fun _=>true) (fun r=>.int (if(1000000000:Int)<r.2.2.2.2.2.2 then 1000000000 else r.2.2.2.2.2.2)) (l:=ht.leaves) fun r _=>⟨_,rfl,rfl,fun _=>⟨_,_,by simp_arith[eZ,jV,jC,bD];rfl,rfl⟩⟩
 rw[Ls.mpr fun _ _=>rfl] at c;have h16:=hG.m5
 obtain⟨ms,me⟩:∃ms:List Int,ms=ht.leaves.map fun r=>if(1000000000:Int)<r.2.2.2.2.2.2 then 1000000000 else r.2.2.2.2.2.2:=⟨_,rfl⟩
 have ml:ms.length=ht.leaves.length:=by rw[me,aX]
 have q:(ms.length≤1000000)=True:=eq_true (by omega);have c2:ht.leaves.map (fun r=>lH (if(1000000000:Int)<r.2.2.2.2.2.2 then 1000000000 else r.2.2.2.2.2.2))=ms.map .int:=by rw[me,fO];rfl
 rw[c2] at c;have io:intsOf (.int 1000000000::ms.map .int)=some (1000000000::ms):=OD (1000000000::ms);have l64:decide (ms.length+1<64)=true:=decide_eq_true (by omega);have ad:bO (.list [.int 1000000000]) (.list (ms.map .int))=some (.ow (.list (.int 1000000000::ms.map .int))):=add_l (xs:=[.int 1000000000]) (by rw[aX];show 1+_≤_;omega);have pm:=yj (lt:=ltI) (1000000000::ms);have mem:∀n,n∈(nO ltI (1000000000::ms)).reverse↔n=1000000000∨n∈ms:=fun n=>by rw[List.mem_reverse,pm.mem_iff,bI]
 have mr:∀n∈ms,∃r∈ht.leaves,r.2.2.2.2.2.2=n:=fun n hn=>by
  rw[me] at hn
  obtain⟨r,hr,e⟩:=cY.mp hn
  refine⟨r,hr,?_⟩
  have:=(hG.leaves r hr).most;split at e<;>omega
 refine⟨(nO ltI (1000000000::ms)).reverse,gk [some (.im (gM ht)),none] rfl rfl ?_ rfl rfl,⟨?_,fun n hn=>?_,(mem _).mpr (.inl rfl),fun r hr=>(mem _).mpr (.inr ?_),?_⟩⟩
 ·simp_arith[Nm,c,q,Ss,ad,io,l64]
 ·have:=Qq (lt:=ltI) acA (l:=1000000000::ms) fun _ _=>trivial
  exact adV.mpr (this.imp fun{a b} h=>by unfold ltI at h;exact Int.not_lt.mp (of_decide_eq_false h))
 ·rcases(mem n).mp hn with rfl|hn
  ·exact⟨by decide,by decide⟩
  ·obtain⟨r,hr,rfl⟩:=mr n hn
   exact(hG.leaves r hr).most
 ·rw[me];refine cY.mpr ⟨r,hr,?_⟩;have:=(hG.leaves r hr).most;split<;>omega
 ·rw[ad7,pm.length_eq,dH];omega
def xj:Option Int→ao
 |none=>.none
 |some m=>.int m
section
variable{C:Ce}{zs:List Str}{ps:List (Str×Str)}{ht:jc}(hN:Names zs)(hP:gh zs ps)(hG:kW zs ps ht){z a1 b1 h s:Str}{day:Int}
include hN hP hG
theorem Y0:∀(ns:List Int)(v8:Option Vl),∃(o:Option Int)(e':En),gO (gNm 8) Xh (ns.map .int) [some (.im (gM ht)),some (.im (.str z)),some (.im (.tuple [.str a1,.str b1])),some (.im (.str h)),some (.im (.str s)),some (.im (.int day)),some (.im (.str a1)),some (.im (.str b1)),v8] C=some ((match o with|none=>.nx|some m=>.rt (.im (.int m))),e',C)∧
  match o with|none=>∀n∈ns,¬Rn ht (up ps z) day a1 b1 h s n|some m=>∃l r,ns=l++m::r∧Rn ht (up ps z) day a1 b1 h s m∧∀n∈l,¬Rn ht (up ps z) day a1 b1 h s n
 |[],v8=>⟨none,_,rfl,fun n hn=>nomatch hn⟩
 |n::ns,v8=>by
  obtain⟨o,e1,h1,h2⟩:=aiI (C:=C) hN hP hG z a1 b1 n day h s
  have R:o.isSome=true↔Rn ht (up ps z) day a1 b1 h s n:=by
   by_cases c:(h=a1∨h=b1)∨(s=a1∨s=b1)
   ·rw[h1 c]
    exact⟨fun k=>(nomatch k),fun k=>absurd c k.1⟩
   ·have:=h2 c;cases o with
    |none=>exact⟨fun k=>(nomatch k),fun k=>absurd k.2 fun⟨r,p⟩=>this r p⟩
    |some r=>exact⟨fun _=>⟨c,r,this.1⟩,fun _=>rfl⟩
  rw[cJ,gO];cases o with
  |some r=>
   refine⟨some n,[some (.im (gM ht)),some (.im (.str z)),some (.im (.tuple [.str a1,.str b1])),some (.im (.str h)),some (.im (.str s)),some (.im (.int day)),some (.im (.str a1)),some (.im (.str b1)),some (.im (.int n))],?_,[],ns,rfl,R.mp rfl,fun n hn=>nomatch hn⟩
   simp_arith[e1,FP,Ed,isNone]
  |none=>
   obtain⟨o,e',e2,h3⟩:=Y0 ns (some (.im (.int n)))
   refine⟨o,e',?_,?_⟩
   ·simp_arith[e1,FP,Ed,isNone];exact e2
   ·have nR:¬Rn ht (up ps z) day a1 b1 h s n:=fun k=>nomatch R.mpr k
    cases o with
    |none=>exact fun x hx=>(bI.mp hx).elim (fun e=>by rw[e];exact nR) (h3 x)
    |some m=>
     obtain⟨l,r,e,p1,p2⟩:=h3
     exact⟨n::l,r,by rw[e];rfl,p1,fun x hx=>(bI.mp hx).elim (fun e=>by rw[e];exact nR) (p2 x)⟩
theorem aa3:∃o,Al [.im (gM ht),.im (.str z),.im (.tuple [.str a1,.str b1]),.im (.str h),.im (.str s),.im (.int day)] C=some (.im (xj o),C)∧tY (Rn ht (up ps z) day a1 b1 h s) o:=by
 obtain⟨ns,e1,S⟩:=akb (C:=C) hG
 obtain⟨o,e',e2,ho⟩:=Y0 (C:=C) hN hP hG (z:=z) (a1:=a1) (b1:=b1) (h:=h) (s:=s) (day:=day) ns none
 refine⟨o,gk [some (.im (gM ht)),some (.im (.str z)),some (.im (.tuple [.str a1,.str b1])),some (.im (.str h)),some (.im (.str s)),some (.im (.int day)),none,none,none] rfl rfl ?_ rfl rfl,S.most ho⟩
 have q:(ns.length≤1000000)=True:=eq_true (by have:=S.len;omega);cases o with
 |none=>
  simp_arith[Ja,e1,fU,iV,itD,q,e2];rfl
 |some m=>
  simp_arith[Ja,e1,fU,iV,itD,q,e2];rfl
end
def u9(st:List (Str×Int))(z:Str)(v:Int):List (Str×Int):=if z∈st.map (·.1) then st.map (fun x=>if x.1=z then(z,v) else x) else st++[(z,v)]
theorem aa4{z:Str}{v:Int}{p:Str}:∀st:List (Str×Int),bT (st.map fun x=>if x.1=z then(z,v) else x) p=if z=p then(bT st p).map fun _=>v else bT st p
 |[]=>by
  split<;>rfl
 |x::st=>by
  rw[cJ,Jt,Jt,aa4 st];by_cases h:x.1=z
  ·rw[if_pos h];by_cases h2:z=p
   ·rw[if_pos h2,if_pos h2,if_pos (h.trans h2)];rfl
   ·rw[if_neg h2,if_neg h2,if_neg h2,if_neg (fun e=>h2 (h.symm.trans e))]
  ·rw[if_neg h];by_cases h2:z=p
   ·rw[if_pos h2,if_pos h2,if_neg (fun e=>h (e.trans h2.symm)),if_neg (fun e=>h (e.trans h2.symm))]
   ·rw[if_neg h2,if_neg h2]
theorem QK(st:List (Str×Int))(z p:Str)(v:Int):bT (u9 st z v) p=if z=p then some v else bT st p:=by
 unfold u9;split
 ·rename_i h;rw[aa4];by_cases e:z=p
  ·subst e;rw[if_pos rfl,if_pos rfl];cases k:bT st z with
   |none=>exact absurd h (nD.mp k)
   |some w=>rfl
  ·rw[if_neg e,if_neg e]
 ·rename_i h;have:=Dy st [z] v p;rw[cJ,jo] at this;rw[this];by_cases e:z=p
  ·subst e;rw[if_neg h,if_pos (gB.mpr rfl),if_pos rfl]
  ·rw[if_neg e];split
   ·rfl
   ·rename_i k;rw[if_neg (fun m=>e (gB.mp m).symm),nD.mpr k]
theorem aiK(st:List (Str×Int))(z:Str)(v:Int):(u9 st z v).length≤st.length+1:=by
 unfold u9;split
 ·rw[aX];exact vO _
 ·rw[gf];exact bN _
theorem alB(st:List (Str×Int))(z:Str)(v:Int):putD (aP (stL st)) (.str z) (.int v)=some (aP (stL (u9 st z v))):=by
 have ks:(stL st).map (·.1)=st.map (·.1):=by
  unfold stL;rw[fO];rfl
 by_cases h:z∈st.map (·.1)
 ·show(if(cO di (aP (stL st))).isSome then some (nW di (.inr z) (.str z) (.int v) (aP (stL st))) else none)=_
  rw[Dj];refine congrArg some ?_;unfold nW u9;rw[if_pos h,if_pos]
  ·unfold aP stL;rw[fO,fO,fO,fO];refine zE fun x _=>?_
   by_cases e:x.1=z
   ·simp[Aw,e]
   ·simp[Aw,e]
  ·obtain⟨x,hx,e⟩:=cY.mp h
   refine aeJ.mpr ⟨(.str x.1,.int x.2),cY.mpr ⟨(x.1,.int x.2),cY.mpr ⟨x,hx,rfl⟩,rfl⟩,decide_eq_true ((Aw _ _).mpr e)⟩
 ·rw[Qx (by rw[ks];exact h)];unfold u9 stL;rw[if_neg h,gC];rfl
def mG(i j:Int):Int:=if j>i then j else i
def m6(i j:Int):Int:=if j<i then j else i
theorem abL(i j:Int):m6 i j≤i∧m6 i j≤j∧∀n,n≤i→n≤j→n≤m6 i j:=by unfold m6;split<;>exact⟨by omega,by omega,fun _ _ _=>by omega⟩
theorem yH(i j:Int):i≤mG i j∧j≤mG i j∧(mG i j=i∨mG i j=j):=by unfold mG;split<;>exact⟨by omega,by omega,by omega⟩
def jO(f:List (Str×Int))(r:cC):List (Str×Int):=match bT f r.2.1 with
 |none=>f
 |some v=>u9 f r.2.2.1 (mG ((bT f r.2.2.1).getD (-1)) (m6 v r.2.2.2.2.2.2))
def pO(lv:List cC):Nat→List (Str×Int)→List (Str×Int)
 |0,f=>f
 |n+1,f=>pO lv n (lv.foldl jO f)
def Up(f g:List (Str×Int)):Prop:=∀x v,bT f x=some v→∃w,bT g x=some w∧v≤w
theorem Up.refl(f:List (Str×Int)):Up f f:=fun x v h=>⟨v,h,o9 _⟩
theorem Up.trans{f g h:List (Str×Int)}(a:Up f g)(b:Up g h):Up f h:=fun x v e=>by
 obtain⟨w,e1,l1⟩:=a x v e
 obtain⟨u,e2,l2⟩:=b x w e1
 exact⟨u,e2,sY l1 l2⟩
theorem Y4(f:List (Str×Int))(r:cC):(jO f r).length≤f.length+1:=by
 unfold jO;split
 ·exact vO _
 ·exact aiK _ _ _
theorem aaa:∀(lv:List cC)(f:List (Str×Int)),(lv.foldl jO f).length≤f.length+lv.length
 |[],_=>bN _
 |r::lv,f=>by
  have:=aaa lv (jO f r);have:=Y4 f r;rw[xV,dH];omega
theorem aab(f:List (Str×Int))(r:cC):Up f (jO f r):=by
 unfold jO;split
 ·exact Up.refl f
 ·rename_i v hv;intro x w hx;rw[QK];by_cases e:r.2.2.1=x
  ·rw[if_pos e,e,hx]
   exact⟨_,rfl,(yH _ _).1⟩
  ·rw[if_neg e]
   exact⟨w,hx,o9 _⟩
theorem Ry:∀(lv:List cC)(f:List (Str×Int)),Up f (lv.foldl jO f)
 |[],f=>Up.refl f
 |r::lv,f=>(aab f r).trans (Ry lv (jO f r))
theorem aa5(lv:List cC):∀(n:Nat)(f:List (Str×Int)),Up f (pO lv n f)
 |0,f=>Up.refl f
 |n+1,f=>(Ry lv f).trans (aa5 lv n _)
theorem aac{r:cC}{v n:Int}(h1:n≤v)(h2:n≤r.2.2.2.2.2.2):∀{lv:List cC}{f:List (Str×Int)},r∈lv→bT f r.2.1=some v→∃w,bT (lv.foldl jO f) r.2.2.1=some w∧n≤w
 |q::lv,f,hm,hg=>by
  rw[xV];by_cases c:r=q
  ·subst c;have:bT (jO f r) r.2.2.1=some (mG ((bT f r.2.2.1).getD (-1)) (m6 v r.2.2.2.2.2.2)):=by
    unfold jO;rw[hg];show bT (u9 _ _ _) _=_;rw[QK,if_pos rfl]
   obtain⟨w,e,l⟩:=Ry lv (jO f r) _ _ this
   have:=(abL v r.2.2.2.2.2.2).2.2 n h1 h2;have:=(yH ((bT f r.2.2.1).getD (-1)) (m6 v r.2.2.2.2.2.2)).2.1
   exact⟨w,e,by omega⟩
  ·have hm:=(bI.mp hm).resolve_left c
   obtain⟨w,e,l⟩:=aab f q _ _ hg
   exact aac (v:=w) (sY h1 l) h2 hm e
theorem aiL{lv:List cC}{ws:List (Int×Str×Str)}{n:Int}(hw:∀w∈ws,∃r∈lv,n≤r.2.2.2.2.2.2∧FQ r=w){a x:Str}{p:List Int}(hp:jf ws a p x):∀{k:Nat}{f:List (Str×Int)}{v:Int},bT f a=some v→n≤v→p.length≤k→∃w,bT (pO lv k f) x=some w∧n≤w:=by
 induction hp with
 |nil _=>
  intro k f v h l _
  obtain⟨w,e,l2⟩:=aa5 lv k f _ _ h
  exact⟨w,e,sY l l2⟩
 |cons h1 _ ih=>
  intro k f v h l hl;cases k with
  |zero=>exact absurd hl (ad0 _)
  |succ k=>
   obtain⟨r,hr,hm,e⟩:=hw _ h1
   injection e with e1 e2
   injection e2 with e2 e3
   obtain⟨w,e4,l4⟩:=aac (lv:=lv) (f:=f) l hm hr (by rw[e2];exact h)
   exact ih (k:=k) (by rw[←e3];exact e4) l4 (Nat.le_of_succ_le_succ hl)
def gm(W:Int→List (Int×Str×Str))(h:Str)(f:List (Str×Int)):Prop:=∀x v,bT f x=some v→0≤v∧v≤1000000000∧xO (W v) h x
theorem aiM{W:Int→List (Int×Str×Str)}{h:Str}(hd:∀n m,n≤m→∀w∈W m,w∈W n){f:List (Str×Int)}{r:cC}(h0:0≤r.2.2.2.2.2.2)(hr:∀n,n≤r.2.2.2.2.2.2→FQ r∈W n)(H:gm W h f):gm W h (jO f r):=by
 unfold jO;split
 ·exact H
 ·rename_i v hv;intro x w hx;rw[QK] at hx;by_cases e:r.2.2.1=x
  ·rw[if_pos e] at hx;have hx:=fX hx
   obtain⟨k1,k2,p,hp⟩:=H _ _ hv
   obtain⟨m1,m2,m3⟩:=abL v r.2.2.2.2.2.2
   have m4:=m3 0 k1 h0;have good:0≤m6 v r.2.2.2.2.2.2∧m6 v r.2.2.2.2.2.2≤1000000000∧xO (W (m6 v r.2.2.2.2.2.2)) h x:=⟨m4,by omega,_,by rw[←e];exact(Z8 (hd _ _ m1) hp).snoc (hr _ m2)⟩
   cases ho:bT f r.2.2.1 with
   |none=>
    rw[ho] at hx;have:w=m6 v r.2.2.2.2.2.2:=by
     have:=(yH (-1) (m6 v r.2.2.2.2.2.2)).2;rw[←hx];show mG (-1) _=_;rcases this.2 with k|k
     ·omega
     ·exact k
    rw[this];exact good
   |some o=>
    rw[ho] at hx
    rcases(yH o (m6 v r.2.2.2.2.2.2)).2.2 with k|k
    ·have:w=o:=by rw[←hx];exact k
     rw[this];rw[e] at ho;exact H x o ho
    ·have:w=m6 v r.2.2.2.2.2.2:=by rw[←hx];exact k
     rw[this];exact good
  ·rw[if_neg e] at hx;exact H x w hx
theorem aa6{W:Int→List (Int×Str×Str)}{h:Str}(hd:∀n m,n≤m→∀w∈W m,w∈W n):∀{lv:List cC}{f:List (Str×Int)},(∀r∈lv,0≤r.2.2.2.2.2.2∧∀n,n≤r.2.2.2.2.2.2→FQ r∈W n)→gm W h f→gm W h (lv.foldl jO f)
 |[],_,_,H=>H
 |r::lv,f,hr,H=>aa6 hd (lv:=lv) (fun q hq=>hr q (dM _ hq)) (aiM hd (hr r dm).1 (hr r dm).2 H)
theorem aa7{W:Int→List (Int×Str×Str)}{h:Str}(hd:∀n m,n≤m→∀w∈W m,w∈W n){lv:List cC}(hr:∀r∈lv,0≤r.2.2.2.2.2.2∧∀n,n≤r.2.2.2.2.2.2→FQ r∈W n):∀{n:Nat}{f:List (Str×Int)},gm W h f→gm W h (pO lv n f)
 |0,_,H=>H
 |n+1,_,H=>aa7 hd hr (n:=n) (aa6 hd hr H)
theorem Sx{st:List (Str×Int)}{z:Str}:oN (aP (stL st)) (.str z)=some ((bT st z).map .int):=JR st z
theorem mn2(i j:Int):pK [.int i,.int j]=some (.im (.int (m6 i j))):=rfl
theorem Vg(i j:Int):tX [.int i,.int j]=some (.im (.int (mG i j))):=rfl
section
variable{C:Ce}{v0 v1 v2 v3 v4 v6:Option Vl}
theorem aad{v7:Option Vl}:∀(lv:List cC)(f:List (Str×Int))(v8:Option Vl),f.length+lv.length≤1000→∃w8,gO (gNm 8) Cu (lv.map bD) [v0,v1,v2,v3,v4,some (.ow (.dict (aP (stL f)))),v6,v7,v8] C=
  some (.nx,[v0,v1,v2,v3,v4,some (.ow (.dict (aP (stL (lv.foldl jO f))))),v6,v7,w8],C)
 |[],f,v8,_=>⟨v8,rfl⟩
 |r::lv,f,v8,hl=>by
  rw[dH] at hl;have sl:=Y4 f r
  obtain⟨w8,e⟩:=aad (v7:=v7) lv (jO f r) (some (.im (bD r))) (by omega)
  refine⟨w8,?_⟩
  have q:((aP (stL f)).length<1000000)=True:=eq_true (by unfold aP stL;rw[aX,aX];omega);rw[xV,←e,cJ];have run:∀f':List (Str×Int),Cu [v0,v1,v2,v3,v4,some (.ow (.dict (aP (stL f)))),v6,v7,some (.im (bD r))] C=some (.nx,[v0,v1,v2,v3,v4,some (.ow (.dict (aP (stL f')))),v6,v7,some (.im (bD r))],C)→gO (gNm 8) Cu (bD r::lv.map bD) [v0,v1,v2,v3,v4,some (.ow (.dict (aP (stL f)))),v6,v7,v8] C=gO (gNm 8) Cu (lv.map bD) [v0,v1,v2,v3,v4,some (.ow (.dict (aP (stL f')))),v6,v7,some (.im (bD r))] C:=fun f' h=>by
   rw[gO];simp only[gNm,Ly,Lz,h]
  refine run _ ?_;unfold jO;simp only[bD];cases hg:bT f r.2.1 with
  |none=>
   have d1:=decide_eq_false (nD.mp hg);simp_arith[Fg,d1]
  |some v=>
   have d1:decide (r.2.1∈f.map (·.1))=true:=by rw[←Ff,hg];rfl
   have i1:=Tu hg;have p1:=alB f r.2.2.1 (mG ((bT f r.2.2.1).getD (-1)) (m6 v r.2.2.2.2.2.2));cases ht:bT f r.2.2.1 with
   |none=>
    have g1:=Sx (st:=f) (z:=r.2.2.1);rw[ht] at g1 p1;have ng:(fNeg (aj (fCst (.int 1)))) [v0,v1,v2,v3,v4,some (.ow (.dict (aP (stL f)))),v6,v7,some (.im (bD r))] C=some (.im (.int (-1)),[v0,v1,v2,v3,v4,some (.ow (.dict (aP (stL f)))),v6,v7,some (.im (bD r))],C):=rfl;simp only[bD,Mh] at ng p1;simp_arith[Fg,d1,pU,wZ,ng,g1,aeV,i1,rH,p1,q,mn2,Vg,Mh]
   |some o=>
    have g1:=Sx (st:=f) (z:=r.2.2.1);rw[ht] at g1 p1;have ng:(fNeg (aj (fCst (.int 1)))) [v0,v1,v2,v3,v4,some (.ow (.dict (aP (stL f)))),v6,v7,some (.im (bD r))] C=some (.im (.int (-1)),[v0,v1,v2,v3,v4,some (.ow (.dict (aP (stL f)))),v6,v7,some (.im (bD r))],C):=rfl;simp only[bD,zM] at ng p1;simp_arith[Fg,d1,pU,wZ,ng,g1,mL,i1,rH,p1,q,mn2,Vg,zM]
end
theorem Y5{C:Ce}{v0 v1 v2 v3 v4:Option Vl}{lv:List cC}(m5:lv.length≤16):∀(its:List ao)(f:List (Str×Int))(sv:Vl)(v7 v8:Option Vl),sv=.ow (.list (lv.map bD))∨sv=.im (.list (lv.map bD))→f.length+16*its.length≤900→∃w6 w7 w8,gO (gNm 7) Wo its [v0,v1,v2,v3,v4,some (.ow (.dict (aP (stL f)))),some sv,v7,v8] C=
  some (.nx,[v0,v1,v2,v3,v4,some (.ow (.dict (aP (stL (pO lv its.length f))))),w6,w7,w8],C)
 |[],f,sv,v7,v8,_,_=>⟨some sv,v7,v8,rfl⟩
 |d::its,f,sv,v7,v8,hv,hl=>by
  rw[dH] at hl;have fl:=aaa lv f
  obtain⟨u8,e1⟩:=aad (C:=C) (v0:=v0) (v1:=v1) (v2:=v2) (v3:=v3) (v4:=v4) (v6:=some (.im (.list (lv.map bD)))) (v7:=some (.im d)) lv f v8 (by omega)
  obtain⟨w6,w7,w8,e2⟩:=Y5 m5 its (lv.foldl jO f) (.im (.list (lv.map bD))) (some (.im d)) u8 (.inr rfl) (by omega)
  refine⟨w6,w7,w8,?_⟩
  rw[dH,pO,←e2,gO];rcases hv with rfl|rfl
  ·simp_arith[fU,e1]
  ·simp_arith[fU,e1]
theorem aae(lv:List cC):∀k,pO lv k []=[]
 |0=>rfl
 |k+1=>by
  have:∀l:List cC,l.foldl jO []=[]:=fun l=>by
   induction l with
   |nil=>rfl
   |cons r l ih=>rw[xV];exact ih
  rw[pO,this,aae lv k]
theorem ahv(ht:jc)(os:List Str)(day:Int)(a1 b1:Str):∀n m,n≤m→∀w∈lW ht os m day a1 b1,w∈lW ht os n day a1 b1:=fun n m l w hw=>by
 obtain⟨r,hr,rfl⟩:=cY.mp hw
 obtain⟨q1,q2⟩:=j7.mp hr
 exact cY.mpr ⟨r,j7.mpr ⟨q1,Dl q2 (sY l (Bg q2))⟩,rfl⟩
theorem ahw{os:List Str}{n day:Int}{a1 b1:Str}{r:cC}(h:iD os n day a1 b1 r=true):¬(r.2.2.1=a1∨r.2.2.1=b1):=by
 unfold iD at h;simp only[ie,V4] at h;exact of_decide_eq_false h.2.2.2.2
theorem aiN{ht:jc}{os:List Str}{n day:Int}{a1 b1 h s:Str}(hs:¬(h=a1∨h=b1))(R:xO (lW ht os n day a1 b1) h s):¬(s=a1∨s=b1):=by
 obtain⟨p,hp⟩:=R
 have:=hp.abG;generalize p.reverse=p' at this;cases this with
 |nil=>exact hs
 |cons hw _=>
  obtain⟨r,hr,e⟩:=cY.mp (QB.mp hw)
  injection e with e1 e2
  injection e2 with e2 e3
  rw[←e3];exact ahw (j7.mp hr).2
theorem agz{C:Ce}{zs:List Str}{ps ps':List (Str×Str)}{lv:List cC}(hG:kW zs ps ⟨ps',[],lv,[]⟩)(os:List Str)(day:Int)(a1 b1 h s:Str):
  tY (Rn ⟨ps',[],lv,[]⟩ os day a1 b1 h s) (bT (pO (lv.filter (iD os 0 day a1 b1)) (lv.filter (iD os 0 day a1 b1)).length (if h=a1∨h=b1 then[] else[(h,1000000000)])) s):=by
 by_cases c:h=a1∨h=b1
 ·rw[if_pos c,aae];exact fun n _ _ R=>R.1 (.inl c)
 rw[if_neg c];have T0:gm (fun n=>lW ⟨ps',[],lv,[]⟩ os n day a1 b1) h [(h,1000000000)]:=fun x v e=>by
  rw[Jt] at e;split at e
  ·rename_i k;cases e
   exact⟨afH (show(0:Int)<1000000000 by decide),o9 _,[],by rw[←k];exact .nil _⟩
  ·cases e
 have T:=aa7 (ahv ⟨ps',[],lv,[]⟩ os day a1 b1) (lv:=lv.filter (iD os 0 day a1 b1)) (fun r hr=>by
  obtain⟨q1,q2⟩:=j7.mp hr
  exact⟨(hG.leaves r q1).most.1,fun n l=>cY.mpr ⟨r,j7.mpr ⟨q1,Dl q2 l⟩,rfl⟩⟩) (n:=(lv.filter (iD os 0 day a1 b1)).length) T0
 have big:∀n,0≤n→n≤1000000000→xO (lW ⟨ps',[],lv,[]⟩ os n day a1 b1) h s→∃w,bT (pO (lv.filter (iD os 0 day a1 b1)) (lv.filter (iD os 0 day a1 b1)).length [(h,1000000000)]) s=some w∧n≤w:=fun n n0 n1 R=>by
  have wf:=Z7 hG os n day a1 b1
  obtain⟨st,_,B⟩:=Z6 (C:=C) (ws:=(lW ⟨ps',[],lv,[]⟩ os n day a1 b1).map Fd) (s:=h) (by rw[aX];exact wf)
  obtain⟨p,hp,pl⟩:=B.ais R
  have le:(lW ⟨ps',[],lv,[]⟩ os n day a1 b1).length≤(lv.filter (iD os 0 day a1 b1)).length:=by
   unfold lW;rw[aX,←adp,←adp];exact List.countP_mono_left fun r _ k=>Dl k (sY n0 (Bg k))
  refine aiL (fun w hw=>?_) hp (f:=[(h,1000000000)]) (v:=1000000000) (by rw[Jt,if_pos rfl]) n1 (jD pl le)
  obtain⟨r,hr,e⟩:=cY.mp hw
  obtain⟨q1,q2⟩:=j7.mp hr
  exact⟨r,j7.mpr ⟨q1,Dl q2 (sY n0 (Bg q2))⟩,Bg q2,e⟩
 cases e:bT (pO (lv.filter (iD os 0 day a1 b1)) (lv.filter (iD os 0 day a1 b1)).length [(h,1000000000)]) s with
 |none=>
  intro n n0 n1 R
  obtain⟨w,e2,_⟩:=big n n0 n1 R.2
  rw[e] at e2;cases e2
 |some v=>
  obtain⟨t1,t2,t3⟩:=T s v e
  refine⟨⟨t1,t2⟩,⟨fun k=>k.elim c (aiN c t3),t3⟩,fun n l n1 R=>?_⟩
  obtain⟨w,e2,l2⟩:=big n (by omega) n1 R.2
  rw[e] at e2;cases e2;omega
theorem aiO(r:cC)(l:List ao):gH (bD r::l)=gH l:=by
 unfold bD;simp only[gH,jK,Bool.true_and,Bool.and_true]
theorem PX:∀l:List cC,gH (l.map bD)=true
 |[]=>rfl
 |r::l=>by rw[cJ,aiO];exact PX l
theorem Sy{C:Ce}{f:FB}{env:En}{k:Int}(h:f env C=some (.int k,env,C))(k1:0≤k)(k2:k≤1000):gY f env C=some (gn 0 k.toNat,env,C):=by
 unfold gY;rw[h];exact w5 (by omega) (by omega) _ _
theorem akc{C:Ce}(l:List cC)(v0 v1 v2 v3 v4 v5:Option Vl):aj (fFun jN (bCons (au 6) bNil)) [v0,v1,v2,v3,v4,v5,some (.ow (.list (l.map bD))),none,none] C=some (.int ((l.map bD).length:Int),[v0,v1,v2,v3,v4,v5,some (.ow (.list (l.map bD))),none,none],C):=rfl
theorem ahx{C:Ce}{zs:List Str}{ps:List (Str×Str)}(hN:Names zs)(hP:gh zs ps)(p8:ps.length≤8)(z a1 b1:Str)(n day:Int)(lv:List cC):kE .one Cv Cw [some (.im (.dict (aP (bz ps)))),some (.im (dN z a1 b1 n)),some (.im (.int day))] (lv.map bD) C=some ((lv.filter (iD (up ps z) 0 day a1 b1)).map bD,C):=by
 have ct:iW [cL z,.int n,.str a1,.str b1] (some 2) none=[.str a1,.str b1]:=rfl;have Ld:∀a b c d:ao,bO (.tuple [a,b]) (.tuple [c,d])=some (.im (.tuple [a,b,c,d])):=fun _ _ _ _=>Ey (zA rfl)
 refine uD (T:=.one) (ft:=Cv) (fe:=Cw) (fs:=[some (.im (.dict (aP (bz ps)))),some (.im (dN z a1 b1 n)),some (.im (.int day))]) (C:=C) bD (iD (up ps z) 0 day a1 b1) bD (l:=lv) fun r _=>⟨[bD r],rfl,?_,fun _=>⟨.im (bD r),_,rfl,rfl⟩⟩
 have q:=aj6 (C:=C) hN hP p8 z a1 b1 0 day r;simp_arith[eZ,jV,jC,dj,cN,fV,jz,ct,Ld,q]
theorem akd{C:Ce}{ps:List (Str×Str)}{z a1 b1 h:Str}{n day:Int}{lv l:List cC}(c:kE .one Cv Cw [some (.im (.dict (aP (bz ps)))),some (.im (dN z a1 b1 n)),some (.im (.int day))] (lv.map bD) C=some (l.map bD,C))(ll:l.length≤16)(v5:Option Vl):fSet 6 (fLC (iB (au 1)) .one Cv Cw [0,2,4]) [some (.im (.dict (aP (bz ps)))),some (.im (.list (lv.map bD))),some (.im (dN z a1 b1 n)),some (.im (.str h)),some (.im (.int day)),v5,none,none,none] C=some (.nx,[some (.im (.dict (aP (bz ps)))),some (.im (.list (lv.map bD))),some (.im (dN z a1 b1 n)),some (.im (.str h)),some (.im (.int day)),v5,some (.ow (.list (l.map bD))),none,none],C):=by
 have q:(l.length≤1000000)=True:=eq_true (by omega);have nl:=PX l;simp_arith[c,q,nl]
theorem oK{f g:FS}{env e1:En}{C C1:Ce}(h:f env C=some (.nx,e1,C1)):fSeq f g env C=g e1 C1:=by
 unfold fSeq;rw[h]
theorem Ep{fi:FI}{g:FG}{b:FS}{env e1:En}{C C1:Ce}{its:List ao}(h:fi env C=some (its,e1,C1)):fU fi g b env C=gO g b its e1 C1:=by
 unfold fU;rw[h]
theorem ahy{C:Ce}{zs:List Str}{ps ps':List (Str×Str)}{lv:List cC}(hN:Names zs)(hP:gh zs ps)(hG:kW zs ps ⟨ps',[],lv,[]⟩)(z a1 b1:Str)(n day:Int)(h:Str):
  ∃f:List (Str×Int),Ia [.im (.dict (aP (bz ps))),.im (.list (lv.map bD)),.im (dN z a1 b1 n),.im (.str h),.im (.int day)] C=some (.ow (.dict (aP (stL f))),C)∧∀s,tY (Rn ⟨ps',[],lv,[]⟩ (up ps z) day a1 b1 h s) (bT f s):=by
 refine hide fun GG gg=>?_
 have p8:=hG.p8;have m5:lv.length≤16:=hG.m5;have ct:iW [cL z,.int n,.str a1,.str b1] (some 2) none=[.str a1,.str b1]:=rfl;have ni:pD (.str h) (.tuple [.str a1,.str b1])=some (.im (.bool (!decide (h=a1∨h=b1)))):=by
  have:=Em h a1 b1;unfold jP at this;unfold pD;cases hh:inB (.str h) (.tuple [.str a1,.str b1]) with
  |none=>rw[hh] at this;cases this
  |some v=>rw[hh] at this;cases this;rfl
 have pw:oM (.int 10) (.int 9)=some (.im (.int 1000000000)):=rfl;have kd:di (.str h)=some (.inr h):=rfl;have Ld:bO (.tuple [.str z,.int 0]) (.tuple [.str a1,.str b1])=some (.im (dN z a1 b1 0)):=Ey (zA rfl)
 obtain⟨l,lE⟩:∃l,l=lv.filter (iD (up ps z) 0 day a1 b1):=⟨_,rfl⟩
 have ll:l.length≤16:=by rw[lE];exact jD (GQ _ _) m5
 have c:=ahx (C:=C) hN hP p8 z a1 b1 n day lv;rw[←lE] at c;have q:(l.length≤1000000)=True:=eq_true (by omega);have nl:=PX l;have fm:=fun s=>agz (C:=C) hG (up ps z) day a1 b1 h s
 rw[←lE] at fm;have rl:(gn 0 l.length).length=l.length:=by simp[gn]
 have s6:=akd (h:=h) c ll
 obtain⟨its,il,i7⟩:∃its:List ao,its.length=l.length∧∀v5:Option Vl,gY (aj (fFun jN (bCons (au 6) bNil))) [some (.im (.dict (aP (bz ps)))),some (.im (.list (lv.map bD))),some (.im (dN z a1 b1 n)),some (.im (.str h)),some (.im (.int day)),v5,some (.ow (.list (l.map bD))),none,none] C=some (its,[some (.im (.dict (aP (bz ps)))),some (.im (.list (lv.map bD))),some (.im (dN z a1 b1 n)),some (.im (.str h)),some (.im (.int day)),v5,some (.ow (.list (l.map bD))),none,none],C):=by
  refine⟨gn 0 (YS ((l.map bD).length:Int)),by rw[zG,aX];exact rl,fun v5=>?_⟩
  exact Sy (akc l _ _ _ _ _ v5) (by omega) (by rw[aX];omega)
 have go:∀f0:List (Str×Int),f0.length≤1→∃w6 w7 w8,_:=fun f0 hf=>Y5 (C:=C) (v0:=some (.im (.dict (aP (bz ps))))) (v1:=some (.im (.list (lv.map bD)))) (v2:=some (.im (dN z a1 b1 n))) (v3:=some (.im (.str h))) (v4:=some (.im (.int day))) ll its f0 (.ow (.list (l.map bD))) none none (.inl rfl) (by rw[il];omega)
 rw[il] at go;by_cases h1:h=a1∨h=b1
 ·simp only[if_pos h1] at fm;rw[decide_eq_true h1] at ni
  obtain⟨w6,w7,w8,e1⟩:=go [] (lD _)
  have k0:aP (stL [])=[]:=rfl;rw[k0] at e1;generalize pO l l.length []=f at fm e1;refine gg ⟨_,gk [some (.im (.dict (aP (bz ps)))),some (.im (.list (lv.map bD))),some (.im (dN z a1 b1 n)),some (.im (.str h)),some (.im (.int day)),none,none,none,none] rfl rfl ?_ rfl rfl,fm⟩;have s5:fSet 5 (rO (fTst (aD pD (au 3) (aj (dj (au 2) (cN (aj (fCst (.int 2)))) fV)))) (wR (au 3) (aD oM (aj (fCst (.int 10))) (aj (fCst (.int 9))))) yF) [some (.im (.dict (aP (bz ps)))),some (.im (.list (lv.map bD))),some (.im (dN z a1 b1 n)),some (.im (.str h)),some (.im (.int day)),none,none,none,none] C=some (.nx,[some (.im (.dict (aP (bz ps)))),some (.im (.list (lv.map bD))),some (.im (dN z a1 b1 n)),some (.im (.str h)),some (.im (.int day)),some (.ow (.dict [])),none,none,none],C):=by
   simp_arith[dj,cN,fV,jz,ct,ni,yF]
  have r:=(oK s5).trans ((oK (s6 _)).trans (oK (g:=fRetV 5) ((Ep (i7 _)).trans e1)));exact congrArg (Io fun p=>(p.1,p.2.2)) r
 ·simp only[if_neg h1] at fm;rw[decide_eq_false h1] at ni
  obtain⟨w6,w7,w8,e1⟩:=go [(h,1000000000)] (bN _)
  have k0:aP (stL [(h,1000000000)])=[(.str h,.int 1000000000)]:=rfl;rw[k0] at e1;generalize pO l l.length [(h,1000000000)]=f at fm e1;refine gg ⟨_,gk [some (.im (.dict (aP (bz ps)))),some (.im (.list (lv.map bD))),some (.im (dN z a1 b1 n)),some (.im (.str h)),some (.im (.int day)),none,none,none,none] rfl rfl ?_ rfl rfl,fm⟩;have s5:fSet 5 (rO (fTst (aD pD (au 3) (aj (dj (au 2) (cN (aj (fCst (.int 2)))) fV)))) (wR (au 3) (aD oM (aj (fCst (.int 10))) (aj (fCst (.int 9))))) yF) [some (.im (.dict (aP (bz ps)))),some (.im (.list (lv.map bD))),some (.im (dN z a1 b1 n)),some (.im (.str h)),some (.im (.int day)),none,none,none,none] C=some (.nx,[some (.im (.dict (aP (bz ps)))),some (.im (.list (lv.map bD))),some (.im (dN z a1 b1 n)),some (.im (.str h)),some (.im (.int day)),some (.ow (.dict [(.str h,.int 1000000000)])),none,none,none],C):=by
   simp_arith[dj,cN,fV,jz,ct,ni,wR,pw,kd]
  have r:=(oK s5).trans ((oK (s6 _)).trans (oK (g:=fRetV 5) ((Ep (i7 _)).trans e1)));exact congrArg (Io fun p=>(p.1,p.2.2)) r
abbrev oY(ns:List Int)(v1:Option Vl)(b:Nat)(ps:List (Str×Str))(v4:Option Vl)(lv:List cC)(z a1 b1:Str)(n day:Int)(ht:jc)(nv:Vl)(v10 v11 bJ cF:Option Vl):En:=
 [some (.sc ns),v1,some (.ce b),some (.im (.dict (aP (bz ps)))),v4,some (.im (.list (lv.map bD))),some (.im (dN z a1 b1 n)),some (.im (.int day)),some (.im (gM ht)),some nv,v10,v11,bJ,cF]
section
variable{C:Ce}{ns:List Int}{v1 v4 v10:Option Vl}{b:Nat}{zs:List Str}{ps ps':List (Str×Str)}{lv:List cC}(hN:Names zs)(hP:gh zs ps)(hG:kW zs ps ⟨ps',[],lv,[]⟩){z a1 b1:Str}{n day:Int}{nv:Vl}
include hN hP hG
theorem alC{f:List (Str×Int)}{h s:Str}(M:tY (Rn ⟨ps',[],lv,[]⟩ (up ps z) day a1 b1 h s) (bT f s)):QD (oY ns v1 b ps v4 lv z a1 b1 n day ⟨ps',[],lv,[]⟩ nv v10 (some (.im (.str h))) (some (.ow (.dict (aP (stL f))))) (some (.im (.str s)))) C=some (.nx,oY ns v1 b ps v4 lv z a1 b1 n day ⟨ps',[],lv,[]⟩ nv v10 (some (.im (.str h))) (some (.ow (.dict (aP (stL f))))) (some (.im (.str s))),C):=by
 obtain⟨o,e1,Mo⟩:=aa3 (C:=C) hN hP hG (z:=z) (a1:=a1) (b1:=b1) (h:=h) (s:=s) (day:=day)
 have ct:iW [cL z,.int n,.str a1,.str b1] (some 2) none=[.str a1,.str b1]:=rfl;have g1:=Sx (st:=f) (z:=s);have eo:=Mo.unique M;simp only[oY];cases hl:bT f s with
 |none=>
  rw[hl] at g1 eo;rw[eo] at e1;have sm:=same_none (C:=C) 2;simp only[xj] at e1;simp_arith[dj,cN,fV,jz,ct,e1,wZ,g1,aeV,sm]
 |some m=>
  rw[hl] at g1 eo;rw[eo] at e1;have sm:=same_int (C:=C) 2 m;simp only[xj] at e1;simp_arith[dj,cN,fV,jz,ct,e1,wZ,g1,mL,sm]
theorem ahz{f:List (Str×Int)}{h:Str}(M:∀s,tY (Rn ⟨ps',[],lv,[]⟩ (up ps z) day a1 b1 h s) (bT f s))(ss:List Str)(cF:Option Vl):∃w13,gO (gNm 13) QD (ss.map .str) (oY ns v1 b ps v4 lv z a1 b1 n day ⟨ps',[],lv,[]⟩ nv v10 (some (.im (.str h))) (some (.ow (.dict (aP (stL f))))) cF) C=some (.nx,oY ns v1 b ps v4 lv z a1 b1 n day ⟨ps',[],lv,[]⟩ nv v10 (some (.im (.str h))) (some (.ow (.dict (aP (stL f))))) w13,C):=by
 induction ss generalizing cF with
 |nil=>exact⟨cF,rfl⟩
 |cons s ss ih=>
  have e:=alC (C:=C) (ns:=ns) (v1:=v1) (b:=b) (v4:=v4) (nv:=nv) (v10:=v10) hN hP hG (n:=n) (M s)
  obtain⟨w13,e2⟩:=ih (some (.im (.str s)))
  refine⟨w13,?_⟩
  rw[cJ,gO];simp only[oY,gNm,Ly,Lz] at e e2⊢;simp only[e,e2]
theorem ake{so:List Str}(sl:so.length≤5)(hv:nv=.ow (.list (so.map .str))∨nv=.im (.list (so.map .str)))(h:Str)(bJ cF:Option Vl):∃w12 w13,QF (oY ns v1 b ps v4 lv z a1 b1 n day ⟨ps',[],lv,[]⟩ nv v10 (some (.im (.str h))) bJ cF) C=some (.nx,oY ns v1 b ps v4 lv z a1 b1 n day ⟨ps',[],lv,[]⟩ nv v10 (some (.im (.str h))) w12 w13,C):=by
 obtain⟨f,e1,M⟩:=ahy (C:=C) hN hP hG z a1 b1 n day h
 have c1:iW (so.map cL) none (some 2)=(iW so none (some 2)).map .str:=by
  unfold iW;rw[aX,Nv,W6]
 have l1:(iW so none (some 2)).length≤so.length:=by
  unfold iW;rw[jU,zK];omega
 generalize iW so none (some 2)=h1 at c1 l1;have ad:bO (.list (so.map .str)) (.list (h1.map .str))=some (.ow (.list ((so++h1).map .str))):=by
  rw[gC];exact add_l (by rw[aX,aX];omega)
 obtain⟨w13,e2⟩:=ahz (C:=C) (ns:=ns) (v1:=v1) (b:=b) (v4:=v4) (nv:=nv) (v10:=v10) hN hP hG (n:=n) M (so++h1) cF
 refine⟨some (.ow (.dict (aP (stL f)))),w13,?_⟩
 generalize so++h1=ss at ad e2;simp only[oY] at e2⊢;rcases hv with rfl|rfl
 ·simp_arith[e1,dj,cN,fV,jz,c1,ad,fU,e2]
 ·simp_arith[e1,dj,cN,fV,jz,c1,ad,fU,e2]
theorem agA{so:List Str}(sl:so.length≤5)(hv:nv=.ow (.list (so.map .str))∨nv=.im (.list (so.map .str)))(hs:List Str)(v11 bJ cF:Option Vl):∃w11 w12 w13,gO (gNm 11) QF (hs.map .str) (oY ns v1 b ps v4 lv z a1 b1 n day ⟨ps',[],lv,[]⟩ nv v10 v11 bJ cF) C=some (.nx,oY ns v1 b ps v4 lv z a1 b1 n day ⟨ps',[],lv,[]⟩ nv v10 w11 w12 w13,C):=by
 induction hs generalizing v11 bJ cF with
 |nil=>exact⟨v11,bJ,cF,rfl⟩
 |cons h hs ih=>
  obtain⟨x12,x13,e⟩:=ake (C:=C) (ns:=ns) (v1:=v1) (b:=b) (v4:=v4) (v10:=v10) hN hP hG (z:=z) (a1:=a1) (b1:=b1) (n:=n) (day:=day) sl hv h bJ cF
  obtain⟨w11,w12,w13,e2⟩:=ih (some (.im (.str h))) x12 x13
  refine⟨w11,w12,w13,?_⟩
  rw[cJ,gO];simp only[oY,gNm,Ly,Lz] at e e2⊢;simp only[e,e2]
end
section
variable{ws:List (Int×Str×Str)}{pe:List Str}{G:Nat→Prop}
theorem aiP(H:∀w∈ws,∃i,pe[i]?=some w.2.1∧pe[i+1]?=some w.2.2∧G i)(nd:pe.Nodup){p q:Str}{r:List Int}(h:jf ws p r q):∀{i j:Nat},pe[i]?=some p→pe[j]?=some q→i≤j∧∀k,i≤k→k<j→G k:=by
 induction h with
 |nil p=>
  intro i j hi hj;have:i=j:=Eo nd hi hj;subst this
  exact⟨bN _,fun k h1 h2=>absurd h2 (Il.mpr h1)⟩
 |cons hw _ ih=>
  intro i j hi hj
  obtain⟨i',h1,h2,h3⟩:=H _ hw
  have:i=i':=Eo nd hi h1;subst this
  obtain⟨l,g⟩:=ih h2 hj
  refine⟨by omega,fun k k1 k2=>?_⟩
  rcases VM k1 with k1|rfl
  ·exact g k k1 k2
  ·exact h3
theorem Yi(H:∀i p q,pe[i]?=some p→pe[i+1]?=some q→G i→∃m,(m,p,q)∈ws):∀(d i:Nat){p q:Str},pe[i]?=some p→pe[i+d]?=some q→(∀k,i≤k→k<i+d→G k)→xO ws p q
 |0,i,p,q,hi,hj,_=>by
  rw[Nx,hi] at hj;cases hj
  exact⟨[],.nil _⟩
 |d+1,i,p,q,hi,hj,g=>by
  have l:i+1<pe.length:=by
   have:=(gZ.mp hj).1;omega
  obtain⟨m,hm⟩:=H i p pe[i+1] hi (gQ l) (g i (bN _) (by omega))
  obtain⟨r,hr⟩:=Yi H d (i+1) (p:=pe[i+1]) (q:=q) (gQ l) (by rw[←hj];congr 1;omega) fun k k1 k2=>g k (by omega) (by omega)
  exact⟨m::r,.cons hm hr⟩
theorem ahA(H1:∀i p q,pe[i]?=some p→pe[i+1]?=some q→G i→∃m,(m,p,q)∈ws)(H2:∀w∈ws,∃i,pe[i]?=some w.2.1∧pe[i+1]?=some w.2.2∧G i)(nd:pe.Nodup){i j:Nat}{p q:Str}(hi:pe[i]?=some p)(hj:pe[j]?=some q):xO ws p q↔i≤j∧∀k,i≤k→k<j→G k:=
 ⟨fun⟨_,h⟩=>aiP H2 nd h hi hj,fun⟨l,g⟩=>Yi H1 (j-i) i hi (by rw[←hj];congr 1;omega) fun k k1 k2=>g k k1 (by omega)⟩
structure uw(pe:List Str)(part:Str)(wide:List Int)(lv:List cC):Prop where
 has:∀i p q w,pe[i]?=some p→pe[i+1]?=some q→wide[i]?=some w→∃m,(m,p,q,part,7,7,w)∈lv
 all:∀r∈lv,∃i w,pe[i]?=some r.2.1∧pe[i+1]?=some r.2.2.1∧wide[i]?=some w∧r.2.2.2.2.2.2≤w∧r.2.2.2.1=part∧r.2.2.2.2.1=7∧r.2.2.2.2.2.1=7
 vd:∀w∈wide,0≤w∧w≤1000000000
theorem uw.rn{pe os:List Str}{part a1 b1:Str}{wide:List Int}{ps':List (Str×Str)}{lv:List cC}(K:uw pe part wide lv)(nd:pe.Nodup)(wl:wide.length+1=pe.length)(ho:part∈os)(ha:a1∉pe)(hb:b1∉pe){i j:Nat}{p q:Str}(hi:pe[i]?=some p)(hj:pe[j]?=some q)(n:Int):
  Rn ⟨ps',[],lv,[]⟩ os 7 a1 b1 p q n↔i≤j∧∀k w,i≤k→k<j→wide[k]?=some w→n≤w:=by
 have ns:∀x∈pe,¬(x=a1∨x=b1):=fun x hx e=>e.elim (fun e=>ha (e▸hx)) fun e=>hb (e▸hx)
 have c:=ahA (ws:=lW ⟨ps',[],lv,[]⟩ os n 7 a1 b1) (pe:=pe) (G:=fun k=>∀w,wide[k]?=some w→n≤w) (fun i p q h1 h2 g=>by
   have l:i<wide.length:=by
    have:=(gZ.mp h2).1;omega
   have e:=gQ l
   obtain⟨m,hm⟩:=K.has i p q _ h1 h2 e
   refine⟨m,cY.mpr ⟨_,j7.mpr ⟨hm,?_⟩,rfl⟩⟩
   unfold iD;have s1:=ns p (jB h1);have s2:=ns q (jB h2);have s3:=g _ e;simp only[decide_eq_true ho,decide_eq_true s3,decide_eq_false s1,decide_eq_false s2];rfl) (fun w hw=>by
   obtain⟨r,hr,rfl⟩:=cY.mp hw
   obtain⟨m1,m2⟩:=j7.mp hr
   obtain⟨i,w,h1,h2,h3,h4,_⟩:=K.all r m1
   refine⟨i,h1,h2,fun w' e=>?_⟩
   rw[h3] at e;cases e;exact sY (Bg m2) h4) nd hi hj
 refine⟨fun R=>?_,fun⟨l,g⟩=>⟨fun e=>e.elim (ns p (jB hi)) (ns q (jB hj)),c.mpr ⟨l,fun k k1 k2 w e=>g k w k1 k2 e⟩⟩⟩
 obtain⟨l,g⟩:=c.mp R.2
 exact⟨l,fun k w k1 k2 e=>g k k1 k2 w e⟩
end
theorem fold_min:∀(ns:List Int)(n:Int),ns.foldl min n∈n::ns∧∀x∈n::ns,ns.foldl min n≤x
 |[],n=>⟨dm,fun x hx=>by rw[gB.mp hx];exact o9 _⟩
 |a::ns,n=>by
  obtain⟨h1,h2⟩:=fold_min ns (min n a)
  rw[xV];have l:=h2 _ dm
  refine⟨?_,fun x hx=>?_⟩
  ·rcases bI.mp h1 with h1|h1
   ·rw[h1];by_cases c:n≤a
    ·rw[Int.min_eq_left c];exact dm
    ·rw[Int.min_eq_right (by omega)];exact dM _ dm
   ·exact dM _ (dM _ h1)
  ·rcases bI.mp hx with rfl|hx
   ·exact sY l (Int.min_le_left _ _)
   ·rcases bI.mp hx with rfl|hx
    ·exact sY l (Int.min_le_right _ _)
    ·exact h2 x (dM _ hx)
theorem min_list(n:Int)(ns:List Int):∃m,Ej [.list (.int n::ns.map .int)]=some (.im (.int m))∧m∈n::ns∧∀x∈n::ns,m≤x:=by
 refine⟨ns.foldl min n,?_,fold_min ns n⟩
 have:=OD (n::ns);rw[cJ] at this;unfold Ej;simp only[this];rfl
theorem Rz{wide:List Int}{i j:Nat}{x:Int}:x∈(wide.drop i).take (j-i)↔∃k,i≤k∧k<j∧wide[k]?=some x:=by
 rw[List.mem_iff_getElem?];constructor
 ·rintro⟨k,h⟩
  rw[Cj] at h;split at h
  ·rw[Lx] at h
   exact⟨i+k,by omega,by omega,h⟩
  ·cases h
 ·rintro⟨k,k1,k2,h⟩
  refine⟨k-i,?_⟩
  rw[Cj,if_pos (by omega),Lx,←h];congr 1;omega
theorem uw.most{pe os:List Str}{part a1 b1:Str}{wide:List Int}{ps':List (Str×Str)}{lv:List cC}(K:uw pe part wide lv)(nd:pe.Nodup)(wl:wide.length+1=pe.length)(ho:part∈os)(ha:a1∉pe)(hb:b1∉pe){i j:Nat}{p q:Str}(hi:pe[i]?=some p)(hj:pe[j]?=some q){m:Int}(hm:m∈1000000000::(wide.drop i).take (j-i))(hl:∀x∈1000000000::(wide.drop i).take (j-i),m≤x):
  tY (Rn ⟨ps',[],lv,[]⟩ os 7 a1 b1 p q) (if i≤j then some m else none):=by
 have R:=K.rn (ps':=ps') nd wl ho ha hb hi hj;by_cases c:i≤j
 ·rw[if_pos c]
  refine⟨?_,(R m).mpr ⟨c,fun k w k1 k2 e=>hl w (dM _ (Rz.mpr ⟨k,k1,k2,e⟩))⟩,fun n l n1 r=>?_⟩
  ·rcases bI.mp hm with rfl|hm
   ·exact⟨by decide,o9 _⟩
   ·obtain⟨k,_,_,e⟩:=Rz.mp hm
    exact K.vd m (jB e)
  ·rcases bI.mp hm with rfl|hm
   ·omega
   ·obtain⟨k,k1,k2,e⟩:=Rz.mp hm
    have:=((R n).mp r).2 k m k1 k2 e;omega
 ·rw[if_neg c];exact fun n _ _ r=>c ((R n).mp r).1
abbrev sE(b:Nat)(nv:Vl)(m:Int)(v3:Option Vl)(pe:List Str)(part:Str)(wide:List Int)(v8 v9 v10 v11 bJ cF:Option Vl)(ht:jc)(dJ dR dU dW:Option Vl):En:=
 [some (.ce b),some nv,some (.im (.int m)),v3,some (.ow (.list (pe.map .str))),some (.im (.str part)),some (.im (.int 7)),some (.ow (.list (wide.map .int))),v8,v9,v10,v11,bJ,cF,some (.im (gM ht)),dJ,dR,dU,dW]
theorem aiQ{C:Ce}(o:Option Int):qj 3 [.im (xj o),.im (xj o)] C=some (.im (.bool true),C):=by
 cases o with
 |none=>exact same_none 2
 |some m=>exact same_int 2 m
theorem akf{C:Ce}{b L j:Nat}{zs pe:List Str}{ps ps':List (Str×Str)}{part a1 b1:Str}{wide:List Int}{lv:List cC}{m:Int}{v3 v8 v9 v10 v11 bJ cF dJ dR dU dW:Option Vl}(hB:Bl L C b (j+2))(hN:Names zs)(hP:gh zs ps)(hG:kW zs ps ⟨ps',[],lv,[]⟩)(K:uw pe part wide lv)(nd:pe.Nodup)(wl:wide.length+1=pe.length)(pm:(pe.length:Int)=m)(m8:m≤100)(ho:part∈up ps part)(ha:a1∉pe)(hb:b1∉pe)(x24:cX (zs.map cL) 24=some (.str a1))(x25:cX (zs.map cL) 25=some (.str b1)):
  ∃C' w16 w17 w18,G8 (sE b (.ow (.list (zs.map .str))) m v3 pe part wide v8 v9 v10 v11 bJ cF ⟨ps',[],lv,[]⟩ dJ dR dU dW) C=some (.nx,sE b (.ow (.list (zs.map .str))) m v3 pe part wide v8 v9 v10 v11 bJ cF ⟨ps',[],lv,[]⟩ dJ w16 w17 w18,C')∧Bl L C' b j:=by
 refine hide fun GG gg=>?_
 obtain⟨t,C1,e1,t0,t1,gA⟩:=dg (m:=m) (k:=j+1) hB (by omega) (by omega)
 obtain⟨u,C2,e2,u0,u1,hB2⟩:=dg (m:=m) (k:=j) gA (by omega) (by omega)
 obtain⟨p,mp,ip,xp⟩:=mR (zs:=pe) t0 (by omega)
 obtain⟨q,mq,iq,xq⟩:=mR (zs:=pe) u0 (by omega)
 obtain⟨o,e3,M⟩:=aa3 (C:=C2) hN hP hG (z:=part) (a1:=a1) (b1:=b1) (h:=p) (s:=q) (day:=7)
 obtain⟨w,ew,wm,wle⟩:=min_list 1000000000 ((wide.drop t.toNat).take (u.toNat-t.toNat))
 have eo:=M.unique (K.most nd wl ho ha hb ip iq wm wle);have sm:=aiQ (C:=C2) o;have pw:oM (.int 10) (.int 9)=some (.im (.int 1000000000)):=rfl;refine gg ⟨C2,some (.im (.int t)),some (.im (.int u)),some (.im (xj o)),?_,hB2⟩;by_cases c:t≤u
 ·have c':t.toNat≤u.toNat:=by omega
  rw[if_pos c'] at eo;have cu:=DK lH (xs:=wide) c' (by omega);rw[VD t0,VD u0] at cu;have ad:bO (.list [.int 1000000000]) (.list (((wide.drop t.toNat).take (u.toNat-t.toNat)).map .int))=some (.ow (.list (.int 1000000000::((wide.drop t.toNat).take (u.toNat-t.toNat)).map .int))):=add_l (xs:=[.int 1000000000]) (by rw[aX,jU];show 1+_≤_;omega);have d:decide (t≤u)=true:=decide_eq_true c
  generalize((wide.drop t.toNat).take (u.toNat-t.toNat)).map lH=sg at cu ad ew
  rw[eo] at e3 sm⊢;simp only[xj] at e3 sm⊢;simp only[sE];simp_arith[e1,e2,d,dj,cN,jz,cu,pw,ad,ew,x24,x25,xp,xq,e3,sm]
 ·have c':¬t.toNat≤u.toNat:=by omega
  rw[if_neg c'] at eo;have d:decide (t≤u)=false:=decide_eq_false c;rw[eo] at e3 sm⊢;simp only[xj] at e3 sm⊢;simp only[sE];simp_arith[e1,e2,d,x24,x25,xp,xq,e3,sm]
theorem uw.snoc{pe:List Str}{part p q:Str}{wide:List Int}{lv:List cC}{k:Nat}{n1 n2 m1 m2:Int}(K:uw pe part wide lv)(wl:wide.length=k)(hp:pe[k]?=some p)(hq:pe[k+1]?=some q)(h1:0≤m1∧m1≤1000000000)(h2:0≤m2∧m2≤1000000000):uw pe part (wide++[mG m2 m1]) (lv++[(n1,p,q,part,7,7,m1),(n2,p,q,part,7,7,m2)]) where
 has i p' q' w e1 e2 e3:=by
  rcases afz i wide.length with l|l
  ·rw[m7 l] at e3
   obtain⟨m,hm⟩:=K.has i p' q' w e1 e2 e3
   exact⟨m,gJ _ hm⟩
  ·rw[lA l] at e3;have:i=k:=by
    have:=(gZ.mp e3).1;rw[adQ] at this;omega
   subst this;rw[hp] at e1;rw[hq] at e2;rw[wl,Aa] at e3;cases e1;cases e2;have e3:mG m2 m1=w:=fX e3
   rcases(yH m2 m1).2.2 with h|h
   ·exact⟨n2,dX _ (dM _ (by rw[←e3,h];exact dm))⟩
   ·exact⟨n1,dX _ (by rw[←e3,h];exact dm)⟩
 all r hr:=by
  have kw:(wide++[mG m2 m1])[k]?=some (mG m2 m1):=by
   rw[lA (by omega),wl,Aa];rfl
  obtain⟨l1,l2,_⟩:=yH m2 m1
  rcases cQ.mp hr with hr|hr
  ·obtain⟨i,w,a1,a2,a3,a4⟩:=K.all r hr
   exact⟨i,w,a1,a2,by rw[m7 (gZ.mp a3).1];exact a3,a4⟩
  ·rcases bI.mp hr with rfl|hr
   ·exact⟨k,_,hp,hq,kw,l2,rfl,rfl,rfl⟩
   ·rw[gB.mp hr]
    exact⟨k,_,hp,hq,kw,l1,rfl,rfl,rfl⟩
 vd w hw:=by
  rcases cQ.mp hw with hw|hw
  ·exact K.vd w hw
  ·rw[gB.mp hw]
   rcases(yH m2 m1).2.2 with h|h
   ·rw[h];exact h2
   ·rw[h];exact h1
abbrev jA(b:Nat)(v1 v2 v3:Option Vl)(pe:List Str)(part:Str)(wide:List Int)(lv:List cC)(v9 v10 v11 bJ cF gb dJ dR dU dW:Option Vl):En:=
 [some (.ce b),v1,v2,v3,some (.ow (.list (pe.map .str))),some (.im (.str part)),some (.im (.int 7)),some (.ow (.list (wide.map .int))),some (.ow (.list (lv.map bD))),v9,v10,v11,bJ,cF,gb,dJ,dR,dU,dW]
theorem abM{C:Ce}{b:Nat}{v1 v2 v3 cF gb dJ dR dU dW:Option Vl}{pe:List Str}{part p q:Str}{wide:List Int}{lv:List cC}{k way base num:Int}(w0:0≤way)(w1:way<3)(ll:lv.length≤100)(xp:cX (pe.map cL) k=some (.str p))(xq:cX (pe.map cL) (k+1)=some (.str q)):
  ∃m,(base≤m∧m≤base+3)∧Mg (jA b v1 v2 v3 pe part wide lv (some (.im (.int k))) (some (.im (.int way))) (some (.im (.int base))) (some (.im (.int num))) cF gb dJ dR dU dW) C=some (.nx,jA b v1 v2 v3 pe part wide (lv++[(num,p,q,part,7,7,m)]) (some (.im (.int k))) (some (.im (.int way))) (some (.im (.int base))) (some (.im (.int num))) (some (.im (.int m))) gb dJ dR dU dW,C):=by
 have g:(lv.length<1000000)=True:=eq_true (by omega);have md:∃e:Int,jw (.int num) (.int 2)=some (.im (.int e))∧0≤e∧e≤1:=⟨_,rfl,by omega,by omega⟩
 obtain⟨e,me,e0,e1⟩:=md
 have f1:fQ (.int 3) (.int e)=some (.im (.int (3*e))):=rfl;have f2:bO (.int base) (.int (3*e))=some (.im (.int (base+3*e))):=rfl;have f3:bO (.int base) (.int 3)=some (.im (.int (base+3))):=rfl;have f4:nJ (.int (base+3)) (.int (3*e))=some (.im (.int (base+3-3*e))):=rfl;have f5:bO (.int k) (.int 1)=some (.im (.int (k+1))):=rfl;have cs:way=0∨way=1∨way=2:=by omega
 simp only[jA];rcases cs with rfl|rfl|rfl
 ·refine⟨base,⟨by omega,by omega⟩,?_⟩
  simp_arith[↓me,f1,f2,f3,f4,f5,xp,xq,jy,lQ,g,bD,gC,cJ,jo]
 ·refine⟨base+3*e,⟨by omega,by omega⟩,?_⟩
  simp_arith[↓me,f1,f2,f3,f4,f5,xp,xq,jy,lQ,g,bD,gC,cJ,jo]
 ·refine⟨base+3-3*e,⟨by omega,by omega⟩,?_⟩
  simp_arith[↓me,f1,f2,f3,f4,f5,xp,xq,jy,lQ,g,bD,gC,cJ,jo]
theorem akg{C:Ce}{b L j:Nat}{v1 v2 v3 v10 v11 bJ cF gb dJ dR dU dW:Option Vl}{pe:List Str}{part:Str}{wide:List Int}{lv:List cC}{k:Int}(hB:Bl L C b (j+3))(k0:0≤k)(k1:k≤50):
  ∃way base C',((0≤way∧way<3)∧0≤base∧base≤1000)∧fPar [10,11] (oCons (fCal bQ (aCons (fVar 0) (aCons (fCst (.int 3)) aNil))) (oCons (aD bf (aj (fLst (aCons (aD fQ (aj (fCst (.int 10))) (au 9)) (aCons (aD nJ (aj (fCst (.int 1000))) (aj (aD fQ (aj (fCst (.int 10))) (au 9)))) (aCons (fCal bQ (aCons (fVar 0) (aCons (fCst (.int 90)) aNil))) aNil))))) (aj (fCal bQ (aCons (fVar 0) (aCons (fCst (.int 3)) aNil))))) aNil)) (jA b v1 v2 v3 pe part wide lv (some (.im (.int k))) v10 v11 bJ cF gb dJ dR dU dW) C=some (.nx,jA b v1 v2 v3 pe part wide lv (some (.im (.int k))) (some (.im (.int way))) (some (.im (.int base))) bJ cF gb dJ dR dU dW,C')∧Bl L C' b j:=by
 refine hide fun GG gg=>?_
 obtain⟨way,C1,e1,a1,b1,gA⟩:=dg (m:=3) (k:=j+2) hB (by decide) (by decide)
 obtain⟨x,C2,e2,a2,b2,hB2⟩:=dg (m:=90) (k:=j+1) gA (by decide) (by decide)
 obtain⟨y,C3,e3,a3,b3,hB3⟩:=dg (m:=3) (k:=j) hB2 (by decide) (by decide)
 have f1:fQ (.int 10) (.int k)=some (.im (.int (10*k))):=rfl;have f2:nJ (.int 1000) (.int (10*k))=some (.im (.int (1000-10*k))):=rfl;have cs:y=0∨y=1∨y=2:=by omega
 simp only[jA] at gg;rcases cs with rfl|rfl|rfl
 ·refine gg ⟨way,10*k,C3,⟨⟨a1,b1⟩,by omega,by omega⟩,?_,hB3⟩;simp_arith[e1,f1,f2,e2,e3]
 ·refine gg ⟨way,1000-10*k,C3,⟨⟨a1,b1⟩,by omega,by omega⟩,?_,hB3⟩;simp_arith[e1,f1,f2,e2,e3]
 ·refine gg ⟨way,x,C3,⟨⟨a1,b1⟩,by omega,by omega⟩,?_,hB3⟩;simp_arith[e1,f1,f2,e2,e3]
theorem akh(xs:List ao)(a c:ao):cX (xs++[a,c]) (-1)=some c∧cX (xs++[a,c]) (-2)=some a:=by
 have l:(xs++[a,c]).length=xs.length+2:=by rw[gf];rfl
 constructor
 ·unfold cX mD;rw[l,if_neg (by decide),if_pos (by omega),iZ,show((-1:Int)+((xs.length+2:Nat):Int)).toNat=xs.length+1 by omega,lA (by omega),Nat.add_sub_cancel_left];rfl
 ·unfold cX mD;rw[l,if_neg (by decide),if_pos (by omega),iZ,show((-2:Int)+((xs.length+2:Nat):Int)).toNat=xs.length by omega,lA (bN _),Aa];rfl
theorem aki{C:Ce}{b L j:Nat}{v1 v2 v3 v10 v11 bJ cF gb dJ dR dU dW:Option Vl}{pe:List Str}{part p q:Str}{wide:List Int}{lv:List cC}{k:Int}(hB:Bl L C b (j+3))(k0:0≤k)(k1:k≤50)(ll:lv.length≤90)(wl:wide.length≤90)(xp:cX (pe.map cL) k=some (.str p))(xq:cX (pe.map cL) (k+1)=some (.str q)):
  ∃m1 m2 C' w10 w11 w12 w13,((0≤m1∧m1≤1003)∧0≤m2∧m2≤1003)∧G9 (jA b v1 v2 v3 pe part wide lv (some (.im (.int k))) v10 v11 bJ cF gb dJ dR dU dW) C=some (.nx,jA b v1 v2 v3 pe part (wide++[mG m2 m1]) (lv++[(2*k,p,q,part,7,7,m1),(2*k+1,p,q,part,7,7,m2)]) (some (.im (.int k))) w10 w11 w12 w13 gb dJ dR dU dW,C')∧Bl L C' b j:=by
 refine hide fun GG gg=>?_
 obtain⟨way,base,C1,⟨⟨y1,y2⟩,y3,y4⟩,s1,gA⟩:=akg (v1:=v1) (v2:=v2) (v3:=v3) (v10:=v10) (v11:=v11) (bJ:=bJ) (cF:=cF) (gb:=gb) (dJ:=dJ) (dR:=dR) (dU:=dU) (dW:=dW) (pe:=pe) (part:=part) (wide:=wide) (lv:=lv) hB k0 k1
 obtain⟨m1,⟨c1,c2⟩,n1⟩:=abM (C:=C1) (b:=b) (v1:=v1) (v2:=v2) (v3:=v3) (cF:=cF) (gb:=gb) (dJ:=dJ) (dR:=dR) (dU:=dU) (dW:=dW) (part:=part) (wide:=wide) (lv:=lv) (base:=base) (num:=2*k) y1 y2 (by omega) xp xq
 obtain⟨m2,⟨c3,c4⟩,n2⟩:=abM (C:=C1) (b:=b) (v1:=v1) (v2:=v2) (v3:=v3) (cF:=some (.im (.int m1))) (gb:=gb) (dJ:=dJ) (dR:=dR) (dU:=dU) (dW:=dW) (part:=part) (wide:=wide) (lv:=lv++[(2*k,p,q,part,7,7,m1)]) (base:=base) (num:=2*k+1) y1 y2 (by rw[gf];show _+1≤_;omega) xp xq
 rw[lB] at n2;have it:iV (fTup (aCons (aD fQ (aj (fCst (.int 2))) (au 9)) (aCons (aD bO (aj (aD fQ (aj (fCst (.int 2))) (au 9))) (aj (fCst (.int 1)))) aNil))) (jA b v1 v2 v3 pe part wide lv (some (.im (.int k))) (some (.im (.int way))) (some (.im (.int base))) bJ cF gb dJ dR dU dW) C1=some ([.int (2*k),.int (2*k+1)],jA b v1 v2 v3 pe part wide lv (some (.im (.int k))) (some (.im (.int way))) (some (.im (.int base))) bJ cF gb dJ dR dU dW,C1):=by
  have f1:fQ (.int 2) (.int k)=some (.im (.int (2*k))):=rfl;have f2:bO (.int (2*k)) (.int 1)=some (.im (.int (2*k+1))):=rfl;simp_arith[f1,f2]
 have s2:gO (gNm 12) Mg [.int (2*k),.int (2*k+1)] (jA b v1 v2 v3 pe part wide lv (some (.im (.int k))) (some (.im (.int way))) (some (.im (.int base))) bJ cF gb dJ dR dU dW) C1=some (.nx,jA b v1 v2 v3 pe part wide (lv++[(2*k,p,q,part,7,7,m1),(2*k+1,p,q,part,7,7,m2)]) (some (.im (.int k))) (some (.im (.int way))) (some (.im (.int base))) (some (.im (.int (2*k+1)))) (some (.im (.int m2))) gb dJ dR dU dW,C1):=by
  simp only[jA,jV,jC] at n1 n2⊢;simp only[gO,gNm,Ly,Lz,n1,n2]
 obtain⟨z1,z2⟩:=akh (lv.map bD) (bD (2*k,p,q,part,7,7,m1)) (bD (2*k+1,p,q,part,7,7,m2))
 have s3:jy 7 (fFun tX (bCons (aj (aD bf (aj (aD bf (au 8) (aj (fNeg (aj (fCst (.int 1))))))) (aj (fCst (.int 6))))) (bCons (aj (aD bf (aj (aD bf (au 8) (aj (fNeg (aj (fCst (.int 2))))))) (aj (fCst (.int 6))))) bNil))) (jA b v1 v2 v3 pe part wide (lv++[(2*k,p,q,part,7,7,m1),(2*k+1,p,q,part,7,7,m2)]) (some (.im (.int k))) (some (.im (.int way))) (some (.im (.int base))) (some (.im (.int (2*k+1)))) (some (.im (.int m2))) gb dJ dR dU dW) C1=some (.nx,jA b v1 v2 v3 pe part (wide++[mG m2 m1]) (lv++[(2*k,p,q,part,7,7,m1),(2*k+1,p,q,part,7,7,m2)]) (some (.im (.int k))) (some (.im (.int way))) (some (.im (.int base))) (some (.im (.int (2*k+1)))) (some (.im (.int m2))) gb dJ dR dU dW,C1):=by
  have g:(wide.length<1000000)=True:=eq_true (by omega);simp only[jA,gC,cJ,jo];simp only[bD] at z1 z2;simp_arith[z1,z2,bD,Vg,jy,lQ,g]
 exact gg ⟨m1,m2,C1,_,_,_,_,⟨⟨by omega,by omega⟩,by omega,by omega⟩,(oK s1).trans ((oK ((Ep it).trans s2)).trans s3),gA⟩
structure GF(zs own pe:List Str)(part:Str)(wide:List Int)(lv:List cC)(k:Nat):Prop where
 chn:uw pe part wide lv
 ll:lv.length=2*k
 wl:wide.length=k
 num:∀r∈lv,r.1<2*(k:Int)
 nd:(lv.map (·.1)).Nodup
 ok:∀r∈lv,wu zs own r
theorem GF.snoc{zs own pe:List Str}{part p q:Str}{wide:List Int}{lv:List cC}{k:Nat}{m1 m2:Int}(B:GF zs own pe part wide lv k)(hk:k≤500)(hp:pe[k]?=some p)(hq:pe[k+1]?=some q)(pn:pe.Nodup)(sub:∀x∈pe,x∈zs)(po:part∈own)(h1:0≤m1∧m1≤1003)(h2:0≤m2∧m2≤1003):
  GF zs own pe part (wide++[mG m2 m1]) (lv++[(2*(k:Int),p,q,part,7,7,m1),(2*(k:Int)+1,p,q,part,7,7,m2)]) (k+1):=by
 have ne:p≠q:=fun e=>by
  subst e;have:=Eo pn hp hq;omega
 have lo:∀(n m:Int),0≤n→n≤2000→0≤m→m≤1003→wu zs own (n,p,q,part,7,7,m):=fun n m n0 n1 m0 m3=>⟨⟨n0,n1⟩,sub p (jB hp),sub q (jB hq),ne,po,⟨by show(0:Int)≤7;decide,by show(7:Int)≤7;decide,by show(7:Int)≤99999;decide⟩,⟨m0,by show m≤1000000000;omega⟩⟩
 refine⟨B.chn.snoc B.wl hp hq ⟨h1.1,by omega⟩ ⟨h2.1,by omega⟩,?_,?_,fun r hr=>?_,?_,fun r hr=>?_⟩
 ·rw[gf,B.ll];show 2*k+2=_;omega
 ·rw[gf,B.wl];rfl
 ·rcases cQ.mp hr with hr|hr
  ·have:=B.num r hr;omega
  ·rcases bI.mp hr with rfl|hr
   ·show 2*(k:Int)<_;omega
   ·rw[gB.mp hr];show 2*(k:Int)+1<_;omega
 ·rw[gC];refine j6.mpr ⟨B.nd,?_,fun a ha c hc=>?_⟩
  ·show[2*(k:Int),2*(k:Int)+1].Nodup
   refine jH.mpr ⟨fun h=>?_,jH.mpr ⟨jg,oA⟩⟩;have:=gB.mp h;omega
  ·obtain⟨r,hr,rfl⟩:=cY.mp ha
   have:=B.num r hr;have hc:c∈[2*(k:Int),2*(k:Int)+1]:=hc;rcases bI.mp hc with rfl|hc
   ·omega
   ·have:=gB.mp hc;omega
 ·rcases cQ.mp hr with hr|hr
  ·exact B.ok r hr
  ·rcases bI.mp hr with rfl|hr
   ·exact lo _ _ (by omega) (by omega) h1.1 h1.2
   ·rw[gB.mp hr];exact lo _ _ (by omega) (by omega) h2.1 h2.2
theorem aiR{C:Ce}{b L j N:Nat}{v1 v2 v3 v9 v10 v11 bJ cF gb dJ dR dU dW:Option Vl}{zs own pe:List Str}{part:Str}(hB:Bl L C b (j+3*N))(hN:N+1=pe.length)(n8:N≤20)(pn:pe.Nodup)(sub:∀x∈pe,x∈zs)(po:part∈own):
  ∃C' wide lv w9 w10 w11 w12 w13,gO (gNm 9) G9 (gn 0 N) (jA b v1 v2 v3 pe part [] [] v9 v10 v11 bJ cF gb dJ dR dU dW) C=some (.nx,jA b v1 v2 v3 pe part wide lv w9 w10 w11 w12 w13 gb dJ dR dU dW,C')∧GF zs own pe part wide lv N∧Bl L C' b j:=by
 obtain⟨env',C',e,wide,lv,w9,w10,w11,w12,w13,he,hb,hB'⟩:=vP (g:=gNm 9) (body:=G9) (its:=gn 0 N) (env:=jA b v1 v2 v3 pe part [] [] v9 v10 v11 bJ cF gb dJ dR dU dW) (C:=C)
  (fun t env C1=>∃wide lv w9 w10 w11 w12 w13,env=jA b v1 v2 v3 pe part wide lv w9 w10 w11 w12 w13 gb dJ dR dU dW∧GF zs own pe part wide lv t∧Bl L C1 b (j+3*(N-t)))
  ⟨[],[],_,_,_,_,_,rfl,⟨⟨fun _ _ _ _ _ _ h=>(nomatch h),fun _ h=>(nomatch h),fun _ h=>(nomatch h)⟩,rfl,rfl,fun _ h=>(nomatch h),oA,fun _ h=>(nomatch h)⟩,hB⟩ (fun t d env C4 hd hI=>by
   obtain⟨wide,lv,w9,w10,w11,w12,w13,rfl,K,hB⟩:=hI
   obtain⟨rfl,ht⟩:=yw hd
   rw[Ez j 3 ht] at hB;have l1:t<pe.length:=by omega
   have l2:t+1<pe.length:=by omega
   obtain⟨p,_,ip,xp⟩:=mR (zs:=pe) (k:=0+(t:Int)) (by omega) (by omega)
   obtain⟨q,_,iq,xq⟩:=mR (zs:=pe) (k:=0+(t:Int)+1) (by omega) (by omega)
   rw[show(0+(t:Int)).toNat=t by omega] at ip;rw[show(0+(t:Int)+1).toNat=t+1 by omega] at iq;have kl:=K.ll;have kw:=K.wl
   obtain⟨m1,m2,C5,x10,x11,x12,x13,⟨h1,h2⟩,e,su⟩:=aki (v1:=v1) (v2:=v2) (v3:=v3) (v10:=w10) (v11:=w11) (bJ:=w12) (cF:=w13) (gb:=gb) (dJ:=dJ) (dR:=dR) (dU:=dU) (dW:=dW) (part:=part) (wide:=wide) (lv:=lv) hB (by omega) (by omega) (by omega) (by omega) xp xq
   have K2:=K.snoc (by omega) ip iq pn sub po h1 h2;have z:(0+(t:Int))=(t:Int):=Xj _
   refine⟨_,.nx,_,C5,rfl,e,.inl rfl,_,_,_,_,_,_,_,rfl,?_,su⟩
   rw[z];exact K2)
 subst he;have rl:(gn 0 N).length=N:=by simp[gn]
 rw[rl] at hb hB';rw[Aa] at hB'
 exact⟨C',wide,lv,w9,w10,w11,w12,w13,e,hb,hB'⟩
theorem aiS{C:Ce}{b L j:Nat}{zs pe:List Str}{ps ps':List (Str×Str)}{part a1 b1:Str}{wide:List Int}{lv:List cC}{m:Int}{v3 v8 v9 v10 v11 bJ cF dJ dR dU dW:Option Vl}(hB:Bl L C b (j+2*10))(hN:Names zs)(hP:gh zs ps)(hG:kW zs ps ⟨ps',[],lv,[]⟩)(K:uw pe part wide lv)(nd:pe.Nodup)(wl:wide.length+1=pe.length)(pm:(pe.length:Int)=m)(m8:m≤100)(ho:part∈up ps part)(ha:a1∉pe)(hb:b1∉pe)(x24:cX (zs.map cL) 24=some (.str a1))(x25:cX (zs.map cL) 25=some (.str b1)):
  ∃C' w15 w16 w17 w18,gO (gNm 15) G8 (gn 0 10) (sE b (.ow (.list (zs.map .str))) m v3 pe part wide v8 v9 v10 v11 bJ cF ⟨ps',[],lv,[]⟩ dJ dR dU dW) C=some (.nx,sE b (.ow (.list (zs.map .str))) m v3 pe part wide v8 v9 v10 v11 bJ cF ⟨ps',[],lv,[]⟩ w15 w16 w17 w18,C')∧Bl L C' b j:=by
 obtain⟨env',C',e,w15,w16,w17,w18,he,hB'⟩:=vP (g:=gNm 15) (body:=G8) (its:=gn 0 10) (env:=sE b (.ow (.list (zs.map .str))) m v3 pe part wide v8 v9 v10 v11 bJ cF ⟨ps',[],lv,[]⟩ dJ dR dU dW) (C:=C)
  (fun t env C1=>∃w15 w16 w17 w18,env=sE b (.ow (.list (zs.map .str))) m v3 pe part wide v8 v9 v10 v11 bJ cF ⟨ps',[],lv,[]⟩ w15 w16 w17 w18∧Bl L C1 b (j+2*(10-t)))
  ⟨_,_,_,_,rfl,hB⟩ (fun t d env C4 hd hI=>by
   obtain⟨w15,w16,w17,w18,rfl,hB⟩:=hI
   obtain⟨rfl,ht⟩:=yw hd
   rw[Ez j 2 ht] at hB
   obtain⟨C5,x16,x17,x18,e,su⟩:=akf (v3:=v3) (v8:=v8) (v9:=v9) (v10:=v10) (v11:=v11) (bJ:=bJ) (cF:=cF) (dJ:=some (.im (.int (0+(t:Int))))) (dR:=w16) (dU:=w17) (dW:=w18) hB hN hP hG K nd wl pm m8 ho ha hb x24 x25
   exact⟨_,.nx,_,C5,rfl,e,.inl rfl,_,_,_,_,rfl,su⟩)
 subst he
 exact⟨C',w15,w16,w17,w18,e,hB'⟩
theorem aiT{C:Ce}{b L j:Nat}(hB:Bl L C b (j+100)):∃C',Hs [.ce b] C=some (.im (.bool true),C')∧Bl L C' b j:=by
 refine hide fun GG gg=>?_
 obtain⟨zs,C1,e1,hN,h26,gA⟩:=Z2 (m:=26) (j:=j+88) hB (by decide) (by decide)
 have h26:zs.length=26:=h26
 obtain⟨t1,C2,e2,a0,a1,hB2⟩:=dg (m:=7) (k:=j+87) gA (by decide) (by decide)
 obtain⟨N,hm⟩:∃N:Nat,2+t1=(N:Int)+1:=⟨t1.toNat+1,by omega⟩
 have n7:N≤7:=by omega
 obtain⟨t2,C3,e3,b0,b1,hB3⟩:=dg (m:=8) (k:=j+86) hB2 (by decide) (by decide)
 have ct:=J4 (zs:=zs) (m:=1+t2) (by omega) (by omega);have tl:(zs.take (1+t2).toNat).length=(1+t2).toNat:=by rw[jU];omega
 obtain⟨ps,C4,e4,hP,pl,p6⟩:=YT (j:=j+70) (zs:=zs.take (1+t2).toNat) hB3 (by omega) ⟨hN.1.sublist (zF _ _),fun z hz=>hN.2 z (ux hz)⟩
 have hP:=Yg hP;have p0:0<ps.length:=by omega
 have p8:ps.length≤8:=by omega
 have sy:=DK cL (xs:=zs) (a:=9) (b:=9+(N+1)) (by omega) (by omega);rw[show 9+(N+1)-9=N+1 by omega,show((9+(N+1):Nat):Int)=9+((N:Int)+1) by omega] at sy;have sy:iW (zs.map cL) (some 9) (some (9+((N:Int)+1)))=_:=sy
 obtain⟨pe,hpe⟩:∃pe,pe=(zs.drop 9).take (N+1):=⟨_,rfl⟩
 rw[←hpe] at sy;have Vc:pe.length=N+1:=by rw[hpe,jU,zK];omega
 have GD:pe.Nodup:=by rw[hpe];exact hN.1.sublist ((zF _ _).trans (aex _ _))
 have sub:∀x∈pe,x∈zs:=fun x hx=>by rw[hpe] at hx;exact GR (ux hx)
 obtain⟨part,po,mz,x0⟩:=aj5 hP (k:=0) (by decide) (by omega)
 obtain⟨u,_,iu,xu⟩:=aa1 (zs:=zs) (k:=24) (by omega)
 obtain⟨v,_,iv,xv⟩:=aa1 (zs:=zs) (k:=25) (by omega)
 have out:∀{k x},zs[k]?=some x→24≤k→x∉pe:=fun{k x} hk k0 hx=>by
  rw[hpe] at hx
  obtain⟨i,hi,e⟩:=sI hx
  rw[jU] at hi;rw[V1,aen] at e;have:=Eo hN.1 hk (by rw[←e];exact gQ (show 9+i<zs.length by omega));omega
 have ho:part∈up ps part:=by
  obtain⟨x,hx,rfl⟩:=cY.mp po
  rw[ajL hN hP ((tH (Ac hN hP)).mpr hx)];exact dm
 obtain⟨C5,wide,lv,w9,w10,w11,w12,w13,e5,B,su⟩:=aiR (C:=C4) (b:=b) (L:=L) (j:=j+40) (N:=N) (v1:=some (.ow (.list (zs.map .str)))) (v2:=some (.im (.int ((N:Int)+1)))) (v3:=some (.ow (.dict (aP (bz ps))))) (v9:=none) (v10:=none) (v11:=none) (bJ:=none) (cF:=none) (gb:=none) (dJ:=none) (dR:=none) (dU:=none) (dW:=none) (zs:=zs) (own:=ps.map (·.1)) (pe:=pe) (part:=part) (p6.mono (by omega)) Vc.symm (by omega) GD sub po
 obtain⟨ps',p1,e6⟩:=Xv (C:=C5) p0 p8 lv
 have hG:kW zs ps ⟨ps',[],lv,[]⟩:=abJ p1 p8 (by rw[B.ll];omega) B.ok B.nd
 obtain⟨C6,w15,w16,w17,w18,e7,vz⟩:=aiS (C:=C5) (b:=b) (L:=L) (j:=j+20) (m:=(N:Int)+1) (v3:=some (.ow (.dict (aP (bz ps))))) (v8:=some (.ow (.list (lv.map bD)))) (v9:=w9) (v10:=w10) (v11:=w11) (bJ:=w12) (cF:=w13) (dJ:=none) (dR:=none) (dU:=none) (dW:=none) su hN hP hG B.chn GD (by rw[B.wl];exact Vc.symm) (by omega) (by omega) ho (out iu (by decide)) (out iv (by decide)) xu xv
 have ll:=B.ll;refine gg ⟨C6,gk [some (.ce b),none,none,none,none,none,none,none,none,none,none,none,none,none,none,none,none,none,none] rfl rfl ?_ rfl (hB.eq vz),vz.mono (by omega)⟩
 refine(congrArg (Io fun p=>(p.1,p.2.2)) (?_:M5 _ C=some (.rt (.im (.bool true)),sE b (.ow (.list (zs.map .str))) ((N:Int)+1) (some (.ow (.dict (aP (bz ps))))) pe part wide (some (.ow (.list (lv.map bD)))) w9 w10 w11 w12 w13 ⟨ps',[],lv,[]⟩ w15 w16 w17 w18,C6))).trans rfl
 refine(oK (e1:=[some (.ce b),some (.ow (.list (zs.map .str))),some (.im (.int ((N:Int)+1))),none,none,none,none,none,none,none,none,none,none,none,none,none,none,none,none]) (C1:=C2) ?_).trans ?_
 ·simp_arith[e1,e2,hm]
 refine(oK (e1:=[some (.ce b),some (.ow (.list (zs.map .str))),some (.im (.int ((N:Int)+1))),some (.ow (.dict (aP (bz ps)))),none,none,none,none,none,none,none,none,none,none,none,none,none,none,none]) (C1:=C4) ?_).trans ?_
 ·simp_arith[e3,dj,cN,fV,jz,ct,e4]
 refine(oK (e1:=jA b (some (.ow (.list (zs.map .str)))) (some (.im (.int ((N:Int)+1)))) (some (.ow (.dict (aP (bz ps))))) pe part [] [] none none none none none none none none none none) (C1:=C4) ?_).trans ?_
 ·simp only[jA,jo];simp_arith[dj,cN,jz,sy,x0]
 refine(oK ((Ep (Sy (k:=(N:Int)) ?_ (by omega) (by omega))).trans e5)).trans ?_
 ·simp only[jA];have f1:nJ (.int ((N:Int)+1)) (.int 1)=some (.im (.int N)):=by
   show some (Vl.im (.int ((N:Int)+1-1)))=_;rw[Int.add_sub_cancel]
  simp_arith[f1]
 refine(oK (e1:=sE b (.ow (.list (zs.map .str))) ((N:Int)+1) (some (.ow (.dict (aP (bz ps))))) pe part wide (some (.ow (.list (lv.map bD)))) w9 w10 w11 w12 w13 ⟨ps',[],lv,[]⟩ none none none none) (C1:=C5) ?_).trans ?_
 ·simp only[jA,sE];simp_arith[e6,aa0]
 refine(oK ((Ep (Sy (k:=10) ?_ (by decide) (by decide))).trans e7)).trans ?_
 ·rfl
 ·rfl
theorem aa8{α:Type}{P:α→Prop}:∀{l:List α},(∀x∈l,P x)→∃xs:List {x:α // P x},xs.map (·.1)=l
 |[],_=>⟨[],rfl⟩
 |x::l,h=>by
  obtain⟨xs,e⟩:=aa8 fun y hy=>h y (dM _ hy)
  exact⟨⟨x,h x dm⟩::xs,congrArg (x::·) e⟩
theorem ahB{C:Ce}{b L j:Nat}{pe:List Str}(hn:∀z∈pe,nameB z=true)(hl:pe.length≤100)(hB:Bl L C b (j+pe.length)):∃(ys:List Str)(C':Ce),CV [.ce b,.im (.list (pe.map .str))] C=some (.ow (.list (ys.map .str)),C')∧Bl L C' b j:=by
 obtain⟨xs,rfl⟩:=aa8 hn
 rw[aX] at hl hB
 obtain⟨ys,C',e,_,hB'⟩:=aj7 (D:=fun x:{z:Str // nameB z=true}=>cL x.1) (fun l=>by
  have:=ne_nil (l.map (·.1)) (fun z hz=>by obtain⟨x,_,rfl⟩:=cY.mp hz;exact x.2);rw[fO,List.isEmpty_map] at this;exact this) hl hB
 refine⟨ys.map (·.1),C',?_,hB'⟩
 rw[fO,fO];exact e
theorem ahC{zs:List Str}{ps:List (Str×Str)}{ht:jc}(hN:Names zs)(hP:gh zs ps)(hG:kW zs ps ht):∃t:Str,J2 [gM ht]=some (.im (.str t)):=by
 have s:=ahe hN.2 hP hG
 refine⟨(gM ht).shown,if_pos ?_⟩
 have h1:(gM ht).depth≤60:=jD s.deep (by decide);have h2:(gM ht).shown.length≤LIM:=jD s.len (by show _≤1000000;decide);rw[ahj,s.T8,decide_eq_true h1,decide_eq_true h2];rfl
theorem aiU(ns:List Int)(h:ns.length≤63):∃C',Bw [.sc ns] []=some (.im (.bool true),C'):=by
 obtain⟨m,hm,m1,m2⟩:∃m:Int,(1+if(ns.length:Int)<4 then(ns.length:Int) else 4)=m∧0≤m∧m≤5:=⟨_,rfl,by split<;>omega,by split<;>omega⟩
 obtain⟨env',C',e,he⟩:=vP (g:=gNm 1) (body:=QG) (its:=gn 0 m.toNat) (env:=[some (.sc ns),none,none,none,none,none,none,none,none,none,none,none,none,none]) (C:=[])
  (fun i env C1=>∃v1 v2 v3 v4 v5 v6 v7 v8 v9 v10 v11 bJ cF,env=[some (.sc ns),v1,v2,v3,v4,v5,v6,v7,v8,v9,v10,v11,bJ,cF]) ⟨_,_,_,_,_,_,_,_,_,_,_,_,_,rfl⟩ (fun i d env C1 hd hI=>by
   obtain⟨v1,v2,v3,v4,v5,v6,v7,v8,v9,v10,v11,bJ,cF,rfl⟩:=hI
   obtain⟨rfl,hi⟩:=yw hd
   refine hide fun GG gg=>?_
   obtain⟨x,y,hb,x0⟩:=aiC (C:=C1) (ns:=ns) (k:=0+(i:Int)) (by omega) (by omega)
   have hB:=alp (y:=y) C1 x0
   obtain⟨zs,ps,pe,lv,z,a1,b1,n,day,C2,e2,K,hB2⟩:=aka (most:=16) (j:=799540) hB (by decide) (by decide)
   obtain⟨ps',p1,e3⟩:=Xv (C:=C2) K.p0 K.p8 lv
   have hG:kW zs ps ⟨ps',[],lv,[]⟩:=abJ p1 K.p8 K.m5 (fun r h=>(K.leaves r h).1) (K.rise.imp fun h=>Int.ne_of_lt h);have kf:=K.few
   obtain⟨ys,C3,e4,hB3⟩:=ahB (C:=C2) (b:=C1.length) (L:=C1.length+1) (j:=799500) (pe:=pe) (fun z hz=>K.names.2 z (K.amd z hz)) (by omega) (hB2.mono (by omega))
   obtain⟨so,c1,sl⟩:∃so:List Str,iW (ys.map cL) none (some 5)=so.map .str∧so.length≤5:=by
    refine⟨iW ys none (some 5),by unfold iW;rw[aX,Nv,W6],?_⟩
    unfold iW;rw[jU];show min (HT.bY ys.length ys.length (some ((5:Nat):Int))-_) _≤5;rw[HT.Jv];omega
   obtain⟨t,st⟩:=ahC K.names K.parts hG
   have sn:=ne_strs t t;rw[decide_eq_true rfl] at sn
   obtain⟨w11,w12,w13,e5⟩:=agA (C:=C3) (ns:=ns) (v1:=some (.im (.int (0+(i:Int))))) (b:=C1.length) (v4:=some (.im (.list (pe.map .str)))) (nv:=.im (.list (so.map .str))) (v10:=some (.im (.str t))) K.names K.parts hG (z:=z) (a1:=a1) (b1:=b1) (n:=n) (day:=day) sl (.inr rfl) so v11 bJ cF
   obtain⟨C4,e6,p6⟩:=aiT (j:=0) (hB3.mono (by decide))
   refine gg ⟨_,.nx,oY ns (some (.im (.int (0+(i:Int))))) C1.length ps (some (.im (.list (pe.map .str)))) lv z a1 b1 n day ⟨ps',[],lv,[]⟩ (.im (.list (so.map .str))) (some (.im (.str t))) w11 w12 w13,C4,rfl,?_,.inl rfl,_,_,_,_,_,_,_,_,_,_,_,_,_,rfl⟩;simp only[oY] at e5⊢;simp_arith[QG,Fp,hb,intsOf,e2,e3,aa0,e4,dj,cN,fV,jz,c1,st,fU,e5,sn,e6])
 refine⟨C'.take 0,?_⟩
 unfold Bw fN;rw[if_pos (show[Vl.sc ns].length=1 from rfl),show([Vl.sc ns].map some++iJ (14-[Vl.sc ns].length) none)=[some (.sc ns),none,none,none,none,none,none,none,none,none,none,none,none,none] from rfl];simp_arith[Tr,fU,gY,wN,pK,hm,w5 (m:=m) (by omega) (by omega),e,Bq]
theorem all_mk{l:Wg}{w:aZ}{K:aG}{h:aV}{mg:Str→Option Value}{fa:aa}{cH:Tok}(X:K.In h)(G:h.Ns gF mg)(hfa:mg "law"=some (.ref fa))
  (d0:fZ K "parts_over" HS)
  (d1:fZ K "row_of" QC)
  (d2:fZ K "is_side" Pu)
  (d3:fZ K "ways_on" I9)
  (d4:fZ K "first_row" Oc)
  (d5:fZ K "nearer_way" HW)
  (d6:fZ K "steps_to" Ir)
  (d7:fZ K "most_of" Px)
  (d8:fZ K "sums_to_try" Hz)
  (d9:fZ K "_law_mix" Sv)
  (d10:fZ K "_law_drawn_from" Ni)
  (d11:fZ K "_law_pick" Rm)
  (d12:fZ K "_law_same" DG)
  (d13:fZ K "_law_some_names" vL)
  (d14:fZ K "_law_shuffled" Od)
  (d15:fZ K "_law_two_days" Oe)
  (d16:fZ K "_law_some_sum" Og)
  (d17:fZ K "_law_some_parts" Nj)
  (d18:fZ K "_law_parts_over" Nk)
  (d19:fZ K "_law_rising" Py)
  (d20:fZ K "_law_some_leaves" MT)
  (d21:fZ K "_law_house_of" Oh)
  (d22:fZ K "_law_case" Ro)
  (d23:fZ K "_law_lets" Rp)
  (d24:fZ K "_law_widest_of" HX)
  (d25:fZ K "_law_chain_right" M3)
  (d26:fZ K "law" Tn)
  (Kg:mQ K gF "abs"=some none)
  (Tp:mQ K gF "all"=some none)
  (Ek:mQ K gF "bool"=some none)
  (Oi:mQ K gF "enumerate"=some none)
  (Bv:mQ K gF "int"=some none)
  (oE:mQ K gF "isinstance"=some none)
  (lV:mQ K gF "len"=some none)
  (Be:mQ K gF "list"=some none)
  (Fe:mQ K gF "max"=some none)
  (uh:mQ K gF "min"=some none)
  (oH:mQ K gF "range"=some none)
  (yp:mQ K gF "sorted"=some none)
  (yR:mQ K gF "str"=some none)
  (yx:mQ K gF "tuple"=some none)
  (Tq:mQ K gF "zip"=some none)
  (ae6:mQ K gF "GREATEST_SUM"=some (some (.int 1000000000 cH)))
  :∃fd:dz,(∀(s:aC)(v:Value),yr s fd ⟨[v],[]⟩ [("_law_script",v)])∧∀base:aV,K.In base→base.Ns gF mg→dw l.prog w K mg base eY 6 fa fd ["_law_script"] (spT K Bw):=by
 have T:Txt K mg cH:=⟨ou X G Kg,ou X G Tp,ou X G Ek,ou X G Oi,ou X G Bv,ou X G oE,ou X G lV,ou X G Be,ou X G Fe,ou X G uh,ou X G oH,ou X G yp,ou X G yR,ou X G yx,ou X G Tq,Nh X G ae6⟩
 refine d26.law X G hfa (fun base f fd F=>?_) (fun _ _ _ _ _ _=>(bW fun _=>(iY rfl)));have NZ:=d0.has X G (fun f fd F=>afg (P:=l.prog) (w:=w) (base:=base) F T) (fun _ _ _ _ _ _=>(bW fun _=>(bW fun _=>(iY rfl))));have vR:=d2.has X G (fun f fd F=>agv (P:=l.prog) (w:=w) (base:=base) F T) (fun _ _ _ _ _ _=>(bW fun _=>(bW fun _=>(iY rfl))));have PK:=d3.has X G (fun f fd F=>agw (P:=l.prog) (w:=w) (base:=base) F T NZ vR) (fun _ _ _ _ _ _=>(bW fun _=>(bW fun _=>(bW fun _=>(iY rfl)))));have O2:=d6.has X G (fun f fd F=>afV (P:=l.prog) (w:=w) (base:=base) F T) (fun _ _ _ _ _ _=>(bW fun _=>(bW fun _=>(iY rfl))));have N5:=d5.has X G (fun f fd F=>afh (P:=l.prog) (w:=w) (base:=base) F T) (fun _ _ _ _ _ _=>(bW fun _=>(bW fun _=>(bW fun _=>(iY rfl)))));have Oq:=d4.has X G (fun f fd F=>afC (P:=l.prog) (w:=w) (base:=base) F T O2 N5) (fun _ _ _ _ _ _=>(bW fun _=>(bW fun _=>(bW fun _=>(iY rfl)))));have QH:=d1.has X G (fun f fd F=>ahp (P:=l.prog) (w:=w) (base:=base) F T vR PK Oq) (fun _ _ _ _ _ _=>(bW fun _=>(bW fun _=>(bW fun _=>(bW fun _=>(bW fun _=>(iY rfl)))))));have Nt:=d8.has X G (fun f fd F=>ae1 (P:=l.prog) (w:=w) (base:=base) F T) (fun _ _ _ _ _ _=>(bW fun _=>(iY rfl)));have Am:=d7.has X G (fun f fd F=>agx (P:=l.prog) (w:=w) (base:=base) F T QH Nt) (fun _ _ _ _ _ _=>(bW fun _=>(bW fun _=>(bW fun _=>(bW fun _=>(bW fun _=>(bW fun _=>(iY rfl))))))));have J3:=d9.has X G (fun f fd F=>aj1 (P:=l.prog) (w:=w) (base:=base) F T) (fun _ _ _ _ _ _=>(bW fun _=>(bW fun _=>(iY rfl))));have Nu:=d10.has X G (fun f fd F=>ae2 (P:=l.prog) (w:=w) (base:=base) F T) (fun _ _ _ _ _ _=>(bW fun _=>(bW fun _=>(iY rfl))));have bV:=d11.has X G (fun f fd F=>aiy (P:=l.prog) (w:=w) (base:=base) F T J3) (fun _ _ _ _ _ _=>(bW fun _=>(bW fun _=>(iY rfl))));have wz:=d12.amK X G (fun f fd hm hk hb F=>YQ (P:=l.prog) (w:=w) (base:=base) hm hk hb F T 3) (fun _ _ _ _ _ _=>(bW fun _=>(bW fun _=>(iY rfl))));have z6:=d13.has X G (fun f fd F=>ae3 (P:=l.prog) (w:=w) (base:=base) F T bV) (fun _ _ _ _ _ _=>(bW fun _=>(bW fun _=>(iY rfl))));have Ot:=d14.has X G (fun f fd F=>afD (P:=l.prog) (w:=w) (base:=base) F T bV) (fun _ _ _ _ _ _=>(bW fun _=>(bW fun _=>(iY rfl))));have Ag:=d15.has X G (fun f fd F=>afE (P:=l.prog) (w:=w) (base:=base) F T bV) (fun _ _ _ _ _ _=>(bW fun _=>(iY rfl)));have Ah:=d16.has X G (fun f fd F=>afF (P:=l.prog) (w:=w) (base:=base) F T bV) (fun _ _ _ _ _ _=>(bW fun _=>(iY rfl)));have z7:=d17.has X G (fun f fd F=>ae4 (P:=l.prog) (w:=w) (base:=base) F T bV) (fun _ _ _ _ _ _=>(bW fun _=>(bW fun _=>(iY rfl))));have zZ:=d18.has X G (fun f fd F=>ae5 (P:=l.prog) (w:=w) (base:=base) F T) (fun _ _ _ _ _ _=>(bW fun _=>(bW fun _=>(iY rfl))));have PL:=d19.has X G (fun f fd F=>agy (P:=l.prog) (w:=w) (base:=base) F T bV) (fun _ _ _ _ _ _=>(bW fun _=>(bW fun _=>(iY rfl))));have M6:=d20.has X G (fun f fd F=>aeS (P:=l.prog) (w:=w) (base:=base) F T bV Ag Ah zZ PL) (fun _ _ _ _ _ _=>(bW fun _=>(bW fun _=>(bW fun _=>(bW fun _=>(bW fun _=>(bW fun _=>(iY rfl))))))));have Ai:=d21.has X G (fun f fd F=>afG (P:=l.prog) (w:=w) (base:=base) F T) (fun _ _ _ _ _ _=>(bW fun _=>(bW fun _=>(iY rfl))));have Rv:=d22.has X G (fun f fd F=>aiA (P:=l.prog) (w:=w) (base:=base) F T bV z6 Ag Ah z7 M6) (fun _ _ _ _ _ _=>(bW fun _=>(bW fun _=>(iY rfl))));have Ru:=d23.has X G (fun f fd F=>aiB (P:=l.prog) (w:=w) (base:=base) F T zZ) (fun _ _ _ _ _ _=>(bW fun _=>(bW fun _=>(bW fun _=>(bW fun _=>(iY rfl))))));have N6:=d24.has X G (fun f fd F=>afi (P:=l.prog) (w:=w) (base:=base) F T Ru) (fun _ _ _ _ _ _=>(bW fun _=>(bW fun _=>(bW fun _=>(bW fun _=>(bW fun _=>(iY rfl)))))));have M7:=d25.has X G (fun f fd F=>aeT (P:=l.prog) (w:=w) (base:=base) F T Am bV wz z6 z7 Ai) (fun _ _ _ _ _ _=>(bW fun _=>(iY rfl)));exact alu F T Am Nu wz Ot Ai Rv N6 M7
theorem walk{l:Wg}{q:bh}{loose:List Str}{XP:(Str→Option Value)→aV→Prop}{YP:aZ→aV→Prop}{d:DefRec}{K:Params→aG}(hn:l.most=some 63)(hdf:d.params.defaults=[])
  (hY:∀(w:aZ)(h:aV),YP w h→(K w.params).In h)
  (F:∀(w:aZ)(mg:Str→Option Value)(fa:aa)(h:aV),(K w.params).In h→h.Ns gF mg→mg d.name=some (.ref fa)→
   ∃fd:dz,(∀(s:aC)(u:Value),yr s fd ⟨[u],[]⟩ [("_law_script",u)])∧∀base:aV,(K w.params).In base→base.Ns gF mg→dw l.prog w (K w.params) mg base eY 6 fa fd ["_law_script"] (spT (K w.params) Bw)):
  ae8 q loose XP YP l.row.toRowW d [] (fun f vs=>XH f vs):=
 L2.ajd (n:=63) (k:=6) (x:="_law_script") (CX:=fun _=>eY) (sp:=fun w=>spT (K w.params) Bw) hn (by decide) hdf ⟨rfl,by decide,by decide,rfl⟩ hY F (fun _ _ a ns hl _ hS=>let ⟨_,h⟩:=aiU ns hl;ak9 hS h) fun _ _ _ _ _ z=>z
end U4
namespace PySem.W.Fast
def tw10267755797360072187:=0
def tw11566444022595998742:=0
def tw12229282901256825763:=0
def tw12306085458303327158:=0
def tw12470430776960647561:=0
def tw12614647856154619859:=0
def tw12994520759991160536:=0
def tw13349285876400353168:=0
def tw1392293373913244404:=0
def tw14272482609166250138:=0
def tw14292900063289859235:=0
def tw14560966535078210473:=0
def tw15039759373457521377:=0
def tw15589188614082937558:=0
def tw1563635550105761653:=0
def tw15750388184839067020:=0
def tw1611528331564115677:=0
def tw16440931562486825111:=0
def tw16547159284864434877:=0
def tw16748406697751366985:=0
def tw17176296977797638742:=0
def tw17385161552905552420:=0
def tw17640905613243267158:=0
def tw18290805675112042682:=0
def tw2043571295957841615:=0
def tw2162310345353377751:=0
def tw2313229930135430837:=0
def tw2597911651420059480:=0
def tw2764072033931823451:=0
def tw2837825381045667607:=0
def tw2849122242448095152:=0
def tw3056925143897408583:=0
def tw3158868267031409662:=0
def tw3202087300254793407:=0
def tw3361197685402035448:=0
def tw3384617968561357846:=0
def tw3814194853906731394:=0
def tw4226021372283615717:=0
def tw4239187168262135598:=0
def tw4455023964170800560:=0
def tw4896417651266769427:=0
def tw5018927391022710687:=0
def tw5051852429895397594:=0
def tw5309694890522774598:=0
def tw5713830455156447601:=0
def tw5890498115457055704:=0
def tw6007272540291659297:=0
def tw6280960112145195597:=0
def tw637353673925765486:=0
def tw6775528853160565985:=0
def tw6789495266221043499:=0
def tw7532590202553872289:=0
def tw7552306630664091320:=0
def tw7553004323585944005:=0
def tw7609324436991218382:=0
def tw9310671859646305711:=0
def tw9332843950108665162:=0
def tw9548290454332847570:=0
def tw9738746940510716932:=0
end PySem.W.Fast
open PySem PySem.W PyProof.Rows
set_option maxRecDepth 100000 in
set_option maxHeartbeats 0 in
theorem PySem.Challenge.cw_rankseals_k22_widest_ways_holds : PySem.Challenge.rw_rankseals_k22_widest_ways.Holds := by
 w_on;o_law;k_head;(case hw=>w_witness2)
 k_fill
 refine U4.walk (l:=PySem.Challenge.rw_rankseals_k22_widest_ways) rfl rfl (fun w h Y=>PySem.W.kIn_of Y) ?F
 case F=>
  intro w mg fa h KX G hmg
  refine' U4.all_mk KX G hmg ?_ ?_ ?_ ?_ ?_ ?_ ?_ ?_ ?_ ?_ ?_ ?_ ?_ ?_ ?_ ?_ ?_ ?_ ?_ ?_ ?_ ?_ ?_ ?_ ?_ ?_ ?_ ?_ ?_ ?_ ?_ ?_ ?_ ?_ ?_ ?_ ?_ ?_ ?_ ?_ ?_ ?_ ?_
  all_goals try first|exact .mk (by k_is) (by k_is) (by k_is) (by k_is)|k_is
