import PyProof.Rows.All
import Wide.All
import OpenK.AllK
import Wide.FinOn
import Lean
import PyProof.EqAt
import PyProof.EqKinds
import PyProof.TupleCall
import PySem.Challenge.RW_rankseals_k14_rows_of_many_leaves
set_option Elab.async false
set_option linter.all false
set_option maxRecDepth 100000
set_option maxHeartbeats 4000000
namespace L2
open PySem PySem.Spec PyProof.Rows
noncomputable abbrev Key:=Sum Int Str
noncomputable def xX:Key→Value→Bool
 | .inl k,v=>Value.isInt k v
 | .inr x,v=>Value.isStrOf x v
noncomputable def ZM (w:World):Key→Int
 | .inl k=>hashInt k
 | .inr x=>hashStr w x
theorem bZ:∀{k:Key} {v:Value},xX k v=true→(∃i t,k=Sum.inl i∧v=Value.int i t)∨(∃x t,k=Sum.inr x∧v=Value.str x t)
 | .inl i,v,h=>by
  obtain ⟨t,e⟩:=Value.isInt_shape (k:=i) (v:=v) h
  exact .inl ⟨i,t,rfl,e⟩
 | .inr x,v,h=>by
  obtain ⟨t,e⟩:=Value.isStrOf_shape (x:=x) (v:=v) h
  exact .inr ⟨x,t,rfl,e⟩
theorem Jx (i:Int) (t:Tok):xX (.inl i) (.int i t)=true:=by simp [xX,Value.isInt]
theorem Jy (x:Str) (t:Tok):xX (.inr x) (.str x t)=true:=by simp [xX,Value.isStrOf]
theorem Uk (a b:Int):decide ((Sum.inl a:Key)=Sum.inl b)=(a==b):=by
 by_cases e:a=b
 ·subst e; simp
 ·have h:¬(Sum.inl a:Key)=Sum.inl b:=fun q=>e (Sum.inl.inj q)
  rw [decide_eq_false h]
  exact (beq_eq_false_iff_ne.mpr e).symm
theorem Ul (a b:Str):decide ((Sum.inr a:Key)=Sum.inr b)=decide (a=b):=by
 by_cases e:a=b
 ·subst e; simp
 ·have h:¬(Sum.inr a:Key)=Sum.inr b:=fun q=>e (Sum.inr.inj q)
  rw [decide_eq_false h,decide_eq_false e]
theorem Um (a:Int) (b:Str):decide ((Sum.inl a:Key)=Sum.inr b)=false:=decide_eq_false (fun q=>nomatch q)
theorem Uo (a:Str) (b:Int):decide ((Sum.inr a:Key)=Sum.inl b)=false:=decide_eq_false (fun q=>nomatch q)
noncomputable def bY (prog:Program) (w:World):PySem.KeyKind prog w Key where
 is:=xX
 hash:=ZM w
 inj:=fun v a b ha hb=>by
  rcases bZ ha with ⟨i,t,rfl,rfl⟩ | ⟨x,t,rfl,rfl⟩
  ·rcases bZ hb with ⟨j,u,rfl,e⟩ | ⟨y,u,rfl,e⟩
   ·injection e with e1 _; rw [e1]
   ·exact nomatch e
  ·rcases bZ hb with ⟨j,u,rfl,e⟩ | ⟨y,u,rfl,e⟩
   ·exact nomatch e
   ·injection e with e1 _; rw [e1]
 byValue:=fun k v h=>by
  rcases bZ h with ⟨i,t,rfl,rfl⟩ | ⟨x,t,rfl,rfl⟩ <;> rfl
 pyHash:=fun hv h=>by
  rcases bZ hv with ⟨i,t,rfl,rfl⟩ | ⟨x,t,rfl,rfl⟩
  ·exact wpAny_pyHash_int h
  ·exact wpAny_pyHash_str h
 eqBool:=fun hu hv h=>by
  rcases bZ hu with ⟨i,t,rfl,rfl⟩ | ⟨x,t,rfl,rfl⟩
  ·rcases bZ hv with ⟨j,u,rfl,rfl⟩ | ⟨y,u,rfl,rfl⟩
   ·rw [Uk] at h; exact wpAny_eqBool_int h
   ·rw [Um] at h; exact SeqAt.EqAt.int_str i t y u _ _ _ _ h
  ·rcases bZ hv with ⟨j,u,rfl,rfl⟩ | ⟨y,u,rfl,rfl⟩
   ·rw [Uo] at h; exact SeqAt.EqAt.str_int x t j u _ _ _ _ h
   ·rw [Ul] at h; exact wpAny_eqBool_str h
 «strs»:=fun k x t v h=>by
  rcases bZ h with ⟨i,u,rfl,e⟩ | ⟨y,u,rfl,e⟩
  ·exact nomatch e
  ·injection e with e1 _
   subst e1
   cases v <;> rfl
theorem Bp (prog:Program) (w:World) (i:Int) (t:Tok):(bY prog w).is (.inl i) (.int i t)=true:=Jx i t
theorem Bq (prog:Program) (w:World) (x:Str) (t:Tok):(bY prog w).is (.inr x) (.str x t)=true:=Jy x t
end L2
namespace L2
open PySem PySem.Spec PyProof.Rows
inductive V where
 | non | bl (b:Bool) | int (i:Int) | str (x:Str) | Jz (b:Array UInt8) | flt (b:UInt64) | ref (a:Addr) | ty (n:String)
 deriving DecidableEq
noncomputable def RelV:V→Value→Prop
 | .non,u=>u=Value.none
 | .bl b,u=>u=Value.bool b
 | .int i,u=>∃t,u=Value.int i t
 | .str x,u=>∃t,u=Value.str x t
 | .Jz b,u=>∃t,u=Value.bytes b t
 | .flt b,u=>∃t,u=Value.float b t
 | .ref a,u=>u=Value.ref a
 | .ty n,u=>u=Value.type n
noncomputable abbrev Vals:List V→List Value→Prop:=Paired RelV
theorem Vals.length {xs:List V} {us:List Value} (r:Vals xs us):xs.length=us.length:=Paired.length r
theorem Vals.get:∀{xs:List V} {us:List Value} {i:Nat} {x:V},Vals xs us→xs[i]?=some x→∃u,us[i]?=some u∧RelV x u
 | _,_,_,_,.nil,e=>by simp at e
 | _,_,0,_,.cons r _,e=>by simp at e; subst e; exact ⟨_,rfl,r⟩
 | _,_,i + 1,x,.cons _ t,e=>by
  obtain ⟨u,h1,h2⟩:=Vals.get (i:=i) (x:=x) t (by simpa using e)
  exact ⟨u,by simpa using h1,h2⟩
theorem Vals.set {x:V} {u:Value} (r:RelV x u):∀{xs:List V} {us:List Value} (i:Nat),Vals xs us→Vals (xs.set i x) (us.set i u)
 | _,_,_,.nil=>.nil
 | _,_,0,.cons _ t=>.cons r t
 | _,_,i + 1,.cons q t=>.cons q (Vals.set r i t)
theorem Vals.append:∀{xs ys:List V} {us ws:List Value},Vals xs us→Vals ys ws→Vals (xs++ys) (us++ws)
 | _,_,_,_,.nil,s=>s
 | _,_,_,_,.cons r t,s=>.cons r (Vals.append t s)
theorem Vals.take:∀{xs:List V} {us:List Value} (n:Nat),Vals xs us→Vals (xs.take n) (us.take n)
 | _,_,0,_=>.nil
 | _,_,_ + 1,.nil=>.nil
 | _,_,n + 1,.cons r t=>.cons r (Vals.take n t)
theorem Vals.drop:∀{xs:List V} {us:List Value} (n:Nat),Vals xs us→Vals (xs.drop n) (us.drop n)
 | _,_,0,r=>r
 | _,_,_ + 1,.nil=>.nil
 | _,_,n + 1,.cons _ t=>Vals.drop n t
noncomputable def rF:Option V→Option Value→Prop
 | some v,some u=>RelV v u
 | none,none=>True
 | _,_=>False
noncomputable def KV {κ:Type}:List (κ×V)→List (κ×Value)→Prop:=Paired fun (p:κ×V) (q:κ×Value)=>p.1=q.1∧RelV p.2 q.2
noncomputable def kV:Key→V
 | .inl i=>.int i
 | .inr x=>.str x
inductive HO where
 | lst (xs:List V)
 | tup (xs:List V)
 | dK (kvs:List (Key×V)) | dT (kvs:List (List Key×V))
 | set (S:Int→Bool) (n:Nat)
 | ins (C dx:Addr) (fs:List (Str×V))
 | own (x:Addr)
 | xd (fs:List (Str×V))
 | met (f x:Addr)
 | ZP (lo hi:Int)
 | Bj (o:Obj) (u:HO)
 | Uq (ps:Array Value)
 | ext (φ:Heap→Prop)
noncomputable abbrev Hp:=Addr→Option HO
noncomputable def upd (H:Hp) (a:Addr) (o:HO):Hp:=fun b=>if b=a then some o else H b
theorem aH {H:Hp} {a:Addr} {o:HO}:upd H a o a=some o:=by unfold upd; rw [if_pos rfl]
theorem aJ {H:Hp} {a b:Addr} {o:HO} (h:b≠a):upd H a o b=H b:=by unfold upd; rw [if_neg h]
theorem Hg {H:Hp} {a:Addr} {o u:HO}:upd (upd H a o) a u=upd H a u:=by
 funext b; unfold upd; split <;> rfl
theorem Lh {H:Hp} {a b:Addr} {o u:HO} (h:H a=some o) (h':H b=some u) (d:o≠u):a≠b:=by
 intro e; subst e; rw [h] at h'; exact d (Option.some.inj h')
theorem aZ {H:Hp} {a b:Addr} {o:HO} (h:H a=some o) (h':H b=none):a≠b:=by
 intro e; subst e; rw [h] at h'; cases h'
section
variable (P:Program) (w:World)
noncomputable def bL (H:Hp) (h:Heap) (a:Addr):HO→Prop
 | .lst xs=>xs.length≤sizeLine∧∃(its:List Value) (n:Nat),Vals xs its∧h.get? a=some { cls:=.type "list",data:=.seq its.toArray n }
 | .tup xs=>xs.length≤sizeLine∧∃its:List Value,Vals xs its∧IsTup h a its.toArray
 | .dK kvs=>kvs.length≤sizeLine∧(a==sysModules)=false∧∃vs,KV kvs vs∧h.DictOf (bY P w) a vs
 | .dT kvs=>kvs.length≤sizeLine∧(a==sysModules)=false∧∃xs:List (List Key×Addr×Value),
   Paired (fun (p:List Key×V) (q:List Key×Addr×Value)=>p.1=q.1∧H q.2.1=some (.tup (p.1.map kV))∧RelV p.2 q.2.2) kvs xs∧
   ∃o es ep,h.get? a=some o∧o.ExactDict∧o.data=.dict es ep∧es.toList=xs.map (entryOfKey (tupleKind (bY P w)))∧(xs.map (·.1)).Nodup
 | .set S n=>h.SetOf (intKind P w) a S n
 | .ins C dx fs=>H dx=some (.own a)∧fs.length≤1000∧dx≠a∧h.get? a=some (PySem.W.instObj C dx)∧
   ∃mA,h.Ns1 dx mA∧(∀f,rF (fs.lookup f) (mA f))∧PySem.Within mA (fs.map (·.1))
 | .own _=>∃o,h.get? a=some o
 | .xd fs=>∃mA,h.Ns1 a mA∧∀f,rF (fs.lookup f) (mA f)
 | .ZP lo hi=>∃t u v,h.get? a=some { cls:=.type "range",data:=.fields #[.int lo t,.int hi u,.int 1 v] }
 | .Bj o u=>h.get? a=some o∧bL H h a u
 | .Uq ps=>h.get? a=some { cls:=.none,data:=.fields ps }
 | .met f x=>h.get? a=some (PySem.W.methodObj (.ref f) (.ref x))
 | .ext φ=>φ h∧(∃o,h.get? a=some o)∧∀h1 h2:Heap,φ h1→(∀o,h1.get? a=some o→h2.get? a=some o)→φ h2
noncomputable def qb (H:Hp) (h:Heap):Prop:=∀a o,H a=some o→bL P w H h a o
end
section
variable {P:Program} {w:World} {H H':Hp} {h h':Heap} {a:Addr} {o:HO}
theorem bL.lt (x:bL P w H h a o):a < h.objs.size:=by
 cases o with
 | lst xs=>obtain ⟨_,_,_,_,e⟩:=x; exact Heap.lt_size e
 | tup xs=>obtain ⟨_,_,_,p⟩:=x; exact p.lt
 | dK kvs=>obtain ⟨_,_,_,_,o,_,_,e,_⟩:=x; exact Heap.lt_size e
 | dT kvs=>obtain ⟨_,_,_,_,o,_,_,e,_⟩:=x; exact Heap.lt_size e
 | set S n=>obtain ⟨o,_,_,_,e,_⟩:=x; exact Heap.lt_size e
 | ins C dx fs=>obtain ⟨_,_,_,e,_⟩:=x; exact Heap.lt_size e
 | own y=>obtain ⟨_,e⟩:=x; exact Heap.lt_size e
 | xd fs=>obtain ⟨_,⟨_,_,_,e,_⟩,_⟩:=x; exact Heap.lt_size e
 | ZP lo hi=>obtain ⟨_,_,_,e⟩:=x; exact Heap.lt_size e
 | Bj ob u=>obtain ⟨e,_⟩:=x; exact Heap.lt_size e
 | Uq ps=>exact Heap.lt_size (show h.get? a=some _ from x)
 | met f y=>exact Heap.lt_size (show h.get? a=some _ from x)
 | ext φ=>obtain ⟨_,⟨_,e⟩,_⟩:=x; exact Heap.lt_size e
theorem Paired.Ur {α β:Type} {F G:α→β→Prop}:∀{l₁:List α} {l₂:List β},Paired F l₁ l₂→(∀a b,F a b→G a b)→Paired G l₁ l₂
 | _,_,.nil,_=>.nil
 | _,_,.cons r t,f=>.cons (f _ _ r) (Paired.Ur t f)
theorem bL.stay (x:bL P w H h a o) (k:∀b u,(b=a∨H b=some (.own a))→h.get? b=some u→h'.get? b=some u)
  (ho:∀b,H b=some (.own a)→H' b=some (.own a)) (ht:∀b xs,H b=some (.tup xs)→H' b=some (.tup xs)):bL P w H' h' a o:=by
 induction o with
 | lst xs=>obtain ⟨z,its,n,r,e⟩:=x; exact ⟨z,its,n,r,k _ _ (.inl rfl) e⟩
 | tup xs=>obtain ⟨z,its,r,ob,e,c⟩:=x; exact ⟨z,its,r,ob,k _ _ (.inl rfl) e,c⟩
 | dK kvs=>obtain ⟨z,y,vs,r,ob,es,ep,e,c⟩:=x; exact ⟨z,y,vs,r,ob,es,ep,k _ _ (.inl rfl) e,c⟩
 | dT kvs=>
  obtain ⟨z,y,xs,r,ob,es,ep,e,c⟩:=x
  exact ⟨z,y,xs,Paired.Ur r fun p q z=>⟨z.1,ht _ _ z.2.1,z.2.2⟩,ob,es,ep,k _ _ (.inl rfl) e,c⟩
 | set S n=>obtain ⟨ob,es,ep,t,e,c⟩:=x; exact ⟨ob,es,ep,t,k _ _ (.inl rfl) e,c⟩
 | ins C dx fs=>
  obtain ⟨d,z,ne,e,mA,⟨od,es,ep,e2,c⟩,r⟩:=x
  exact ⟨ho _ d,z,ne,k _ _ (.inl rfl) e,mA,⟨od,es,ep,k _ _ (.inr d) e2,c⟩,r⟩
 | own y=>obtain ⟨ob,e⟩:=x; exact ⟨ob,k _ _ (.inl rfl) e⟩
 | xd fs=>obtain ⟨mA,⟨od,es,ep,e,c⟩,r⟩:=x; exact ⟨mA,⟨od,es,ep,k _ _ (.inl rfl) e,c⟩,r⟩
 | ZP lo hi=>obtain ⟨t,u,v,e⟩:=x; exact ⟨t,u,v,k _ _ (.inl rfl) e⟩
 | Bj ob u ih=>obtain ⟨e,q⟩:=x; exact ⟨k _ _ (.inl rfl) e,ih q⟩
 | Uq ps=>
  have e:h.get? a=some { cls:=.none,data:=.fields ps }:=x
  show h'.get? a=some { cls:=.none,data:=.fields ps }
  exact k a _ (.inl rfl) e
 | met f y=>
  have e:h.get? a=some (PySem.W.methodObj (.ref f) (.ref y)):=x
  show h'.get? a=some (PySem.W.methodObj (.ref f) (.ref y))
  exact k a _ (.inl rfl) e
 | ext φ=>obtain ⟨p,⟨o,e⟩,st⟩:=x; exact ⟨st _ _ p fun o q=>k _ _ (.inl rfl) q,⟨o,k _ _ (.inl rfl) e⟩,st⟩
theorem qb.lt (x:qb P w H h) (e:H a=some o):a < h.objs.size:=(x a o e).lt
theorem qb.fresh (x:qb P w H h) (e:h.objs.size≤a):H a=none:=by
 cases q:H a with
 | none=>rfl
 | some u=>exact absurd (Nat.lt_of_lt_of_le (x.lt q) e) (Nat.lt_irrefl _)
theorem qb.kept (x:qb P w H h) (k:∀b u,h.get? b=some u→h'.get? b=some u):qb P w H h':=fun a o e=>
 (x a o e).stay (fun b u _ q=>k b u q) (fun _ q=>q) fun _ _ q=>q
theorem qb.laid (x:qb P w H h) (k:∀b u,h.get? b=some u→h'.get? b=some u) (hp:h.objs.size≤a) (new:bL P w (upd H a o) h' a o):qb P w (upd H a o) h':=fun b u e=>by
 have hn:=x.fresh hp
 by_cases hb:b=a
 ·subst hb; rw [aH] at e; cases e; exact new
 ·rw [aJ hb] at e
  exact (x b u e).stay (fun c v _ q=>k c v q) (fun c q=>by rw [aJ (aZ q hn)]; exact q) fun c xs q=>by rw [aJ (aZ q hn)]; exact q
end
noncomputable def Rd (H:Hp) (a:Addr) (u:HO):Prop:=H a=some u∨∃o,H a=some (.Bj o u)
theorem Rd.of {H:Hp} {a:Addr} {u:HO} (h:H a=some u):Rd H a u:=.inl h
theorem Rd.ok {P:Program} {w:World} {H:Hp} {h:Heap} {a:Addr} {u:HO} (r:Rd H a u) (x:qb P w H h):bL P w H h a u:=by
 rcases r with r | ⟨o,r⟩
 ·exact x a u r
 ·obtain ⟨_,q⟩:=x a _ r
  exact q
noncomputable def W3:Option HO→Prop
 | some (.lst _)=>True
 | some (.dK _)=>True
 | some (.dT _)=>True
 | some (.set _ _)=>True
 | some (.ins _ _ _)=>True
 | some (.ext _)=>True
 | _=>False
section
variable {P:Program} {w:World} {H:Hp} {h h':Heap} {x e:Addr} {o':HO}
theorem qb.write (ok:qb P w H h) (mu:W3 (H x)) (he:e=x∨H e=some (.own x)) (k:∀b u,b≠e→h.get? b=some u→h'.get? b=some u) (heo:∃u,h'.get? e=some u)
  (new:bL P w (upd H x o') h' x o'):qb P w (upd H x o') h':=fun b u q=>by
 have W4:∀c y,H c=some (.own y)→c≠x:=fun c y r z=>by subst z; rw [r] at mu; exact mu
 have ZQ:∀c xs,H c=some (.tup xs)→c≠x:=fun c xs r z=>by subst z; rw [r] at mu; exact mu
 by_cases hb:b=x
 ·subst hb; rw [aH] at q; cases q; exact new
 ·rw [aJ hb] at q
  by_cases hbe:b=e
  ·have q':H b=some (.own x):=by
    rcases he with z | z
    ·exact absurd (hbe.trans z) hb
    ·rw [hbe]; exact z
   rw [q] at q'; cases q'
   obtain ⟨v,hv⟩:=heo
   exact ⟨v,by rw [hbe]; exact hv⟩
  ·refine (ok b u q).stay (fun c v hc r=>k c v ?_ r) (fun c r=>by rw [aJ (W4 c b r)]; exact r) fun c xs r=>by rw [aJ (ZQ c xs r)]; exact r
   rcases hc with rfl | hc
   ·exact hbe
   ·rintro rfl
    rcases he with z | z
    ·exact W4 c b hc z
    ·rw [hc] at z; cases z; exact hb rfl
end
structure Un (fs ex:List Addr) (H H':Hp) (h h':Heap):Prop where
 keep:∀b o,h.get? b=some o→H b=none→b∉fs→b∉ex→h'.get? b=some o
 slot:∀b o,h.get? b=some o→H b=none→b∈fs→b∉ex→∃sl,h'.get? b=some { o with slots:=sl }
 free:∀b o,h.get? b=some o→H b=none→b∉ex→H' b=none
 there:∀b o,h.get? b=some o→b∉ex→∃o',h'.get? b=some o'
 tups:∀b xs,H b=some (.tup xs)→H' b=some (.tup xs)
 rG:∀b o u,H b=some (.Bj o u)→H' b=some (.Bj o u)
 ud:∀b ps,H b=some (.Uq ps)→∃more,H' b=some (.Uq (ps++more))
section
variable {fs fs' ex ex':List Addr} {H H1 H2:Hp} {h h1 h2 h':Heap} {a x e:Addr} {o:HO}
theorem Un.any (u:Un fs ex H H1 h h1) {b:Addr} {ob:Obj} (q:h.get? b=some ob) (n:H b=none) (hx:b∉ex):∃sl,h1.get? b=some { ob with slots:=sl }:=by
 by_cases hb:b∈fs
 ·exact u.slot b ob q n hb hx
 ·exact ⟨ob.slots,u.keep b ob q n hb hx⟩
theorem Un.trans (a:Un fs ex H H1 h h1) (b:Un fs ex H1 H2 h1 h2):Un fs ex H H2 h h2 where
 keep:=fun c ob q n hc hx=>b.keep c ob (a.keep c ob q n hc hx) (a.free c ob q n hx) hc hx
 slot:=fun c ob q n hc hx=>by
  obtain ⟨sl,e1⟩:=a.slot c ob q n hc hx
  obtain ⟨sl',e2⟩:=b.slot c _ e1 (a.free c ob q n hx) hc hx
  exact ⟨sl',e2⟩
 free:=fun c ob q n hx=>by
  obtain ⟨o',e1⟩:=a.there c ob q hx
  exact b.free c o' e1 (a.free c ob q n hx) hx
 there:=fun c ob q hx=>by
  obtain ⟨o',e1⟩:=a.there c ob q hx
  exact b.there c o' e1 hx
 tups:=fun c xs q=>b.tups c xs (a.tups c xs q)
 rG:=fun c ob xs q=>b.rG c ob xs (a.rG c ob xs q)
 ud:=fun c ps q=>by
  obtain ⟨m1,e1⟩:=a.ud c ps q
  obtain ⟨m2,e2⟩:=b.ud c _ e1
  exact ⟨m1++m2,by rw [e2,Array.append_assoc]⟩
theorem Un.kept (k:∀b u,h.get? b=some u→h'.get? b=some u):Un fs ex H H h h':=
 ⟨fun b ob q _ _ _=>k b ob q,fun b ob q _ _ _=>⟨ob.slots,k b ob q⟩,fun _ _ _ n _=>n,fun b ob q _=>⟨ob,k b ob q⟩,fun _ _ q=>q,fun _ _ _ q=>q,fun _ ps q=>⟨#[],by rw [q]; simp⟩⟩
theorem Un.refl:Un fs ex H H h h:=Un.kept fun _ _ q=>q
theorem Un.laid (k:∀b u,h.get? b=some u→h'.get? b=some u) (hp:h.objs.size≤a) (hn:H a=none):Un fs ex H (upd H a o) h h' where
 keep:=fun b u q _ _ _=>k b u q
 slot:=fun b u q _ _ _=>⟨u.slots,k b u q⟩
 free:=fun b u q n _=>by rw [aJ (Nat.ne_of_lt (Nat.lt_of_lt_of_le (Heap.lt_size q) hp))]; exact n
 there:=fun b u q _=>⟨u,k b u q⟩
 tups:=fun b xs q=>by rw [aJ (aZ q hn)]; exact q
 rG:=fun b u xs q=>by rw [aJ (aZ q hn)]; exact q
 ud:=fun b ps q=>⟨#[],by rw [aJ (aZ q hn),q]; simp⟩
theorem Un.write (mu:W3 (H x)) (he:e=x∨H e=some (.own x)) (k:∀b u,b≠e→h.get? b=some u→h'.get? b=some u) (heo:∃u,h'.get? e=some u):Un fs ex H (upd H x o) h h':=by
 have hx:∀b,H b=none→b≠x:=fun b n z=>by subst z; rw [n] at mu; exact mu
 have hb:∀b,H b=none→b≠e:=fun b n z=>by
  subst z
  rcases he with r | r
  ·exact hx b n r
  ·rw [n] at r; cases r
 have hm:∀b u,H b=some u→¬W3 (some u)→b≠x:=fun b u q nm z=>by subst z; rw [q] at mu; exact nm mu
 refine ⟨fun b u q n _ _=>k b u (hb b n) q,fun b u q n _ _=>⟨u.slots,k b u (hb b n) q⟩,fun b u q n _=>by rw [aJ (hx b n)]; exact n,fun b u q _=>?_,
  fun b xs q=>by rw [aJ (hm b _ q fun z=>z)]; exact q,fun b u xs q=>by rw [aJ (hm b _ q fun z=>z)]; exact q,fun b ps q=>⟨#[],by rw [aJ (hm b _ q fun z=>z),q]; simp⟩⟩
 by_cases hbe:b=e
 ·subst hbe; exact heo
 ·exact ⟨u,k b u hbe q⟩
theorem Un.mono (u:Un fs ex H H1 h h1) (hs:∀b∈fs,b∈fs') (hx:∀b∈ex,b∈ex'):Un fs' ex' H H1 h h1:=
 ⟨fun b ob q n hb he=>u.keep b ob q n (fun z=>hb (hs b z)) fun z=>he (hx b z),fun _ _ q n _ he=>u.any q n fun z=>he (hx _ z),fun b ob q n he=>u.free b ob q n fun z=>he (hx b z),fun b ob q he=>u.there b ob q fun z=>he (hx b z),u.tups,u.rG,u.ud⟩
end
noncomputable def Zb (h:Heap) (H:Hp):List Addr:=(List.range h.objs.size).filter fun a=>(H a).isSome
noncomputable def zb (h:Heap) (H:Hp):Heap:=PySem.W.hideAll h (Zb h H)
theorem JB (h:Heap) (H:Hp):(zb h H).objs.size=h.objs.size:=PySem.W.hideAll_size _ _
theorem Li {h:Heap} {H:Hp} {b:Addr} {o:Obj} (e:h.get? b=some o) (n:H b=none):(zb h H).get? b=some o:=
 PySem.W.hideAll_get _ e fun hm=>by
  have q:(H b).isSome=true:=(List.mem_filter.mp hm).2
  rw [n] at q; simp at q
theorem Qw {h:Heap} {H:Hp} {b:Addr} {o:Obj} (e:(zb h H).get? b=some o):h.get? b=some o∧H b=none:=by
 have e':h.get? b=some o:=PySem.W.of_hideAll (Zb h H) e
 refine ⟨e',?_⟩
 cases q:H b with
 | none=>rfl
 | some x=>
  have hm:b∈Zb h H:=List.mem_filter.mpr ⟨List.mem_range.mpr (Heap.lt_size e'),by simp [q]⟩
  have z:(zb h H).get? b=none:=PySem.W.hideAll_none (Zb h H) hm
  rw [z] at e; cases e
noncomputable def Qx (g h:Heap) (L:Addr):List (Addr×Obj):=(List.range h.objs.size).filterMap fun a=>if a=L∨(g.get? a).isSome=true then none else (h.get? a).map fun o=>(a,o)
noncomputable def rest (g h:Heap) (L d:Addr):List (Addr×Obj):=(Qx g h L).filter fun p=>decide (p.1≠d)
end L2
namespace L2
open PySem PySem.Spec PyProof.Rows
structure Mod (K:PySem.W.Frag) (mg:Str→Option Value) (base:Heap):Prop where
 ZR:K.In base
 glob:base.Ns mainGlobals mg
 blt:∃mb,base.Ns builtinsNs mb∧∀x:Str,x≠"__name__"→mb x=bootBuiltins x
 nolimit:base.NoLimit
structure Cx where
 prog:Program
 w:World
 K:PySem.W.Frag
 mg:Str→Option Value
 base:Heap
 A:Around
 N:List Str
 s₀:Shared
 H₀:Hp
 env:Env
 outer:List Env
 stack:List Env
 ex:List Addr
 fn:Str→Bool
 calm:Bool
 pn:List (Addr×Obj)
 xe:Value→Shared→Prop
noncomputable def frs (l:List Env):List Addr:=l.filterMap (·.frame)
noncomputable abbrev Cx.fs (X:Cx):List Addr:=frs X.outer
noncomputable def Zc (sc:Scope) (x:Str):Prop:=sc.names.lookup x=some .local∨sc.names.lookup x=some .cell∨sc.names.lookup x=some .free
noncomputable def Loc (sc:Scope) (x:Str):Prop:=sc.names.lookup x=some .local∨sc.names.lookup x=some .cell
noncomputable def Look (env:Env) (h:Heap) (m:Str→Option Value) (x:Str) (u:Value):Prop:=
 (env.kindOf x=some .local∧m x=some u)∨((env.kindOf x=some .cell∨env.kindOf x=some .free)∧∃c,env.cells.lookup x=some c∧h.IsCell c (some u))
structure Cx.Ok (X:Cx):Prop where
 mod:Mod X.K X.mg X.base
 kind:X.env.scope.kind=.function
 glob:X.env.globals=mainGlobals
 blt:X.env.builtins=builtinsNs
 above:X.s₀.heap.objs.size≤X.env.locals
 inj:∀x y c,X.env.cells.lookup x=some c→X.env.cells.lookup y=some c→x=y
 has:∀x,(X.env.kindOf x=some .cell∨X.env.kindOf x=some .free)→∃c,X.env.cells.lookup x=some c
 cab:∀x c,X.fn x=true→X.env.cells.lookup x=some c→X.s₀.heap.objs.size≤c
 hd:X.calm=true→X.A.handled=none
 frames:X.A.frames=some X.stack
 stk:X.stack=X.outer∨(X.stack=X.env::X.outer∧X.env.frame=some X.env.locals)
 exf:∀b∈X.ex,b≠X.env.locals∧∀x c,X.env.cells.lookup x=some c→c≠b
 bs:∀b o,X.base.get? b=some o→X.s₀.heap.get? b=some o∧X.H₀ b=none
 Qq:X.base.objs.size≤X.s₀.heap.objs.size
 Lj:∀b o,X.base.get? b=some o→b∉X.ex
 Qy:∀b∈X.ex,b∉X.fs
 uf:X.s₀.heap.FunFrames X.base X.outer
 Us:∀b∈X.fs,X.H₀ b=none
structure Inv (X:Cx) (pins:List (Addr×Obj)) (σ:List (Option V)) (H:Hp) (s:Shared):Prop where
 ok:X.Ok
 os:s.os=X.s₀.os
 bare:AllBare s.gens
 base:Un X.fs X.ex X.H₀ H X.s₀.heap s.heap
 loc:∃m,s.heap.Ns X.env.locals m∧∀(i:Nat) (x:Str) (v:V),X.N[i]?=some x→σ[i]?=some (some v)→Zc X.env.scope x→∃u,RelV v u∧Look X.env s.heap m x u
 cell:∀x c,X.env.cells.lookup x=some c→∃v,s.heap.IsCell c v
 free:H X.env.locals=none
 mG:∀x c,X.env.cells.lookup x=some c→H c=none
 pin:∀p∈X.pn++pins,s.heap.get? p.1=some p.2∧H p.1=none∧p.1≠X.env.locals∧p.1∉X.fs∧∀v,p.2.data≠.cell v
 hok:qb X.prog X.w H s.heap
 len:σ.length=X.N.length
section
variable {X:Cx} {pins:List (Addr×Obj)} {σ:List (Option V)} {H H':Hp} {s:Shared} {h':Heap}
theorem Cx.Ok.ZS (ok:X.Ok) {b:Addr} {o:Obj} (e:X.base.get? b=some o):b∉X.fs:=fun hb=>by
 have:=(ok.uf.mem hb).1
 rw [e] at this; cases this
theorem Inv.bs (I:Inv X pins σ H s):∀b o,X.base.get? b=some o→s.heap.get? b=some o∧H b=none:=fun b o e=>
 ⟨I.base.keep b o (I.ok.bs b o e).1 (I.ok.bs b o e).2 (I.ok.ZS e) (I.ok.Lj b o e),I.base.free b o (I.ok.bs b o e).1 (I.ok.bs b o e).2 (I.ok.Lj b o e)⟩
theorem Inv.bk (I:Inv X pins σ H s):∀b o,X.base.get? b=some o→s.heap.get? b=some o:=fun b o e=>(I.bs b o e).1
theorem Inv.mod (I:Inv X pins σ H s):Mod X.K X.mg X.base:=I.ok.mod
theorem Inv.rE (I:Inv X pins σ H s):X.K.In s.heap:=I.ok.mod.ZR.keeps I.bk
theorem Inv.nolimit (I:Inv X pins σ H s):s.heap.NoLimit:=I.ok.mod.nolimit.keeps I.bk
theorem Inv.fr (I:Inv X pins σ H s):∃m,Fr X.base X.env.locals s.heap m:=
 let ⟨m,hn,_⟩:=I.loc
 ⟨m,hn,I.bk,Nat.le_trans I.ok.Qq I.ok.above⟩
theorem Inv.lt (I:Inv X pins σ H s):X.env.locals < s.heap.objs.size:=let ⟨_,hn,_⟩:=I.loc; hn.lt
theorem Inv.sz (I:Inv X pins σ H s):X.s₀.heap.objs.size≤s.heap.objs.size:=Nat.le_trans I.ok.above (Nat.le_of_lt I.lt)
theorem Inv.ZV (I:Inv X pins σ H s) {a:Addr} (h:s.heap.objs.size≤a):a∉X.fs:=fun hb=>by
 obtain ⟨_,o,ho,_⟩:=I.ok.uf.mem hb
 exact absurd (Nat.lt_of_lt_of_le (Heap.lt_size ho) (Nat.le_trans I.sz h)) (Nat.lt_irrefl _)
theorem Inv.Ut (I:Inv X pins σ H s):∀x c,X.env.cells.lookup x=some c→c≠X.env.locals:=fun x c e z=>by
 obtain ⟨v,o,ho,hd⟩:=I.cell x c e
 obtain ⟨m,⟨o',es,ep,ho',hd',_⟩,_⟩:=I.loc
 rw [z,ho'] at ho; cases ho; rw [hd'] at hd; cases hd
theorem Inv.uf (I:Inv X pins σ H s):s.heap.FunFrames X.base X.outer:=by
 have all:∀(l:List Env),(∀b∈frs l,b∈X.fs)→X.s₀.heap.FunFrames X.base l→s.heap.FunFrames X.base l:=by
  intro l
  induction l with
  | nil=>intro _ _; trivial
  | cons env r ih=>
   intro hs hl
   obtain ⟨hk,⟨L,o,hf,hn,ho,hd⟩,hr⟩:=hl
   have hL:L∈X.fs:=hs L (by unfold frs; rw [List.filterMap_cons,hf]; exact List.mem_cons_self)
   obtain ⟨sl,e⟩:=I.base.slot L o ho (I.ok.Us L hL) hL fun z=>I.ok.Qy L z hL
   exact ⟨hk,⟨L,_,hf,hn,e,hd⟩,ih (fun b hb=>hs b (by unfold frs; rw [List.filterMap_cons,hf]; exact List.mem_cons_of_mem _ hb)) hr⟩
 exact all X.outer (fun _ hb=>hb) I.ok.uf
theorem Inv.stack (I:Inv X pins σ H s):s.heap.FunFrames X.base X.stack:=by
 rcases I.ok.stk with e | ⟨e,hf⟩
 ·rw [e]; exact I.uf
 ·rw [e]
  obtain ⟨m,hn,_⟩:=I.loc
  refine .cons (by rw [I.ok.kind]; decide) hf hn ?_ I.uf
  exact Heap.get?_none_of_le (Nat.le_trans I.ok.Qq I.ok.above)
theorem Inv.rH (I:Inv X pins σ H s):∀b∈frs X.stack,b∈X.env.locals::X.fs:=fun b hb=>by
 rcases I.ok.stk with e | ⟨e,hf⟩
 ·rw [e] at hb; exact List.mem_cons_of_mem _ hb
 ·rw [e] at hb
  unfold frs at hb
  rw [List.filterMap_cons,hf] at hb
  exact hb
theorem Inv.Hh (I:Inv X pins σ H s):∀b∈frs X.stack,H b=none:=fun b hb=>by
 rcases List.mem_cons.mp (I.rH b hb) with e | hb
 ·rw [e]; exact I.free
 ·obtain ⟨_,o,ho,_⟩:=I.ok.uf.mem hb
  exact I.base.free b o ho (I.ok.Us b hb) fun z=>I.ok.Qy b z hb
theorem Inv.step {g':Array GenState} {t':Nat} {d':Drawn} {ch:List Addr} (I:Inv X pins σ H s)
  (hch:∀b∈ch,(b∈X.ex∨X.s₀.heap.objs.size≤b)∧b≠X.env.locals∧(∀x c,X.env.cells.lookup x=some c→c≠b)∧∀p∈X.pn++pins,p.1≠b)
  (keep:∀b o,b≠X.env.locals→b∉X.fs→b∉ch→s.heap.get? b=some o→H b=none→h'.get? b=some o)
  (slot:∀b o,b≠X.env.locals→b∈X.fs→b∉ch→s.heap.get? b=some o→H b=none→∃sl,h'.get? b=some { o with slots:=sl }) (free:∀b o,b∉ch→s.heap.get? b=some o→H b=none→H' b=none)
  (there:∀b o,b∉ch→s.heap.get? b=some o→∃o',h'.get? b=some o')
  (tups:∀b xs,H b=some (.tup xs)→H' b=some (.tup xs)) (rG:∀b o u,H b=some (.Bj o u)→H' b=some (.Bj o u)) (ud:∀b ps,H b=some (.Uq ps)→∃more,H' b=some (.Uq (ps++more)))
  (ns:∀m,s.heap.Ns X.env.locals m→h'.Ns X.env.locals m) (hok:qb X.prog X.w H' h') (hg:AllBare g'):
  Inv X pins σ H' { s with heap:=h',gens:=g',drawn:=d',toks:=t' }:=by
 have neL:∀b o,X.s₀.heap.get? b=some o→b≠X.env.locals:=fun b o e=>Nat.ne_of_lt (Nat.lt_of_lt_of_le (Heap.lt_size e) I.ok.above)
 have Zd:∀b o,X.s₀.heap.get? b=some o→b∉X.ex→b∉ch:=fun b o e hx hb=>by
  rcases (hch b hb).1 with z | z
  ·exact hx z
  ·exact absurd (Nat.lt_of_lt_of_le (Heap.lt_size e) z) (Nat.lt_irrefl _)
 have cellK:∀x c,X.env.cells.lookup x=some c→∀v,s.heap.IsCell c v→h'.IsCell c v:=fun x c e v aO=>by
  obtain ⟨o,ho,hd⟩:=aO
  have W5:c∉ch:=fun z=>(hch c z).2.2.1 x c e rfl
  by_cases hc:c∈X.fs
  ·obtain ⟨sl,q⟩:=slot c o (I.Ut x c e) hc W5 ho (I.mG x c e)
   exact ⟨_,q,hd⟩
  ·exact ⟨o,keep c o (I.Ut x c e) hc W5 ho (I.mG x c e),hd⟩
 refine ⟨I.ok,I.os,hg,⟨fun b o e n hb hx=>?_,fun b o e n hb hx=>?_,fun b o e n hx=>?_,fun b o e hx=>?_,fun b xs e=>tups b xs (I.base.tups b xs e),fun b o xs e=>rG b o xs (I.base.rG b o xs e),fun b ps e=>?_⟩,?_,fun x c e=>?_,?_,fun x c e=>?_,fun p hp=>?_,hok,I.len⟩
 ·exact keep b o (neL b o e) hb (Zd b o e hx) (I.base.keep b o e n hb hx) (I.base.free b o e n hx)
 ·obtain ⟨sl,e1⟩:=I.base.slot b o e n hb hx
  obtain ⟨sl',e2⟩:=slot b _ (neL b o e) hb (Zd b o e hx) e1 (I.base.free b o e n hx)
  exact ⟨sl',e2⟩
 ·obtain ⟨o',e1⟩:=I.base.there b o e hx
  exact free b o' (Zd b o e hx) e1 (I.base.free b o e n hx)
 ·obtain ⟨o',e1⟩:=I.base.there b o e hx
  exact there b o' (Zd b o e hx) e1
 ·obtain ⟨m1,e1⟩:=I.base.ud b ps e
  obtain ⟨m2,e2⟩:=ud b _ e1
  exact ⟨m1++m2,by rw [e2,Array.append_assoc]⟩
 ·obtain ⟨m,hn,hl⟩:=I.loc
  refine ⟨m,ns m hn,fun i x v e1 e2 e3=>?_⟩
  obtain ⟨u,r,l⟩:=hl i x v e1 e2 e3
  refine ⟨u,r,?_⟩
  rcases l with l | ⟨k,c,e,z⟩
  ·exact .inl l
  ·exact .inr ⟨k,c,e,cellK x c e _ z⟩
 ·obtain ⟨v,z⟩:=I.cell x c e
  exact ⟨v,cellK x c e v z⟩
 ·obtain ⟨m,⟨o,_,_,ho,_⟩,_⟩:=I.loc
  exact free _ o (fun z=>(hch _ z).2.1 rfl) ho I.free
 ·obtain ⟨v,o,ho,hd⟩:=I.cell x c e
  exact free c o (fun z=>(hch c z).2.2.1 x c e rfl) ho (I.mG x c e)
 ·obtain ⟨e,n,ne,nf,d⟩:=I.pin p hp
  have W5:p.1∉ch:=fun z=>(hch p.1 z).2.2.2 p hp rfl
  exact ⟨keep p.1 p.2 ne nf W5 e n,free p.1 p.2 W5 e n,ne,nf,d⟩
theorem Inv.un {t':Nat} (I:Inv X pins σ H s) (u:Un X.fs [] H H' s.heap h') (hok:qb X.prog X.w H' h'):Inv X pins σ H' { s with heap:=h',toks:=t' }:=by
 obtain ⟨m,⟨o,es,ep,ho,r⟩,_⟩:=id I.loc
 obtain ⟨sl,hL⟩:=u.any ho I.free (by simp)
 exact I.step (g':=s.gens) (d':=s.drawn) (ch:=[]) (fun _ z=>nomatch z) (fun b o _ hb _ e n=>u.keep b o e n hb (by simp)) (fun b o _ hb _ e n=>u.slot b o e n hb (by simp)) (fun b o _ e n=>u.free b o e n (by simp)) (fun b o _ e=>u.there b o e (by simp)) u.tups u.rG u.ud (fun m' hm=>by
  obtain ⟨o',es',ep',ho',r'⟩:=hm
  rw [ho] at ho'; cases ho'
  exact ⟨_,es',ep',hL,r'⟩) hok I.bare
theorem Inv.call {g':Array GenState} {t':Nat} {d':Drawn} {ch:List Addr} (I:Inv X pins σ H s) (u:Un (frs X.stack) ch H H' s.heap h') (hok:qb X.prog X.w H' h') (hg:AllBare g')
  (hch:∀b∈ch,(b∈X.ex∨X.s₀.heap.objs.size≤b)∧b≠X.env.locals∧(∀x c,X.env.cells.lookup x=some c→c≠b)∧∀p∈X.pn++pins,p.1≠b):
  Inv X pins σ H' { s with heap:=h',gens:=g',drawn:=d',toks:=t' }:=by
 obtain ⟨m,⟨o,es,ep,ho,r⟩,_⟩:=id I.loc
 obtain ⟨sl,hL⟩:=u.any ho I.free fun z=>(hch _ z).2.1 rfl
 exact I.step (ch:=ch) hch (fun b o hL hb hc e n=>u.keep b o e n (fun z=>(List.mem_cons.mp (I.rH b z)).elim hL hb) hc) (fun b o _ _ hc e n=>u.any e n hc) (fun b o hc e n=>u.free b o e n hc) (fun b o hc e=>u.there b o e hc) u.tups u.rG u.ud (fun m' hm=>by
  obtain ⟨o',es',ep',ho',r'⟩:=hm
  rw [ho] at ho'; cases ho'
  exact ⟨_,es',ep',hL,r'⟩) hok hg
theorem Inv.turned {t':Nat} {it:Addr} (I:Inv X pins σ H s) (k:∀b o,b≠it→s.heap.get? b=some o→h'.get? b=some o) (hn:H it=none) (hL:it≠X.env.locals)
  (h1:it∈X.ex∨X.s₀.heap.objs.size≤it) (h2:∀x c,X.env.cells.lookup x=some c→c≠it) (h3:∀p∈X.pn++pins,p.1≠it):Inv X pins σ H { s with heap:=h',toks:=t' }:=by
 have W6:∀b u,H b=some u→b≠it:=fun b u e z=>by rw [z,hn] at e; cases e
 refine I.step (g':=s.gens) (d':=s.drawn) (ch:=[it]) (fun b hb=>?_) (fun b o _ _ hc e _=>k b o (fun z=>hc (by simp [z])) e) (fun b o _ _ hc e _=>⟨o.slots,k b o (fun z=>hc (by simp [z])) e⟩) (fun _ _ _ _ n=>n)
  (fun b o hc e=>⟨o,k b o (fun z=>hc (by simp [z])) e⟩) (fun _ _ e=>e) (fun _ _ _ e=>e) (fun b ps e=>⟨#[],by rw [e]; simp⟩) (fun m hm=>?_) (fun b u e=>?_) I.bare
 ·have e:b=it:=by simpa using hb
  subst e
  exact ⟨h1,hL,h2,h3⟩
 ·obtain ⟨o,es,ep,ho,r⟩:=hm
  exact ⟨o,es,ep,k _ o (Ne.symm hL) ho,r⟩
 ·refine (I.hok b u e).stay (fun c v hc q=>k c v ?_ q) (fun _ q=>q) fun _ _ q=>q
  rcases hc with z | z
  ·rw [z]; exact W6 b u e
  ·exact W6 c _ z
theorem Inv.tok (I:Inv X pins σ H s) (t:Nat):Inv X pins σ H { s with toks:=t }:=I.un (h':=s.heap) (t':=t) Un.refl I.hok
theorem Inv.kept {t':Nat} (I:Inv X pins σ H s) (k:∀b u,s.heap.get? b=some u→h'.get? b=some u):Inv X pins σ H { s with heap:=h',toks:=t' }:=I.un (Un.kept k) (I.hok.kept k)
theorem Inv.laid {a:Addr} {o:HO} {t':Nat} (I:Inv X pins σ H s) (k:∀b u,s.heap.get? b=some u→h'.get? b=some u) (hp:s.heap.objs.size≤a) (new:bL X.prog X.w (upd H a o) h' a o):
  Inv X pins σ (upd H a o) { s with heap:=h',toks:=t' }:=I.un (Un.laid k hp (I.hok.fresh hp)) (I.hok.laid k hp new)
theorem Inv.write {x e:Addr} {o:HO} {t':Nat} (I:Inv X pins σ H s) (mu:W3 (H x)) (he:e=x∨H e=some (.own x)) (k:∀b u,b≠e→s.heap.get? b=some u→h'.get? b=some u) (heo:∃u,h'.get? e=some u)
  (new:bL X.prog X.w (upd H x o) h' x o):Inv X pins σ (upd H x o) { s with heap:=h',toks:=t' }:=I.un (Un.write mu he k heo) (I.hok.write mu he k heo new)
theorem Inv.weak {σ':List (Option V)} (I:Inv X pins σ H s) (hl:σ'.length=σ.length) (w:∀(i:Nat) v,σ'[i]?=some (some v)→σ[i]?=some (some v)):Inv X pins σ' H s:=
 ⟨I.ok,I.os,I.bare,I.base,let ⟨m,hn,hl'⟩:=I.loc; ⟨m,hn,fun i x v e1 e2 e3=>hl' i x v e1 (w i v e2) e3⟩,I.cell,I.free,I.mG,I.pin,I.hok,hl.trans I.len⟩
theorem Inv.Hi {Hj:List (Addr×Obj)} (I:Inv X pins σ H s) (h:∀p∈Hj,s.heap.get? p.1=some p.2∧H p.1=none∧p.1≠X.env.locals∧p.1∉X.fs∧∀v,p.2.data≠.cell v):Inv X Hj σ H s:=
 ⟨I.ok,I.os,I.bare,I.base,I.loc,I.cell,I.free,I.mG,fun p hp=>(List.mem_append.mp hp).elim (fun z=>I.pin p (List.mem_append_left _ z)) (h p),I.hok,I.len⟩
theorem Br {N:List Str} (hN:N.Nodup) {i j:Nat} {x:Str} (a:N[i]?=some x) (b:N[j]?=some x):i=j:=by
 obtain ⟨h1,e1⟩:=List.getElem?_eq_some_iff.mp a
 obtain ⟨h2,e2⟩:=List.getElem?_eq_some_iff.mp b
 exact (List.getElem_inj hN).mp (e1.trans e2.symm)
theorem xY {M:Model} {A:Around} {E:Value→Shared→Prop} {i:Nat} {x:Str} {v:V} {u:Value} {Q:Unit→Shared→Prop} (I:Inv X pins σ H s) (hN:X.N.Nodup) (hi:X.N[i]?=some x) (hx:Loc X.env.scope x) (r:RelV v u)
  (h:∀s',Inv X pins (σ.set i (some v)) H s'→(∃a,Heap.SameBut a s.heap s'.heap∧(a=X.env.locals∨X.env.cells.lookup x=some a))→Q () s') (hf:X.fn x=true∨X.env.scope.names.lookup x=some .local:=by first | exact .inl rfl | exact .inr rfl | assumption):wpAny M A (storeName X.env x u) Q E s:=by
 obtain ⟨m,hn,hl⟩:=id I.loc
 have hcls:(X.env.scope.kind==.class || (X.env.scope.kind==.module&&X.env.locals != X.env.globals))=false:=by rw [I.ok.kind]; rfl
 have hiσ:i < σ.length:=by rw [I.len]; exact (List.getElem?_eq_some_iff.mp hi).1
 have Ut:=I.Ut
 have tracked:∀{a:Addr} {h':Heap},(∃o,s.heap.get? a=some o∧H a=none)→Heap.SameBut a s.heap h'→qb X.prog X.w H h':=fun {a h'} ha hs b ob e=>by
  obtain ⟨_,_,hfree⟩:=ha
  refine (I.hok b ob e).stay (fun c w' hc q=>(hs.2 c ?_).trans q) (fun _ q=>q) fun _ _ q=>q
  rintro rfl
  rcases hc with rfl | hc
  ·rw [hfree] at e; cases e
  ·rw [hfree] at hc; cases hc
 rcases hx with hk | hk
 ·refine wpAny_storeName_local hk hn (fun h' hn' hs=>?_) hcls
  obtain ⟨oL,_,_,hoL,_⟩:=id hn
  refine h _ ⟨I.ok,I.os,I.bare,⟨fun b o e n hb hx=>?_,fun b o e n hb hx=>?_,I.base.free,fun b o e hx=>?_,I.base.tups,I.base.rG,I.base.ud⟩,⟨_,hn',fun j y v' e1 e2 e3=>?_⟩,fun y c e=>?_,I.free,I.mG,fun p hp=>?_,tracked ⟨oL,hoL,I.free⟩ hs,by simpa using I.len⟩ ⟨_,hs,.inl rfl⟩
  ·exact (hs.2 b (Nat.ne_of_lt (Nat.lt_of_lt_of_le (Heap.lt_size e) I.ok.above))).trans (I.base.keep b o e n hb hx)
  ·obtain ⟨sl,e1⟩:=I.base.slot b o e n hb hx
   exact ⟨sl,(hs.2 b (Nat.ne_of_lt (Nat.lt_of_lt_of_le (Heap.lt_size e) I.ok.above))).trans e1⟩
  ·obtain ⟨o',e1⟩:=I.base.there b o e hx
   exact ⟨o',(hs.2 b (Nat.ne_of_lt (Nat.lt_of_lt_of_le (Heap.lt_size e) I.ok.above))).trans e1⟩
  ·by_cases hj:j=i
   ·subst hj
    rw [hi] at e1; cases e1
    rw [List.getElem?_set_self hiσ] at e2
    cases e2
    exact ⟨u,r,.inl ⟨hk,by simp⟩⟩
   ·rw [List.getElem?_set_ne (Ne.symm hj)] at e2
    obtain ⟨u',r',q⟩:=hl j y v' e1 e2 e3
    refine ⟨u',r',?_⟩
    rcases q with ⟨k,e⟩ | ⟨k,c,e,z⟩
    ·refine .inl ⟨k,?_⟩
     have:y≠x:=fun e=>hj (Br hN e1 (e ▸ hi))
     simp [this,e]
    ·exact .inr ⟨k,c,e,z.sameBut hs (Ut y c e)⟩
  ·obtain ⟨w',z⟩:=I.cell y c e
   exact ⟨w',z.sameBut hs (Ut y c e)⟩
  ·obtain ⟨e,n,ne,nf,d⟩:=I.pin p hp
   exact ⟨(hs.2 p.1 ne).trans e,n,ne,nf,d⟩
 ·have hfn:X.fn x=true:=by
   rcases hf with z | z
   ·exact z
   ·rw [z] at hk; cases hk
  obtain ⟨c,hc⟩:=I.ok.has x (.inl hk)
  obtain ⟨w',z⟩:=I.cell x c hc
  refine wpAny_storeName_cell I.ok.kind hk hc z (fun h' hc' hs=>?_)
  obtain ⟨oc,hoc,ZW⟩:=id z
  refine h { s with heap:=h' } ⟨I.ok,I.os,I.bare,⟨fun b o e n hb hx=>?_,fun b o e n hb hx=>?_,I.base.free,fun b o e hx=>?_,I.base.tups,I.base.rG,I.base.ud⟩,⟨m,hn.sameBut hs (Ne.symm (Ut x c hc)),fun j y v' e1 e2 e3=>?_⟩,fun y c' e=>?_,I.free,I.mG,fun p hp=>?_,tracked ⟨oc,hoc,I.mG x c hc⟩ hs,by simpa using I.len⟩ ⟨c,hs,.inr hc⟩
  ·exact (hs.2 b (Nat.ne_of_lt (Nat.lt_of_lt_of_le (Heap.lt_size e) (I.ok.cab x c hfn hc)))).trans (I.base.keep b o e n hb hx)
  ·obtain ⟨sl,e1⟩:=I.base.slot b o e n hb hx
   exact ⟨sl,(hs.2 b (Nat.ne_of_lt (Nat.lt_of_lt_of_le (Heap.lt_size e) (I.ok.cab x c hfn hc)))).trans e1⟩
  ·obtain ⟨o',e1⟩:=I.base.there b o e hx
   exact ⟨o',(hs.2 b (Nat.ne_of_lt (Nat.lt_of_lt_of_le (Heap.lt_size e) (I.ok.cab x c hfn hc)))).trans e1⟩
  ·by_cases hj:j=i
   ·subst hj
    rw [hi] at e1; cases e1
    rw [List.getElem?_set_self hiσ] at e2
    cases e2
    exact ⟨u,r,.inr ⟨.inl hk,c,hc,hc'⟩⟩
   ·rw [List.getElem?_set_ne (Ne.symm hj)] at e2
    obtain ⟨u',r',q⟩:=hl j y v' e1 e2 e3
    refine ⟨u',r',?_⟩
    rcases q with q | ⟨k,c',e,z'⟩
    ·exact .inl q
    ·refine .inr ⟨k,c',e,z'.sameBut hs ?_⟩
     rintro rfl
     exact hj (Br hN e1 (I.ok.inj _ _ _ e hc ▸ hi))
  ·by_cases hcc:c'=c
   ·subst hcc; exact ⟨_,hc'⟩
   ·obtain ⟨w2,z2⟩:=I.cell y c' e
    exact ⟨w2,z2.sameBut hs hcc⟩
  ·obtain ⟨e,n,ne,nf,d⟩:=I.pin p hp
   refine ⟨(hs.2 p.1 ?_).trans e,n,ne,nf,d⟩
   intro q
   rw [q,hoc] at e
   have q':oc=p.2:=Option.some.inj e
   exact d w' (by rw [←q']; exact ZW)
theorem dZ {M:Model} {A:Around} {E:Value→Shared→Prop} {i:Nat} {x:Str} {v:V} {u:Value} {Q:Unit→Shared→Prop} (I:Inv X pins σ H s) (hN:X.N.Nodup) (hi:X.N[i]?=some x) (hx:Loc X.env.scope x) (r:RelV v u)
  (h:∀s',Inv X pins (σ.set i (some v)) H s'→Q () s') (hf:X.fn x=true∨X.env.scope.names.lookup x=some .local:=by first | exact .inl rfl | exact .inr rfl | assumption):wpAny M A (storeName X.env x u) Q E s:=
 xY I hN hi hx r (fun s' I' _=>h s' I') hf
theorem Inv.call' {s':Shared} {ch:List Addr} (I:Inv X pins σ H s) (ho:s'.os=s.os) (u:Un (frs X.stack) ch H H' s.heap s'.heap) (hok:qb X.prog X.w H' s'.heap) (hg:AllBare s'.gens)
  (hch:∀b∈ch,(b∈X.ex∨X.s₀.heap.objs.size≤b)∧b≠X.env.locals∧(∀x c,X.env.cells.lookup x=some c→c≠b)∧∀p∈X.pn++pins,p.1≠b):Inv X pins σ H' s':=by
 obtain ⟨h',g',d',t',o'⟩:=s'
 have e:o'=s.os:=ho
 subst e
 exact I.call (g':=g') (t':=t') (d':=d') u hok hg hch
end
noncomputable abbrev XK:=Value→Option Addr→Hp→Prop
noncomputable abbrev St:=List (Option V)
noncomputable abbrev VK:=V→Hp→Prop
noncomputable abbrev TE:=St→Hp→VK→Prop
noncomputable abbrev TT:=St→Hp→(Bool→Hp→Prop)→Prop
noncomputable abbrev TA:=St→Hp→(List V→Hp→Prop)→Prop
structure Ends where
 nx:St→Hp→Prop
 rt:VK
 bk:St→Hp→Prop:=fun _ _=>False
 ct:St→Hp→Prop:=fun _ _=>False
noncomputable abbrev TS:=Ends→St→Hp→Prop
noncomputable def EP (X:Cx) (pins:List (Addr×Obj)) (σ:St) (Q:VK) (u:Value) (s':Shared):Prop:=∃v H',Inv X pins σ H' s'∧RelV v u∧Q v H'
noncomputable def TP (X:Cx) (pins:List (Addr×Obj)) (σ:St) (Q:Bool→Hp→Prop) (b:Bool) (s':Shared):Prop:=∃H',Inv X pins σ H' s'∧Q b H'
noncomputable def AP (X:Cx) (pins:List (Addr×Obj)) (σ:St) (Q:List V→Hp→Prop) (us:List Value) (s':Shared):Prop:=∃vs H',Inv X pins σ H' s'∧Vals vs us∧Q vs H'
noncomputable def SP (X:Cx) (pins:List (Addr×Obj)) (D:Ends) (f:Flow) (s':Shared):Prop:=
 match f with
 | .next=>∃σ' H',Inv X pins σ' H' s'∧D.nx σ' H'
 | .brk=>∃σ' H',Inv X pins σ' H' s'∧D.bk σ' H'
 | .cont=>∃σ' H',Inv X pins σ' H' s'∧D.ct σ' H'
 | .ret u=>∃v σ' H',Inv X pins σ' H' s'∧RelV v u∧D.rt v H'
noncomputable def PE (X:Cx) (e:Expr) (t:TE):Prop:=
 ∀(pins:List (Addr×Obj)) (s:Shared) (σ:St) (H:Hp) (Q:VK),Inv X pins σ H s→t σ H Q→wpAny (model X.prog X.w) X.A (eval e X.env) (EP X pins σ Q) X.xe s
noncomputable def PT (X:Cx) (e:Expr) (t:TT):Prop:=
 ∀(pins:List (Addr×Obj)) (s:Shared) (σ:St) (H:Hp) (Q:Bool→Hp→Prop),Inv X pins σ H s→t σ H Q→wpAny (model X.prog X.w) X.A (isTrue e X.env (eval e X.env)) (TP X pins σ Q) X.xe s
noncomputable def PW (X:Cx) (e:Expr) (t:TT):Prop:=
 ∀(whole:Sem Value) (pins:List (Addr×Obj)) (s:Shared) (σ:St) (H:Hp) (Q:Bool→Hp→Prop),Inv X pins σ H s→t σ H Q→wpAny (model X.prog X.w) X.A (isTrue e X.env whole) (TP X pins σ Q) X.xe s
theorem PW.pt {X:Cx} {e:Expr} {t:TT} (h:PW X e t):PT X e t:=h _
noncomputable def PA (X:Cx) (es:List Expr) (t:TA):Prop:=
 ∀(pos:Pos) (pins:List (Addr×Obj)) (s:Shared) (σ:St) (H:Hp) (Q:List V→Hp→Prop),Inv X pins σ H s→t σ H Q→wpAny (model X.prog X.w) X.A (spliced (backTo pos (starEach es X.env))) (AP X pins σ Q) X.xe s
noncomputable def PS (X:Cx) (st:Stmt) (t:TS):Prop:=
 ∀(pins:List (Addr×Obj)) (s:Shared) (σ:St) (H:Hp) (D:Ends),Inv X pins σ H s→t D σ H→wpAny (model X.prog X.w) X.A (exec st X.env) (SP X pins D) X.xe s
noncomputable def ug (X:Cx) (st:List Stmt) (t:TS):Prop:=
 ∀(pins:List (Addr×Obj)) (s:Shared) (σ:St) (H:Hp) (D:Ends),Inv X pins σ H s→t D σ H→wpAny (model X.prog X.w) X.A (execs st X.env) (SP X pins D) X.xe s
theorem cR {α:Type} {t:Sem α} {Q Q':α→Shared→Prop} {M:Model} {A:Around} {E:Value→Shared→Prop} {s:Shared} (h:wpAny M A t Q E s) (hQ:∀a s,Q a s→Q' a s):wpAny M A t Q' E s:=wpAny_mono h hQ fun _ _ x=>x
end L2
namespace L2
open PySem PySem.Spec PyProof.Rows
section
variable {X:Cx}
noncomputable def rJ (i:Nat):TE:=fun σ H Q=>∃v,σ[i]?=some (some v)∧Q v H
noncomputable def tC (v:V):TE:=fun _ H Q=>Q v H
theorem Uu {i:Nat} {x:Str} {pos:Pos} (hN:X.N[i]?=some x) (hv:Zc X.env.scope x) (hd:(x==("__debug__":Str))=false:=by decide) (hcd:(x==("__classdict__":Str))=false:=by decide):PE X (.Name x pos) (rJ i):=by
 intro pins s σ H Q I h
 obtain ⟨v,e,h⟩:=h
 obtain ⟨m,hn,hl⟩:=I.loc
 obtain ⟨u,r,l⟩:=hl i x v hN e hv
 have fin:EP X pins σ Q u s:=⟨v,H,I,r,h⟩
 rcases l with ⟨hk,hm⟩ | ⟨hk,c,hc,hcell⟩
 ·exact wpAny_Name (wpAny_loadName_local I.ok.kind hk hn hm fin) hd
 ·rcases hk with hk | hk
  ·exact wpAny_Name (wpAny_loadName_cell I.ok.kind hk hc hcell fin) hd
  ·exact wpAny_Name (wpAny_loadName_free I.ok.kind hk hc hcell fin hcd) hd
theorem az {i j pos}:PE X (.Constant (.int i) j pos) (tC (.int i)):=fun _ _ _ H _ I h=>wpAny_Constant_int ⟨.int i,H,I.tok _,⟨_,rfl⟩,h⟩
theorem xZ {b j pos}:PE X (.Constant (.bool b) j pos) (tC (.bl b)):=fun _ _ _ H _ I h=>Constant_bool ⟨.bl b,H,I,rfl,h⟩
theorem rK {j pos}:PE X (.Constant .none j pos) (tC .non):=fun _ _ _ H _ I h=>Constant_none ⟨.non,H,I,rfl,h⟩
theorem uL {x j pos}:PE X (.Constant (.str x) j pos) (tC (.str x)):=fun _ _ _ H _ I h=>Calls.Constant_str ⟨.str x,H,I.tok _,⟨_,rfl⟩,h⟩
noncomputable def Gl (X:Cx) (x:Str):Prop:=X.env.kindOf x=some .globalImplicit
theorem Qz {E:Value→Shared→Prop} {pins:List (Addr×Obj)} {s:Shared} {σ:St} {H:Hp} {x:Str} {u:Value} {pos:Pos} {Q:Value→Shared→Prop} (I:Inv X pins σ H s) (hg:Gl X x) (hm:X.mg x=some u) (h:Q u s)
  (hd:(x==("__debug__":Str))=false:=by decide):wpAny (model X.prog X.w) X.A (eval (.Name x pos) X.env) Q E s:=
 Calls.Name_function_global I.ok.kind hg (Calls.loadGlobal_global (by rw [I.ok.glob]; exact I.mod.glob.keeps I.bk) hm h) hd
theorem kj {E:Value→Shared→Prop} {pins:List (Addr×Obj)} {s:Shared} {σ:St} {H:Hp} {x:Str} {u:Value} {pos:Pos} {Q:Value→Shared→Prop} (I:Inv X pins σ H s) (hg:Gl X x) (hm:X.mg x=none) (hv:bootBuiltins x=some u) (h:Q u s)
  (hn:x≠"__name__":=by decide) (hd:(x==("__debug__":Str))=false:=by decide):wpAny (model X.prog X.w) X.A (eval (.Name x pos) X.env) Q E s:=by
 obtain ⟨mb,h1,h2⟩:=I.mod.blt
 exact Calls.Name_function_global I.ok.kind hg (Calls.loadGlobal_builtin (by rw [I.ok.glob]; exact I.mod.glob.keeps I.bk) hm (by rw [I.ok.blt]; exact h1.keeps I.bk) ((h2 x hn).trans hv) h) hd
theorem dH {x:Str} {v:V} {u:Value} {pos:Pos} (hg:Gl X x) (hm:X.mg x=none) (hv:bootBuiltins x=some u) (r:RelV v u) (hn:x≠"__name__":=by decide) (hd:(x==("__debug__":Str))=false:=by decide):PE X (.Name x pos) (tC v):=
 fun _ _ _ H _ I h=>kj I hg hm hv ⟨v,H,I,r,h⟩ hn hd
variable {a b:Expr} {ta tb:TE} {pos:Pos}
variable {tA Ze:TT} {rest:List Expr}
noncomputable def W7 (t u:TT):TT:=fun σ H Q=>t σ H fun c H1=>if c=true then u σ H1 Q else Q false H1
noncomputable def tOr (t u:TT):TT:=fun σ H Q=>t σ H fun c H1=>if c=true then Q true H1 else u σ H1 Q
noncomputable def ZX (t:TT):TT:=fun σ H Q=>t σ H fun c H1=>Q (!c) H1
theorem pw_and1 (ha:PT X a tA):PW X (.BoolOp .And [a] pos) tA:=by
 intro wh pins s σ H Q I h
 refine isTrue_and (cR (ha pins s σ H Q I h) fun c s1 e=>?_)
 cases c with
 | true=>exact isTrue_and_nil e
 | false=>exact e
theorem pw_or1 (ha:PT X a tA):PW X (.BoolOp .Or [a] pos) tA:=by
 intro wh pins s σ H Q I h
 refine isTrue_or (cR (ha pins s σ H Q I h) fun c s1 e=>?_)
 cases c with
 | false=>exact isTrue_or_nil e
 | true=>exact e
theorem pw_and (ha:PT X a tA) (hb:PW X (.BoolOp .And (b::rest) pos) Ze):PW X (.BoolOp .And (a::b::rest) pos) (W7 tA Ze):=by
 intro wh pins s σ H Q I h
 refine isTrue_and (cR (ha pins s σ H _ I h) fun c s1 aO=>?_)
 obtain ⟨H1,I1,q1⟩:=aO
 cases c with
 | true=>exact hb wh pins s1 σ H1 Q I1 q1
 | false=>exact ⟨H1,I1,q1⟩
theorem pw_or (ha:PT X a tA) (hb:PW X (.BoolOp .Or (b::rest) pos) Ze):PW X (.BoolOp .Or (a::b::rest) pos) (tOr tA Ze):=by
 intro wh pins s σ H Q I h
 refine isTrue_or (cR (ha pins s σ H _ I h) fun c s1 aO=>?_)
 obtain ⟨H1,I1,q1⟩:=aO
 cases c with
 | true=>exact ⟨H1,I1,q1⟩
 | false=>exact hb wh pins s1 σ H1 Q I1 q1
theorem Uv (ha:PT X a tA):PT X (.UnaryOp .Not a pos) (ZX tA):=by
 intro pins s σ H Q I h
 exact isTrue_not (ha pins s σ H (fun c H1=>Q (!c) H1) I h)
noncomputable def W8 (ta tb:TE):TE:=fun σ H Q=>ta σ H fun x H1=>∃c,x=.bl c∧if c=true then tb σ H1 Q else Q (.bl false) H1
noncomputable def W9 (ta:TE):TE:=fun σ H Q=>ta σ H fun x H1=>∃c,x=.bl c∧Q (.bl (!c)) H1
theorem Uw {op} {t:TE} (h:PE X a t):PE X (.BoolOp op [a] pos) t:=fun pins s σ H Q I hw=>BoolOp_one (h pins s σ H Q I hw)
theorem Ux (ha:PE X a ta) (hb:PE X (.BoolOp .And (b::rest) pos) tb):PE X (.BoolOp .And (a::b::rest) pos) (W8 ta tb):=by
 intro pins s σ H Q I h
 refine BoolOp_and (cR (ha pins s σ H _ I h) fun v s1 aO=>?_)
 obtain ⟨x,H1,I1,r1,q1⟩:=aO
 obtain ⟨c,rfl,q1⟩:=q1
 cases r1
 refine wpAny_truthy_bool ?_
 cases c with
 | true=>exact hb pins s1 σ H1 Q I1 q1
 | false=>exact ⟨.bl false,H1,I1,rfl,q1⟩
theorem Uy (ha:PE X a ta):PE X (.UnaryOp .Not a pos) (W9 ta):=by
 intro pins s σ H Q I h
 refine UnaryOp_ (cR (ha pins s σ H _ I h) fun v s1 aO=>?_)
 obtain ⟨x,H1,I1,r1,q1⟩:=aO
 obtain ⟨c,rfl,q1⟩:=q1
 cases r1
 exact not_of (wpAny_truthy_bool ⟨.bl (!c),H1,I1,rfl,q1⟩)
noncomputable def tIf (t:TT) (ta tb:TE):TE:=fun σ H Q=>t σ H fun c H1=>if c=true then ta σ H1 Q else tb σ H1 Q
theorem Lk {c:Expr} (hc:PT X c tA) (ha:PE X a ta) (hb:PE X b tb):PE X (.IfExp c a b pos) (tIf tA ta tb):=by
 intro pins s σ H Q I h
 refine wpAny_IfExp (cR (hc pins s σ H _ I h) fun d s1 aO=>?_)
 obtain ⟨H1,I1,q1⟩:=aO
 cases d with
 | true=>exact ha pins s1 σ H1 Q I1 q1
 | false=>exact hb pins s1 σ H1 Q I1 q1
end
end L2
namespace L2
open PySem PySem.Spec PyProof.Rows
noncomputable def cM (K:PySem.W.Frag) (H:Hp) (a:Addr) (xs:List V):Prop:=
 Rd H a (.lst xs)∨
  ∃(o:Obj) (its:Array Value) (n:Nat),K.lookup a=some o∧o.cls=.type "list"∧o.dict=none∧o.data=.seq its n∧its.size≤sizeLine∧Vals xs its.toList
noncomputable def ig (K:PySem.W.Frag) (H:Hp) (a:Addr) (xs:List V):Prop:=
 Rd H a (.tup xs)∨
  ∃(o:Obj) (its:Array Value) (n:Nat),K.lookup a=some o∧o.cls=.type "tuple"∧o.data=.seq its n∧its.size≤sizeLine∧Vals xs its.toList
noncomputable def ZZ:Value→Option V
 | .none=>some .non
 | .bool b=>some (.bl b)
 | .int i _=>some (.int i)
 | .str x _=>some (.str x)
 | .bytes b _=>some (.Jz b)
 | .float b _=>some (.flt b)
 | .ref a=>some (.ref a)
 | .type n=>some (.ty n)
 | _=>none
theorem RelV.abs {x:V} {u:Value} (r:RelV x u):ZZ u=some x:=by
 cases x with
 | non=>cases r; rfl
 | bl _=>cases r; rfl
 | int _=>obtain ⟨t,rfl⟩:=r; rfl
 | str _=>obtain ⟨t,rfl⟩:=r; rfl
 | Jz _=>obtain ⟨t,rfl⟩:=r; rfl
 | flt _=>obtain ⟨t,rfl⟩:=r; rfl
 | ref _=>cases r; rfl
 | ty _=>cases r; rfl
theorem RelV.inj {x y:V} {u:Value} (r:RelV x u) (q:RelV y u):x=y:=Option.some.inj (r.abs.symm.trans q.abs)
theorem Vals.inj:∀{xs ys:List V} {us:List Value},Vals xs us→Vals ys us→xs=ys
 | _,_,_,.nil,.nil=>rfl
 | _,_,_,.cons r t,.cons r' t'=>by rw [r.inj r',Vals.inj t t']
section
variable {X:Cx} {pins:List (Addr×Obj)} {σ:St} {H:Hp} {s:Shared} {a:Addr} {xs ys:List V}
theorem cM.of {K:PySem.W.Frag} (h:H a=some (.lst xs)):cM K H a xs:=.inl (.inl h)
theorem ig.of {K:PySem.W.Frag} (h:H a=some (.tup xs)):ig K H a xs:=.inl (.inl h)
theorem Inv.list (I:Inv X pins σ H s) (h:cM X.K H a xs):∃its:List Value,Vals xs its∧PlainL s.heap a its.toArray∧xs.length≤sizeLine:=by
 rcases h with h | ⟨o,its,n,hk,hc,hd,hs,hz,r⟩
 ·obtain ⟨z,its,n,r,e⟩:=h.ok I.hok
  exact ⟨its,r,⟨_,n,e,rfl,rfl,rfl⟩,z⟩
 ·refine ⟨its.toList,r,⟨o,n,I.rE a o hk,hc,hd,by simpa using hs⟩,?_⟩
  have e:=r.length
  simp only [Array.length_toList] at e
  omega
theorem Inv.tuple (I:Inv X pins σ H s) (h:ig X.K H a xs):∃its:List Value,Vals xs its∧IsTup s.heap a its.toArray∧xs.length≤sizeLine:=by
 rcases h with h | ⟨o,its,n,hk,hc,hs,hz,r⟩
 ·obtain ⟨z,its,r,p⟩:=h.ok I.hok
  exact ⟨its,r,p,z⟩
 ·refine ⟨its.toList,r,⟨o,I.rE a o hk,hc,n,by simpa using hs⟩,?_⟩
  have e:=r.length
  simp only [Array.length_toList] at e
  omega
theorem Inv.qe (I:Inv X pins σ H s) (h:cM X.K H a xs) (h':cM X.K H a ys):xs=ys:=by
 obtain ⟨its,r,⟨o,n,e,_,_,d⟩,_⟩:=I.list h
 obtain ⟨its',r',⟨o',n',e',_,_,d'⟩,_⟩:=I.list h'
 rw [e] at e'; cases e'
 rw [d] at d'
 injection d' with d1 _
 have:its=its':=by simpa using congrArg Array.toList d1
 subst this
 exact r.inj r'
theorem Inv.JC (I:Inv X pins σ H s) (h:ig X.K H a xs) (h':ig X.K H a ys):xs=ys:=by
 obtain ⟨its,r,⟨o,e,_,n,d⟩,_⟩:=I.tuple h
 obtain ⟨its',r',⟨o',e',_,n',d'⟩,_⟩:=I.tuple h'
 rw [e] at e'; cases e'
 rw [d] at d'
 injection d' with d1 _
 have:its=its':=by simpa using congrArg Array.toList d1
 subst this
 exact r.inj r'
end
noncomputable abbrev Cx.wish (X:Cx) (E:Value→Shared→Prop):Cx:={ X with xe:=E }
noncomputable abbrev Cx.QB (X:Cx):Cx:=X.wish fun _ _=>False
theorem Cx.Ok.wish {X:Cx} (ok:X.Ok) (E:Value→Shared→Prop):(X.wish E).Ok:=
 ⟨ok.mod,ok.kind,ok.glob,ok.blt,ok.above,ok.inj,ok.has,ok.cab,ok.hd,ok.frames,ok.stk,ok.exf,ok.bs,ok.Qq,ok.Lj,ok.Qy,ok.uf,ok.Us⟩
theorem Cx.Ok.jD {X:Cx} {E:Value→Shared→Prop} (ok:(X.wish E).Ok):X.Ok:=
 ⟨ok.mod,ok.kind,ok.glob,ok.blt,ok.above,ok.inj,ok.has,ok.cab,ok.hd,ok.frames,ok.stk,ok.exf,ok.bs,ok.Qq,ok.Lj,ok.Qy,ok.uf,ok.Us⟩
section
variable {X:Cx} {pins:List (Addr×Obj)} {σ:St} {H:Hp} {s:Shared} {E:Value→Shared→Prop}
theorem Inv.wish (I:Inv X pins σ H s) (E:Value→Shared→Prop):Inv (X.wish E) pins σ H s:=⟨I.ok.wish E,I.os,I.bare,I.base,I.loc,I.cell,I.free,I.mG,I.pin,I.hok,I.len⟩
theorem Inv.jD (I:Inv (X.wish E) pins σ H s):Inv X pins σ H s:=⟨I.ok.jD,I.os,I.bare,I.base,I.loc,I.cell,I.free,I.mG,I.pin,I.hok,I.len⟩
theorem SP.jD {D:Ends} {f:Flow} {s':Shared} (h:SP (X.wish E) pins D f s'):SP X pins D f s':=by
 cases f with
 | next=>obtain ⟨σ',H',I,q⟩:=h; exact ⟨σ',H',I.jD,q⟩
 | brk=>obtain ⟨σ',H',I,q⟩:=h; exact ⟨σ',H',I.jD,q⟩
 | cont=>obtain ⟨σ',H',I,q⟩:=h; exact ⟨σ',H',I.jD,q⟩
 | ret u=>obtain ⟨v,σ',H',I,r,q⟩:=h; exact ⟨v,σ',H',I.jD,r,q⟩
theorem PE.QB {e:Expr} {t:TE} (h:PE X.QB e t):PE X e t:=fun pins s σ H Q I hw=>
 wpAny_mono (h pins s σ H Q (I.wish _) hw) (fun _ _ ⟨v,H',I',r,q⟩=>⟨v,H',I'.jD,r,q⟩) fun _ _ z=>False.elim z
theorem PT.QB {e:Expr} {t:TT} (h:PT X.QB e t):PT X e t:=fun pins s σ H Q I hw=>
 wpAny_mono (h pins s σ H Q (I.wish _) hw) (fun _ _ ⟨H',I',q⟩=>⟨H',I'.jD,q⟩) fun _ _ z=>False.elim z
theorem ug.QB {st:List Stmt} {t:TS} (h:ug X.QB st t):ug X st t:=fun pins s σ H D I hw=>
 wpAny_mono (h pins s σ H D (I.wish _) hw) (fun _ _ q=>q.jD) fun _ _ z=>False.elim z
end
section
variable {X:Cx} {st:Stmt} {rest:List Stmt} {t u:TS} {e:Expr} {te:TE} {pos:Pos}
noncomputable def Xa:TS:=fun D σ H=>D.nx σ H
noncomputable def Xb (t u:TS):TS:=fun D σ H=>t { D with nx:=u D } σ H
theorem QC:ug X [] Xa:=fun _ _ σ H _ I h=>wpAny_execs_nil ⟨σ,H,I,h⟩
theorem Ln (h1:PS X st t) (h2:ug X rest u):ug X (st::rest) (Xb t u):=by
 intro pins s σ H D I h
 refine wpAny_execs_cons (cR (h1 pins s σ H { D with nx:=u D } I h) fun f s1 q=>?_)
 cases f with
 | next=>
  obtain ⟨σ',H',I',q⟩:=q
  exact h2 pins s1 σ' H' D I' q
 | ret v=>exact q
 | brk=>exact q
 | cont=>exact q
theorem QD (h1:PS X st t):ug X [st] t:=by
 intro pins s σ H D I h
 refine wpAny_execs_cons (cR (h1 pins s σ H D I h) fun f s1 q=>?_)
 cases f with
 | next=>exact wpAny_execs_nil q
 | ret v=>exact q
 | brk=>exact q
 | cont=>exact q
theorem Inv.quiet {pins:List (Addr×Obj)} {σ:St} {H:Hp} {s:Shared} (I:Inv X pins σ H s):interactive X.env=false:=by simp [interactive,I.ok.kind]
noncomputable def Xc (te:TE):TS:=fun D σ H=>te σ H fun _ H1=>D.nx σ H1
theorem zc (he:PE X e te) (hs:swapsWith e none pos.line X.env=pure false:=by rfl):PS X (.Expr e pos) (Xc te):=by
 intro pins s σ H D I h
 exact wpAny_Expr_any (cR (he pins s σ H _ I h) fun v s1 ⟨x,H1,I1,r1,q1⟩=>⟨σ,H1,I1,q1⟩) I.quiet hs
noncomputable def Z0 (te:TE):TS:=fun D σ H=>te σ H D.rt
theorem Lp (he:PE X e te):PS X (.Return (some e) pos) (Z0 te):=by
 intro pins s σ H D I h
 exact wpAny_Return_some (cR (he pins s σ H _ I h) fun v s1 ⟨x,H1,I1,r1,q1⟩=>⟨x,σ,H1,I1,r1,q1⟩)
noncomputable def Z1 (c:TT) (t u:TS):TS:=fun D σ H=>c σ H fun b H1=>if b=true then t D σ H1 else u D σ H1
theorem Xd {c:Expr} {a b:List Stmt} {tc:TT} (hc:PT X c tc) (ha:ug X a t) (hb:ug X b u):PS X (.If c a b pos) (Z1 tc t u):=by
 intro pins s σ H D I h
 refine wpAny_If (cR (hc pins s σ H _ I h) fun d s1 aO=>?_)
 obtain ⟨H1,I1,q1⟩:=aO
 cases d with
 | true=>exact ha pins s1 σ H1 D I1 q1
 | false=>exact hb pins s1 σ H1 D I1 q1
end
noncomputable abbrev TG:=V→St→Hp→(St→Hp→Prop)→Prop
noncomputable abbrev Lq:=List V→St→Hp→(St→Hp→Prop)→Prop
noncomputable def PG (X:Cx) (target:Expr) (t:TG):Prop:=
 ∀(pins:List (Addr×Obj)) (s:Shared) (σ:St) (H:Hp) (v:V) (u:Value) (Q:St→Hp→Prop),Inv X pins σ H s→RelV v u→t v σ H Q→
  wpAny (model X.prog X.w) X.A (assign target X.env u) (fun _ s'=>∃σ' H',Inv X pins σ' H' s'∧Q σ' H') X.xe s
noncomputable def Zf (X:Cx) (ts:List Expr) (t:Lq):Prop:=
 ∀(pins:List (Addr×Obj)) (s:Shared) (σ:St) (H:Hp) (vs:List V) (us:List Value) (Q:St→Hp→Prop),Inv X pins σ H s→Vals vs us→t vs σ H Q→
  wpAny (model X.prog X.w) X.A (assignInOrder ((assignEach ts X.env).map (·.2)) us) (fun _ s'=>∃σ' H',Inv X pins σ' H' s'∧Q σ' H') X.xe s
noncomputable abbrev QF:=V→V→V→Hp→(Hp→Prop)→Prop
noncomputable def zf (X:Cx) (t:QF):Prop:=
 ∀(pins:List (Addr×Obj)) (s:Shared) (σ:St) (H:Hp) (o i v:V) (ov iv u:Value) (Q:Hp→Prop),Inv X pins σ H s→RelV o ov→RelV i iv→RelV v u→t o i v H Q→
  wpAny (model X.prog X.w) X.A (setItem ov iv u) (fun _ s'=>∃H',Inv X pins σ H' s'∧Q H') X.xe s
noncomputable abbrev Zg:=V→V→Hp→VK→Prop
noncomputable def PIp (X:Cx) (op:Operator) (t:Zg):Prop:=
 ∀(pins:List (Addr×Obj)) (s:Shared) (σ:St) (H:Hp) (x y:V) (v u:Value) (Q:VK),Inv X pins σ H s→RelV x v→RelV y u→t x y H Q→
  wpAny (model X.prog X.w) X.A (inplaceOp op v u) (EP X pins σ Q) X.xe s
section
variable {X:Cx} {pos:Pos}
noncomputable def uM (i:Nat):TG:=fun v σ H Q=>Q (σ.set i (some v)) H
theorem cX {i:Nat} {x:Str} (hN:X.N.Nodup) (hi:X.N[i]?=some x) (hx:Loc X.env.scope x) (hf:X.fn x=true∨X.env.scope.names.lookup x=some .local:=by first | exact .inl rfl | exact .inr rfl | assumption):PG X (.Name x pos) (uM i):=by
 intro pins s σ H v u Q I r h
 exact wpAny_assign_Name (dZ I hN hi hx r (fun s' I'=>⟨_,H,I',h⟩) hf)
noncomputable def Uz:Lq:=fun vs σ H Q=>vs=[]∧Q σ H
noncomputable def Lr (t:TG) (u:Lq):Lq:=fun vs σ H Q=>∃v r,vs=v::r∧t v σ H fun σ' H'=>u r σ' H' Q
theorem uw:Zf X [] Uz:=by
 intro pins s σ H vs us Q I r h
 obtain ⟨e,h⟩:=h
 subst e
 cases r
 exact assignInOrder_nil ⟨σ,H,I,h⟩
theorem gK {e:Expr} {es:List Expr} {t:TG} {u:Lq} (h1:PG X e t) (h2:Zf X es u)
  (hs:(assignEach (e::es) X.env).map (·.2)=assign e X.env::(assignEach es X.env).map (·.2):=by rfl):Zf X (e::es) (Lr t u):=by
 intro pins s σ H vs us Q I r h
 obtain ⟨v,vr,e1,h⟩:=h
 subst e1
 cases r with
 | cons r rr=>
  rw [hs]
  refine assignInOrder_cons (cR (h1 pins s σ H _ _ _ I r h) fun _ s1 aO=>?_)
  obtain ⟨σ1,H1,I1,q1⟩:=aO
  exact h2 pins s1 σ1 H1 _ _ Q I1 rr q1
noncomputable def UG (K:PySem.W.Frag) (n:Nat) (t:Lq):TG:=fun v σ H Q=>∃a xs,v=.ref a∧ig K H a xs∧xs.length=n∧t xs σ H Q
theorem zg {es:List Expr} {k:Nat} {t:Lq} {n:Nat} (hc:X.calm=true) (h:Zf X es t)
  (hn:(assignEach es X.env).length=n:=by rfl) (hst:(assignEach es X.env).findIdx? (·.1)=none:=by rfl):PG X (.Tuple es k pos) (UG X.K n t):=by
 intro pins s σ H v u Q I r hw
 obtain ⟨a,xs,e1,hq,hl,hw⟩:=hw
 subst e1
 cases r
 obtain ⟨its,rv,ht,hz⟩:=I.tuple hq
 refine assign_Tuple_tuple (I.ok.hd hc) ht (by simp [hn,←hl,rv.length]) hst fun h' hx=>?_
 have I1:Inv X pins σ H { s with heap:=h' }:=I.kept (t':=s.toks) fun b o e=>hx b o (Nat.ne_of_lt (Heap.lt_size e)) e
 exact h pins _ σ H xs _ Q I1 (by simpa using rv) hw
noncomputable def Z2 (to ti:TE) (t:QF):TG:=fun v σ H Q=>to σ H fun o H1=>ti σ H1 fun i H2=>t o i v H2 fun H3=>Q σ H3
theorem UJ {o i:Expr} {to ti:TE} {t:QF} (ho:PE X o to) (hi:PE X i ti) (hs:zf X t)
  (ha:∀v,assign (.Subscript o i pos) X.env v=(do
   let ov ←holding [v] (eval o X.env)
   let iv ←holding [v,ov] (eval i X.env)
   standAt pos
   holding [v,ov,iv] (setItem ov iv v)
   release [v,ov,iv] []):=by intro _; rfl):PG X (.Subscript o i pos) (Z2 to ti t):=by
 intro pins s σ H v u Q I r h
 rw [ha]
 refine wpAny_bind (wpAny_holding (cR (ho pins s σ H _ I h) fun ov s1 aO=>?_))
 obtain ⟨x,H1,I1,r1,q1⟩:=aO
 refine wpAny_bind (wpAny_holding (cR (hi pins s1 σ H1 _ I1 q1) fun iv s2 aO=>?_))
 obtain ⟨y,H2,I2,r2,q2⟩:=aO
 refine wpAny_bind (wpAny_standAt (wpAny_bind (wpAny_holding (cR (hs pins s2 σ H2 x y v ov iv u _ I2 r1 r2 r q2) fun _ s3 aO=>?_))))
 obtain ⟨H3,I3,q3⟩:=aO
 exact wpAny_release ⟨σ,H3,I3,q3⟩
noncomputable def Ls (te:TE) (g:TG):TS:=fun D σ H=>te σ H fun x H1=>g x σ H1 D.nx
theorem Es {tg e:Expr} {te:TE} {g:TG} (he:PE X e te) (hg:PG X tg g) (hs:swapsWithSole [tg] e pos.line X.env=pure false:=by rfl) (hw:swappedStores [tg] e X.env=pure none:=by rfl)
  (h1:(assignEach [tg] X.env).map (·.2)=[assign tg X.env]:=by rfl):PS X (.Assign [tg] e pos) (Ls te g):=by
 intro pins s σ H D I h
 refine wpAny_Assign_stores (cR (he pins s σ H _ I h) fun v s1 aO=>?_) hs hw
 obtain ⟨x,H1,I1,r1,q1⟩:=aO
 rw [h1]
 exact cR (hg pins s1 σ H1 x v _ I1 r1 q1) fun _ s2 q=>q
theorem Lw {i:Nat} {x:Str} {e:Expr} {te:TE} {pos':Pos} (hN:X.N.Nodup) (hi:X.N[i]?=some x) (hx:Loc X.env.scope x) (he:PE X e te) (hs:swapsWith e (some (.Name x pos')) pos.line X.env=pure false:=by rfl) (hf:X.fn x=true∨X.env.scope.names.lookup x=some .local:=by first | exact .inl rfl | exact .inr rfl | assumption):
  PS X (.Assign [.Name x pos'] e pos) (Ls te (uM i)):=by
 intro pins s σ H D I h
 refine wpAny_Assign_Name (cR (he pins s σ H _ I h) fun v s1 aO=>?_) hs
 obtain ⟨y,H1,I1,r1,q1⟩:=aO
 exact dZ I1 hN hi hx r1 (fun s2 I2=>⟨_,H1,I2,q1⟩) hf
noncomputable def Z3 (i j:Nat) (ta:TA):TS:=fun D σ H=>ta σ H fun vs H1=>∃v w,vs=[v,w]∧D.nx ((σ.set i (some v)).set j (some w)) H1
theorem UL {i j:Nat} {x y:Str} {a b:Expr} {ta:TA} {px py pt:Pos} {kt k2 Et} (hc:X.calm=true) (hN:X.N.Nodup) (hi:X.N[i]?=some x) (hj:X.N[j]?=some y) (hij:i≠j)
  (hx:X.env.scope.names.lookup x=some .local) (hy:X.env.scope.names.lookup y=some .local) (ha:PA X [a,b] ta)
  (hw:swappedStores [.Tuple [.Name x px,.Name y py] kt pt] (.Tuple [a,b] k2 Et) X.env=pure (some [x,y]))
  (hs:swapsWithSole [.Tuple [.Name x px,.Name y py] kt pt] (.Tuple [a,b] k2 Et) pos.line X.env=pure false:=by rfl):
  PS X (.Assign [.Tuple [.Name x px,.Name y py] kt pt] (.Tuple [a,b] k2 Et) pos) (Z3 i j ta):=by
 intro pins s σ H D I h
 rw [exec_Assign_arm]
 refine wpAny_bind (wpAny_standAt ?_)
 rw [hs]
 refine wpAny_bind (wpAny_pure ?_)
 rw [if_neg (by decide)]
 refine wpAny_bind (Tuple_ (cR (ha _ pins s σ H _ I h) fun us s1 aO=>?_))
 obtain ⟨vs,H1,I1,r1,q1⟩:=aO
 obtain ⟨v,w,e1,q1⟩:=q1
 subst e1
 obtain ⟨u1,u2,rfl,rv,rw'⟩:∃u1 u2,us=[u1,u2]∧RelV v u1∧RelV w u2:=by
  cases r1 with
  | cons p q=>
   cases q with
   | cons p' q'=>
    cases q'
    exact ⟨_,_,rfl,p,p'⟩
 refine wpAny_newObj_type ?_ (by show 2≤sizeLine; decide)
 have I2:Inv X pins σ H1 { s1 with heap:=s1.heap.push { cls:=.type "tuple",data:=.seq [u1,u2].toArray } }:=I1.kept (t':=s1.toks) fun b o e=>Heap.get?_push_of_some _ e
 rw [hw]
 refine wpAny_bind (wpAny_pure ?_)
 show wpAny (model X.prog X.w) X.A (do rule "assign.swapped-stores"; let items ←unpackItems (.ref s1.heap.objs.size) 2 none; assignInOrder [fun v=>bindName X.env y v,fun v=>bindName X.env x v] items.reverse; pure Flow.next) _ _ _
 refine wpAny_bind (wpAny_rule (wpAny_bind (unpackItems_tuple (items:=#[u1,u2]) (I.ok.hd hc) (IsTup.new s1.heap _) fun h' hx'=>?_)))
 have I3:=I2.kept (h':=h') (t':=s1.toks) fun b o e=>hx' b o (Nat.ne_of_lt (Heap.lt_size e)) e
 show wpAny _ _ (assignInOrder [fun v=>bindName X.env y v,fun v=>bindName X.env x v] [u2,u1] >>= fun _=>pure Flow.next) _ _ _
 refine wpAny_bind (assignInOrder_cons (wpAny_bindName (dZ I3 hN hj (.inl hy) rw' (fun s2 I4=>?_) (.inr hy))))
 refine assignInOrder_cons (wpAny_bindName (dZ I4 hN hi (.inl hx) rv (fun s3 I5=>assignInOrder_nil (wpAny_pure ?_)) (.inr hx)))
 rw [List.set_comm _ _ (Ne.symm hij)] at I5
 exact ⟨_,H1,I5,q1⟩
noncomputable def Z4 (i:Nat) (te:TE) (ti:Zg):TS:=fun D σ H=>∃x,σ[i]?=some (some x)∧te σ H fun y H1=>ti x y H1 fun z H2=>D.nx (σ.set i (some z)) H2
theorem UT {i:Nat} {x:Str} {e:Expr} {te:TE} {op:Operator} {ti:Zg} {pos':Pos} (hN:X.N.Nodup) (hi:X.N[i]?=some x) (hx:Loc X.env.scope x) (he:PE X e te) (ho:PIp X op ti) (hf:X.fn x=true∨X.env.scope.names.lookup x=some .local:=by first | exact .inl rfl | exact .inr rfl | assumption):
  PS X (.AugAssign (.Name x pos') op e pos) (Z4 i te ti):=by
 intro pins s σ H D I h
 obtain ⟨v,e1,h⟩:=h
 obtain ⟨m,hn,hl⟩:=I.loc
 have vis:Zc X.env.scope x:=by rcases hx with k | k; exact .inl k; exact .inr (.inl k)
 obtain ⟨u,r,l⟩:=hl i x v hi e1 vis
 refine wpAny_AugAssign_Name ?_
 have go:wpAny (model X.prog X.w) X.A (eval e X.env) (fun w s₂=>wpAny (model X.prog X.w) X.A (inplaceOp op u w) (fun r s₃=>wpAny (model X.prog X.w) X.A (storeName X.env x r) (fun _=>SP X pins D .next) X.xe s₃) X.xe s₂) X.xe s:=by
  refine cR (he pins s σ H _ I h) fun w s1 aO=>?_
  obtain ⟨y,H1,I1,r1,q1⟩:=aO
  refine cR (ho pins s1 σ H1 v y u w _ I1 r r1 q1) fun z s2 aO=>?_
  obtain ⟨zv,H2,I2,r2,q2⟩:=aO
  exact dZ I2 hN hi hx r2 (fun s3 I3=>⟨_,H2,I3,q2⟩) hf
 rcases l with ⟨hk,hm⟩ | ⟨hk,c,hc,hcell⟩
 ·exact wpAny_loadName_local I.ok.kind hk hn hm go
 ·rcases hk with hk | hk
  ·exact wpAny_loadName_cell I.ok.kind hk hc hcell go
  ·rcases hx with k | k
   ·have:X.env.scope.names.lookup x=some .free:=hk
    rw [k] at this; cases this
   ·have:X.env.scope.names.lookup x=some .free:=hk
    rw [k] at this; cases this
noncomputable def ipI (f:Int→Int→Int):Zg:=fun x y H Q=>∃i j,x=.int i∧y=.int j∧Q (.int (f i j)) H
theorem UW:PIp X .Add (ipI fun i j=>i + j):=by
 intro pins s σ H x y v u Q I r1 r2 h
 obtain ⟨i,j,e1,e2,q⟩:=h
 subst e1; subst e2
 obtain ⟨t,rfl⟩:=r1
 obtain ⟨t',rfl⟩:=r2
 exact iadd_int ⟨.int _,H,I.tok _,⟨_,rfl⟩,q⟩
end
section
variable {X:Cx} {pos:Pos}
noncomputable def Lx (c:TT) (tb:TS):TS:=fun D σ H=>∃W:Nat→St→Hp→Prop,(∃m,W m σ H)∧∀m σ H,W m σ H→
 c σ H fun b H1=>if b=true then ∃N:St→Hp→Prop,(∀σ' H',N σ' H'→∃m',m' < m∧W m' σ' H')∧tb { D with nx:=N,ct:=N,bk:=D.nx } σ H1 else D.nx σ H1
theorem Ly {c:Expr} {body:List Stmt} {tc:TT} {tb:TS} (hp:PassesOwn (model X.prog X.w) X.A X.env X.xe) (hc:PT X c tc) (hb:ug X body tb):PS X (.While c body [] pos) (Lx tc tb):=by
 intro pins s σ H D I h
 obtain ⟨W,⟨m0,w0⟩,turn⟩:=h
 refine wpAny_While (codeAny_whileLoop (fun n s'=>∃σ' H',Inv X pins σ' H' s'∧W n σ' H') ?_ m0 ⟨σ,H,I,w0⟩)
 rintro n s1 ⟨σ1,H1,I1,w1⟩
 refine wpAny_passesOwn hp (cR (hc pins s1 σ1 H1 _ I1 (turn n σ1 H1 w1)) fun b s2 aO=>?_)
 obtain ⟨H2,I2,q2⟩:=aO
 cases b with
 | true=>
  obtain ⟨N,hN,q2⟩:=q2
  rw [if_pos rfl]
  refine wpAny_passesOwn hp (cR (hb pins s2 σ1 H2 _ I2 q2) fun f s3 q3=>?_)
  cases f with
  | next=>
   obtain ⟨σ3,H3,I3,n3⟩:=q3
   obtain ⟨m',hm,w3⟩:=hN σ3 H3 n3
   exact ⟨m',hm,σ3,H3,I3,w3⟩
  | cont=>
   obtain ⟨σ3,H3,I3,n3⟩:=q3
   obtain ⟨m',hm,w3⟩:=hN σ3 H3 n3
   exact ⟨m',hm,σ3,H3,I3,w3⟩
  | brk=>exact q3
  | ret v=>exact q3
 | false=>
  rw [if_neg Bool.false_ne_true]
  exact wpAny_execs_nil ⟨σ1,H2,I2,q2⟩
end
structure It where
 go:Nat→Hp→Prop
 Tq:Nat→Hp→V→Hp→Prop
 stop:Nat→Hp→Prop
noncomputable def jo (X:Cx) (pins:List (Addr×Obj)) (H:Hp) (b:Addr):Prop:=
 H b=none∧b≠X.env.locals∧b∉X.fs∧(b∈X.ex∨X.s₀.heap.objs.size≤b)∧(∀x c,X.env.cells.lookup x=some c→c≠b)∧∀p∈X.pn++pins,p.1≠b
theorem Inv.zj {X:Cx} {pins:List (Addr×Obj)} {σ:St} {H H':Hp} {s:Shared} {b:Addr} (I:Inv X pins σ H s) (hb:s.heap.objs.size≤b) (hn:H' b=none):jo X pins H' b:=by
 refine ⟨hn,Nat.ne_of_gt (Nat.lt_of_lt_of_le I.lt hb),I.ZV hb,.inr (Nat.le_trans I.sz hb),fun x c e z=>?_,fun p hp z=>?_⟩
 ·obtain ⟨v,q⟩:=I.cell x c e
  exact absurd (Nat.lt_of_lt_of_le q.lt (by rw [z]; exact hb)) (Nat.lt_irrefl _)
 ·exact absurd (Nat.lt_of_lt_of_le (Heap.lt_size (I.pin p hp).1) (by rw [z]; exact hb)) (Nat.lt_irrefl _)
structure Turn (P:Program) (w:World) (K:PySem.W.Frag) (tg:Expr) (J:It) (fp:List Addr) (it:Addr) (tn:Nat→Heap→Prop):Prop where
 mem:it∈fp
 obj:∀i h,tn i h→∀b∈fp,∃o,h.get? b=some o∧∀v,o.data≠.cell v
 keep:∀i h h',tn i h→(∀b∈fp,∀o,h.get? b=some o→h'.get? b=some o)→tn i h'
 item:∀(X:Cx),X.prog=P→X.w=w→X.K=K→X.calm=true→∀(i:Nat) (pins:List (Addr×Obj)) (s:Shared) (σ:St) (H:Hp) (E:Value→Shared→Prop),Inv X pins σ H s→(∀b∈fp,jo X pins H b)→tn i s.heap→J.go i H→
  wpAny (model P w) X.A (pyNext (.ref it)) (fun r s1=>∃u,r=some u∧
   wpAny (model P w) X.A (letOwnedTupleGo tg (.ref it) u) (fun _ s2=>∃x H',Inv X pins σ H' s2∧RelV x u∧J.Tq i H x H'∧tn (i + 1) s2.heap∧∀b∈fp,H' b=none) E s1) E s
 done:∀(X:Cx),X.prog=P→X.w=w→X.K=K→X.calm=true→∀(i:Nat) (pins:List (Addr×Obj)) (s:Shared) (σ:St) (H:Hp) (E:Value→Shared→Prop),Inv X pins σ H s→(∀b∈fp,jo X pins H b)→tn i s.heap→J.stop i H→
  wpAny (model P w) X.A (pyNext (.ref it)) (fun r s1=>r=none∧Inv X pins σ H s1) E s
 self:∀(A:Around) (i:Nat) (s:Shared) (Q:Value→Shared→Prop) (E:Value→Shared→Prop),tn i s.heap→Q (.ref it) s→wpAny (model P w) A (pyIter (.ref it)) Q E s
noncomputable abbrev TI:=St→Hp→(It→Hp→Prop)→Prop
noncomputable def PIE (X:Cx) (pins:List (Addr×Obj)) (σ:St) (tg:Expr) (R:It→Hp→Prop) (itv:Value) (s2:Shared):Prop:=
 ∃(it:Addr) (fp:List Addr) (tn:Nat→Heap→Prop) (J:It) (H':Hp),itv=.ref it∧Inv X pins σ H' s2∧Turn X.prog X.w X.K tg J fp it tn∧tn 0 s2.heap∧(∀b∈fp,jo X pins H' b)∧R J H'
noncomputable def PI (X:Cx) (tg iter:Expr) (wi:TI):Prop:=
 ∀(pins:List (Addr×Obj)) (s:Shared) (σ:St) (H:Hp) (R:It→Hp→Prop),Inv X pins σ H s→wi σ H R→
  wpAny (model X.prog X.w) X.A (eval iter X.env) (fun v s1=>wpAny (model X.prog X.w) X.A (pyIter v) (PIE X pins σ tg R) X.xe s1) X.xe s
theorem Lz {M:Model} {A:Around} {E:Value→Shared→Prop} {s:Shared} {tg:Expr} {it:Addr} {u:Value} {o:Obj} {n:String} {vs:Array Value} {Q:Unit→Shared→Prop} (ho:s.heap.get? it=some o) (hc:o.cls=.type n) (hd:o.data=.fields vs)
  (hn:["enumerate","zip","dict_itemiterator","dict_reverseitemiterator","odict_iterator","itertools.zip_longest","itertools.pairwise"].contains n=false) (hQ:Q () s):wpAny M A (letOwnedTupleGo tg (.ref it) u) Q E s:=by
 unfold letOwnedTupleGo
 cases tg <;> first
  | exact wpAny_pure hQ
  | (cases u <;> first
    | exact wpAny_pure hQ
    | (refine wpAny_bind (wpAny_load ho ?_)
       rw [hc,hd]
       show wpAny M A (if (["enumerate","zip","dict_itemiterator","dict_reverseitemiterator","odict_iterator","itertools.zip_longest","itertools.pairwise"].contains n&&vs[0]?==some (rawInt _))=true then _ else _) Q E s
       rw [if_neg (by intro h; rw [hn,Bool.false_and] at h; cases h)]
       exact wpAny_pure hQ))
noncomputable def Z5 (K:PySem.W.Frag) (a:Addr):It:=
 ⟨fun i H=>∃xs x,cM K H a xs∧xs[i]?=some x,fun i H x H'=>H'=H∧∀xs,cM K H a xs→xs[i]?=some x,fun i H=>∃xs,cM K H a xs∧xs.length≤i⟩
noncomputable def Z6 (K:PySem.W.Frag) (a:Addr):It:=
 ⟨fun i H=>∃xs x,ig K H a xs∧xs[i]?=some x,fun i H x H'=>H'=H∧∀xs,ig K H a xs→xs[i]?=some x,fun i H=>∃xs,ig K H a xs∧xs.length≤i⟩
noncomputable def Xe (lo:Int) (n:Nat):It:=⟨fun i _=>i < n,fun i H x H'=>H'=H∧x=.int (lo + i),fun i _=>n≤i⟩
theorem JD {P:Program} {w:World} {K:PySem.W.Frag} {tg:Expr} (a it:Addr):Turn P w K tg (Z5 K a) [it] it (fun i h=>h.IsListIter it a i) where
 mem:=by simp
 obj:=fun i h st b hb=>by
  have e:b=it:=by simpa using hb
  subst e
  obtain ⟨o,e,c,d⟩:=st
  exact ⟨o,e,fun v z=>by rw [d] at z; cases z⟩
 keep:=fun i h h' st k=>st.at fun o e=>k it (by simp) o e
 item:=by
  intro X hP hw hK hc i pins s σ H E I hf st hg
  subst hP hw hK
  obtain ⟨xs,x,hq,hx⟩:=hg
  obtain ⟨its,rv,p,hz⟩:=I.list hq
  obtain ⟨u,hu,ru⟩:=rv.get hx
  obtain ⟨f0,f1,f2,f3,f4,f5⟩:=hf it (by simp)
  refine wpAny_pyNext_list_item st p.isList (x:=u) (by simpa using hu) fun h' st' sb=>?_
  have I1:Inv X pins σ H { s with heap:=h' }:=I.turned (t':=s.toks) (fun b o hb e=>(sb.2 b hb).trans e) f0 f1 f3 f4 f5
  obtain ⟨o,e,c,d⟩:=id st'
  exact ⟨u,rfl,Lz (s:={ s with heap:=h' }) e c d (by decide) ⟨x,H,I1,ru,⟨rfl,fun ys hy=>by rw [I.qe hy hq]; exact hx⟩,st',fun b hb=>(hf b hb).1⟩⟩
 done:=by
  intro X hP hw hK hc i pins s σ H E I hf st hg
  subst hP hw hK
  obtain ⟨xs,hq,hx⟩:=hg
  obtain ⟨its,rv,p,hz⟩:=I.list hq
  obtain ⟨f0,f1,f2,f3,f4,f5⟩:=hf it (by simp)
  have hl:=rv.length
  exact wpAny_pyNext_list_end (I.ok.hd hc) st p.isList (by simp; omega) fun h' eb=>⟨rfl,I.turned (t':=s.toks) (fun b o hb e=>eb b o hb e) f0 f1 f3 f4 f5⟩
 self:=fun _ _ _ _ _ st h=>wpAny_pyIter_listiter st h
theorem Eu {P:Program} {w:World} {K:PySem.W.Frag} {tg:Expr} (a it:Addr):Turn P w K tg (Z6 K a) [it] it (fun i h=>h.IsTupleIter it a i) where
 mem:=by simp
 obj:=fun i h st b hb=>by
  have e:b=it:=by simpa using hb
  subst e
  obtain ⟨o,e,c,d⟩:=st
  exact ⟨o,e,fun v z=>by rw [d] at z; cases z⟩
 keep:=fun i h h' st k=>st.at fun o e=>k it (by simp) o e
 item:=by
  intro X hP hw hK hc i pins s σ H E I hf st hg
  subst hP hw hK
  obtain ⟨xs,x,hq,hx⟩:=hg
  obtain ⟨its,rv,p,hz⟩:=I.tuple hq
  obtain ⟨u,hu,ru⟩:=rv.get hx
  obtain ⟨f0,f1,f2,f3,f4,f5⟩:=hf it (by simp)
  refine wpAny_pyNext_tuple_item st (show s.heap.IsTuple a its.toArray from p) (x:=u) (by simpa using hu) fun h' st' sb=>?_
  have I1:Inv X pins σ H { s with heap:=h' }:=I.turned (t':=s.toks) (fun b o hb e=>(sb.2 b hb).trans e) f0 f1 f3 f4 f5
  obtain ⟨o,e,c,d⟩:=id st'
  exact ⟨u,rfl,Lz (s:={ s with heap:=h' }) e c d (by decide) ⟨x,H,I1,ru,⟨rfl,fun ys hy=>by rw [I.JC hy hq]; exact hx⟩,st',fun b hb=>(hf b hb).1⟩⟩
 done:=by
  intro X hP hw hK hc i pins s σ H E I hf st hg
  subst hP hw hK
  obtain ⟨xs,hq,hx⟩:=hg
  obtain ⟨its,rv,p,hz⟩:=I.tuple hq
  obtain ⟨f0,f1,f2,f3,f4,f5⟩:=hf it (by simp)
  have hl:=rv.length
  exact wpAny_pyNext_tuple_end (I.ok.hd hc) st (show s.heap.IsTuple a its.toArray from p) (by simp; omega) fun h' eb=>⟨rfl,I.turned (t':=s.toks) (fun b o hb e=>eb b o hb e) f0 f1 f3 f4 f5⟩
 self:=fun _ _ _ _ _ st h=>wpAny_pyIter_tupleiter st h
theorem Ew {P:Program} {w:World} {K:PySem.W.Frag} {tg:Expr} (it:Addr) (lo:Int) (n:Nat):Turn P w K tg (Xe lo n) [it] it (fun i h=>IsRangeIter h it (lo + (i:Nat) * 1) ((n:Int) - (i:Nat)) 1) where
 mem:=by simp
 obj:=fun i h st b hb=>by
  have e:b=it:=by simpa using hb
  subst e
  exact ⟨_,st,fun v z=>by
   have z':Data.fields _=Data.cell v:=z
   cases z'⟩
 keep:=fun i h h' st k=>k it (by simp) _ st
 item:=by
  intro X hP hw hK hc i pins s σ H E I hf st hg
  subst hP hw hK
  obtain ⟨f0,f1,f2,f3,f4,f5⟩:=hf it (by simp)
  have W:=Walks.range (prog:=X.prog) (w:=X.w) (I.ok.hd hc) it lo 1 n
  refine W.item i s _ _ hg st fun v h' tk hv st' kk=>?_
  obtain ⟨t,rfl⟩:=hv
  have I1:Inv X pins σ H { s with heap:=h',toks:=tk }:=I.turned (fun b o hb e=>kk b o (by simpa using hb) e) f0 f1 f3 f4 f5
  refine ⟨_,rfl,Lz (s:={ s with heap:=h',toks:=tk }) (n:="range_iterator") st' rfl rfl (by decide) ⟨.int (lo + i),H,I1,⟨t,?_⟩,⟨rfl,rfl⟩,st',fun b hb=>(hf b hb).1⟩⟩
  rw [Int.mul_one]
 done:=by
  intro X hP hw hK hc i pins s σ H E I hf st hg
  subst hP hw hK
  obtain ⟨f0,f1,f2,f3,f4,f5⟩:=hf it (by simp)
  exact wpAny_pyNext_range_end (I.ok.hd hc) st (by have:n≤i:=hg; omega) fun h' eb=>⟨rfl,I.turned (t':=s.toks) (fun b o hb e=>eb b o hb e) f0 f1 f3 f4 f5⟩
 self:=fun _ _ _ _ _ st h=>wpAny_pyIter_rangeiter st h
end L2
namespace L2
open PySem PySem.Spec PyProof.Rows
section
variable {X:Cx} {tg:Expr}
noncomputable def Xf (K:PySem.W.Frag) (tl:TE):TI:=fun σ H R=>tl σ H fun x H1=>∃a,x=.ref a∧(∃xs,cM K H1 a xs)∧R (Z5 K a) H1
noncomputable def Z7 (K:PySem.W.Frag) (tl:TE):TI:=fun σ H R=>tl σ H fun x H1=>∃a,x=.ref a∧(∃xs,ig K H1 a xs)∧R (Z6 K a) H1
theorem Hl {l:Expr} {tl:TE} (hl:PE X l tl):PI X tg l (Xf X.K tl):=by
 intro pins s σ H R I h
 refine cR (hl pins s σ H _ I h) fun v s1 aO=>?_
 obtain ⟨x,H1,I1,r1,q1⟩:=aO
 obtain ⟨a,e,⟨xs,hq⟩,q⟩:=q1
 subst e
 cases r1
 obtain ⟨its,rv,p,hz⟩:=I1.list hq
 refine wpAny_pyIter_list p.isList ?_
 refine ⟨s1.heap.objs.size,[s1.heap.objs.size],_,_,H1,rfl,I1.kept (t':=s1.toks) fun b o e=>Heap.get?_push_of_some _ e,JD a _,⟨_,Heap.get?_push_size _ rfl,rfl,rfl⟩,fun b hb=>?_,q⟩
 have e:b=s1.heap.objs.size:=by simpa using hb
 subst e
 exact I1.zj (Nat.le_refl _) (I1.hok.fresh (Nat.le_refl _))
theorem LC {l:Expr} {tl:TE} (hl:PE X l tl):PI X tg l (Z7 X.K tl):=by
 intro pins s σ H R I h
 refine cR (hl pins s σ H _ I h) fun v s1 aO=>?_
 obtain ⟨x,H1,I1,r1,q1⟩:=aO
 obtain ⟨a,e,⟨xs,hq⟩,q⟩:=q1
 subst e
 cases r1
 obtain ⟨its,rv,p,hz⟩:=I1.tuple hq
 refine wpAny_pyIter_tuple (show s1.heap.IsTuple a its.toArray from p) ?_
 refine ⟨s1.heap.objs.size,[s1.heap.objs.size],_,_,H1,rfl,I1.kept (t':=s1.toks) fun b o e=>Heap.get?_push_of_some _ e,Eu a _,⟨_,Heap.get?_push_size _ rfl,rfl,rfl⟩,fun b hb=>?_,q⟩
 have e:b=s1.heap.objs.size:=by simpa using hb
 subst e
 exact I1.zj (Nat.le_refl _) (I1.hok.fresh (Nat.le_refl _))
theorem Bs {pins:List (Addr×Obj)} {σ:St} {H:Hp} {s:Shared} {R:It→Hp→Prop} {E:Value→Shared→Prop} {lo hi:Int} {t u v:Tok} {tk:Nat} (I:Inv X pins σ H s) (h1:-(2 ^ 62)≤lo) (h2:lo < 2 ^ 62) (h3:-(2 ^ 62)≤hi) (h4:hi < 2 ^ 62)
  (q:R (Xe lo (hi - lo).toNat) H):wpAny (model X.prog X.w) X.A (pyIter (.ref s.heap.objs.size)) (PIE X pins σ tg R) E { s with heap:=s.heap.push { cls:=.type "range",data:=.fields #[.int lo t,.int hi u,.int 1 v] },toks:=tk }:=by
 refine wpAny_pyIter_range (IsRange.new ..) (small_one h1 h2 h3 h4) ?_
 have I1:Inv X pins σ H { s with heap:=s.heap.push { cls:=.type "range",data:=.fields #[.int lo t,.int hi u,.int 1 v] },toks:=tk }:=I.kept fun b o e=>Heap.get?_push_of_some _ e
 refine ⟨(s.heap.push { cls:=.type "range",data:=.fields #[.int lo t,.int hi u,.int 1 v] }).objs.size,[(s.heap.push { cls:=.type "range",data:=.fields #[.int lo t,.int hi u,.int 1 v] }).objs.size],_,_,H,rfl,
  I1.kept (t':=tk) fun b o e=>Heap.get?_push_of_some _ e,Ew _ lo (hi - lo).toNat,?_,fun b hb=>?_,q⟩
 ·have e1:lo + ((0:Nat):Int) * 1=lo:=by simp
  have e2:(((hi - lo).toNat:Nat):Int) - ((0:Nat):Int)=Builtin.Range.rangeSize lo hi 1:=by rw [rangeSize_one]; split <;> omega
  show IsRangeIter _ _ (lo + ((0:Nat):Int) * 1) ((((hi - lo).toNat:Nat):Int) - ((0:Nat):Int)) 1
  rw [e1,e2]
  exact Heap.get?_push_size _ rfl
 ·have e:b=(s.heap.push { cls:=.type "range",data:=.fields #[.int lo t,.int hi u,.int 1 v] }).objs.size:=by simpa using hb
  subst e
  exact I1.zj (Nat.le_refl _) (I1.hok.fresh (Nat.le_refl _))
noncomputable def Xg (ta:TA):TI:=fun σ H R=>ta σ H fun vs H1=>∃j:Int,vs=[.int j]∧-(2 ^ 62)≤j∧j < 2 ^ 62∧R (Xe 0 j.toNat) H1
noncomputable def Xh (ta:TA):TI:=fun σ H R=>ta σ H fun vs H1=>∃i j:Int,vs=[.int i,.int j]∧(-(2 ^ 62)≤i∧i < 2 ^ 62∧-(2 ^ 62)≤j∧j < 2 ^ 62)∧R (Xe i (j - i).toNat) H1
theorem JF {a:Expr} {ta:TA} {p pos:Pos} (hg:Gl X "range") (hm:X.mg "range"=none) (ha:PA X [a] ta) (hs:starEach [a] X.env=[(false,eval a X.env)]:=by rfl):PI X tg (.Call (.Name "range" p) [a] [] pos) (Xg ta):=by
 intro pins s σ H R I h
 refine Call_ (kj I hg hm boot_range (PyProof.Rows.callWith_type1 (cR (ha pos pins s σ H _ I h) fun us s1 aO=>?_) hs rfl))
 obtain ⟨vs,H1,I1,r1,q1⟩:=aO
 obtain ⟨j,e,q1,q2,q⟩:=q1
 subst e
 cases r1 with
 | cons r rr=>
  cases rr
  obtain ⟨t,rfl⟩:=r
  exact call_range_1 (Bs I1 (by omega) (by omega) q1 q2 (by simpa using q))
theorem JG {a b:Expr} {ta:TA} {p pos:Pos} (hg:Gl X "range") (hm:X.mg "range"=none) (ha:PA X [a,b] ta) (hs:starEach [a,b] X.env=[(false,eval a X.env),(false,eval b X.env)]:=by rfl) (hs2:starEach [b] X.env=[(false,eval b X.env)]:=by rfl):
  PI X tg (.Call (.Name "range" p) [a,b] [] pos) (Xh ta):=by
 intro pins s σ H R I h
 refine Call_ (kj I hg hm boot_range (PyProof.Rows.callWith_type1 (cR (ha pos pins s σ H _ I h) fun us s1 aO=>?_) (by rw [hs,hs2]) (by rw [hs2]; rfl)))
 obtain ⟨vs,H1,I1,r1,q1⟩:=aO
 obtain ⟨i,j,e,⟨q1,q2,q3,q4⟩,q⟩:=q1
 subst e
 cases r1 with
 | cons r rr=>
  cases rr with
  | cons r' rr=>
   cases rr
   obtain ⟨t,rfl⟩:=r
   obtain ⟨t',rfl⟩:=r'
   exact call_range_2 (Bs I1 q1 q2 q3 q4 q)
noncomputable def Xi (wi:TI) (g:TG) (tb:TS):TS:=fun D σ H=>wi σ H fun J H1=>∃W:Nat→Nat→St→Hp→Prop,(∃m,W 0 m σ H1)∧∀i m σ H,W i m σ H→
 (J.stop i H∧D.nx σ H)∨(J.go i H∧∃N:St→Hp→Prop,(∀σ' H',N σ' H'→∃m',m' < m∧W (i + 1) m' σ' H')∧∀x H',J.Tq i H x H'→g x σ H' fun σ2 H2=>tb { D with nx:=N,ct:=N,bk:=D.nx } σ2 H2)
noncomputable def uN (fp:List Addr) (h:Heap):List (Addr×Obj):=fp.filterMap fun b=>(h.get? b).map fun o=>(b,o)
theorem kE {fp:List Addr} {h:Heap} {b:Addr} {o:Obj} (hb:b∈fp) (e:h.get? b=some o):(b,o)∈uN fp h:=List.mem_filterMap.mpr ⟨b,hb,by rw [e]; rfl⟩
theorem JH {fp:List Addr} {h:Heap} {p:Addr×Obj} (hp:p∈uN fp h):p.1∈fp∧h.get? p.1=some p.2:=by
 obtain ⟨b,hb,e⟩:=List.mem_filterMap.mp hp
 cases q:h.get? b with
 | none=>rw [q] at e; cases e
 | some o=>
  rw [q] at e
  have e':(b,o)=p:=Option.some.inj e
  subst e'
  exact ⟨hb,q⟩
theorem Inv.pinned {pins:List (Addr×Obj)} {σ:St} {H:Hp} {s:Shared} {fp:List Addr} (I:Inv X pins σ H s) (hf:∀b∈fp,jo X pins H b) (ho:∀b∈fp,∃o,s.heap.get? b=some o∧∀v,o.data≠.cell v):Inv X (pins++uN fp s.heap) σ H s:=
 I.Hi fun p hp=>(List.mem_append.mp hp).elim (fun z=>I.pin p (List.mem_append_right _ z)) fun z=>by
  obtain ⟨hb,e⟩:=JH z
  obtain ⟨f0,f1,f2,_⟩:=hf p.1 hb
  obtain ⟨o,e',d⟩:=ho p.1 hb
  rw [e] at e'; cases e'
  exact ⟨e,f0,f1,f2,d⟩
theorem Inv.qg {pins pl:List (Addr×Obj)} {σ:St} {H:Hp} {s:Shared} (I:Inv X (pins++pl) σ H s):Inv X pins σ H s:=I.Hi fun p hp=>I.pin p (List.mem_append_right _ (List.mem_append_left _ hp))
theorem U0 {iter:Expr} {body:List Stmt} {wi:TI} {g:TG} {tb:TS} {pos:Pos} (hp:PassesOwn (model X.prog X.w) X.A X.env X.xe) (hc:X.calm=true) (hi:PI X tg iter wi) (hg:PG X tg g) (hb:ug X body tb)
  (hs:∀x,foldedSetIterable iter X.env x=pure x:=by intro _; rfl):PS X (.For tg iter body [] pos) (Xi wi g tb):=by
 intro pins s σ H D I h
 refine wpAny_For (cR (hi pins s σ H _ I h) fun v s1 h1=>cR h1 fun itv s2 h2=>?_) hs
 obtain ⟨it,fp,tn,J,H2,e,I2,T,st2,f2,W,⟨m0,w0⟩,turn⟩:=h2
 subst e
 have stat:∀{H':Hp},(∀b∈fp,H' b=none)→∀b∈fp,jo X pins H' b:=fun hn b hb=>⟨hn b hb,(f2 b hb).2⟩
 refine codeAny_forLoop_any (fun n s'=>∃i σ' H',Inv X pins σ' H' s'∧tn i s'.heap∧(∀b∈fp,H' b=none)∧W i n σ' H') ?_ m0 ⟨0,σ,H2,I2,st2,fun b hb=>(f2 b hb).1,w0⟩
 rintro n s3 ⟨i,σ3,H3,I3,st3,Xj,w3⟩
 rcases turn i n σ3 H3 w3 with ⟨stop,qn⟩ | ⟨go,N,hN,step⟩
 ·refine wpAny_passesOwn hp (cR (T.done X rfl rfl rfl hc i pins s3 σ3 H3 X.xe I3 (stat Xj) st3 stop) fun r s4 aO=>?_)
  obtain ⟨hr,I4⟩:=aO
  subst hr
  exact wpAny_execs_nil ⟨σ3,H3,I4,qn⟩
 ·refine wpAny_passesOwn hp (cR (T.item X rfl rfl rfl hc i pins s3 σ3 H3 X.xe I3 (stat Xj) st3 go) fun r s4 aO=>?_)
  obtain ⟨u,hr,h4⟩:=aO
  subst hr
  refine wpAny_passesOwn hp (cR h4 fun _ s5 aO=>?_)
  obtain ⟨x,H5,I5,r5,y5,U3,Z8⟩:=aO
  have Z9:=I5.pinned (stat Z8) (T.obj _ _ U3)
  refine wpAny_passesOwn hp (cR (hg _ s5 σ3 H5 x u _ Z9 r5 (step x H5 y5)) fun _ s6 aO=>?_)
  obtain ⟨σ6,H6,I6,q6⟩:=aO
  refine wpAny_passesOwn hp (cR (hb _ s6 σ6 H6 _ I6 q6) fun f s7 q7=>?_)
  have again:∀{σ7:St} {H7:Hp},Inv X (pins++uN fp s5.heap) σ7 H7 s7→N σ7 H7→∃m,m < n∧∃i σ' H',Inv X pins σ' H' s7∧tn i s7.heap∧(∀b∈fp,H' b=none)∧W i m σ' H':=fun {σ7 H7} I7 n7=>by
   obtain ⟨m',hm,w7⟩:=hN σ7 H7 n7
   refine ⟨m',hm,i + 1,σ7,H7,I7.qg,T.keep _ _ _ U3 fun b hb o e=>(I7.pin (b,o) (List.mem_append_right _ (List.mem_append_right _ (kE hb e)))).1,fun b hb=>?_,w7⟩
   obtain ⟨o,e,d⟩:=T.obj _ _ U3 b hb
   exact (I7.pin (b,o) (List.mem_append_right _ (List.mem_append_right _ (kE hb e)))).2.1
  cases f with
  | next=>obtain ⟨σ7,H7,I7,n7⟩:=q7; exact again I7 n7
  | cont=>obtain ⟨σ7,H7,I7,n7⟩:=q7; exact again I7 n7
  | brk=>obtain ⟨σ7,H7,I7,q7⟩:=q7; exact ⟨σ7,H7,I7.qg,q7⟩
  | ret v=>obtain ⟨x7,σ7,H7,I7,r7,q7⟩:=q7; exact ⟨x7,σ7,H7,I7.qg,r7,q7⟩
end
end L2
namespace L2
open PySem PySem.Spec PyProof.Rows
noncomputable abbrev R2:=V→V→Hp→VK→Prop
noncomputable def iI (X:Cx) (f:Value→Value→Sem Value) (r:R2):Prop:=
 ∀(pins:List (Addr×Obj)) (s:Shared) (σ:St) (H:Hp) (x y:V) (v u:Value) (Q:VK),Inv X pins σ H s→RelV x v→RelV y u→r x y H Q→
  wpAny (model X.prog X.w) X.A (f v u) (EP X pins σ Q) X.xe s
noncomputable def cJ (X:Cx) (f:Value) (r:List V→Hp→VK→Prop):Prop:=
 ∀(pins:List (Addr×Obj)) (s:Shared) (σ:St) (H:Hp) (xs:List V) (us:List Value) (Q:VK),Inv X pins σ H s→Vals xs us→r xs H Q→
  wpAny (model X.prog X.w) X.A (call f us) (EP X pins σ Q) X.xe s
noncomputable def aaa (X:Cx) (r:V→Hp→(Bool→Hp→Prop)→Prop):Prop:=
 ∀(pins:List (Addr×Obj)) (s:Shared) (σ:St) (H:Hp) (x:V) (v:Value) (Q:Bool→Hp→Prop),Inv X pins σ H s→RelV x v→r x H Q→
  wpAny (model X.prog X.w) X.A (truthy v) (TP X pins σ Q) X.xe s
noncomputable def Xk (r:R2) (ta tb:TE):TE:=fun σ H Q=>ta σ H fun x H1=>tb σ H1 fun y H2=>r x y H2 Q
noncomputable def rI (C:Int→Int→Prop) (g:Int→Int→V):R2:=fun x y H Q=>∃i j,x=.int i∧y=.int j∧C i j∧Q (g i j) H
noncomputable def JK (g:Int→Int→V):R2:=fun x y H Q=>∃i j,x=.int i∧y=.int j∧Q (g i j) H
section
variable {X:Cx} {a b c:Expr} {ta tb tc:TE} {pos:Pos}
theorem U4 (ha:PE X a ta) (hb:PE X b tb) {pins:List (Addr×Obj)} {s:Shared} {σ:St} {H:Hp} {R:V→V→Hp→Prop} (I:Inv X pins σ H s)
  (h:ta σ H fun x H1=>tb σ H1 fun y H2=>R x y H2) {Q:Value→Shared→Prop} {f:Value→Value→Sem Value}
  (hf:∀v u s2 x y H2,Inv X pins σ H2 s2→RelV x v→RelV y u→R x y H2→wpAny (model X.prog X.w) X.A (f v u) Q X.xe s2):
  wpAny (model X.prog X.w) X.A (eval a X.env) (fun v s₁=>wpAny (model X.prog X.w) X.A (eval b X.env) (fun u s₂=>wpAny (model X.prog X.w) X.A (f v u) Q X.xe s₂) X.xe s₁) X.xe s:=by
 refine cR (ha pins s σ H _ I h) fun v s1 aO=>?_
 obtain ⟨x,H1,I1,r1,q1⟩:=aO
 refine cR (hb pins s1 σ H1 _ I1 q1) fun u s2 aO=>?_
 obtain ⟨y,H2,I2,r2,q2⟩:=aO
 exact hf v u s2 x y H2 I2 r1 r2 q2
theorem Xl {op:Operator} {r:R2} (ho:iI X (binaryOp op) r) (ha:PE X a ta) (hb:PE X b tb):PE X (.BinOp a op b pos) (Xk r ta tb):=by
 intro pins s σ H Q I h
 exact wpAny_BinOp (U4 ha hb I h fun v u s2 x y H2 I2 rx ry q=>ho pins s2 σ H2 x y v u Q I2 rx ry q)
theorem Zh {f:Value→Value→Sem Value} {C:Int→Int→Prop} {g:Int→Int→Int}
  (rule:∀(i j:Int) (t u:Tok) (s:Shared) (Q:Value→Shared→Prop) (E:Value→Shared→Prop),C i j→Q (.int (g i j) s.toks) { s with toks:=s.toks + 1 }→wpAny (model X.prog X.w) X.A (f (.int i t) (.int j u)) Q E s):
  iI X f (rI C fun i j=>.int (g i j)):=by
 intro pins s σ H x y v u Q I rx ry h
 obtain ⟨i,j,rfl,rfl,hc,q⟩:=h
 obtain ⟨t,rfl⟩:=rx
 obtain ⟨t',rfl⟩:=ry
 exact rule i j t t' s _ _ hc ⟨.int (g i j),H,I.tok _,⟨_,rfl⟩,q⟩
theorem Xm {f:Value→Value→Sem Value} {g:Int→Int→Int}
  (rule:∀(i j:Int) (t u:Tok) (s:Shared) (Q:Value→Shared→Prop) (E:Value→Shared→Prop),Q (.int (g i j) s.toks) { s with toks:=s.toks + 1 }→wpAny (model X.prog X.w) X.A (f (.int i t) (.int j u)) Q E s):
  iI X f (JK fun i j=>.int (g i j)):=by
 intro pins s σ H x y v u Q I rx ry h
 obtain ⟨i,j,rfl,rfl,q⟩:=h
 obtain ⟨t,rfl⟩:=rx
 obtain ⟨t',rfl⟩:=ry
 exact rule i j t t' s _ _ ⟨.int (g i j),H,I.tok _,⟨_,rfl⟩,q⟩
theorem U5 {f:Value→Value→Sem Value} {g:Int→Int→Bool}
  (rule:∀(i j:Int) (t u:Tok) (s:Shared) (Q:Value→Shared→Prop) (E:Value→Shared→Prop),Q (.bool (g i j)) s→wpAny (model X.prog X.w) X.A (f (.int i t) (.int j u)) Q E s):
  iI X f (JK fun i j=>.bl (g i j)):=by
 intro pins s σ H x y v u Q I rx ry h
 obtain ⟨i,j,rfl,rfl,q⟩:=h
 obtain ⟨t,rfl⟩:=rx
 obtain ⟨t',rfl⟩:=ry
 exact rule i j t t' s _ _ ⟨.bl (g i j),H,I,rfl,q⟩
noncomputable def Xn (i j:Int):Prop:=0 < j∧j < 1073741824
noncomputable def Xo (i j:Int):Prop:=0≤j∧j≤1000000∧i.natAbs < 2 ^ 64
noncomputable def QG (i j:Int):Prop:=(-(2 ^ 64) < i∧i < 2 ^ 64)∨(-(2 ^ 64) < j∧j < 2 ^ 64)
theorem QG.ok {i j:Int} (h:QG i j):IntMulOk i j:=by
 rcases h with ⟨h1,h2⟩ | ⟨h1,h2⟩
 ·exact .of_left (intBits_le_64 h1 h2)
 ·exact .of_right (intBits_le_64 h1 h2)
theorem U6:iI X (binaryOp .Add) (JK fun i j=>.int (i + j)):=Xm fun _ _ _ _ _ _ _ q=>add_int q
theorem rM:iI X (binaryOp .Sub) (JK fun i j=>.int (i - j)):=Xm fun _ _ _ _ _ _ _ q=>sub_int q
theorem jE:iI X (binaryOp .Mult) (rI QG fun i j=>.int (i * j)):=Zh fun _ _ _ _ _ _ _ hc q=>mul_int q hc.ok
theorem zm:iI X (binaryOp .FloorDiv) (rI Xn fun i j=>.int (i / j)):=Zh fun i j _ _ _ _ _ hc q=>by
 have h1:(0:Int) < j:=hc.1
 have h2:j < 1073741824:=hc.2
 exact floordiv_int (by omega) (by rw [Int.fdiv_eq_ediv_of_nonneg i (by omega)]; exact q) (.inl (PyProof.noPylong_small (by omega)))
theorem jF:iI X (binaryOp .Mod) (rI (fun _ j=>0 < j) fun i j=>.int (i % j)):=Zh fun i j _ _ _ _ _ hc q=>by
 have h1:(0:Int) < j:=hc
 exact mod_int' (by omega) (by rw [Int.fmod_eq_emod_of_nonneg i (by omega)]; exact q)
theorem U7:iI X (binaryOp .Pow) (rI Xo fun i j=>.int (i ^ j.toNat)):=Zh fun _ _ _ _ _ _ _ hc q=>pow_int_small hc.1 hc.2.1 hc.2.2 q
end
noncomputable def U8:V→V→Bool
 | .non,.non=>true | .non,.int _=>true | .int _,.non=>true | .non,.bl _=>true | .bl _,.non=>true | .non,.str _=>true | .str _,.non=>true
 | .int _,.int _=>true | .bl _,.bl _=>true | .str _,.str _=>true | .Jz _,.Jz _=>true
 | .int _,.str _=>true | .str _,.int _=>true | .bl _,.str _=>true | .str _,.bl _=>true
 | _,_=>false
noncomputable def rEq:R2:=fun x y H Q=>U8 x y=true∧Q (.bl (decide (x=y))) H
noncomputable def rNe:R2:=fun x y H Q=>U8 x y=true∧Q (.bl (!decide (x=y))) H
theorem zp {i j:Int}:decide (V.int i=V.int j)=(i==j):=by
 rw [Bool.eq_iff_iff]
 simp
theorem Ex {i j:Bool}:decide (V.bl i=V.bl j)=(i==j):=by
 rw [Bool.eq_iff_iff]
 simp
theorem zq {i j:Str}:decide (V.str i=V.str j)=(i==j):=by
 rw [Bool.eq_iff_iff]
 simp
theorem Ho {i j:Array UInt8}:decide (V.Jz i=V.Jz j)=(i.toList==j.toList):=by
 rw [Bool.eq_iff_iff]
 cases i
 cases j
 simp
section
variable {X:Cx} {a b c:Expr} {ta tb tc:TE} {pos:Pos}
theorem bw {pins:List (Addr×Obj)} {σ:St} {H:Hp} {s:Shared} {Q:VK} {k k':Bool} (I:Inv X pins σ H s) (q:Q (.bl k) H) (e:k=k'):EP X pins σ Q (.bool k') s:=by
 subst e
 exact ⟨.bl k,H,I,rfl,q⟩
theorem Xp:iI X (compareOp .Eq) rEq:=by
 intro pins s σ H x y v u Q I rx ry h
 obtain ⟨hs,q⟩:=h
 cases x with
 | non=>
  cases rx
  cases y with
  | non=>cases ry; exact PySem.EqNone.eq_none_none (bw I q (by simp))
  | bl j=>cases ry; exact PySem.EqNone.eq_none_bool (bw I q (by simp))
  | int j=>obtain ⟨t',rfl⟩:=ry; exact PySem.EqNone.eq_none_int (bw I q (by simp))
  | str j=>obtain ⟨t',rfl⟩:=ry; exact PySem.EqNone.eq_none_str (bw I q (by simp))
  | _=>exact absurd (show false=true from hs) Bool.false_ne_true
 | bl i=>
  cases rx
  cases y with
  | non=>cases ry; exact PySem.EqNone.eq_bool_none (bw I q (by simp))
  | bl j=>cases ry; exact eq_bool (bw I q Ex)
  | str j=>obtain ⟨t',rfl⟩:=ry; exact PySem.EqMixed.eq_bool_str (bw I q (by simp))
  | _=>exact absurd (show false=true from hs) Bool.false_ne_true
 | int i=>
  obtain ⟨t,rfl⟩:=rx
  cases y with
  | non=>cases ry; exact PySem.EqNone.eq_int_none (bw I q (by simp))
  | int j=>obtain ⟨t',rfl⟩:=ry; exact eq_int (bw I q zp)
  | str j=>obtain ⟨t',rfl⟩:=ry; exact PySem.EqMixed.eq_int_str (bw I q (by simp))
  | _=>exact absurd (show false=true from hs) Bool.false_ne_true
 | str i=>
  obtain ⟨t,rfl⟩:=rx
  cases y with
  | non=>cases ry; exact PySem.EqNone.eq_str_none (bw I q (by simp))
  | bl j=>cases ry; exact PySem.EqMixed.eq_str_bool (bw I q (by simp))
  | int j=>obtain ⟨t',rfl⟩:=ry; exact PySem.EqMixed.eq_str_int (bw I q (by simp))
  | str j=>obtain ⟨t',rfl⟩:=ry; exact eq_str (bw I q zq)
  | _=>exact absurd (show false=true from hs) Bool.false_ne_true
 | Jz i=>
  obtain ⟨t,rfl⟩:=rx
  cases y with
  | Jz j=>obtain ⟨t',rfl⟩:=ry; exact PySem.W.eq_bytes (bw I q Ho)
  | _=>exact absurd (show false=true from hs) Bool.false_ne_true
 | _=>cases y <;> exact absurd (show false=true from hs) Bool.false_ne_true
theorem Xq:iI X (compareOp .NotEq) rNe:=by
 intro pins s σ H x y v u Q I rx ry h
 obtain ⟨hs,q⟩:=h
 cases x with
 | non=>
  cases rx
  cases y with
  | non=>cases ry; exact PySem.EqNone.ne_none_none (bw I q (by simp))
  | bl j=>cases ry; exact PySem.EqNone.ne_none_bool (bw I q (by simp))
  | int j=>obtain ⟨t',rfl⟩:=ry; exact PySem.EqNone.ne_none_int (bw I q (by simp))
  | str j=>obtain ⟨t',rfl⟩:=ry; exact PySem.EqNone.ne_none_str (bw I q (by simp))
  | _=>exact absurd (show false=true from hs) Bool.false_ne_true
 | bl i=>
  cases rx
  cases y with
  | non=>cases ry; exact PySem.EqNone.ne_bool_none (bw I q (by simp))
  | bl j=>cases ry; exact ne_bool (bw I q (congrArg not Ex))
  | str j=>obtain ⟨t',rfl⟩:=ry; exact PySem.EqMixed.ne_bool_str (bw I q (by simp))
  | _=>exact absurd (show false=true from hs) Bool.false_ne_true
 | int i=>
  obtain ⟨t,rfl⟩:=rx
  cases y with
  | non=>cases ry; exact PySem.EqNone.ne_int_none (bw I q (by simp))
  | int j=>obtain ⟨t',rfl⟩:=ry; exact ne_int (bw I q (congrArg not zp))
  | str j=>obtain ⟨t',rfl⟩:=ry; exact PySem.EqMixed.ne_int_str (bw I q (by simp))
  | _=>exact absurd (show false=true from hs) Bool.false_ne_true
 | str i=>
  obtain ⟨t,rfl⟩:=rx
  cases y with
  | non=>cases ry; exact PySem.EqNone.ne_str_none (bw I q (by simp))
  | bl j=>cases ry; exact PySem.EqMixed.ne_str_bool (bw I q (by simp))
  | int j=>obtain ⟨t',rfl⟩:=ry; exact PySem.EqMixed.ne_str_int (bw I q (by simp))
  | str j=>obtain ⟨t',rfl⟩:=ry; exact ne_str (bw I q (congrArg not zq))
  | _=>exact absurd (show false=true from hs) Bool.false_ne_true
 | Jz i=>
  obtain ⟨t,rfl⟩:=rx
  cases y with
  | Jz j=>obtain ⟨t',rfl⟩:=ry; exact PySem.W.ne_bytes (bw I q (congrArg not Ho))
  | _=>exact absurd (show false=true from hs) Bool.false_ne_true
 | _=>cases y <;> exact absurd (show false=true from hs) Bool.false_ne_true
theorem Xr:iI X (compareOp .LtE) (JK fun i j=>.bl (decide (i≤j))):=U5 fun _ _ _ _ _ _ _ q=>le_int q
theorem Tr:iI X (compareOp .Gt) (JK fun i j=>.bl (decide (j < i))):=U5 fun _ _ _ _ _ _ _ q=>gt_int q
theorem Xu:iI X (compareOp .GtE) (JK fun i j=>.bl (decide (j≤i))):=U5 fun _ _ _ _ _ _ _ q=>ge_int q
theorem LK:iI X (compareOp .Is) (fun x y H Q=>y=.non∧Q (.bl (decide (x=.non))) H):=by
 intro pins s σ H x y v u Q I rx ry h
 obtain ⟨rfl,q⟩:=h
 cases ry
 refine is_none_gen (bw I q ?_)
 cases x <;> first
  | (cases rx; rfl)
  | (obtain ⟨t,rfl⟩:=rx; rfl)
theorem QH:iI X (compareOp .IsNot) (fun x y H Q=>y=.non∧Q (.bl (!decide (x=.non))) H):=by
 intro pins s σ H x y v u Q I rx ry h
 obtain ⟨rfl,q⟩:=h
 cases ry
 refine isnot_none_gen (bw I q ?_)
 cases x <;> first
  | (cases rx; rfl)
  | (obtain ⟨t,rfl⟩:=rx; rfl)
theorem iI.or {f:Value→Value→Sem Value} {r r':R2} (h:iI X f r) (h':iI X f r'):iI X f (fun x y H Q=>r x y H Q∨r' x y H Q):=by
 intro pins s σ H x y v u Q I rx ry q
 rcases q with q | q
 ·exact h pins s σ H x y v u Q I rx ry q
 ·exact h' pins s σ H x y v u Q I rx ry q
theorem cg (b:Expr) {op:CmpOp} (h:op≠.In:=by decide) (h2:op≠.NotIn:=by decide):behindInMarks op b=false:=by
 have e1:(op==CmpOp.In)=false:=by cases op <;> first | rfl | exact absurd rfl h
 have e2:(op==CmpOp.NotIn)=false:=by cases op <;> first | rfl | exact absurd rfl h2
 cases b <;> simp [behindInMarks,e1,e2]
theorem QJ {op:CmpOp} {r:R2} (ho:iI X (compareOp op) r) (ha:PE X a ta) (hb:PE X b tb) (hm:behindInMarks op b=false):PE X (.Compare a [op] [b] pos) (Xk r ta tb):=by
 intro pins s σ H Q I h
 exact wpAny_Compare1 (U4 ha hb I h fun v u s2 x y H2 I2 rx ry q=>ho pins s2 σ H2 x y v u Q I2 rx ry q) hm
noncomputable def LQ (t:TE):TT:=fun σ H Q=>t σ H fun x H'=>∃k,x=.bl k∧Q k H'
theorem QK {op:CmpOp} {r:R2} (ho:iI X (compareOp op) r) (ha:PE X a ta) (hb:PE X b tb) (hm:behindInMarks op b=false):PT X (.Compare a [op] [b] pos) (LQ (Xk r ta tb)):=by
 intro pins s σ H Q I h
 refine wpAny_isTrue_Compare1 (cR (ha pins s σ H _ I h) fun v s1 ⟨x,H1,I1,r1,q1⟩=>cR (hb pins s1 σ H1 _ I1 q1) fun u s2 ⟨y,H2,I2,r2,q2⟩=>
  cR (ho pins s2 σ H2 x y v u _ I2 r1 r2 q2) fun c s3 ⟨z,H3,I3,r3,k,e,q3⟩=>?_) hm
 subst e
 cases r3
 exact wpAny_truthy_bool ⟨H3,I3,q3⟩
noncomputable def LR (r r':R2) (ta tb tc:TE):TE:=fun σ H Q=>ta σ H fun x H1=>tb σ H1 fun y H2=>r x y H2 fun z H3=>∃k,z=.bl k∧
 (if k=true then tc σ H3 fun w' H4=>r' y w' H4 Q else Q (.bl false) H3)
theorem Ma {op op':CmpOp} {r r':R2} (ho:iI X (compareOp op) r) (ho':iI X (compareOp op') r') (ha:PE X a ta) (hb:PE X b tb) (hc:PE X c tc)
  (hm:lastMarks [op,op'] [b,c]=false:=by with_unfolding_all rfl):PT X (.Compare a [op,op'] [b,c] pos) (LQ (LR r r' ta tb tc)):=by
 intro pins s σ H Q I h
 refine isTrue_chain (cR (ha pins s σ H _ I h) fun v s1 ⟨x,H1,I1,r1,q1⟩=>test_link (cR (hb pins s1 σ H1 _ I1 q1) fun u s2 ⟨y,H2,I2,r2,q2⟩=>
  cR (ho pins s2 σ H2 x y v u _ I2 r1 r2 q2) fun d s3 ⟨z,H3,I3,r3,k,e,q3⟩=>?_)) hm
 subst e
 cases r3
 refine wpAny_truthy_bool ?_
 cases k with
 | false=>
  obtain ⟨k',e',q'⟩:=q3
  cases e'
  exact ite_ff ⟨H3,I3,q'⟩
 | true=>
  refine ite_tt (test_last (cR (hc pins s3 σ H3 _ I3 q3) fun w' s4 ⟨z',H4,I4,r4,q4⟩=>cR (ho' pins s4 σ H4 y z' u w' _ I4 r2 r4 q4) fun d' s5 aO=>?_))
  obtain ⟨z2,H5,I5,r5,k2,e2,q5⟩:=aO
  subst e2
  cases r5
  exact wpAny_truthy_bool ⟨H5,I5,q5⟩
noncomputable def U9 (K:PySem.W.Frag) (x:V) (H:Hp) (k:Bool):Prop:=
 match x with
 | .non=>k=false
 | .bl b=>k=b
 | .int i=>k=(i != 0)
 | .str y=>y.length≤sizeLine∧k=((y.length:Int) != 0)
 | .Jz y=>y.size≤sizeLine∧k=((y.size:Int) != 0)
 | .ref p=>(∃xs,cM K H p xs∧k=!xs.isEmpty)∨(∃xs,ig K H p xs∧k=!xs.isEmpty)∨∃kvs,H p=some (.dK kvs)∧k=!kvs.isEmpty
 | _=>False
theorem Ey {κ:Type} {kvs:List (κ×V)} {vs:List (κ×Value)} (r:KV kvs vs):(!vs.isEmpty)=!kvs.isEmpty:=by
 cases r <;> rfl
theorem uO {xs:List V} {its:List Value} (r:Vals xs its):(!its.toArray.isEmpty)=!xs.isEmpty:=by
 cases r <;> simp
theorem pF:(sizeLine:Nat) < 2 ^ 63:=by rw [sizeLine_eq]; decide
theorem Va:aaa X (fun x H Q=>∃k,U9 X.K x H k∧Q k H):=by
 intro pins s σ H x v Q I rx h
 obtain ⟨k,e,q⟩:=h
 have hl:=pF
 have hs:sizeLine=16777216:=sizeLine_eq
 cases x with
 | non=>
  cases rx
  have e':k=false:=e
  subst e'
  exact truthy_none ⟨H,I,q⟩
 | bl b=>
  cases rx
  have e':k=b:=e
  subst e'
  exact wpAny_truthy_bool ⟨H,I,q⟩
 | int i=>
  obtain ⟨t,rfl⟩:=rx
  have e':k=(i != 0):=e
  subst e'
  exact PySem.P.truthy_int ⟨H,I,q⟩
 | str y=>
  obtain ⟨t,rfl⟩:=rx
  obtain ⟨hy,e'⟩:y.length≤sizeLine∧k=((y.length:Int) != 0):=e
  subst e'
  exact PySem.P.truthy_str (by omega) ⟨H,I.tok _,q⟩
 | Jz y=>
  obtain ⟨t,rfl⟩:=rx
  obtain ⟨hy,e'⟩:y.size≤sizeLine∧k=((y.size:Int) != 0):=e
  subst e'
  exact PySem.W.truthy_bytes (by omega) ⟨H,I.tok _,q⟩
 | ref p=>
  cases rx
  have e':(∃xs,cM X.K H p xs∧k=!xs.isEmpty)∨(∃xs,ig X.K H p xs∧k=!xs.isEmpty)∨∃kvs,H p=some (.dK kvs)∧k=!kvs.isEmpty:=e
  rcases e' with ⟨xs,hx,e'⟩ | ⟨xs,hx,e'⟩ | ⟨kvs,hx,e'⟩
  ·subst e'
   obtain ⟨its,r,pl,hz⟩:=I.list hx
   have hlen:=r.length
   exact wpAny_truthy_list pl.isList (by simp only [List.size_toArray]; omega) ⟨H,I.tok _,by rw [uO r]; exact q⟩
  ·subst e'
   obtain ⟨its,r,pl,hz⟩:=I.tuple hx
   have hlen:=r.length
   exact truthy_tuple pl (by simp only [List.size_toArray]; omega) ⟨H,I.tok _,by rw [uO r]; exact q⟩
  ·subst e'
   obtain ⟨hz,hS,vs,r,m⟩:kvs.length≤sizeLine∧(p==sysModules)=false∧∃vs,KV kvs vs∧s.heap.DictOf (bY X.prog X.w) p vs:=I.hok p _ hx
   have hlen:kvs.length=vs.length:=Paired.length r
   exact wpAny_truthy_dict hS m (by omega) ⟨H,I.tok _,by rw [Ey r]; exact q⟩
 | _=>exact (show False from e).elim
theorem Mf (ha:PE X a ta) (he:∀whole,isTrue a X.env whole=(do let v ←whole; standAt a.pos; holding [v] (truthy v))):
  PT X a (fun σ H Q=>ta σ H fun x H'=>∃k,U9 X.K x H' k∧Q k H'):=by
 intro pins s σ H Q I h
 exact isTrue_plain (cR (ha pins s σ H _ I h) fun v s1 ⟨x,H1,I1,r1,q1⟩=>Va pins s1 σ H1 x v Q I1 r1 q1) (he _)
theorem Ez:iI X (binaryOp .Add) (fun x y H Q=>∃i j,x=.str i∧y=.str j∧i.length + j.length≤sizeLine∧Q (.str (i++j)) H):=by
 intro pins s σ H x y v u Q I rx ry h
 obtain ⟨i,j,rfl,rfl,hz,q⟩:=h
 obtain ⟨t,rfl⟩:=rx
 obtain ⟨t',rfl⟩:=ry
 exact add_str (fun t' tk=>⟨.str (i++j),H,I.tok _,⟨_,rfl⟩,q⟩) hz
theorem vals1 {x:V} {us:List Value} (r:Vals [x] us):∃u,us=[u]∧RelV x u:=by
 cases r with
 | cons r1 r2=>cases r2; exact ⟨_,rfl,r1⟩
theorem vals2 {x y:V} {us:List Value} (r:Vals [x,y] us):∃u w',us=[u,w']∧RelV x u∧RelV y w':=by
 cases r with
 | cons r1 r2=>
  cases r2 with
  | cons r3 r4=>cases r4; exact ⟨_,_,rfl,r1,r3⟩
theorem Bt:cJ X (.builtin "abs") (fun xs H Q=>∃i,xs=[.int i]∧Q (.int (if i < 0 then -i else i)) H):=by
 intro pins s σ H xs us Q I r h
 obtain ⟨i,rfl,q⟩:=h
 obtain ⟨u,rfl,t,rfl⟩:=vals1 r
 exact call_abs_int fun u tk=>⟨.int (if i < 0 then -i else i),H,I.tok _,⟨_,rfl⟩,q⟩
theorem JL (hc:X.calm=true):cJ X (.builtin "min") (fun xs H Q=>∃i j,xs=[.int i,.int j]∧Q (.int (if j < i then j else i)) H):=by
 intro pins s σ H xs us Q I r h
 obtain ⟨i,j,rfl,q⟩:=h
 obtain ⟨u,w',rfl,⟨t,rfl⟩,⟨t',rfl⟩⟩:=vals2 r
 refine min_two_ints (I.ok.hd hc) fun h' tk k=>⟨_,H,I.kept k,?_,q⟩
 by_cases hj:j < i
 ·rw [if_pos hj,if_pos hj]; exact ⟨_,rfl⟩
 ·rw [if_neg hj,if_neg hj]; exact ⟨_,rfl⟩
theorem JM:cJ X (.type "int") (fun xs H Q=>(∃i,xs=[.int i]∧Q (.int i) H)∨∃k,xs=[.bl k]∧Q (.int (if k then 1 else 0)) H):=by
 intro pins s σ H xs us Q I r h
 rcases h with ⟨i,rfl,q⟩ | ⟨k,rfl,q⟩
 ·obtain ⟨u,rfl,t,rfl⟩:=vals1 r
  exact call_int_int ⟨.int i,H,I,⟨_,rfl⟩,q⟩
 ·obtain ⟨u,rfl,r1⟩:=vals1 r
  cases r1
  exact call_int_bool ⟨.int (if k then 1 else 0),H,I.tok _,⟨_,rfl⟩,q⟩
end
end L2
namespace L2
open PySem PySem.Spec PyProof.Rows
structure Vb (h:Heap) (x dx C:Addr) (mA:Str→Option Value):Prop where
 obj:h.get? x=some (PySem.W.instObj C dx)
 ns:h.Ns1 dx mA
 ne:dx≠x
theorem JN {h:Heap} {dx:Addr} {mA:Str→Option Value} (n:h.Ns1 dx mA):∃od,h.get? dx=some od∧∀name,PySem.W.lookIn name od=some (mA name):=by
 obtain ⟨o,es,ep,ho,hd,hk,_,hm⟩:=n
 refine ⟨o,ho,fun name=>?_⟩
 have e:=hm name
 unfold nsFind findBy at e
 rw [←Array.find?_toList] at e
 unfold PySem.W.lookIn
 rw [hd]
 dsimp only
 split
 ·rename_i y q
  rw [q] at e
  exact congrArg some e
 ·rename_i q
  rw [q] at e
  have a:es.toList.any (·.refKey)=false:=by
   rw [List.any_eq_false]
   intro y hy
   obtain ⟨z,t,hkey⟩:=hk y (Array.mem_toList_iff.mp hy)
   simp [DictEntry.refKey,hkey]
  have a':¬es.toList.any (·.refKey)=true:=by rw [a]; exact Bool.false_ne_true
  rw [if_neg a']
  exact congrArg some e
theorem Vb.look {h:Heap} {x dx C:Addr} {mA:Str→Option Value} (I:Vb h x dx C mA):∃od,PySem.W.InstAt h x (PySem.W.instObj C dx) C (some od)∧∀name,PySem.W.lookIn name od=some (mA name):=
 let ⟨od,ho,hl⟩:=JN I.ns
 ⟨od,⟨I.obj,rfl,rfl,ho⟩,hl⟩
section
variable {prog:Program} {w:World} {A:Around} {E:Value→Shared→Prop} {s:Shared} {K:PySem.W.Frag} {x dx C f:Addr} {mA:Str→Option Value} {name:Str} {v:Value}
end
theorem rF.some_of {v:V} {o:Option Value} (r:rF (some v) o):∃u,o=some u∧RelV v u:=by
 cases o with
 | none=>exact (show False from r).elim
 | some u=>exact ⟨u,rfl,r⟩
section
variable {P:Program} {w:World} {H H':Hp} {h h':Heap} {a C dx:Addr} {fs fs':List (Str×V)}
theorem Hq (hok:qb P w H h) (e:H a=some (.ins C dx fs)):∃mA,Vb h a dx C mA∧(∀f,rF (fs.lookup f) (mA f))∧PySem.Within mA (fs.map (·.1))∧fs.length≤1000∧H dx=some (.own a):=by
 obtain ⟨d,z,ne,ob,mA,n,r,q⟩:=(show bL P w H h a (.ins C dx fs) from hok a _ e)
 exact ⟨mA,⟨ob,n,ne⟩,r,q,z,d⟩
end
structure Cls (K:PySem.W.Frag) (C:Addr):Prop where
 pg:PySem.W.plainGet K C Str.empty=true
 hd:PySem.W.hasDictIn K C=true
 po:PySem.W.plainOver K C=true
 sa:PySem.W.findIn K (.ref C) "__setattr__"=some (some (.builtin "object.__setattr__"))
theorem Cls.get {K:PySem.W.Frag} {C:Addr} (c:Cls K C) (f:Str):PySem.W.plainGet K C f=true:=c.pg
noncomputable def Mg (K:PySem.W.Frag) (C:Addr) (f:Str):Prop:=PySem.W.findIn K (.ref C) f=some none
theorem Mg.taker {K:PySem.W.Frag} {C:Addr} {f:Str} (n:Mg K C f):PySem.W.takerIn K C f=some none:=by
 unfold PySem.W.takerIn
 rw [show PySem.W.findIn K (.ref C) f=some none from n]
 rfl
structure Con (K:PySem.W.Frag) (C:Addr) (f:Str) (v:V) (u:Value):Prop where
 at_:PySem.W.findIn K (.ref C) f=some (some u)
 rel:RelV v u
 get:PySem.W.specialIn K u "__get__"=some none
 cp:PySem.W.copiedNames.contains f=false
structure Meth (K:PySem.W.Frag) (C:Addr) (m:Str) (f:Addr):Prop where
 at_:PySem.W.findIn K (.ref C) m=some (some (.ref f))
 fn:PySem.W.isFn K (.ref f)=true
 kp:PySem.W.keepIn K (.ref f)=true
section
variable {X:Cx} {pins:List (Addr×Obj)} {σ:St} {H:Hp} {s:Shared} {a C dx:Addr} {fs:List (Str×V)} {f:Str} {v:V} {A:Around} {E:Value→Shared→Prop}
end
section
variable {X:Cx} {o e value:Expr} {f:Str} {pos pos' tpos:Pos} {ta tv:TE}
end
section
variable {X:Cx} {pins:List (Addr×Obj)} {σ:St} {H:Hp} {s:Shared} {A:Around} {E:Value→Shared→Prop} {Q:Value→Shared→Prop} {c:Value} {b:Bool}
inductive mH (K:PySem.W.Frag) (H:Hp):V→Value→Prop where
 | non:mH K H .non (.type "NoneType")
 | bl (x:Bool):mH K H (.bl x) (.type "bool")
 | int (i:Int):mH K H (.int i) (.type "int")
 | str (x:Str):mH K H (.str x) (.type "str")
 | flt (x:UInt64):mH K H (.flt x) (.type "float")
 | lst {a:Addr} {xs:List V} (e:H a=some (.lst xs)):mH K H (.ref a) (.type "list")
 | Bj {a:Addr} {o:Obj} {xs:List V} (e:H a=some (.Bj o (.lst xs))):mH K H (.ref a) (.type "list")
 | tup {a:Addr} {xs:List V} (e:H a=some (.tup xs)):mH K H (.ref a) (.type "tuple")
 | dK {a:Addr} {kvs:List (Key×V)} (e:H a=some (.dK kvs)):mH K H (.ref a) (.type "dict")
 | dT {a:Addr} {kvs:List (List Key×V)} (e:H a=some (.dT kvs)):mH K H (.ref a) (.type "dict")
 | ins {a C dx:Addr} {fs:List (Str×V)} (e:H a=some (.ins C dx fs)) (cl:Cls K C) (ha:PySem.W.findIn K (.ref C) "__class__"=some (some (.builtin "object.__class__")))
   (hn:PySem.W.specialIn K (.builtin "object.__class__") "__get__"=some (some (.builtin "getset_descriptor.__get__"))) (htk:PySem.W.takesIn K (.builtin "object.__class__")=some true)
   (hm:PySem.W.mroIn K C (.type "object")=some true):mH K H (.ref a) (.ref C)
theorem JP {x:V} {u t:Value} (I:Inv X pins σ H s) (rx:RelV x u) (ty:mH X.K H x t) (e:PySem.W.kitOne X.K t c=some b) (h:∀tk,Q (.bool b) { s with toks:=tk }):
  wpAny (model X.prog X.w) A (call (.builtin "isinstance") [u,c]) Q E s:=by
 cases ty with
 | non=>cases (show u=Value.none from rx); exact PySem.W.kia_one PySem.W.kitx_none I.rE True.intro e (fun z=>nomatch z) h
 | bl y=>cases (show u=Value.bool y from rx); exact PySem.W.kia_one PySem.W.kitx_bool I.rE True.intro e (fun z=>nomatch z) h
 | int i=>obtain ⟨t,q⟩:=(show ∃t,u=Value.int i t from rx); cases q; exact PySem.W.kia_one PySem.W.kitx_int I.rE True.intro e (fun z=>nomatch z) h
 | str y=>obtain ⟨t,q⟩:=(show ∃t,u=Value.str y t from rx); cases q; exact PySem.W.kia_one PySem.W.kitx_str I.rE True.intro e (fun z=>nomatch z) h
 | flt y=>obtain ⟨t,q⟩:=(show ∃t,u=Value.float y t from rx); cases q; exact PySem.W.kia_one PySem.W.kitx_float I.rE True.intro e (fun z=>nomatch z) h
 | @lst a xs ea=>
  cases (show u=Value.ref a from rx)
  obtain ⟨_,_,n,_,h1⟩:=(show bL X.prog X.w H s.heap a (.lst xs) from I.hok a _ ea)
  exact PySem.W.kia_one PySem.W.kitx_list I.rE ⟨_,h1,rfl⟩ e (fun z=>nomatch z) h
 | @Bj a ob xs ea=>
  cases (show u=Value.ref a from rx)
  obtain ⟨_,_,_,n,_,h1⟩:=(show bL X.prog X.w H s.heap a (.Bj ob (.lst xs)) from I.hok a _ ea)
  exact PySem.W.kia_one PySem.W.kitx_list I.rE ⟨_,h1,rfl⟩ e (fun z=>nomatch z) h
 | @tup a xs ea=>
  cases (show u=Value.ref a from rx)
  obtain ⟨_,_,_,p⟩:=(show bL X.prog X.w H s.heap a (.tup xs) from I.hok a _ ea)
  obtain ⟨o,h1,h2,_⟩:=p
  exact PySem.W.kia_one PySem.W.kitx_tuple I.rE ⟨o,h1,h2⟩ e (fun z=>nomatch z) h
 | @dK a kvs ea=>
  cases (show u=Value.ref a from rx)
  obtain ⟨_,_,vs,_,p⟩:=(show bL X.prog X.w H s.heap a (.dK kvs) from I.hok a _ ea)
  obtain ⟨o,es,ep,h1,h2,_⟩:=p
  exact PySem.W.kia_one PySem.W.kitx_dict I.rE ⟨o,h1,h2.1⟩ e (fun z=>nomatch z) h
 | @dT a kvs ea=>
  cases (show u=Value.ref a from rx)
  obtain ⟨_,_,xs,_,o,es,ep,h1,h2,_⟩:=(show bL X.prog X.w H s.heap a (.dT kvs) from I.hok a _ ea)
  exact PySem.W.kia_one PySem.W.kitx_dict I.rE ⟨o,h1,h2.1⟩ e (fun z=>nomatch z) h
 | @ins a C dx fs ea cl ha hn htk hm=>
  cases (show u=Value.ref a from rx)
  obtain ⟨mA,O,_⟩:=Hq I.hok ea
  obtain ⟨od,J,_⟩:=O.look
  exact PySem.W.kia_one (PySem.W.kitx_own (cl.get _) cl.hd ha hn htk hm) I.rE J e (fun z=>nomatch z) h
end
end L2
namespace L2
open PySem PySem.Spec PyProof.Rows
structure gn (k:Nat) (A:Around):Prop where
 hd:A.handled=none
 dp:A.depth + 3 * k + 5 < recursionLimit
 un:A.units + 16 * k + 200 < cLine
 gd:A.guards=some []
theorem gn.mono {j k:Nat} {A:Around} (r:gn k A) (h:j≤k):gn j A:=⟨r.hd,by have:=r.dp; omega,by have:=r.un; omega,r.gd⟩
theorem gn.deeper {k:Nat} {A:Around} (r:gn (k + 1) A) (env:Env):gn k (A.deeper env):=
 ⟨r.hd,by have:=r.dp; show A.depth + 1 + 3 * k + 5 < _; omega,by have:=r.un; show A.units + 3 + 16 * k + 200 < _; omega,r.gd⟩
theorem gn.in1 {k:Nat} {A:Around} (r:gn (k + 1) A):gn k A.in1:=
 ⟨r.hd,by have:=r.dp; show A.depth + 3 * k + 5 < _; omega,by have:=r.un; show A.units + 1 + 16 * k + 200 < _; omega,r.gd⟩
theorem gn.depth {k:Nat} {A:Around} (r:gn k A):A.depth < recursionLimit:=by have:=r.dp; omega
theorem gn.units {k:Nat} {A:Around} (r:gn k A):A.units + 64 < cLine:=by have:=r.un; omega
theorem gn.zu {k:Nat} {A:Around} (r:gn k A):A.units < cLine:=by have:=r.un; omega
noncomputable def aac:TA:=fun _ H Q=>Q [] H
noncomputable def Xv (ta:TE) (tr:TA):TA:=fun σ H Q=>ta σ H fun x H1=>tr σ H1 fun xs H2=>Q (x::xs) H2
section
variable {X:Cx} {e:Expr} {es:List Expr} {te:TE} {t:TA} {pos:Pos}
theorem gq:PA X [] aac:=fun _ _ _ _ H Q I h=>Calls.spliced_nil ⟨[],H,I,.nil,h⟩
theorem cU (ha:PE X e te) (hr:PA X es t) (hs:starEach (e::es) X.env=(false,eval e X.env)::starEach es X.env:=by rfl):PA X (e::es) (Xv te t):=by
 intro pos pins s σ H Q I h
 rw [hs]
 show wpAny _ _ (spliced ((false,eval e X.env)::backTo pos (starEach es X.env))) _ _ s
 refine Calls.spliced_cons (cR (ha pins s σ H _ I h) fun u s1 aO=>?_)
 obtain ⟨x,H1,I1,r1,q1⟩:=aO
 exact cR (hr pos pins s1 σ H1 _ I1 q1) fun us s2 ⟨xs,H2,I2,r2,q2⟩=>⟨x::xs,H2,I2,.cons r1 r2,q2⟩
noncomputable def aad (t:TA):TE:=fun σ H Q=>t σ H fun xs H1=>xs.length≤sizeLine∧∀p,H1 p=none→Q (.ref p) (upd H1 p (.tup xs))
noncomputable def aae (t:TA):TE:=fun σ H Q=>t σ H fun xs H1=>xs.length≤sizeLine∧∀p,H1 p=none→Q (.ref p) (upd H1 p (.lst xs))
theorem EY {x1} (h:PA X es t):PE X (.Tuple es x1 pos) (aad t):=by
 intro pins s σ H Q I hq
 refine wpAny_Tuple_spliced (cR (h pos pins s σ H _ I hq) fun us s1 ⟨xs,H1,I1,r,z,q⟩=>⟨by rw [←r.length]; exact z,?_⟩)
 have hf:H1 s1.heap.objs.size=none:=I1.hok.fresh (Nat.le_refl _)
 refine ⟨.ref s1.heap.objs.size,upd H1 s1.heap.objs.size (.tup xs),I1.laid (t':=s1.toks) (fun b u e=>Heap.get?_push_of_some _ e) (Nat.le_refl _) ?_,rfl,q _ hf⟩
 exact ⟨z,us,r,⟨_,Heap.get?_push_size _ rfl,rfl,_,rfl⟩⟩
theorem Vc (h:PA X es t):PE X (.List es pos) (aae t):=by
 intro pins s σ H Q I hq
 refine wpAny_List_spliced (cR (h pos pins s σ H _ I hq) fun us s1 ⟨xs,H1,I1,r,z,q⟩=>⟨by rw [←r.length]; exact z,?_⟩)
 have hf:H1 s1.heap.objs.size=none:=I1.hok.fresh (Nat.le_refl _)
 refine ⟨.ref s1.heap.objs.size,upd H1 s1.heap.objs.size (.lst xs),I1.laid (t':=s1.toks) (fun b u e=>Heap.get?_push_of_some _ e) (Nat.le_refl _) ?_,rfl,q _ hf⟩
 exact ⟨z,us,0,r,Heap.get?_push_size _ rfl⟩
end
noncomputable abbrev Sp:=List V→Hp→VK→XK→Prop
noncomputable abbrev JQ:=List Env→Hp→Shared→XK→Value→Shared→Prop
structure Fb (P:Program) (w:World) (K:PySem.W.Frag) (mg:Str→Option Value) (base:Heap) (A:Around) (outer:List Env) (s:Shared) (H:Hp):Prop where
 frames:A.frames=some outer
 mod:Mod K mg base
 bs:∀b o,base.get? b=some o→s.heap.get? b=some o∧H b=none
 Qq:base.objs.size≤s.heap.objs.size
 uf:s.heap.FunFrames base outer
 Us:∀b∈frs outer,H b=none
 hok:qb P w H s.heap
 bare:AllBare s.gens
noncomputable def CE (outer:List Env) (P:Program) (w:World) (H:Hp) (s:Shared) (Q:VK) (u:Value) (s':Shared):Prop:=
 ∃v H',s'.os=s.os∧AllBare s'.gens∧Un (frs outer) [] H H' s.heap s'.heap∧qb P w H' s'.heap∧RelV v u∧Q v H'
noncomputable def CR (CX:JQ) (outer:List Env) (P:Program) (w:World) (H:Hp) (s:Shared) (Q:VK) (E:XK) (r:Result) (s':Shared):Prop:=
 match r with
 | .ok (.ret u)=>CE outer P w H s Q u s'
 | .ok _=>False
 | .error e=>CX outer H s E e s'
structure dB (P:Program) (w:World) (K:PySem.W.Frag) (mg:Str→Option Value) (base:Heap) (CX:JQ) (k:Nat) (f:Addr) (fd:FuncData) (ps:List Str) (sp:Sp):Prop where
 len:∀vs H Q E,sp vs H Q E→vs.length=ps.length
 run:∀(A:Around) (outer:List Env) (s:Shared) (H:Hp) (args:Args) (us:List Value) (vs:List V) (Q:VK) (E:XK),gn k A→Fb P w K mg base A outer s H→BindsTo s fd args (ps.zip us)→Vals vs us→sp vs H Q E→
  codeAny (model P w) A (.call (.ref f) args) (CR CX outer P w H s Q E) s
theorem dB.mono {P:Program} {w:World} {K:PySem.W.Frag} {mg:Str→Option Value} {base:Heap} {CX:JQ} {j k:Nat} {f:Addr} {fd:FuncData} {ps:List Str} {sp:Sp} (F:dB P w K mg base CX j f fd ps sp) (h:j≤k):
  dB P w K mg base CX k f fd ps sp:=⟨F.len,fun A outer s H args us vs Q E hr=>F.run A outer s H args us vs Q E (hr.mono h)⟩
theorem dB.imp {P:Program} {w:World} {K:PySem.W.Frag} {mg:Str→Option Value} {base:Heap} {CX:JQ} {k:Nat} {f:Addr} {fd:FuncData} {ps:List Str} {sp sp':Sp} (F:dB P w K mg base CX k f fd ps sp)
  (h:∀vs H Q E,sp' vs H Q E→sp vs H Q E):dB P w K mg base CX k f fd ps sp':=
 ⟨fun vs H Q E q=>F.len vs H Q E (h _ _ _ _ q),fun A outer s H args us vs Q E hr he hb hv hs=>F.run A outer s H args us vs Q E hr he hb hv (h _ _ _ _ hs)⟩
theorem Fb.in1 {P:Program} {w:World} {K:PySem.W.Frag} {mg:Str→Option Value} {base:Heap} {A:Around} {outer:List Env} {s:Shared} {H:Hp} (e:Fb P w K mg base A outer s H):
  Fb P w K mg base A.in1 outer s H:=⟨e.frames,e.mod,e.bs,e.Qq,e.uf,e.Us,e.hok,e.bare⟩
section
variable {X:Cx} {pins:List (Addr×Obj)} {σ:St} {H:Hp} {s s':Shared}
theorem Inv.env0 (I:Inv X pins σ H s):Fb X.prog X.w X.K X.mg X.base X.A X.stack s H:=
 ⟨I.ok.frames,I.ok.mod,I.bs,Nat.le_trans I.ok.Qq I.sz,I.stack,I.Hh,I.hok,I.bare⟩
theorem Inv.after {Q:VK} {u:Value} (I:Inv X pins σ H s) (h:CE X.stack X.prog X.w H s Q u s'):EP X pins σ Q u s':=by
 obtain ⟨v,H',os,bare,un,hok,r,q⟩:=h
 obtain ⟨hh,g,d,t,os'⟩:=s'
 obtain rfl:os'=s.os:=os
 exact ⟨v,H',I.call (h':=hh) (g':=g) (d':=d) (t':=t) (ch:=[]) un hok bare (fun b z=>absurd z (by simp)),r,q⟩
end
noncomputable def Mh (sp:Sp) (Tt:List V) (E:XK) (t:TA):TE:=fun σ H Q=>t σ H fun vs H1=>sp (vs++Tt) H1 Q E
noncomputable def Binds (K:PySem.W.Frag) (fd:FuncData) (ps:List Str) (ds:List Value):Prop:=
 ∀(s:Shared) (us:List Value),K.In s.heap→(us++ds).length=ps.length→BindsTo s fd ⟨us,[]⟩ (ps.zip (us++ds))
theorem Binds.all {K:PySem.W.Frag} {fd:FuncData} {ps:List Str} (h:∀us:List Value,us.length=ps.length→bindArgs fd ⟨us,[]⟩=pure (ps.zip us)):Binds K fd ps []:=fun s us _ hl=>by
 rw [List.append_nil] at hl ⊢
 exact .of_eq (h us hl)
noncomputable def Passes (CX:JQ) (X:Cx) (E:XK):Prop:=∀(pins:List (Addr×Obj)) (σ:St) (H:Hp) (s:Shared) (e:Value) (s':Shared),Inv X pins σ H s→CX X.stack H s E e s'→X.xe e s'
section
variable {X:Cx} {CX:JQ} {k:Nat} {f C:Addr} {fd:FuncData} {ps:List Str} {sp:Sp} {Tt:List V} {ds:List Value} {E:XK} {x m:Str} {p pos apos:Pos} {e o:Expr} {es:List Expr} {ta:TE} {t:TA}
theorem Vd {pins:List (Addr×Obj)} {σ:St} {H:Hp} {s:Shared} {Q:VK} {us:List Value} {vs:List V} (F:dB X.prog X.w X.K X.mg X.base CX k f fd ps sp) (hr:gn k X.A) (hb:Binds X.K fd ps ds) (hd:Vals Tt ds) (hx:Passes CX X E)
  (I:Inv X pins σ H s) (r:Vals vs us) (h:sp (vs++Tt) H Q E):wpAny (model X.prog X.w) X.A (call (.ref f) us) (EP X pins σ Q) X.xe s:=by
 have r2:Vals (vs++Tt) (us++ds):=r.append hd
 have hl:(us++ds).length=ps.length:=by rw [←r2.length]; exact F.len _ _ _ _ h
 refine wpAny_call (codeAny_mono (F.run X.A X.stack s H ⟨us,[]⟩ (us++ds) (vs++Tt) Q E hr I.env0 (hb s us I.rE hl) r2 h) fun r s' hq=>?_)
 cases r with
 | error e=>exact hx pins σ H s e s' I hq
 | ok fl=>
  cases fl with
  | ret u=>exact I.after hq
  | next=>exact False.elim hq
  | brk=>exact False.elim hq
  | cont=>exact False.elim hq
theorem QL (F:dB X.prog X.w X.K X.mg X.base CX k f fd ps sp) (hr:gn k X.A) (hg:Gl X x) (hm:X.mg x=some (.ref f)) (hk:PySem.W.keepIn X.K (.ref f)=true) (hb:Binds X.K fd ps ds) (hd:Vals Tt ds) (hx:Passes CX X E)
  (ha:PA X (e::es) t) (hdb:(x==("__debug__":Str))=false:=by decide) (he:starEach (e::es) X.env=(false,eval e X.env)::starEach es X.env:=by rfl) (hpl:(backTo pos (starEach es X.env)).any (·.1)=false:=by rfl):
  PE X (.Call (.Name x p) (e::es) [] pos) (Mh sp Tt E t):=by
 intro pins s σ H Q I h
 refine wpAny_Call_Name_kw (Qz I hg hm ?_ hdb)
 refine PySem.W.callWith_K (h₀:=X.base) I.ok.mod.ZR hk (cR (ha pos pins s σ H _ I h) fun us s1 ⟨vs,H1,I1,r,q⟩=>⟨I1.rE,?_⟩) he hpl
 exact Vd F hr hb hd hx I1 r q
structure Mk (K:PySem.W.Frag) (C f:Addr):Prop where
 makes:PySem.W.makesIn K C=true
 init:PySem.W.findIn K (.ref C) "__init__"=some (some (.ref f))
 fn:PySem.W.isFn K (.ref f)=true
 kp:PySem.W.keepIn K (.ref C)=true
end
section
variable {X:Cx} {CX:JQ} {k:Nat} {f C:Addr} {fd:FuncData} {ps ks:List Str} {sp:Sp} {E:XK} {x m:Str} {p pos apos kpos:Pos} {e o:Expr} {es:List Expr} {kws:List Keyword} {te ta:TE} {t tk:TA} {nm:Option Str}
structure aaf (K:PySem.W.Frag) (fd:FuncData) (ps ks:List Str) (g:List Value→List Value→List Value) (gV:List V→List V→List V):Prop where
 to:∀(s:Shared) (us ws:List Value),K.In s.heap→(g us ws).length=ps.length→BindsTo s fd ⟨us,ks.zip ws⟩ (ps.zip (g us ws))
 rel:∀{vs:List V} {us:List Value} {zs:List V} {ws:List Value},Vals vs us→Vals zs ws→Vals (gV vs zs) (g us ws)
variable {g:List Value→List Value→List Value} {gV:List V→List V→List V}
end
structure bT (N P:List Str) (sc:Scope):Prop where
 kind:sc.kind=.function
 co:sc.isCoroutine=false
 gen:sc.isGenerator=false
 nd:N.Nodup
 pre:N.take P.length=P
 par:∀x∈P,sc.names.lookup x=some .local∨sc.names.lookup x=some .cell
 Ve:∀y∈sc.names,y.2≠.free
theorem yc {kindOf:Str→Option NameKind} {x:Str}:∀{binds:List (Str×Value)} {m:Str→Option Value},(∀v,(x,v)∉binds)→bindL kindOf binds m x=m x
 | [],_,_=>rfl
 | (n,v)::r,m,h=>by
  unfold bindL
  rw [yc fun w hw=>h w (List.mem_cons_of_mem _ hw)]
  split
  ·have:x≠n:=by rintro rfl; exact h v List.mem_cons_self
   simp [this]
  ·rfl
theorem ye {kindOf:Str→Option NameKind} {x:Str}:∀{binds:List (Str×Value)} {m:Str→Option Value},(∀v,(x,v)∉binds)→bindC kindOf binds m x=m x
 | [],_,_=>rfl
 | (n,v)::r,m,h=>by
  unfold bindC
  rw [ye fun w hw=>h w (List.mem_cons_of_mem _ hw)]
  split
  ·rfl
  ·have:x≠n:=by rintro rfl; exact h v List.mem_cons_self
   simp [this]
theorem yf {kindOf:Str→Option NameKind} {x:Str} {v:Value}:∀{P:List Str} {vs:List Value} {i:Nat} {m:Str→Option Value},P.Nodup→P[i]?=some x→vs[i]?=some v→kindOf x=some .local→
  bindL kindOf (P.zip vs) m x=some v
 | [],_,_,_,_,h,_,_=>by simp at h
 | _::_,[],_,_,_,_,h,_=>by simp at h
 | p::P,w::vs,0,m,nd,h1,h2,hk=>by
  simp at h1 h2; subst h1; subst h2
  show bindL kindOf ((p,w)::P.zip vs) m p=_
  unfold bindL
  rw [yc fun v hv=>(List.nodup_cons.mp nd).1 (List.of_mem_zip hv).1,if_pos hk]
  simp
 | p::P,w::vs,i + 1,m,nd,h1,h2,hk=>by
  show bindL kindOf ((p,w)::P.zip vs) m x=_
  unfold bindL
  exact yf (i:=i) (List.nodup_cons.mp nd).2 (by simpa using h1) (by simpa using h2) hk
theorem yg {kindOf:Str→Option NameKind} {x:Str} {v:Value}:∀{P:List Str} {vs:List Value} {i:Nat} {m:Str→Option Value},P.Nodup→P[i]?=some x→vs[i]?=some v→kindOf x≠some .local→
  bindC kindOf (P.zip vs) m x=some v
 | [],_,_,_,_,h,_,_=>by simp at h
 | _::_,[],_,_,_,_,h,_=>by simp at h
 | p::P,w::vs,0,m,nd,h1,h2,hk=>by
  simp at h1 h2; subst h1; subst h2
  show bindC kindOf ((p,w)::P.zip vs) m p=_
  unfold bindC
  rw [ye fun v hv=>(List.nodup_cons.mp nd).1 (List.of_mem_zip hv).1,if_neg hk]
  simp
 | p::P,w::vs,i + 1,m,nd,h1,h2,hk=>by
  show bindC kindOf ((p,w)::P.zip vs) m x=_
  unfold bindC
  exact yg (i:=i) (List.nodup_cons.mp nd).2 (by simpa using h1) (by simpa using h2) hk
noncomputable def start (N:List Str) (vs:List V):St:=vs.map some++List.replicate (N.length - vs.length) none
noncomputable def Fd (CX:JQ) (P:Program) (w:World) (K:PySem.W.Frag) (mg:Str→Option Value) (base:Heap) (N:List Str) (qual:Str) (scope:Scope) (f:Addr) (cd:Value) (A:Around) (outer:List Env) (s:Shared) (H:Hp) (E:XK):Cx where
 prog:=P
 w:=w
 K:=K
 mg:=mg
 base:=base
 A:=A.deeper (envOfC qual scope s.heap.objs.size f cd)
 N:=N
 s₀:=s
 H₀:=H
 env:=envOfC qual scope s.heap.objs.size f cd
 outer:=outer
 stack:=envOfC qual scope s.heap.objs.size f cd::outer
 ex:=[]
 calm:=true
 fn:=fun _=>true
 pn:=[]
 xe:=fun e s'=>wpAny (model P w) (A.deeper (envOfC qual scope s.heap.objs.size f cd)) (leaving (envOfC qual scope s.heap.objs.size f cd) e) (fun _ s''=>CX outer H s E e s'') (fun e' s''=>CX outer H s E e' s'') s'
theorem Bu {sc:Scope} {n:Nat} {x:Str} (h:sc.names.lookup x=some .cell):∃c,(cellsFrom n sc.names []).lookup x=some c:=by
 have q:=PySem.W.cellsFrom_some sc.names n [] (.inl h)
 exact Option.isSome_iff_exists.mp q
theorem JR {CX:JQ} {P:Program} {w:World} {K:PySem.W.Frag} {mg:Str→Option Value} {base:Heap} {N ps:List Str} {qual:Str} {scope:Scope} {f:Addr} {cd:Value} {A:Around} {outer:List Env} {s s1:Shared} {H:Hp} {E:XK} {us:List Value} {vs:List V}
  (S:bT N ps scope) (hd:A.handled=none) (e0:Fb P w K mg base A outer s H) (hl:vs.length=ps.length) (r:Vals vs us)
  (x:InCallC s s.heap.objs.size (bindL (envOfC qual scope s.heap.objs.size f cd).kindOf (ps.zip us) fun _=>none) (cellsFrom (s.heap.objs.size + 1) scope.names []) (bindC (envOfC qual scope s.heap.objs.size f cd).kindOf (ps.zip us) fun _=>none) s1):
  Inv (Fd CX P w K mg base N qual scope f cd A outer s H E) [] (start N vs) H s1:=by
 have hpl:ps.length≤N.length:=by have:=congrArg List.length S.pre; rw [List.length_take] at this; omega
 obtain ⟨h1,tk,rfl,hk⟩:=x.done
 have Xw:∀b:Addr,b∉(Fd CX P w K mg base N qual scope f cd A outer s H E).ex:=fun b z=>absurd (show b∈([]:List Addr) from z) (by simp)
 refine ⟨⟨e0.mod,S.kind,rfl,rfl,Nat.le_refl _,fun y z c h1 h2=>?_,fun y hy=>?_,fun y c _ h=>?_,fun _=>hd,Around.frames_deeper e0.frames,.inr ⟨rfl,rfl⟩,fun b z=>absurd z (Xw b),e0.bs,e0.Qq,fun b _ _=>Xw b,fun b z=>absurd z (Xw b),e0.uf,e0.Us⟩,
  rfl,e0.bare,Un.kept hk,⟨_,x.toInCall.ns,fun i y v h1 h2 h3=>?_⟩,fun y c h=>⟨_,x.cell y c h⟩,e0.hok.fresh (Nat.le_refl _),fun y c h=>?_,fun p hp=>absurd (show p∈([]:List (Addr×Obj)) from hp) (by simp),e0.hok.kept hk,?_⟩
 ·exact name_of_addr x.apart (PySem.mem_of_lookup h1) (PySem.mem_of_lookup h2)
 ·have hy:scope.names.lookup y=some .cell∨scope.names.lookup y=some .free:=hy
  rcases hy with hy | hy
  ·exact Bu hy
  ·exact absurd rfl (S.Ve _ (PySem.mem_of_lookup hy))
 ·exact Nat.le_of_lt (x.above y c (PySem.mem_of_lookup h))
 ·have hi:i < vs.length:=by
   unfold start at h2
   by_cases hi:i < vs.length
   ·exact hi
   ·rw [List.getElem?_append_right (by simpa using hi)] at h2
    rw [List.getElem?_replicate] at h2
    split at h2 <;> cases h2
  have ha:vs[i]?=some v:=by
   unfold start at h2
   rw [List.getElem?_append_left (by simpa using hi),List.getElem?_map] at h2
   cases e:vs[i]? with
   | none=>rw [e] at h2; cases h2
   | some a=>rw [e] at h2; cases h2; rfl
  obtain ⟨u,hu,rv⟩:=r.get ha
  have hp:ps[i]?=some y:=by
   rw [←S.pre,List.getElem?_take_of_lt (by omega)]; exact h1
  have ndP:ps.Nodup:=by rw [←S.pre]; exact S.nd.sublist (List.take_sublist _ _)
  refine ⟨u,rv,?_⟩
  rcases S.par y (List.mem_of_getElem? hp) with k | k
  ·exact .inl ⟨k,yf ndP hp hu k⟩
  ·obtain ⟨c,e⟩:=Bu (n:=s.heap.objs.size + 1) k
   refine .inr ⟨.inl k,c,e,?_⟩
   have q:=x.cell y c e
   rw [yg ndP hp hu (by show scope.names.lookup y≠_; rw [k]; decide)] at q
   exact q
 ·exact e0.hok.fresh (Nat.le_of_lt (x.above y c (PySem.mem_of_lookup h)))
 ·unfold start
  show _=N.length
  rw [List.length_append,List.length_map,List.length_replicate]
  omega
theorem Xx {CX:JQ} {P:Program} {w:World} {K:PySem.W.Frag} {mg:Str→Option Value} {base:Heap} {k:Nat} {f:Addr} {name qual:Str} {params:Arguments} {body:List Stmt} {scope:Scope} {dV kV doc pm cdv ct oc:Value} {an od:Option Addr}
  {osl:Array (Option Value)} {N ps:List Str} {sp:Sp} (lk:K.lookup f=some ⟨oc,od,.func (PySem.W.fnOf name qual params body scope dV kV doc pm an cdv ct),osl⟩) (hcd:PySem.W.codeIn K cdv qual=true) (S:bT N ps scope)
  (len:∀vs H Q E,sp vs H Q E→vs.length=ps.length)
  (hbody:∀(A:Around) (outer:List Env) (s:Shared) (H:Hp) (vs:List V) (Q:VK) (E:XK),gn k (A.deeper (envOfC qual scope s.heap.objs.size f cdv))→sp vs H Q E→
   ∃t,ug (Fd CX P w K mg base N qual scope f cdv A outer s H E) body t∧t { nx:=fun _ H'=>Q .non H',rt:=Q } (start N vs) H):
  dB P w K mg base CX (k + 1) f (PySem.W.fnOf name qual params body scope dV kV doc pm an cdv ct) ps sp:=by
 refine ⟨len,fun A outer s H args us vs Q E hr e0 hb r hsp=>?_⟩
 have hl:=len _ _ _ _ hsp
 have KX:K.In s.heap:=e0.mod.ZR.keeps fun b o e=>(e0.bs b o e).1
 have lim:s.heap.NoLimit:=e0.mod.nolimit.keeps fun b o e=>(e0.bs b o e).1
 have hkind:∀y∈ps.zip us,scope.names.lookup y.1=some .local∨(scope.names.lookup y.1=some .cell∧((cellsFrom (s.heap.objs.size + 1) scope.names []).lookup y.1).isSome=true):=fun ⟨n,v⟩ hy=>by
  rcases S.par n (List.of_mem_zip hy).1 with q | q
  ·exact .inl q
  ·exact .inr ⟨q,PySem.W.cellsFrom_some _ _ _ (.inl q)⟩
 refine codeAny_call_function hr.depth (KX _ _ lk) rfl S.co S.gen rfl (PySem.W.codeRec_of KX hcd) (hb _ _ _ _ ?_)
 refine wpAny_newFunctionEnv_cells S.kind hkind fun env he s1 x=>?_
 subst he
 refine ⟨lim.keeps x.toInCall.keep,codeAny_func ?_⟩
 obtain ⟨t,ht,hq⟩:=hbody A outer s H vs Q E (hr.deeper _) hsp
 have I:Inv (Fd CX P w K mg base N qual scope f cdv A outer s H E) [] (start N vs) H s1:=JR S hr.hd e0 hl r x
 refine wpAny_mono (ht [] s1 (start N vs) H _ I hq) (fun fl s' hs=>?_) fun e s' hs=>hs
 have fin:∀{σ':St} {H':Hp} {v:V} {u:Value},Inv (Fd CX P w K mg base N qual scope f cdv A outer s H E) [] σ' H' s'→RelV v u→Q v H'→CE outer P w H s Q u s':=
  fun {σ' H' v u} J rv q=>⟨v,H',J.os,J.bare,J.base,J.hok,rv,q⟩
 cases fl with
 | ret u=>
  obtain ⟨v,σ',H',J,rv,q⟩:=hs
  exact fin J rv q
 | next=>
  obtain ⟨σ',H',J,q⟩:=hs
  exact fin (v:=V.non) (u:=Value.none) J rfl q
 | brk=>
  obtain ⟨_,_,_,q⟩:=hs
  exact False.elim q
 | cont=>
  obtain ⟨_,_,_,q⟩:=hs
  exact False.elim q
end L2
namespace L2
open PySem PySem.Spec PyProof.Rows
section
variable {X:Cx} {x:Str} {p pos:Pos} {e:Expr} {es:List Expr} {t:TA} {id T:String} {r:List V→Hp→VK→Prop}
noncomputable def tCB (r:List V→Hp→VK→Prop) (t:TA):TE:=fun σ H Q=>t σ H fun vs H1=>r vs H1 Q
theorem qi (hc:cJ X (.builtin id) r) (hg:Gl X x) (hm:X.mg x=none) (hv:bootBuiltins x=some (.builtin id)) (ha:PA X (e::es) t) (hn:x≠"__name__":=by decide) (hdb:(x==("__debug__":Str))=false:=by decide)
  (he:starEach (e::es) X.env=(false,eval e X.env)::starEach es X.env:=by rfl) (hpl:(backTo pos (starEach es X.env)).any (·.1)=false:=by rfl):PE X (.Call (.Name x p) (e::es) [] pos) (tCB r t):=by
 intro pins s σ H Q I h
 refine wpAny_Call_Name_kw (kj I hg hm hv ?_ hn hdb)
 exact PyProof.Rows.callWith_builtin1 (cR (ha pos pins s σ H _ I h) fun us s1 ⟨vs,H1,I1,r1,q1⟩=>hc pins s1 σ H1 vs us Q I1 r1 q1) he hpl
theorem JS (hc:cJ X (.type T) r) (hg:Gl X x) (hm:X.mg x=none) (hv:bootBuiltins x=some (.type T)) (ha:PA X (e::es) t) (hn:x≠"__name__":=by decide) (hdb:(x==("__debug__":Str))=false:=by decide)
  (he:starEach (e::es) X.env=(false,eval e X.env)::starEach es X.env:=by rfl) (hpl:(backTo pos (starEach es X.env)).any (·.1)=false:=by rfl):PE X (.Call (.Name x p) (e::es) [] pos) (tCB r t):=by
 intro pins s σ H Q I h
 refine wpAny_Call_Name_kw (kj I hg hm hv ?_ hn hdb)
 exact PyProof.Rows.callWith_type1 (cR (ha pos pins s σ H _ I h) fun us s1 ⟨vs,H1,I1,r1,q1⟩=>hc pins s1 σ H1 vs us Q I1 r1 q1) he hpl
end
end L2
namespace HT
open PySem PyProof.Rows
section
open PySem.SeqAt
open PySem.AutoSeq1 (wpAny_loadPart')
open PySem.MeetsSeq PySem.MeetsSeq2 PySem.MeetsSeq3
end
section
variable {prog:Program} {w:World} {A:Around} {E:Value→Shared→Prop} {s:Shared}
theorem QM {t b:Addr} {vs ws:List Value} {Q:Value→Shared→Prop} (ht:IsTup s.heap t vs.toArray) (hb:IsTup s.heap b ws.toArray) (hv:vs≠[])
  (h1:ws=[]→Q (.ref t) s) (h2:ws≠[]→Q (.ref s.heap.objs.size) { s with heap:=s.heap.push { cls:=.type "tuple",data:=.seq (vs++ws).toArray } })
  (hsz:vs.length + ws.length≤sizeLine):wpAny (model prog w) A (binaryOp .Add (.ref t) (.ref b)) Q E s:=by
 obtain ⟨⟨cls,dd,data,sl⟩,ho,hc,n,hd⟩:=id ht
 obtain ⟨⟨cls2,dd2,data2,sl2⟩,ho2,hc2,n2,hd2⟩:=id hb
 simp only at hc hd hc2 hd2
 subst hc hd hc2 hd2
 have e:vs.toArray++ws.toArray=(vs++ws).toArray:=by simp
 by_cases hw:ws=[]
 ·exact concat_meets ⟨_,ho,rfl⟩ ⟨_,ho2,rfl⟩ noFill_tuple_add seq_tuple_add PySem.F.slot_tuple_add PySem.F.entry_tuple_add (PySem.F.args_tuple_add_2 _ _)
   (tuple_addW1 t b vs.toArray ws.toArray n n2 dd dd2 sl sl2 (by simpa using hv) (by simp [hw])) ⟨ho,ho2,h1 hw⟩
 ·refine concat_meets ⟨_,ho,rfl⟩ ⟨_,ho2,rfl⟩ noFill_tuple_add seq_tuple_add PySem.F.slot_tuple_add PySem.F.entry_tuple_add (PySem.F.args_tuple_add_2 _ _)
   (tuple_addW2 t b vs.toArray ws.toArray n n2 dd dd2 sl sl2 (by simpa using hv) (by simpa using hw) (by rw [List.size_toArray,List.size_toArray]; exact hsz)) ⟨ho,ho2,?_⟩
  rw [e]
  exact h2 hw
noncomputable def dY (n d:Nat):Option Int→Nat
 | none=>d
 | some v=>if v < 0 then (v + (n:Int)).toNat else min v.toNat n
theorem zx (n d k:Nat):dY n d (some (k:Int))=min k n:=by
 show (if (k:Int) < 0 then ((k:Int) + (n:Int)).toNat else min (k:Int).toNat n)=min k n
 rw [if_neg (by omega),Int.toNat_natCast]
theorem Vf (n d:Nat) (hd:d≤n) (o:Option Int):dY n d o≤n:=by
 cases o with
 | none=>exact hd
 | some v=>
  show (if v < 0 then (v + (n:Int)).toNat else min v.toNat n)≤n
  by_cases hv:v < 0
  ·rw [if_pos hv]; omega
  ·rw [if_neg hv]; exact Nat.min_le_right _ _
theorem Hr (v:Int) (n d:Nat):(if v < 0 then max (v + (n:Int)) 0 else min v (n:Int))=((dY n d (some v):Nat):Int):=by
 show (if v < 0 then max (v + (n:Int)) 0 else min v (n:Int))=(((if v < 0 then (v + (n:Int)).toNat else min v.toNat n):Nat):Int)
 by_cases hv:v < 0
 ·simp only [if_pos hv]; omega
 ·simp only [if_neg hv]; omega
theorem Fe (lo hi:Option Int) (n:Nat):Builtin.Slice.sliceAdjust lo hi 1 (n:Int)=(((dY n 0 lo:Nat):Int),((dY n n hi:Nat):Int)):=by
 have h1:¬((1:Int) < 0):=by omega
 unfold Builtin.Slice.sliceAdjust
 simp only [h1,if_false]
 refine Prod.ext ?_ ?_
 ·cases lo with
  | none=>rfl
  | some v=>exact Hr v n 0
 ·cases hi with
  | none=>rfl
  | some v=>exact Hr v n n
theorem Ff (i j:Nat):Builtin.Slice.slicePlaces (i:Int) (j:Int) 1=j - i:=by
 unfold Builtin.Slice.slicePlaces
 have h1:(1:Int) > 0:=by omega
 simp only [h1,if_true,Int.ediv_one]
 split <;> omega
theorem uP {v:Value} {o:Option Int} {Q:Option Int→Shared→Prop} (p:IsPart v o) (h:Q o s):wpAny (model prog w) A (Builtin.Slice.slicePartIndex v) Q E s:=by
 cases p with
 | none=>exact slicePart_none h
 | int i t=>exact slicePart_int h
theorem jX {sl:Addr} {vl vu:Value} {lo hi:Option Int} {n:Nat} {Q:Int×Int×Nat→Shared→Prop} (hs:s.heap.IsSliceOf sl vl vu .none) (pl:IsPart vl lo) (pu:IsPart vu hi)
  (h:Q (((dY n 0 lo:Nat):Int),1,dY n n hi - dY n 0 lo) s):wpAny (model prog w) A (Builtin.Slice.sliceApplied (.ref sl) (pure (n:Int))) Q E s:=by
 obtain ⟨os,hos,hcs,hds⟩:=id hs
 unfold Builtin.Slice.sliceApplied Builtin.Slice.sliceFields
 refine wpAny_bind (wpAny_bind (wpAny_field hos hds (x:=vl) rfl (wpAny_bind (wpAny_field hos hds (x:=vu) rfl (wpAny_bind (wpAny_field hos hds (x:=.none) rfl (wpAny_pure ?_)))))))
 refine wpAny_bind (slicePart_none ?_)
 show wpAny _ _ (if ((1:Int)==0)=true then _ else _) _ _ s
 rw [if_neg (by decide)]
 refine wpAny_bind (uP pl (wpAny_bind (uP pu (wpAny_bind (wpAny_pure ?_)))))
 show wpAny _ _ (match Builtin.Slice.sliceAdjust lo hi 1 (n:Int) with | (lo,hi)=>pure (lo,(1:Int),Builtin.Slice.slicePlaces lo hi 1)) _ _ s
 rw [Fe lo hi n]
 show wpAny _ _ (pure (((dY n 0 lo:Nat):Int),(1:Int),Builtin.Slice.slicePlaces ((dY n 0 lo:Nat):Int) ((dY n n hi:Nat):Int) 1)) _ _ s
 rw [Ff]
 exact wpAny_pure h
theorem Mi (xs:Array Value) (i k:Nat):((List.range k).filterMap fun (m:Nat)=>xs[((i:Int) + (m:Int) * 1).toNat]?).toArray=((xs.toList.drop i).take k).toArray:=by
 have e:(fun (m:Nat)=>xs[((i:Int) + (m:Int) * 1).toNat]?)=fun m=>xs[i + m]?:=by
  funext m
  have:((i:Int) + (m:Int) * 1).toNat=i + m:=by omega
  rw [this]
 rw [e]
 have:=pick_run xs i k
 rw [List.filterMap_map] at this
 have e2:((fun x=>xs[x]?) ∘ fun x=>i + x)=fun m=>xs[i + m]?:=rfl
 rw [e2] at this
 rw [this]
theorem qj {t sl:Addr} {items:Array Value} {vl vu:Value} {lo hi:Option Int} {Q:Value→Shared→Prop} (ht:IsTup s.heap t items) (hs:s.heap.IsSliceOf sl vl vu .none) (pl:IsPart vl lo) (pu:IsPart vu hi)
  (hw:¬(dY items.size 0 lo=0∧dY items.size items.size hi=items.size))
  (h:Q (.ref s.heap.objs.size) { s with heap:=s.heap.push { cls:=.type "tuple",data:=.seq ((items.toList.drop (dY items.size 0 lo)).take (dY items.size items.size hi - dY items.size 0 lo)).toArray } })
  (hsz:items.size≤sizeLine):wpAny (model prog w) A (getItem (.ref t) (.ref sl)) Q E s:=by
 have Hs:sizeOk (.seq ((items.toList.drop (dY items.size 0 lo)).take (dY items.size items.size hi - dY items.size 0 lo)).toArray):=by
  show ((items.toList.drop (dY items.size 0 lo)).take (dY items.size items.size hi - dY items.size 0 lo)).toArray.size≤sizeLine
  rw [List.size_toArray,List.length_take,List.length_drop,Array.length_toList]
  omega
 have hj:dY items.size items.size hi≤items.size:=Vf _ _ (Nat.le_refl _) hi
 obtain ⟨os,hos,hcs,hds⟩:=id hs
 have hTs:s.TypeIs (.ref sl) "slice":=⟨os,hos,hcs⟩
 unfold getItem
 try with_reducible refine wpAny_holding ?_
 first | refine wpAny_bind (wpAny_pure ?_) | skip
 refine wpAny_bind (wpAny_sequenceKey ht.typeIs (by decide) ?_)
 refine wpAny_bind (wpAny_callSpecial?_slot (name:=Str.ofString "__getitem__") ht.typeIs PyProof.Rows.slot_tuple_getitem
  (wpAny_call_entry PyProof.Rows.slot_tuple_getitem ht.typeIs entry_tuple_getitem ?_ (args_tuple_getitem _ _)))
 show wpAny _ _ (Builtin.Tuple.tupleItemsOf (.ref t) >>= _) _ _ s
 refine wpAny_bind (tupleItemsOf_ ht ?_)
 refine wpAny_bind (wpAny_typeOf hTs ?_)
 rw [if_pos (by decide)]
 refine wpAny_bind (jX hs pl pu ?_)
 have hno:¬((((dY items.size 0 lo:Nat):Int)==0&&(1:Int)==1&&(dY items.size items.size hi - dY items.size 0 lo)==items.size)=true):=by
  intro q
  rw [Bool.and_eq_true,Bool.and_eq_true] at q
  have q1:((dY items.size 0 lo:Nat):Int)=0:=eq_of_beq q.1.1
  have q2:dY items.size items.size hi - dY items.size 0 lo=items.size:=eq_of_beq q.2
  exact hw ⟨by omega,by omega⟩
 show wpAny _ _ (if (((dY items.size 0 lo:Nat):Int)==0&&(1:Int)==1&&(dY items.size items.size hi - dY items.size 0 lo)==items.size)=true then _ else _) _ _ s
 rw [if_neg hno,Mi]
 first
  | exact wpAny_bind (m:=Builtin.Tuple.tupleExact _) (wpAny_newObj_type (wpAny_pure ⟨_,rfl,wpAny_pure h⟩) Hs)
  | exact wpAny_bind (m:=Builtin.Tuple.tupleExact _) (wpAny_newObj_type (wpAny_bind (wpAny_pure (wpAny_pure ⟨_,rfl,wpAny_pure h⟩))) Hs)
  | exact wpAny_bind (wpAny_bind (m:=Builtin.Tuple.tupleExact _) (wpAny_newObj_type (wpAny_pure (wpAny_pure ⟨_,rfl,wpAny_pure h⟩)) Hs))
  | exact wpAny_bind (wpAny_bind (m:=Builtin.Tuple.tupleExact _) (wpAny_newObj_type (wpAny_pure ⟨_,rfl,wpAny_pure h⟩) Hs))
end
end HT
namespace L2
open PySem PySem.Spec PyProof.Rows
noncomputable abbrev TO:=St→Hp→(Option Int→Hp→Prop)→Prop
noncomputable def PO (X:Cx) (e:Option Expr) (t:TO):Prop:=
 ∀(pins:List (Addr×Obj)) (s:Shared) (σ:St) (H:Hp) (Q:Option Int→Hp→Prop),Inv X pins σ H s→t σ H Q→
  wpAny (model X.prog X.w) X.A (evalPart e X.env) (fun u s'=>∃o H',Inv X pins σ H' s'∧IsPart u o∧Q o H') X.xe s
noncomputable def QS:TO:=fun _ H Q=>Q none H
noncomputable def Xy (t:TE):TO:=fun σ H Q=>t σ H fun x H1=>∃i,x=.int i∧Q (some i) H1
theorem intsAre_of {ns:List Int}:∀{us:List Value},Vals (ns.map V.int) us→IntsAre us ns:=by
 induction ns with
 | nil=>intro us r; rw [List.map_nil] at r; cases r; exact .nil
 | cons n ns ih=>
  intro us r
  rw [List.map_cons] at r
  cases r with
  | cons r1 r2=>
   obtain ⟨t,e⟩:=r1
   subst e
   exact .cons n t (ih r2)
section
variable {X:Cx} {e:Expr} {te:TE} {lo hi:Option Expr} {tl th:TO} {pos p2:Pos}
theorem QT:PO X none QS:=by
 intro pins s σ H Q I h
 rw [evalPart_none]
 exact wpAny_pure ⟨none,H,I,.none,h⟩
theorem QV (h:PE X e te):PO X (some e) (Xy te):=by
 intro pins s σ H Q I hw
 rw [evalPart_some]
 refine cR (h pins s σ H _ I hw) fun u s1 aO=>?_
 obtain ⟨x,H1,I1,r1,q1⟩:=aO
 obtain ⟨i,rfl,q⟩:=q1
 obtain ⟨t,rfl⟩:=r1
 exact ⟨some i,H1,I1,.int i t,q⟩
noncomputable def QW (X:Cx) (r:V→Option Int→Option Int→Hp→VK→Prop):Prop:=
 ∀(pins:List (Addr×Obj)) (s:Shared) (σ:St) (H:Hp) (x:V) (v vl vu:Value) (lo hi:Option Int) (sl:Addr) (Q:VK),Inv X pins σ H s→RelV x v→s.heap.IsSliceOf sl vl vu .none→IsPart vl lo→IsPart vu hi→r x lo hi H Q→
  ∃T id,typeLookup (.type T) "__getitem__"=pure (some (.builtin id))∧s.TypeIs v T∧wpAny (model X.prog X.w) X.A (getItem v (.ref sl)) (EP X pins σ Q) X.xe s
theorem QW.or {r r':V→Option Int→Option Int→Hp→VK→Prop} (h:QW X r) (h':QW X r'):QW X (fun x lo hi H Q=>r x lo hi H Q∨r' x lo hi H Q):=by
 intro pins s σ H x v vl vu lo hi sl Q I rx hs pl pu q
 rcases q with q | q
 ·exact h pins s σ H x v vl vu lo hi sl Q I rx hs pl pu q
 ·exact h' pins s σ H x v vl vu lo hi sl Q I rx hs pl pu q
noncomputable def tSl (r:V→Option Int→Option Int→Hp→VK→Prop) (te:TE) (tl th:TO):TE:=fun σ H Q=>te σ H fun x H1=>tl σ H1 fun l H2=>th σ H2 fun u H3=>r x l u H3 Q
theorem Mj {r:V→Option Int→Option Int→Hp→VK→Prop} (hr:QW X r) (he:PE X e te) (hl:PO X lo tl) (hu:PO X hi th):PE X (.Subscript e (.Slice lo hi none p2) pos) (tSl r te tl th):=by
 intro pins s σ H Q I h
 refine Subscript_ (cR (he pins s σ H _ I h) fun v s1 aO=>?_)
 obtain ⟨x,H1,I1,r1,q1⟩:=aO
 refine wpAny_Slice (cR (hl pins s1 σ H1 _ I1 q1) fun vl s2 ⟨l,H2,I2,pl,q2⟩=>cR (hu pins s2 σ H2 _ I2 q2) fun vu s3 aO=>?_)
 obtain ⟨u,H3,I3,pu,q3⟩:=aO
 rw [evalPart_none]
 refine wpAny_pure ?_
 have I4:Inv X pins σ H3 { s3 with heap:=s3.heap.push { cls:=.type "slice",data:=.fields #[vl,vu,.none] } }:=I3.kept (t':=s3.toks) fun b ob q=>Heap.get?_push_of_some _ q
 obtain ⟨T,id,hT,ht,hg⟩:=hr pins { s3 with heap:=s3.heap.push { cls:=.type "slice",data:=.fields #[vl,vu,.none] } } σ H3 x v vl vu l u s3.heap.objs.size Q I4 r1 (Heap.IsSliceOf.new ..) pl pu q3
 show wpAny (model X.prog X.w) X.A (subscriptTail e (.Slice lo hi none p2) v (.ref s3.heap.objs.size)) (EP X pins σ Q) X.xe { s3 with heap:=s3.heap.push { cls:=.type "slice",data:=.fields #[vl,vu,.none] } }
 exact tail_any (ops:=[.ref s3.heap.objs.size,v]) ht hT hg (by with_unfolding_all rfl)
noncomputable def uQ (xs:List V) (lo hi:Option Int):List V:=(xs.drop (HT.dY xs.length 0 lo)).take (HT.dY xs.length xs.length hi - HT.dY xs.length 0 lo)
theorem tL (xs:List V) (lo hi:Option Int):(uQ xs lo hi).length≤xs.length:=by
 unfold uQ
 rw [List.length_take,List.length_drop]
 omega
noncomputable def aah (K:PySem.W.Frag):V→Option Int→Option Int→Hp→VK→Prop:=fun x lo hi H Q=>∃a xs,x=.ref a∧ig K H a xs∧
 ¬(HT.dY xs.length 0 lo=0∧HT.dY xs.length xs.length hi=xs.length)∧∀p,H p=none→Q (.ref p) (upd H p (.tup (uQ xs lo hi)))
theorem Vg:QW X (aah X.K):=by
 intro pins s σ H x v vl vu lo hi sl Q I rx hs pl pu h
 obtain ⟨a,xs,rfl,hx,hw,q⟩:=h
 cases rx
 obtain ⟨its,r,ht,hz⟩:=I.tuple hx
 have hlen:its.toArray.size=xs.length:=by rw [List.size_toArray]; exact r.length.symm
 refine ⟨"tuple",_,PyProof.Rows.slot_tuple_getitem.lookup,ht.typeIs,?_⟩
 refine HT.qj ht hs pl pu (by rw [hlen]; exact hw) ?_ (by rw [hlen]; exact hz)
 rw [hlen]
 refine ⟨.ref s.heap.objs.size,_,I.laid (t':=s.toks) (o:=.tup (uQ xs lo hi)) (fun b ob q=>Heap.get?_push_of_some _ q) (Nat.le_refl _) ?_,rfl,q _ (I.hok.fresh (Nat.le_refl _))⟩
 exact ⟨Nat.le_trans (tL xs lo hi) hz,_,(r.drop (HT.dY xs.length 0 lo)).take (HT.dY xs.length xs.length hi - HT.dY xs.length 0 lo),IsTup.new _ _⟩
noncomputable def Tu (K:PySem.W.Frag):R2:=fun x y H Q=>∃a b xs ys,x=.ref a∧y=.ref b∧ig K H a xs∧ig K H b ys∧xs≠[]∧xs.length + ys.length≤sizeLine∧
 (ys=[]→Q (.ref a) H)∧(ys≠[]→∀p,H p=none→Q (.ref p) (upd H p (.tup (xs++ys))))
theorem Vals.zy {xs:List V} {us:List Value} (r:Vals xs us):us=[] ↔ xs=[]:=by
 cases r with
 | nil=>simp
 | cons _ _=>simp
theorem QX:iI X (binaryOp .Add) (Tu X.K):=by
 intro pins s σ H x y v u Q I rx ry h
 obtain ⟨a,b,xs,ys,rfl,rfl,ha,hb,hx,hz,q1,q2⟩:=h
 cases rx
 cases ry
 obtain ⟨its,r1,p1,_⟩:=I.tuple ha
 obtain ⟨its2,r2,p2,_⟩:=I.tuple hb
 refine HT.QM p1 p2 (fun z=>hx (r1.zy.mp z)) (fun z=>⟨.ref a,H,I,rfl,q1 (r2.zy.mp z)⟩) (fun z=>?_) (by rw [←r1.length,←r2.length]; exact hz)
 refine ⟨.ref s.heap.objs.size,_,I.laid (t':=s.toks) (o:=.tup (xs++ys)) (fun b ob q=>Heap.get?_push_of_some _ q) (Nat.le_refl _) ?_,rfl,q2 (fun w=>z (r2.zy.mpr w)) _ (I.hok.fresh (Nat.le_refl _))⟩
 exact ⟨by rw [List.length_append]; exact hz,_,r1.append r2,IsTup.new _ _⟩
end
end L2
namespace L2
open PySem PySem.Spec PyProof.Rows
noncomputable def Fg (n:Nat) (i:Int):Option Nat:=if 0≤i then (if i < n then some i.toNat else none) else if -(n:Int)≤i then some (i + n).toNat else none
noncomputable def ju {α:Type} (xs:List α) (i:Int):Option α:=(Fg xs.length i).bind fun j=>xs[j]?
theorem Ht {n:Nat} {i:Int} {j:Nat} (h:Fg n i=some j):seqIndex? i n=some j∧j < n∧-(n:Int)≤i∧i < n:=by
 unfold Fg at h
 by_cases h0:0≤i
 ·rw [if_pos h0] at h
  by_cases h1:i < n
  ·rw [if_pos h1] at h
   have e:i.toNat=j:=Option.some.inj h
   exact ⟨by rw [seqIndex_of h0 h1,e],by omega,by omega,h1⟩
  ·rw [if_neg h1] at h; cases h
 ·rw [if_neg h0] at h
  by_cases h1:-(n:Int)≤i
  ·rw [if_pos h1] at h
   have e:(i + n).toNat=j:=Option.some.inj h
   exact ⟨by rw [seqIndex_neg (by omega) h1,e],by omega,h1,by omega⟩
  ·rw [if_neg h1] at h; cases h
theorem zA {α:Type} {xs:List α} {i:Int} {v:α} (h:ju xs i=some v):∃j,seqIndex? i xs.length=some j∧xs[j]?=some v∧j < xs.length∧-(xs.length:Int)≤i∧i < xs.length:=by
 unfold ju at h
 cases e:Fg xs.length i with
 | none=>rw [e] at h; cases h
 | some j=>
  rw [e] at h
  obtain ⟨h1,h2,h3,h4⟩:=Ht e
  exact ⟨j,h1,h,h2,h3,h4⟩
theorem fO {α:Type} {xs:List α} {j:Nat} {v:α} (h:xs[j]?=some v):ju xs (j:Int)=some v:=by
 have hj:j < xs.length:=(List.getElem?_eq_some_iff.mp h).1
 have e:Fg xs.length (j:Int)=some j:=by
  unfold Fg
  rw [if_pos (by omega),if_pos (by omega)]; simp
 unfold ju; rw [e]; exact h
noncomputable def ux (b:Expr):Prop:=∀o i,subscripted b false o i=operate [o,i] (getItem o i)
noncomputable def Le (X:Cx) (r:R2):Prop:=
 ∀(value slice:Expr) (pins:List (Addr×Obj)) (s:Shared) (σ:St) (H:Hp) (x y:V) (v u:Value) (Q:VK),Inv X pins σ H s→RelV x v→RelV y u→r x y H Q→
  subscripted slice false v u=operate [v,u] (getItem v u)→wpAny (model X.prog X.w) X.A (subscriptTail value slice v u) (EP X pins σ Q) X.xe s
noncomputable def WX (X:Cx) (id:String) (r:V→List V→Hp→VK→Prop):Prop:=
 ∀(pins:List (Addr×Obj)) (s:Shared) (σ:St) (H:Hp) (x:V) (xs:List V) (v:Value) (us:List Value) (Q:VK),Inv X pins σ H s→RelV x v→Vals xs us→r x xs H Q→
  wpAny (model X.prog X.w) X.A (call (.builtin id) (v::us)) (EP X pins σ Q) X.xe s
section
variable {X:Cx} {a b:Expr} {ta tb:TE} {pos:Pos}
theorem Le.or {r r':R2} (h:Le X r) (h':Le X r'):Le X (fun x y H Q=>r x y H Q∨r' x y H Q):=by
 intro value slice pins s σ H x y v u Q I rx ry q hs
 rcases q with q | q
 ·exact h value slice pins s σ H x y v u Q I rx ry q hs
 ·exact h' value slice pins s σ H x y v u Q I rx ry q hs
theorem WX.or {id:String} {r r':V→List V→Hp→VK→Prop} (h:WX X id r) (h':WX X id r'):WX X id (fun x xs H Q=>r x xs H Q∨r' x xs H Q):=by
 intro pins s σ H x xs v us Q I rx rs q
 rcases q with q | q
 ·exact h pins s σ H x xs v us Q I rx rs q
 ·exact h' pins s σ H x xs v us Q I rx rs q
theorem Ml {r:R2} (hr:Le X r) (ha:PE X a ta) (hb:PE X b tb) (hs:ux b):PE X (.Subscript a b pos) (Xk r ta tb):=by
 intro pins s σ H Q I h
 exact Subscript_ (U4 ha hb I h fun v u s2 x y H2 I2 rx ry q=>hr a b pins s2 σ H2 x y v u Q I2 rx ry q (hs _ _))
noncomputable def Xz (K:PySem.W.Frag):R2:=fun x y H Q=>∃p xs i v,x=.ref p∧y=.int i∧cM K H p xs∧ju xs i=some v∧Q v H
noncomputable def XC (K:PySem.W.Frag):R2:=fun x y H Q=>∃p xs i v,x=.ref p∧y=.int i∧ig K H p xs∧ju xs i=some v∧Q v H
noncomputable def XD:R2:=fun x y H Q=>∃z i c,x=.str z∧y=.int i∧z.length≤sizeLine∧ju z.cps.toList i=some c∧Q (.str ⟨#[c]⟩) H
theorem zB:Le X (Xz X.K):=by
 intro value slice pins s σ H x y v u Q I rx ry h hs
 obtain ⟨p,xs,i,z,rfl,rfl,hq,he,q⟩:=h
 cases rx
 obtain ⟨t,rfl⟩:=ry
 obtain ⟨its,r,pl,hz⟩:=I.list hq
 obtain ⟨j,h1,h2,h3,h4,h5⟩:=zA he
 obtain ⟨w,ew,rw'⟩:=r.get h2
 have hl:=r.length
 have hn:=pF
 have fin:EP X pins σ Q w s:=⟨z,H,I,rw',q⟩
 by_cases h0:0≤i
 ·have hj:i.toNat=j:=by
   rw [seqIndex_of h0 h5] at h1
   exact Option.some.inj h1
  exact item_listR pl.isList h0 (by omega) (by rw [hj]; simpa using ew) fin hs
 ·have hj:(i + (its.toArray.size:Int)).toNat=j:=by
   rw [seqIndex_neg (by omega) h4] at h1
   rw [List.size_toArray,←hl]
   exact Option.some.inj h1
  exact subscriptTail_builtinR (x:=w) pl.isList.typeIs slot_list_getitem.lookup
   (wpAny_getItem_list_neg (Q:=fun r s'=>r=w∧EP X pins σ Q r s') pl.isList (by omega) (by rw [List.size_toArray] <;> omega) (by omega) (by rw [hj]; simpa using ew) ⟨rfl,fin⟩) hs
theorem Vh:Le X (XC X.K):=by
 intro value slice pins s σ H x y v u Q I rx ry h hs
 obtain ⟨p,xs,i,z,rfl,rfl,hq,he,q⟩:=h
 cases rx
 obtain ⟨t,rfl⟩:=ry
 obtain ⟨its,r,pl,hz⟩:=I.tuple hq
 obtain ⟨j,h1,h2,h3,h4,h5⟩:=zA he
 obtain ⟨w,ew,rw'⟩:=r.get h2
 have hl:=r.length
 have hn:=pF
 have fin:EP X pins σ Q w s:=⟨z,H,I,rw',q⟩
 exact subscriptTail_builtinR (x:=w) pl.typeIs slot_tuple_getitem.lookup
  (getItem_tuple (j:=j) (Q:=fun r s'=>r=w∧EP X pins σ Q r s') pl (by omega) (by omega) (by rw [List.size_toArray,←hl]; exact h1) (by simpa using ew) ⟨rfl,fin⟩) hs
theorem Vi:Le X XD:=by
 intro value slice pins s σ H x y v u Q I rx ry h hs
 obtain ⟨z,i,c,rfl,rfl,hz,he,q⟩:=h
 obtain ⟨t,rfl⟩:=rx
 obtain ⟨t',rfl⟩:=ry
 obtain ⟨j,h1,h2,h3,h4,h5⟩:=zA he
 have hl:z.cps.toList.length=z.length:=by simp [Str.length]
 rw [hl] at h1 h4 h5
 have hn:=pF
 exact tail_any (typeIs_str s z t) slot_str_getitem.lookup (getItem_str (c:=c) (by
  have e1:decide (i < -(2 ^ 63:Int))=false:=decide_eq_false (by omega)
  have e2:decide (i ≥ 2 ^ 63)=false:=decide_eq_false (by omega)
  rw [e1,e2,Bool.or_false]) (by rw [h1]; simpa using h2) ⟨.str ⟨#[c]⟩,H,I.tok _,⟨_,rfl⟩,q⟩) hs
noncomputable def rIx (K:PySem.W.Frag):R2:=fun x y H Q=>Xz K x y H Q∨XC K x y H Q∨XD x y H Q
theorem Vj:Le X (rIx X.K):=zB.or (Vh.or Vi)
theorem Fi (its:List Value) (n j:Nat) (u:Value):Obj.mapSeq (·.setIfInBounds j u) { cls:=.type "list",data:=.seq its.toArray n }={ cls:=.type "list",data:=.seq (its.set j u).toArray n }:=by
 simp [Obj.mapSeq]
theorem Inv.lst {pins:List (Addr×Obj)} {σ:St} {H:Hp} {s:Shared} {p:Addr} {xs:List V} (I:Inv X pins σ H s) (h:H p=some (.lst xs)):
  ∃(its:List Value) (n:Nat),Vals xs its∧s.heap.get? p=some { cls:=.type "list",data:=.seq its.toArray n }∧xs.length≤sizeLine:=by
 obtain ⟨z,its,n,r,e⟩:=I.hok p _ h
 exact ⟨its,n,r,e,z⟩
theorem Inv.Vk {pins:List (Addr×Obj)} {σ:St} {H:Hp} {s:Shared} {p:Addr} {xs ys:List V} {its its':List Value} {n n':Nat} {f:Obj→Obj} (I:Inv X pins σ H s) (h:H p=some (.lst xs))
  (ho:s.heap.get? p=some { cls:=.type "list",data:=.seq its.toArray n }) (hf:f { cls:=.type "list",data:=.seq its.toArray n }={ cls:=.type "list",data:=.seq its'.toArray n' }) (r:Vals ys its') (hz:ys.length≤sizeLine) (t:Nat):
  Inv X pins σ (upd H p (.lst ys)) { s with heap:=s.heap.update p f,toks:=t }:=by
 have e:(s.heap.update p f).get? p=some { cls:=.type "list",data:=.seq its'.toArray n' }:=by
  rw [Heap.get?_update_self f ho (by rw [hf] <;> rfl),hf]
 refine I.write (x:=p) (e:=p) (by rw [h]; trivial) (.inl rfl) (fun b u hb q=>(Heap.get?_update_other _ _ (Ne.symm hb)).trans q) ⟨_,e⟩ ?_
 exact ⟨hz,its',n',r,e⟩
noncomputable def Tv:V→V→V→Hp→(Hp→Prop)→Prop:=fun o i v H Q=>∃p xs k j,o=.ref p∧i=.int k∧H p=some (.lst xs)∧Fg xs.length k=some j∧Q (upd H p (.lst (xs.set j v)))
theorem set_list:zf X Tv:=by
 intro pins s σ H o i v ov iv u Q I ro ri rv h
 obtain ⟨p,xs,k,j,rfl,rfl,hp,hj,q⟩:=h
 cases ro
 obtain ⟨t,rfl⟩:=ri
 obtain ⟨its,n,r,ho,hz⟩:=I.lst hp
 obtain ⟨h1,h2,h3,h4⟩:=Ht hj
 have hl:=r.length
 have hn:=pF
 have I':Inv X pins σ (upd H p (.lst (xs.set j v))) { s with heap:=s.heap.update p (Obj.mapSeq (·.setIfInBounds j u)) }:=
  I.Vk hp ho (Fi its n j u) (r.set rv j) (by rw [List.length_set]; exact hz) s.toks
 by_cases h0:0≤k
 ·have hk:k.toNat=j:=by
   rw [seqIndex_of h0 h4] at h1
   exact Option.some.inj h1
  exact PySem.W.ki_setAt ho h0 (by omega) (by rw [List.size_toArray,←hl]; exact h4) (by rw [hk]; exact ⟨_,I',q⟩)
 ·have hk:(k + (its.toArray.size:Int)).toNat=j:=by
   rw [seqIndex_neg (by omega) h3] at h1
   rw [List.size_toArray,←hl]
   exact Option.some.inj h1
  exact PySem.W.ki_setBack ho (by omega) (by rw [List.size_toArray,←hl]; exact h3) (by omega) (by rw [hk]; exact ⟨_,I',q⟩)
theorem zE (lo hi:Option Int) (n:Nat):(sliceBounds lo hi none n).1=((HT.dY n 0 lo:Nat):Int)∧(sliceBounds lo hi none n).2.1=((HT.dY n n hi:Nat):Int)∧(sliceBounds lo hi none n).2.2=1:=by
 refine ⟨?_,?_,rfl⟩
 ·cases lo with
  | none=>simp [sliceBounds,HT.dY]
  | some i=>
   simp only [sliceBounds,HT.dY,Option.getD_none,show (1:Int) > 0 by decide,if_true]
   by_cases h:i < 0
   ·simp only [h,if_true] <;> omega
   ·simp only [h,if_false] <;> omega
 ·cases hi with
  | none=>simp [sliceBounds,HT.dY]
  | some i=>
   simp only [sliceBounds,HT.dY,Option.getD_none,show (1:Int) > 0 by decide,if_true]
   by_cases h:i < 0
   ·simp only [h,if_true] <;> omega
   ·simp only [h,if_false] <;> omega
theorem wY (its:List Value) (lo hi:Option Int):slicePick its.toArray lo hi none=((its.drop (HT.dY its.length 0 lo)).take (HT.dY its.length its.length hi - HT.dY its.length 0 lo)).toArray:=by
 obtain ⟨h1,h2,h3⟩:=zE lo hi its.toArray.size
 unfold slicePick
 rw [h1,h2,h3]
 simp only [sliceRange_one,pick_run,List.size_toArray] <;> rfl
noncomputable def aai (K:PySem.W.Frag):V→Option Int→Option Int→Hp→VK→Prop:=fun x lo hi H Q=>∃a xs,x=.ref a∧cM K H a xs∧∀p,H p=none→Q (.ref p) (upd H p (.lst (uQ xs lo hi)))
theorem QZ:QW X (aai X.K):=by
 intro pins s σ H x v vl vu lo hi sl Q I rx hs pl pu h
 obtain ⟨a,xs,rfl,hx,q⟩:=h
 cases rx
 obtain ⟨its,r,ht,hz⟩:=I.list hx
 have hlen:=r.length
 refine ⟨"list",_,slot_list_getitem.lookup,ht.isList.typeIs,?_⟩
 refine wpAny_getItem_list_slice ht.isList hs pl pu .none (by simp) ?_ (by rw [List.size_toArray] <;> omega)
 rw [wY,←hlen]
 refine ⟨.ref s.heap.objs.size,_,I.laid (t':=s.toks) (o:=.lst (uQ xs lo hi)) (fun b ob q=>Heap.get?_push_of_some _ q) (Nat.le_refl _) ?_,rfl,q _ (I.hok.fresh (Nat.le_refl _))⟩
 exact ⟨Nat.le_trans (tL xs lo hi) hz,_,0,(r.drop (HT.dY xs.length 0 lo)).take (HT.dY xs.length xs.length hi - HT.dY xs.length 0 lo),Heap.get?_push_size _ rfl⟩
noncomputable def jY:V→Bool
 | .non=>true
 | .bl _=>true
 | .int _=>true
 | .str _=>true
 | _=>false
noncomputable def Mm:V→V→Bool
 | .non,.non=>true
 | .bl a,.bl b=>a==b
 | .bl a,.int b=>(if a then 1 else 0)==b
 | .int a,.bl b=>a==(if b then 1 else 0)
 | .int a,.int b=>a==b
 | .str a,.str b=>a==b
 | _,_=>false
theorem Fj {A:Around} {s:Shared} {y x:V} {u v:Value} (ry:RelV y u) (rx:RelV x v) (fy:jY y=true) (fx:jY x=true):SeqAt.EqAt A s u v (Mm y x):=by
 cases y with
 | non=>
  cases ry
  cases x with
  | non=>cases rx; exact SeqAt.EqAt.same _
  | bl b=>cases rx; exact SeqAt.EqAt.none_bool b
  | int b=>obtain ⟨t,rfl⟩:=rx; exact SeqAt.EqAt.none_int b t
  | str b=>obtain ⟨t,rfl⟩:=rx; exact SeqAt.EqAt.none_str b t
  | _=>exact absurd (show false=true from fx) Bool.false_ne_true
 | bl a=>
  cases ry
  cases x with
  | non=>cases rx; exact SeqAt.EqAt.bool_none a
  | bl b=>cases rx; exact SeqAt.EqAt.bool_bool a b
  | int b=>obtain ⟨t,rfl⟩:=rx; exact SeqAt.EqAt.bool_int a b t
  | str b=>obtain ⟨t,rfl⟩:=rx; exact SeqAt.EqAt.bool_str a b t
  | _=>exact absurd (show false=true from fx) Bool.false_ne_true
 | int a=>
  obtain ⟨t',rfl⟩:=ry
  cases x with
  | non=>cases rx; exact SeqAt.EqAt.int_none a t'
  | bl b=>cases rx; exact SeqAt.EqAt.int_bool a t' b
  | int b=>obtain ⟨t,rfl⟩:=rx; exact SeqAt.EqAt.int_int a t' b t
  | str b=>obtain ⟨t,rfl⟩:=rx; exact SeqAt.EqAt.int_str a t' b t
  | _=>exact absurd (show false=true from fx) Bool.false_ne_true
 | str a=>
  obtain ⟨t',rfl⟩:=ry
  cases x with
  | non=>cases rx; exact SeqAt.EqAt.str_none a t'
  | bl b=>cases rx; exact SeqAt.EqAt.str_bool a t' b
  | int b=>obtain ⟨t,rfl⟩:=rx; exact SeqAt.EqAt.str_int a t' b t
  | str b=>obtain ⟨t,rfl⟩:=rx; exact SeqAt.EqAt.str_str a t' b t
  | _=>exact absurd (show false=true from fx) Bool.false_ne_true
 | _=>exact absurd (show false=true from fy) Bool.false_ne_true
noncomputable def Fo (x:V) (u:Value):Bool:=match u with
 | .none=>Mm .non x
 | .bool b=>Mm (.bl b) x
 | .int i _=>Mm (.int i) x
 | .str z _=>Mm (.str z) x
 | _=>false
theorem Mp {x y:V} {u:Value} (r:RelV y u) (f:jY y=true):Fo x u=Mm y x:=by
 cases y with
 | non=>cases r; rfl
 | bl b=>cases r; rfl
 | int i=>obtain ⟨t,rfl⟩:=r; rfl
 | str z=>obtain ⟨t,rfl⟩:=r; rfl
 | _=>exact absurd (show false=true from f) Bool.false_ne_true
theorem ql {x:V}:∀{xs:List V} {us:List Value},Vals xs us→xs.all jY=true→us.any (Fo x)=xs.any fun y=>Mm y x
 | _,_,.nil,_=>rfl
 | y::xs,u::us,.cons r t,f=>by
  rw [List.all_cons,Bool.and_eq_true] at f
  rw [List.any_cons,List.any_cons,Mp r f.1,ql t f.2]
theorem mJ {A:Around} {s:Shared} {x:V} {v:Value} (rx:RelV x v) (fx:jY x=true):∀{xs:List V} {us:List Value},Vals xs us→xs.all jY=true→∀u∈us,SeqAt.EqAt A s u v (Fo x u)
 | _,_,.nil,_=>fun u hu=>by cases hu
 | y::xs,u::us,.cons r t,f=>fun u' hu=>by
  rw [List.all_cons,Bool.and_eq_true] at f
  rcases List.mem_cons.mp hu with rfl | hu
  ·rw [Mp r f.1]; exact Fj r rx f.1 fx
  ·exact mJ rx fx t f.2 u' hu
noncomputable def inV (x:V) (xs:List V):Bool:=xs.any fun y=>Mm y x
noncomputable def Zi (K:PySem.W.Frag) (neg:Bool):R2:=fun x y H Q=>∃p xs,y=.ref p∧(cM K H p xs∨ig K H p xs)∧jY x=true∧xs.all jY=true∧Q (.bl (if neg then !inV x xs else inV x xs)) H
theorem JT:iI X (compareOp .In) (Zi X.K false):=by
 intro pins s σ H x y v u Q I rx ry h
 obtain ⟨p,xs,rfl,hq,fx,fs,q⟩:=h
 cases ry
 rcases hq with hq | hq
 ·obtain ⟨its,r,pl,hz⟩:=I.list hq
  refine SeqAt.in_listAt (Fo x) pl.isList (fun w hw=>mJ rx fx r fs w (by simpa using hw)) ⟨.bl _,H,I,rfl,?_⟩
  rw [show its.toArray.any (Fo x)=its.any (Fo x) by simp,ql r fs]
  exact q
 ·obtain ⟨its,r,pl,hz⟩:=I.tuple hq
  refine SeqAt.in_tupleAt (Fo x) pl (fun w hw=>mJ rx fx r fs w (by simpa using hw)) ⟨.bl _,H,I,rfl,?_⟩
  rw [show its.toArray.any (Fo x)=its.any (Fo x) by simp,ql r fs]
  exact q
theorem zF:iI X (compareOp .NotIn) (Zi X.K true):=by
 intro pins s σ H x y v u Q I rx ry h
 obtain ⟨p,xs,rfl,hq,fx,fs,q⟩:=h
 cases ry
 rcases hq with hq | hq
 ·obtain ⟨its,r,pl,hz⟩:=I.list hq
  refine SeqAt.notIn_listAt (Fo x) pl.isList (fun w hw=>mJ rx fx r fs w (by simpa using hw)) ⟨.bl _,H,I,rfl,?_⟩
  rw [show its.toArray.any (Fo x)=its.any (Fo x) by simp,ql r fs]
  exact q
 ·obtain ⟨its,r,pl,hz⟩:=I.tuple hq
  refine SeqAt.notIn_tupleAt (Fo x) pl (fun w hw=>mJ rx fx r fs w (by simpa using hw)) ⟨.bl _,H,I,rfl,?_⟩
  rw [show its.toArray.any (Fo x)=its.any (Fo x) by simp,ql r fs]
  exact q
theorem qm:cJ X (.builtin "len") (fun xs H Q=>∃p ys,xs=[.ref p]∧(cM X.K H p ys∨ig X.K H p ys)∧Q (.int ys.length) H):=by
 intro pins s σ H xs us Q I r h
 obtain ⟨p,ys,rfl,hq,q⟩:=h
 obtain ⟨u,rfl,rx⟩:=vals1 r
 cases rx
 have hn:=pF
 rcases hq with hq | hq
 ·obtain ⟨its,r',pl,hz⟩:=I.list hq
  have hlen:=r'.length
  exact Calls.call_len_list pl.isList (by simp only [List.size_toArray] <;> omega) ⟨.int ys.length,H,I.tok _,⟨s.toks + 1,by rw [List.size_toArray,hlen]⟩,q⟩
 ·obtain ⟨its,r',pl,hz⟩:=I.tuple hq
  have hlen:=r'.length
  exact len_tuple pl (by simp only [List.size_toArray] <;> omega) ⟨.int ys.length,H,I.tok _,⟨s.toks + 1,by rw [List.size_toArray,hlen]⟩,q⟩
theorem zG:cJ X (.builtin "len") (fun xs H Q=>∃z,xs=[.str z]∧z.length≤sizeLine∧Q (.int z.length) H):=by
 intro pins s σ H xs us Q I r h
 obtain ⟨z,rfl,hz,q⟩:=h
 obtain ⟨u,rfl,t,rfl⟩:=vals1 r
 have hn:=pF
 exact len_str (by omega) ⟨.int z.length,H,I.tok _,⟨_,rfl⟩,q⟩
theorem cJ.or {f:Value} {r r':List V→Hp→VK→Prop} (h:cJ X f r) (h':cJ X f r'):cJ X f (fun xs H Q=>r xs H Q∨r' xs H Q):=by
 intro pins s σ H xs us Q I rs q
 rcases q with q | q
 ·exact h pins s σ H xs us Q I rs q
 ·exact h' pins s σ H xs us Q I rs q
theorem zH:cJ X (.type "list") (fun xs H Q=>∃p ys,xs=[.ref p]∧(cM X.K H p ys∨ig X.K H p ys)∧∀l,H l=none→Q (.ref l) (upd H l (.lst ys))):=by
 intro pins s σ H xs us Q I r h
 obtain ⟨p,ys,rfl,hq,q⟩:=h
 obtain ⟨u,rfl,rx⟩:=vals1 r
 cases rx
 have fin:∀(its:List Value),Vals ys its→ys.length≤sizeLine→∀(h':Heap) (c':Nat),(∀b o',s.heap.get? b=some o'→h'.get? b=some o')→
   h'.get? s.heap.objs.size=some { cls:=.type "list",dict:=none,data:=.seq its.toArray c',slots:=#[] }→EP X pins σ Q (.ref s.heap.objs.size) { s with heap:=h' }:=fun its r' hz h' c' kp e=>
  ⟨.ref s.heap.objs.size,_,I.laid (t':=s.toks) kp (Nat.le_refl _) (show bL X.prog X.w _ h' _ (.lst ys) from ⟨hz,its,c',r',e⟩),rfl,q _ (I.hok.fresh (Nat.le_refl _))⟩
 rcases hq with hq | hq
 ·obtain ⟨its,r',pl,hz⟩:=I.list hq
  have hlen:=r'.length
  obtain ⟨o,ho,hc,n,hd⟩:=pl.isList
  exact call_list_seq p (.inl rfl) ho hc hd (fun h' c' kp e=>fin its r' hz h' c' kp e) (by simp only [List.size_toArray] <;> omega)
 ·obtain ⟨its,r',pl,hz⟩:=I.tuple hq
  have hlen:=r'.length
  obtain ⟨o,ho,hc,n,hd⟩:=pl
  exact call_list_seq p (.inr rfl) ho hc hd (fun h' c' kp e=>fin its r' hz h' c' kp e) (by simp only [List.size_toArray] <;> omega)
theorem jG:cJ X (.type "tuple") (fun xs H Q=>∃p ys,xs=[.ref p]∧((cM X.K H p ys∧∀l,H l=none→Q (.ref l) (upd H l (.tup ys)))∨(ig X.K H p ys∧Q (.ref p) H))):=by
 intro pins s σ H xs us Q I r h
 obtain ⟨p,ys,rfl,h⟩:=h
 obtain ⟨u,rfl,rx⟩:=vals1 r
 cases rx
 rcases h with ⟨hq,q⟩ | ⟨hq,q⟩
 ·obtain ⟨its,r',pl,hz⟩:=I.list hq
  have hlen:=r'.length
  refine call_tuple_list pl.isList (fun h' kp=>?_) (by simp only [List.size_toArray] <;> omega)
  have I1:Inv X pins σ H { s with heap:=h' }:=I.kept (t':=s.toks) kp
  have I2:Inv X pins σ (upd H h'.objs.size (.tup ys)) { s with heap:=h'.push { cls:=.type "tuple",data:=.seq its.toArray } }:=
   I1.laid (t':=s.toks) (fun b o e=>Heap.get?_push_of_some _ e) (Nat.le_refl _) (show bL X.prog X.w _ _ _ (.tup ys) from ⟨hz,its,r',IsTup.new _ _⟩)
  exact ⟨.ref h'.objs.size,_,I2,rfl,q _ (I1.hok.fresh (Nat.le_refl _))⟩
 ·obtain ⟨its,r',pl,hz⟩:=I.tuple hq
  exact call_tuple_same pl ⟨.ref p,H,I,rfl,q⟩
noncomputable def tyV (K:PySem.W.Frag) (T:String) (x:V) (H:Hp):Prop:=match x with
 | .str _=>T="str"
 | .int _=>T="int"
 | .ref p=>(T="list"∧∃xs,cM K H p xs)∨(T="tuple"∧∃o,K.lookup p=some o∧o.cls=.type "tuple"∧o.dict=none)∨
   (T="dict"∧((∃kvs,H p=some (.dK kvs))∨∃kvs,H p=some (.dT kvs)))∨(T="set"∧∃S n,H p=some (.set S n))
 | _=>False
theorem Vm {pins:List (Addr×Obj)} {σ:St} {H:Hp} {s:Shared} {T:String} {x:V} {v:Value} (I:Inv X pins σ H s) (r:RelV x v) (ty:tyV X.K T x H):
  s.TypeIs v T∧∀a,v=.ref a→∃ob,s.heap.get? a=some ob∧ob.dict=none:=by
 cases x with
 | str z=>
  obtain ⟨t,rfl⟩:=r
  cases (show T="str" from ty)
  exact ⟨typeIs_str s z t,fun _ e=>nomatch e⟩
 | int i=>
  obtain ⟨t,rfl⟩:=r
  cases (show T="int" from ty)
  exact ⟨typeIs_int s i t,fun _ e=>nomatch e⟩
 | ref p=>
  cases r
  rcases ty with ⟨rfl,xs,hq⟩ | ⟨rfl,o,hk,hc,hd⟩ | ⟨rfl,hk⟩ | ⟨rfl,S,n,hk⟩
  ·obtain ⟨its,_,pl,_⟩:=I.list hq
   refine ⟨pl.isList.typeIs,fun a e=>?_⟩
   cases e
   obtain ⟨o,n,e,c,hd,_⟩:=pl
   exact ⟨o,e,hd⟩
  ·refine ⟨⟨o,I.rE p o hk,hc⟩,fun a e=>?_⟩
   cases e
   exact ⟨o,I.rE _ o hk,hd⟩
  ·have z:∃o,s.heap.get? p=some o∧o.ExactDict:=by
    rcases hk with ⟨kvs,hk⟩ | ⟨kvs,hk⟩
    ·obtain ⟨_,_,_,_,o,_,_,e,ex,_⟩:=I.hok p _ hk
     exact ⟨o,e,ex⟩
    ·obtain ⟨_,_,_,_,o,_,_,e,ex,_⟩:=I.hok p _ hk
     exact ⟨o,e,ex⟩
   obtain ⟨o,e,ex⟩:=z
   refine ⟨⟨o,e,ex.1⟩,fun a e2=>?_⟩
   cases e2
   exact ⟨o,e,ex.2.1⟩
  ·obtain ⟨o,_,_,_,e,ex,_⟩:=I.hok p _ hk
   refine ⟨⟨o,e,ex.1⟩,fun a e2=>?_⟩
   cases e2
   exact ⟨o,e,ex.2.1⟩
 | _=>exact False.elim ty
noncomputable def tBM (K:PySem.W.Frag) (T:String) (r:V→List V→Hp→VK→Prop) (to:TE) (t:TA):TE:=fun σ H Q=>to σ H fun x H1=>tyV K T x H1∧t σ H1 fun xs H2=>r x xs H2 Q
variable {o e:Expr} {es:List Expr} {to:TE} {t:TA} {name:Str} {apos cpos:Pos} {T id:String} {r:V→List V→Hp→VK→Prop}
theorem Bv (pa:PlainAttrs T) (slot:Slot T name id) (hty:typeOf (.builtin id)=pure (.type "method_descriptor")) (hm:WX X id r) (ho:PE X o to) (ha:PA X (e::es) t)
  (hbase:attributeBase o name X.env (eval o X.env)=eval o X.env:=by rfl)
  (hfew:((backTo cpos (starEach (e::es) X.env)).all (fun x=>!x.1)&&(backToKw cpos (keywordEach [] X.env)).all (fun x=>x.1.isSome)
   &&decide ((e::es).length + ([]:List Keyword).length + (if ([]:List Keyword).isEmpty then 0 else 1) < 30))=true:=by rfl)
  (hline:(apos.endLine==cpos.line)=true:=by rfl) (hs:starEach (e::es) X.env=(false,eval e X.env)::starEach es X.env:=by rfl) (hplain:(backTo cpos (starEach es X.env)).any (·.1)=false:=by rfl):
  PE X (.Call (.Attribute o name apos) (e::es) [] cpos) (tBM X.K T r to t):=by
 intro pins s σ H Q I h
 refine wpAny_Call_method_late hbase hfew hline rfl (cR (ho pins s σ H _ I h) fun v s1 aO=>?_)
 obtain ⟨x,H1,I1,r1,ty,q1⟩:=aO
 obtain ⟨h1,h2⟩:=Vm I1 r1 ty
 refine ⟨T,id,pa,slot,hty,h1,h2,?_⟩
 have hA:=ha cpos pins s1 σ H1 _ I1 q1
 rw [hs] at hA ⊢
 refine Calls.callWith_builtin (by show (false || (backTo cpos (starEach es X.env)).any (·.1))=false; rw [hplain] <;> rfl) (Calls.evalArgs_plain ?_)
 exact cR hA fun us s2 ⟨vs,H2,I2,r2,q2⟩=>hm pins s2 σ H2 x vs v us Q I2 r1 r2 q2
end
end L2
namespace L2
open PySem PySem.Spec PyProof.Rows
noncomputable def Mq (X:Cx) (id:String) (r:V→List V→Hp→VK→Prop):Prop:=
 ∀(pins:List (Addr×Obj)) (s:Shared) (σ:St) (H:Hp) (x:V) (xs:List V) (v:Value) (us:List Value) (Q:VK),Inv X pins σ H s→RelV x v→Vals xs us→r x xs H Q→
  wpAny (model X.prog X.w) X.A (call (.builtin id) (v::us)) (EP X pins σ Q) X.xe s
theorem Vals.one:∀{x:V} {us:List Value},Vals [x] us→∃u,us=[u]∧RelV x u
 | _,_,.cons r .nil=>⟨_,rfl,r⟩
theorem Vals.eraseIdx:∀{xs:List V} {us:List Value} (i:Nat),Vals xs us→Vals (xs.eraseIdx i) (us.eraseIdx i)
 | _,_,_,.nil=>.nil
 | _,_,0,.cons _ t=>t
 | _,_,i + 1,.cons r t=>.cons r (Vals.eraseIdx i t)
theorem Vals.reverse {xs:List V} {us:List Value} (h:Vals xs us):Vals xs.reverse us.reverse:=by
 induction h with
 | nil=>exact .nil
 | cons r t ih=>rw [List.reverse_cons,List.reverse_cons]; exact Vals.append ih (.cons r .nil)
theorem yh {α:Type}:∀(l:List α) (i:Nat),(l.eraseIdx i).length≤l.length
 | [],_=>Nat.le_refl _
 | _::_,0=>Nat.le_succ _
 | _::r,i + 1=>Nat.succ_le_succ (yh r i)
section
variable {X:Cx} {pins:List (Addr×Obj)} {σ:St} {H:Hp} {s:Shared} {l b:Addr} {xs ys zs:List V}
theorem Inv.Vn {its its':List Value} {n:Nat} {f:Array Value→Array Value} {t':Nat} (I:Inv X pins σ H s) (hH:H l=some (.lst xs))
  (e:s.heap.get? l=some { cls:=.type "list",data:=.seq its.toArray n }) (hf:f its.toArray=its'.toArray) (hv:Vals ys its') (hz:ys.length≤sizeLine):
  Inv X pins σ (upd H l (.lst ys)) { s with heap:=s.heap.update l (Obj.mapSeq f),toks:=t' }:=by
 have q:=PySem.IsL.update e f
 rw [hf] at q
 refine I.write (x:=l) (e:=l) (by rw [hH]; exact trivial) (.inl rfl) (fun b' u hb hu=>(Heap.get?_update_other s.heap (Obj.mapSeq f) (Ne.symm hb)).trans hu) ⟨_,q⟩ ?_
 exact ⟨hz,its',_,hv,q⟩
theorem Inv.aaj {its:List Value} {t':Nat} (I:Inv X pins σ H s) (hv:Vals ys its) (hz:ys.length≤sizeLine):
  Inv X pins σ (upd H s.heap.objs.size (.lst ys)) { s with heap:=s.heap.push { cls:=.type "list",data:=.seq its.toArray },toks:=t' }:=
 I.laid (fun _ _ q=>Heap.get?_push_of_some _ q) (Nat.le_refl _) ⟨hz,its,0,hv,Heap.get?_push_size _ rfl⟩
theorem Inv.fresh (I:Inv X pins σ H s):H s.heap.objs.size=none:=I.hok.fresh (Nat.le_refl _)
theorem Inv.JV (I:Inv X pins σ H s) (hH:H l=some (.lst xs)):xs.length≤sizeLine∧∃(its:List Value) (n:Nat),Vals xs its∧xs.length=its.length∧s.heap.get? l=some { cls:=.type "list",data:=.seq its.toArray n }:=by
 obtain ⟨z,its,n,r,e⟩:=I.hok l _ hH
 exact ⟨z,its,n,r,r.length,e⟩
theorem Mr {n:Nat} (h:n≤sizeLine):Builtin.List.listTooLong n=false:=by
 unfold Builtin.List.listTooLong
 exact decide_eq_false (by omega)
end
section
variable {X:Cx}
noncomputable def Q0:V→List V→Hp→VK→Prop:=fun x vs H Q=>∃l xs y,x=.ref l∧vs=[y]∧H l=some (.lst xs)∧xs.length < sizeLine∧Q .non (upd H l (.lst (xs++[y])))
theorem rN:Mq X "list.append" Q0:=by
 intro pins s σ H x vs v us Q I rx rv h
 obtain ⟨l,xs,y,rfl,rfl,hH,hz,q⟩:=h
 cases rx
 obtain ⟨u,rfl,ru⟩:=rv.one
 obtain ⟨z,its,n,r,hl,e⟩:=I.JV hH
 refine call_meets F.slot_list_append ⟨_,e,rfl⟩ F.entry_list_append (F.args_list_append_2 _ _) (PySem.list_append l its.toArray n u (by rw [List.size_toArray]; omega)) ⟨e,?_⟩
 refine ⟨.non,_,I.Vn (its':=its++[u]) hH e (by simp) (r.append (.cons ru .nil)) ?_,rfl,q⟩
 rw [List.length_append,List.length_singleton]
 omega
noncomputable def Q3:V→List V→Hp→VK→Prop:=fun x vs H Q=>∃l b xs zs,x=.ref l∧vs=[.ref b]∧H l=some (.lst xs)∧H b=some (.lst zs)∧xs.length + zs.length≤sizeLine∧Q .non (upd H l (.lst (xs++zs)))
theorem JW:Mq X "list.extend" Q3:=by
 intro pins s σ H x vs v us Q I rx rv h
 obtain ⟨l,b,xs,zs,rfl,rfl,hH,hB,hz,q⟩:=h
 cases rx
 obtain ⟨u,rfl,ru⟩:=rv.one
 cases ru
 obtain ⟨z,its,n,r,hl,e⟩:=I.JV hH
 obtain ⟨z2,its2,n2,r2,hl2,e2⟩:=I.JV hB
 have hsz:its.toArray.size + its2.toArray.size≤sizeLine:=by rw [List.size_toArray,List.size_toArray]; omega
 have XF:¬(!its.toArray.isEmpty&&Builtin.List.listTooLong (its.toArray.size + its2.toArray.size))=true:=by
  rw [Mr hsz,Bool.and_false]
  exact Bool.false_ne_true
 refine call_meets F.slot_list_extend ⟨_,e,rfl⟩ F.entry_list_extend (F.args_list_extend_2 _ _)
  (AutoSeq1.list_extend_list_list_0 l its.toArray n b its2.toArray n2 XF (by rw [List.size_toArray]; omega) (by omega)) ⟨e,e2,?_⟩
 refine ⟨.non,_,I.Vn (its':=its++its2) hH e (by simp) (r.append r2) ?_,rfl,q⟩
 rw [List.length_append]
 omega
noncomputable def Vo:V→List V→Hp→VK→Prop:=fun x vs H Q=>∃l xs i k y,x=.ref l∧vs=[.int i]∧H l=some (.lst xs)∧-(2 ^ 63)≤i∧i < 2 ^ 63∧seqIndex? i xs.length=some k∧xs[k]?=some y∧Q y (upd H l (.lst (xs.eraseIdx k)))
theorem Ms:Mq X "list.pop" Vo:=by
 intro pins s σ H x vs v us Q I rx rv h
 obtain ⟨l,xs,i,k,y,rfl,rfl,hH,h1,h2,hk,hy,q⟩:=h
 cases rx
 obtain ⟨u,rfl,ru⟩:=rv.one
 obtain ⟨t,rfl⟩:=ru
 obtain ⟨z,its,n,r,hl,e⟩:=I.JV hH
 obtain ⟨w,hw,rw'⟩:=r.get hy
 refine call_meets F.slot_list_pop ⟨_,e,rfl⟩ F.entry_list_pop (F.args_list_pop_2 _ _)
  (MeetsSeq.list_pop_at l its.toArray n i t k w (fitsIndex_both h1 h2) (by rw [List.size_toArray,←hl]; exact hk) (by rw [←Array.getElem?_toList]; exact hw) (by rw [List.size_toArray]; omega)) ⟨e,?_⟩
 refine ⟨y,_,I.Vn (its':=its.eraseIdx k) hH e ?_ (r.eraseIdx k) ?_,rw',q⟩
 ·show its.toArray.eraseIdxIfInBounds k=(its.eraseIdx k).toArray
  rw [List.eraseIdxIfInBounds_toArray]
 ·have:=yh xs k
  omega
noncomputable def XH:R2:=fun x y H Q=>∃l b xs zs,x=.ref l∧y=.ref b∧H l=some (.lst xs)∧H b=some (.lst zs)∧xs.length + zs.length≤sizeLine∧∀p,H p=none→Q (.ref p) (upd H p (.lst (xs++zs)))
theorem Vp:iI X (binaryOp .Add) XH:=by
 intro pins s σ H x y v u Q I rx ry h
 obtain ⟨l,b,xs,zs,rfl,rfl,hH,hB,hz,q⟩:=h
 cases rx
 cases ry
 obtain ⟨z,its,n,r,hl,e⟩:=I.JV hH
 obtain ⟨z2,its2,n2,r2,hl2,e2⟩:=I.JV hB
 refine PySem.P.add_list e e2 ?_ (by rw [List.size_toArray,List.size_toArray]; omega)
 have ea:its.toArray++its2.toArray=(its++its2).toArray:=by simp
 rw [ea]
 exact ⟨.ref _,_,I.aaj (t':=s.toks) (r.append r2) (by rw [List.length_append]; omega),rfl,q _ I.fresh⟩
end
section
variable {prog:Program} {w:World} {A:Around} {E:Value→Shared→Prop} {s:Shared}
set_option maxRecDepth 100000 in
end
section
variable {X:Cx}
end
end L2
namespace L2
open PySem PySem.Spec PyProof.Rows
section
variable {κ:Type} [DecidableEq κ]
noncomputable def oJ (kvs:List (κ×V)) (k:κ):Option V:=(kvs.find? fun kv=>decide (kv.1=k)).map (·.2)
noncomputable def putK (kvs:List (κ×V)) (k:κ) (v:V):List (κ×V):=
 if (kvs.any fun kv=>decide (kv.1=k))=true then kvs.map (fun kv=>if kv.1=k then (kv.1,v) else kv) else kvs++[(k,v)]
noncomputable def Tw (kvs:List (κ×V)) (k:κ):List (κ×V):=kvs.filter fun kv=>decide (kv.1≠k)
theorem qp {p:κ×V} {r:List (κ×V)} {k:κ} (e:p.1=k):oJ (p::r) k=some p.2:=by simp [oJ,List.find?_cons,e]
theorem qt {p:κ×V} {r:List (κ×V)} {k:κ} (e:¬p.1=k):oJ (p::r) k=oJ r k:=by simp [oJ,List.find?_cons,e]
theorem Bw (k:κ):∀kvs:List (κ×V),(kvs.any fun kv=>decide (kv.1=k))=(oJ kvs k).isSome
 | []=>rfl
 | p::r=>by
  rw [List.any_cons]
  by_cases e:p.1=k
  ·simp only [qp e,decide_eq_true e,Bool.true_or,Option.isSome_some]
  ·rw [qt e,decide_eq_false e,Bool.false_or]; exact Bw k r
theorem jw (kvs:List (κ×V)) (k:κ) (v:V):(putK kvs k v).length≤kvs.length + 1:=by
 unfold putK
 split
 ·rw [List.length_map]; omega
 ·rw [List.length_append,List.length_cons,List.length_nil]; omega
theorem rF.jZ {o:Option V} {u:Option Value} (r:rF o u):o.isSome=u.isSome:=by
 cases o with
 | none=>cases u with
  | none=>rfl
  | some _=>exact (show False from r).elim
 | some _=>cases u with
  | none=>exact (show False from r).elim
  | some _=>rfl
theorem rF.getD {o:Option V} {u:Option Value} {d:V} {d':Value} (r:rF o u) (rd:RelV d d'):RelV (o.getD d) (u.getD d'):=by
 cases o with
 | none=>cases u with
  | none=>exact rd
  | some _=>exact (show False from r).elim
 | some _=>cases u with
  | none=>exact (show False from r).elim
  | some _=>exact r
theorem KV.val {kvs:List (κ×V)} {vs:List (κ×Value)} (r:KV kvs vs) (k:κ):rF (oJ kvs k) (valueAt vs k):=by
 unfold KV at r
 induction r with
 | nil=>exact True.intro
 | @cons p q ps qs h t ih=>
  obtain ⟨h1,h2⟩:=h
  by_cases e:p.1=k
  ·have e':q.1=k:=h1.symm.trans e
   have b:valueAt (q::qs) k=some q.2:=by simp [valueAt,List.find?_cons,e']
   rw [qp e,b]; exact h2
  ·have e':¬q.1=k:=fun z=>e (h1.trans z)
   have b:valueAt (q::qs) k=valueAt qs k:=by simp [valueAt,List.find?_cons,e']
   rw [qt e,b]; exact ih
theorem KV.any {kvs:List (κ×V)} {vs:List (κ×Value)} (r:KV kvs vs) (k:κ):(kvs.any fun kv=>decide (kv.1=k))=vs.any fun kv=>decide (kv.1=k):=by
 unfold KV at r
 induction r with
 | nil=>rfl
 | cons h t ih=>rw [List.any_cons,List.any_cons,ih,h.1]
theorem KV.repl {kvs:List (κ×V)} {vs:List (κ×Value)} (r:KV kvs vs) (k:κ) {y:V} {u:Value} (ry:RelV y u):
  KV (kvs.map fun kv=>if kv.1=k then (kv.1,y) else kv) (vs.map fun kv=>if kv.1=k then (kv.1,u) else kv):=by
 unfold KV at r ⊢
 induction r with
 | nil=>exact .nil
 | @cons p q ps qs h t ih=>
  rw [List.map_cons,List.map_cons]
  refine .cons ?_ ih
  obtain ⟨h1,h2⟩:=h
  by_cases e:p.1=k
  ·rw [if_pos e,if_pos (h1.symm.trans e)]; exact ⟨h1,ry⟩
  ·rw [if_neg e,if_neg (fun z=>e (h1.trans z))]; exact ⟨h1,h2⟩
theorem KV.put {kvs:List (κ×V)} {vs:List (κ×Value)} (r:KV kvs vs) (k:κ) {y:V} {u:Value} (ry:RelV y u):KV (putK kvs k y) (stored vs k u):=by
 unfold putK stored
 rw [r.any k]
 by_cases e:(vs.any fun kv=>decide (kv.1=k))=true
 ·rw [if_pos e,if_pos e]; exact r.repl k ry
 ·rw [if_neg e,if_neg e]; exact Paired.snoc r ⟨rfl,ry⟩
theorem KV.drop {kvs:List (κ×V)} {vs:List (κ×Value)} (r:KV kvs vs) (k:κ):KV (Tw kvs k) (without vs k):=by
 unfold KV at r ⊢
 unfold Tw without
 induction r with
 | nil=>exact .nil
 | @cons p q ps qs h t ih=>
  obtain ⟨h1,h2⟩:=h
  rw [List.filter_cons,List.filter_cons]
  by_cases e:p.1=k
  ·have a:¬decide (p.1≠k)=true:=by simp [e]
   have b:¬decide (q.1≠k)=true:=by simp [h1.symm.trans e]
   rw [if_neg a,if_neg b]; exact ih
  ·have e':¬q.1=k:=fun z=>e (h1.trans z)
   have a:decide (p.1≠k)=true:=by simp [e]
   have b:decide (q.1≠k)=true:=by simp [e']
   rw [if_pos a,if_pos b]; exact .cons ⟨h1,h2⟩ ih
theorem KV.length {kvs:List (κ×V)} {vs:List (κ×Value)} (r:KV kvs vs):kvs.length=vs.length:=Paired.length r
end
theorem uR {P:Program} {w:World} {k:Key} {u:Value} (r:RelV (kV k) u):(bY P w).is k u=true:=by
 cases k with
 | inl i=>obtain ⟨t,e⟩:=(show ∃t,u=Value.int i t from r); subst e; exact Bp P w i t
 | inr x=>obtain ⟨t,e⟩:=(show ∃t,u=Value.str x t from r); subst e; exact Bq P w x t
theorem yj {P:Program} {w:World}:∀{ks:List Key} {us:List Value},Vals (ks.map kV) us→ItemsAre (bY P w) ks us
 | [],_,r=>by rw [List.map_nil] at r; cases r; exact .nil
 | k::ks,_,r=>by
  rw [List.map_cons] at r
  cases r with
  | cons h t=>exact .cons (uR h) (yj t)
noncomputable abbrev KT (H:Hp):List (List Key×V)→List (List Key×Addr×Value)→Prop:=Paired fun p q=>p.1=q.1∧H q.2.1=some (.tup (p.1.map kV))∧RelV p.2 q.2.2
theorem KT.val {H:Hp} {kvs:List (List Key×V)} {xs:List (List Key×Addr×Value)} (r:KT H kvs xs) (k:List Key):rF (oJ kvs k) ((atKey xs k).map (·.2)):=by
 induction r with
 | nil=>exact True.intro
 | @cons p q ps qs h t ih=>
  obtain ⟨h1,_,h2⟩:=h
  by_cases e:p.1=k
  ·have e':q.1=k:=h1.symm.trans e
   have b:atKey (q::qs) k=some q.2:=by simp [atKey,List.find?_cons,e']
   rw [qp e,b]; exact h2
  ·have e':¬q.1=k:=fun z=>e (h1.trans z)
   have b:atKey (q::qs) k=atKey qs k:=by simp [atKey,List.find?_cons,e']
   rw [qt e,b]; exact ih
theorem KT.repl {H:Hp} {kvs:List (List Key×V)} {xs:List (List Key×Addr×Value)} (r:KT H kvs xs) (k:List Key) {y:V} {u:Value} (ry:RelV y u):
  KT H (kvs.map fun kv=>if kv.1=k then (kv.1,y) else kv) (xs.map (putAt k u)):=by
 induction r with
 | nil=>exact .nil
 | @cons p q ps qs h t ih=>
  rw [List.map_cons,List.map_cons]
  refine .cons ?_ ih
  obtain ⟨h1,h2,h3⟩:=h
  unfold putAt
  by_cases e:p.1=k
  ·rw [if_pos e,if_pos (h1.symm.trans e)]; exact ⟨h1,h2,ry⟩
  ·rw [if_neg e,if_neg (fun z=>e (h1.trans z))]; exact ⟨h1,h2,h3⟩
theorem KT.put {H:Hp} {kvs:List (List Key×V)} {xs:List (List Key×Addr×Value)} (r:KT H kvs xs) (k:List Key) {b:Addr} {y:V} {u:Value} (hb:H b=some (.tup (k.map kV))) (ry:RelV y u):
  KT H (putK kvs k y) (storedH xs k b u):=by
 have e:(kvs.any fun kv=>decide (kv.1=k))=(atKey xs k).isSome:=by
  rw [Bw,(r.val k).jZ,Option.isSome_map]
 unfold putK storedH
 rw [e]
 by_cases q:(atKey xs k).isSome=true
 ·rw [if_pos q,if_pos q]; exact r.repl k ry
 ·rw [if_neg q,if_neg q]; exact Paired.snoc r ⟨rfl,hb,ry⟩
theorem KT.keeps {H H':Hp} {kvs:List (List Key×V)} {xs:List (List Key×Addr×Value)} (r:KT H kvs xs) (ht:∀b ys,H b=some (.tup ys)→H' b=some (.tup ys)):KT H' kvs xs:=
 Paired.Ur r fun _ _ z=>⟨z.1,ht _ _ z.2.1,z.2.2⟩
section
variable {P:Program} {w:World} {H:Hp} {h:Heap} {a:Addr}
theorem Tz {u:HO} (ok:qb P w H h) (e:Rd H a u):bL P w H h a u:=e.ok ok
theorem ym {kvs:List (Key×V)} (ok:qb P w H h) (e:Rd H a (.dK kvs)):kvs.length≤sizeLine∧(a==sysModules)=false∧∃vs,KV kvs vs∧h.DictOf (bY P w) a vs:=
 show bL P w H h a (.dK kvs) from Tz ok e
theorem Hu {kvs:List (Key×V)} (ok:qb P w H h) (e:H a=some (.dK kvs)):kvs.length≤sizeLine∧(a==sysModules)=false∧∃vs,KV kvs vs∧h.DictOf (bY P w) a vs:=ym ok (.inl e)
theorem uT {ks:List Key} (ok:qb P w H h) (e:H a=some (.tup (ks.map kV))):(tupleKind (bY P w)).is h ks a:=by
 obtain ⟨_,its,r,o,h1,h2,n,h3⟩:=(show bL P w H h a (.tup (ks.map kV)) from ok a _ e)
 exact ⟨o,its.toArray,n,h1,h2,h3,by simpa using yj r⟩
theorem By {kvs:List (List Key×V)} (ok:qb P w H h) (e:Rd H a (.dT kvs)):kvs.length≤sizeLine∧(a==sysModules)=false∧
  ∃xs,KT H kvs xs∧h.DictOfH (tupleKind (bY P w)) a xs:=by
 obtain ⟨z,y,xs,r,o,es,ep,h1,h2,h3,h4,h5⟩:=(show bL P w H h a (.dT kvs) from Tz ok e)
 refine ⟨z,y,xs,r,o,es,ep,h1,h2,h3,h4,fun x hx=>?_,h5⟩
 have all:∀{l:List (List Key×V)} {m:List (List Key×Addr×Value)},KT H l m→∀x∈m,(tupleKind (bY P w)).is h x.1 x.2.1:=by
  intro l m q
  induction q with
  | nil=>intro x hx; exact nomatch hx
  | @cons p q ps qs hq t ih=>
   intro x hx
   rcases List.mem_cons.mp hx with e | hx
   ·subst e
    exact uT ok (by rw [←hq.1]; exact hq.2.1)
   ·exact ih x hx
 exact all r x hx
theorem TF {kvs:List (List Key×V)} (ok:qb P w H h) (e:H a=some (.dT kvs)):kvs.length≤sizeLine∧(a==sysModules)=false∧
  ∃xs,KT H kvs xs∧h.DictOfH (tupleKind (bY P w)) a xs:=By ok (.inl e)
end
noncomputable def oK (H:Hp) (a:Addr) (y:V) (r:Option V):Prop:=
 (∃kvs k,Rd H a (.dK kvs)∧y=kV k∧r=oJ kvs k)∨∃kvs k b,Rd H a (.dT kvs)∧y=.ref b∧H b=some (.tup (k.map kV))∧r=oJ kvs k
noncomputable def wZ (H:Hp) (a:Addr) (y v:V) (H':Hp):Prop:=
 (∃kvs k,H a=some (.dK kvs)∧y=kV k∧kvs.length < sizeLine∧H'=upd H a (.dK (putK kvs k v)))∨
 ∃kvs k b,H a=some (.dT kvs)∧y=.ref b∧H b=some (.tup (k.map kV))∧kvs.length < sizeLine∧H'=upd H a (.dT (putK kvs k v))
theorem oK.k {H:Hp} {a:Addr} {kvs:List (Key×V)} {k:Key} (e:H a=some (.dK kvs)):oK H a (kV k) (oJ kvs k):=.inl ⟨kvs,k,.inl e,rfl,rfl⟩
theorem oK.t {H:Hp} {a b:Addr} {kvs:List (List Key×V)} {k:List Key} (e:H a=some (.dT kvs)) (eb:H b=some (.tup (k.map kV))):oK H a (.ref b) (oJ kvs k):=.inr ⟨kvs,k,b,.inl e,rfl,eb,rfl⟩
theorem wZ.k {H:Hp} {a:Addr} {kvs:List (Key×V)} {k:Key} {v:V} (e:H a=some (.dK kvs)) (hl:kvs.length < sizeLine):wZ H a (kV k) v (upd H a (.dK (putK kvs k v))):=.inl ⟨kvs,k,e,rfl,hl,rfl⟩
theorem wZ.t {H:Hp} {a b:Addr} {kvs:List (List Key×V)} {k:List Key} {v:V} (e:H a=some (.dT kvs)) (eb:H b=some (.tup (k.map kV))) (hl:kvs.length < sizeLine):
  wZ H a (.ref b) v (upd H a (.dT (putK kvs k v))):=.inr ⟨kvs,k,b,e,rfl,eb,hl,rfl⟩
section
variable {X:Cx} {pins:List (Addr×Obj)} {σ:St} {H:Hp} {s:Shared} {a:Addr} {y v:V} {u r:Value} {o:Option V} {A:Around} {E:Value→Shared→Prop}
theorem Inv.big (I:Inv X pins σ H s):sysModules < s.heap.objs.size:=by
 have h:mainGlobals < s.heap.objs.size:=(I.mod.glob.keeps I.bk).lt
 exact Nat.lt_trans (by decide) h
theorem JX {Q:Value→Shared→Prop} (hu:A.units + 1 < cLine) (I:Inv X pins σ H s) (g:oK H a y (some v)) (ry:RelV y u) (h:∀w' s',Inv X pins σ H s'→RelV v w'→Q w' s'):
  wpAny (model X.prog X.w) A (getItem (.ref a) u) Q E s:=by
 rcases g with ⟨kvs,k,e,ey,l⟩ | ⟨kvs,k,b,e,ey,eb,l⟩
 ·subst ey
  obtain ⟨z,hd,vs,rel,dd⟩:=ym I.hok e
  obtain ⟨w',hw,rw'⟩:=rF.some_of (v:=v) (o:=valueAt vs k) (by rw [l]; exact rel.val k)
  exact wpAny_getItem_of (uR ry) dd.mapOf hw (h w' _ (I.tok _) rw')
 ·subst ey
  cases (show u=Value.ref b from ry)
  obtain ⟨z,hd,xs,rel,dd⟩:=By I.hok e
  obtain ⟨w',hw,rw'⟩:=rF.some_of (v:=v) (o:=(atKey xs k).map (·.2)) (by rw [l]; exact rel.val k)
  obtain ⟨p,hp,hp2⟩:=Option.map_eq_some_iff.mp hw
  refine wpAny_getItem_heap (tupleKind_room_in1 hu) (uT I.hok eb) dd hp ?_
  rw [hp2]
  exact h w' _ (I.tok _) rw'
theorem XJ {Q:Value→Shared→Prop} (hu:A.units + 1 < cLine) (I:Inv X pins σ H s) (g:oK H a y o) (ry:RelV y u) (h:∀s',Inv X pins σ H s'→Q (.bool o.isSome) s'):
  wpAny (model X.prog X.w) A (compareOp .In u (.ref a)) Q E s:=by
 rcases g with ⟨kvs,k,e,ey,l⟩ | ⟨kvs,k,b,e,ey,eb,l⟩
 ·subst ey
  obtain ⟨z,hd,vs,rel,dd⟩:=ym I.hok e
  refine wpAny_in_of (uR ry) hd dd.mapOf ?_
  rw [←(rel.val k).jZ,←l]
  exact h _ (I.tok _)
 ·subst ey
  cases (show u=Value.ref b from ry)
  obtain ⟨z,hd,xs,rel,dd⟩:=By I.hok e
  refine wpAny_in_heap (tupleKind_room_in1 hu) (uT I.hok eb) hd dd ?_
  have q:=(rel.val k).jZ
  rw [Option.isSome_map] at q
  rw [←q,←l]
  exact h _ (I.tok _)
theorem Hv {Q:Value→Shared→Prop} (hu:A.units + 1 < cLine) (I:Inv X pins σ H s) (g:oK H a y o) (ry:RelV y u) (h:∀s',Inv X pins σ H s'→Q (.bool (!o.isSome)) s'):
  wpAny (model X.prog X.w) A (compareOp .NotIn u (.ref a)) Q E s:=by
 rcases g with ⟨kvs,k,e,ey,l⟩ | ⟨kvs,k,b,e,ey,eb,l⟩
 ·subst ey
  obtain ⟨z,hd,vs,rel,dd⟩:=ym I.hok e
  refine wpAny_notIn_of (uR ry) hd dd.mapOf ?_
  rw [←(rel.val k).jZ,←l]
  exact h _ (I.tok _)
 ·subst ey
  cases (show u=Value.ref b from ry)
  obtain ⟨z,hd,xs,rel,dd⟩:=By I.hok e
  refine wpAny_notIn_heap (tupleKind_room_in1 hu) (uT I.hok eb) hd dd ?_
  have q:=(rel.val k).jZ
  rw [Option.isSome_map] at q
  rw [←q,←l]
  exact h _ (I.tok _)
theorem kI {h':Heap} {t':Nat} {ob:HO} (I:Inv X pins σ H s) (mu:W3 (H a)) (hs:Heap.SameBut a s.heap h') (he:∃q,h'.get? a=some q) (new:bL X.prog X.w (upd H a ob) h' a ob):
  Inv X pins σ (upd H a ob) { s with heap:=h',toks:=t' }:=
 I.write (x:=a) (e:=a) mu (.inl rfl) (fun b q hb z=>(hs.2 b hb).trans z) he new
theorem zJ {P:Program} {w:World} {H':Hp} {h':Heap} {kvs:List (Key×V)} {vs:List (Key×Value)} (z:kvs.length≤sizeLine) (hd:(a==sysModules)=false) (rel:KV kvs vs) (dd:h'.DictOf (bY P w) a vs):
  bL P w H' h' a (.dK kvs):=⟨z,hd,vs,rel,dd⟩
theorem yo {H':Hp} {Q:Unit→Shared→Prop} (hu:A.units + 1 < cLine) (I:Inv X pins σ H s) (g:wZ H a y v H') (ry:RelV y u) (rv:RelV v r) (h:∀s',Inv X pins σ H' s'→Q () s'):
  wpAny (model X.prog X.w) A (setItem (.ref a) u r) Q E s:=by
 rcases g with ⟨kvs,k,e,ey,l,eH⟩ | ⟨kvs,k,b,e,ey,eb,l,eH⟩
 ·subst ey eH
  obtain ⟨z,hd,vs,rel,dd⟩:=Hu I.hok e
  have hz:vs.length≤sizeLine:=by rw [←rel.length]; exact z
  have hl:(putK kvs k v).length≤sizeLine:=by have:=jw kvs k v; omega
  refine wpAny_setItem_pairs (hsz:=hz) (uR ry) dd fun h' Qs hs=>h _ ?_
  have he:∃q,h'.get? a=some q:=let ⟨q,_,_,hq,_⟩:=Qs; ⟨q,hq⟩
  exact kI I (by rw [e]; exact True.intro) hs he (zJ hl hd (rel.put k rv) Qs)
 ·subst ey eH
  cases (show u=Value.ref b from ry)
  obtain ⟨z,hd,xs,rel,dd⟩:=TF I.hok e
  have hz:xs.length≤sizeLine:=by rw [←Paired.length rel]; exact z
  have hl:(putK kvs k v).length≤sizeLine:=by have:=jw kvs k v; omega
  refine wpAny_setItem_heap (hsz:=hz) (tupleKind_room_in1 hu) (uT I.hok eb) dd fun h' Qs hs=>h _ ?_
  obtain ⟨q,es,ep,hq,h2,h3,h4,_,h5⟩:=Qs
  refine kI I (by rw [e]; exact True.intro) hs ⟨q,hq⟩ ⟨hl,hd,_,(rel.put k eb rv).keeps fun c ys ec=>?_,q,es,ep,hq,h2,h3,h4,h5⟩
  rw [aJ (Lh ec e (fun z=>nomatch z))]
  exact ec
end
section
variable {X:Cx} {pins:List (Addr×Obj)} {σ:St} {H:Hp} {s:Shared} {a:Addr} {kvs:List (Key×V)} {k:Key} {u:Value} {A:Around} {E:Value→Shared→Prop}
theorem XM {Q:Value→Shared→Prop} (I:Inv X pins σ H s) (e:Rd H a (.dK kvs)) (h:∀t s',Inv X pins σ H s'→Q (.int kvs.length t) s'):wpAny (model X.prog X.w) A (call (.builtin "len") [.ref a]) Q E s:=by
 obtain ⟨z,hd,vs,rel,dd⟩:=ym I.hok e
 refine call_len_dict hd dd (by rw [←rel.length]; rw [sizeLine_eq] at z; omega) ?_
 rw [←rel.length]
 exact h _ _ (I.tok _)
end
theorem BJ {X:Cx} {pins:List (Addr×Obj)} {σ:St} {H:Hp} {s:Shared} {a:Addr} {y:V} {o:Option V} (I:Inv X pins σ H s) (g:oK H a y o):s.TypeIs (.ref a) "dict":=by
 rcases g with ⟨kvs,k,e,_,_⟩ | ⟨kvs,k,b,e,_,_,_⟩
 ·obtain ⟨_,_,vs,_,dd⟩:=ym I.hok e
  exact dd.typeIs
 ·obtain ⟨_,_,xs,_,dd⟩:=By I.hok e
  exact dd.typeIs
section
variable {X:Cx} {o i e value:Expr} {pos pos' tpos:Pos} {td ty tv:TE}
end
theorem uU {P:Program} {w:World} {H:Hp} (h:Heap) (hb:sysModules < h.objs.size):bL P w H (h.push { cls:=.type "dict",data:=.dict #[] }) h.objs.size (.dK []):=
 ⟨Nat.zero_le _,beq_eq_false_iff_ne.mpr (Ne.symm (Nat.ne_of_lt hb)),[],.nil,Heap.DictOf.new h⟩
noncomputable def Vq:TE:=fun _ H Q=>∀p,H p=none→Q (.ref p) (upd H p (.dK []))
section
variable {X:Cx} {pos:Pos}
theorem Mt:PE X (.Dict [] [] pos) Vq:=fun pins s σ H Q I h=>
 wpAny_Dict_empty ⟨.ref s.heap.objs.size,_,I.laid (a:=s.heap.objs.size) (o:=.dK []) (t':=s.toks) (fun _ _ q=>Heap.get?_push_of_some _ q) (Nat.le_refl _) (uU s.heap I.big),rfl,h _ (I.hok.fresh (Nat.le_refl _))⟩
end
noncomputable def Fp:List (TE×TE)→St→Hp→(List (V×V)→Hp→Prop)→Prop
 | [],_,H,Q=>Q [] H
 | (tk,tv)::r,σ,H,Q=>tk σ H fun x H1=>tv σ H1 fun y H2=>Fp r σ H2 fun ps H3=>Q ((x,y)::ps) H3
noncomputable abbrev VV:List (V×V)→List (Value×Value)→Prop:=Paired fun p q=>RelV p.1 q.1∧RelV p.2 q.2
noncomputable def Zj (X:Cx) (pos:Pos) (keys:List (Option Expr)) (values:List Expr) (Q4:List (TE×TE)):Prop:=
 ∀(pins:List (Addr×Obj)) (s:Shared) (σ:St) (H:Hp) (Q:List (V×V)→Hp→Prop),Inv X pins σ H s→Fp Q4 σ H Q→
  wpAny (model X.prog X.w) X.A (evalPairs (pairTrees keys values X.env pos)) (fun vs s'=>∃ps H',Inv X pins σ H' s'∧VV ps vs∧Q ps H') X.xe s
theorem Q5 {X:Cx} {pos:Pos}:Zj X pos [] [] []:=fun pins s σ H Q I h=>pairTrees_nil_walk ⟨[],H,I,.nil,h⟩
theorem Mu {X:Cx} {pos:Pos} {k v:Expr} {ks:List (Option Expr)} {vs:List Expr} {tk tv:TE} {Q4:List (TE×TE)} (hk:PE X k tk) (hv:PE X v tv) (hr:Zj X pos ks vs Q4):
  Zj X pos (some k::ks) (v::vs) ((tk,tv)::Q4):=fun pins s σ H Q I h=>
 pairTrees_cons_walk (cR (hk pins s σ H _ I h) fun u s1 ⟨x,H1,I1,rx,q1⟩=>cR (hv pins s1 σ H1 _ I1 q1) fun w2 s2 ⟨y,H2,I2,ry,q2⟩=>
  cR (hr pins s2 σ H2 _ I2 q2) fun ws s3 ⟨ps,H3,I3,rel,q3⟩=>⟨(x,y)::ps,H3,I3,.cons ⟨rx,ry⟩ rel,q3⟩)
noncomputable def uV (kvs more:List (Key×V)):List (Key×V):=more.foldl (fun acc kv=>putK acc kv.1 kv.2) kvs
theorem KV.merge:∀{more:List (Key×V)} {rs:List (Key×Value)} {kvs:List (Key×V)} {vs:List (Key×Value)},KV more rs→KV kvs vs→KV (uV kvs more) (merged vs rs):=by
 intro more rs kvs vs r
 unfold KV at r
 induction r generalizing kvs vs with
 | nil=>intro q; exact q
 | @cons p q ps qs h t ih=>
  intro r0
  have e:KV (putK kvs p.1 p.2) (stored vs q.1 q.2):=by
   have:=r0.put p.1 h.2
   rw [←h.1]; exact this
  exact ih e
theorem oO:∀(more kvs:List (Key×V)),(uV kvs more).length≤kvs.length + more.length
 | [],kvs=>by show kvs.length≤kvs.length + 0; omega
 | p::r,kvs=>by
  have h1:=oO r (putK kvs p.1 p.2)
  have h2:=jw kvs p.1 p.2
  show (uV (putK kvs p.1 p.2) r).length≤_
  rw [List.length_cons]; omega
theorem uW {P:Program} {w:World}:∀{kvs:List (Key×V)} {ws:List (Value×Value)},VV (kvs.map fun kv=>(kV kv.1,kv.2)) ws→∃rs,Carries (bY P w) ws rs∧KV kvs rs
 | [],_,r=>by rw [List.map_nil] at r; cases r; exact ⟨[],True.intro,.nil⟩
 | p::kvs,_,r=>by
  rw [List.map_cons] at r
  cases r with
  | @cons a b as bs h t=>
   obtain ⟨rs,c,q⟩:=uW (P:=P) (w:=w) t
   obtain ⟨b1,b2⟩:=b
   exact ⟨(p.1,b2)::rs,⟨uR h.1,rfl,c⟩,.cons ⟨rfl,h.2⟩ q⟩
noncomputable def XN (Q4:List (TE×TE)):TE:=fun σ H Q=>∀p,H p=none→Fp Q4 σ (upd H p (.dK [])) fun ps H2=>H2 p=some (.dK [])∧∃kvs:List (Key×V),ps=kvs.map (fun kv=>(kV kv.1,kv.2))∧kvs.length≤15∧Q (.ref p) (upd H2 p (.dK (uV [] kvs)))
theorem Q6 {X:Cx} {pos:Pos} {keys:List (Option Expr)} {values:List Expr} {Q4:List (TE×TE)} (h:Zj X pos keys values Q4) (hall:keys.all (·.isSome)=true) (hl:keys.length=values.length) (h0:keys≠[])
  (h15:keys.length≤15):PE X (.Dict keys values pos) (XN Q4):=by
 intro pins s σ H Q I q
 have hn:=I.hok.fresh (Nat.le_refl s.heap.objs.size)
 have I1:=I.laid (a:=s.heap.objs.size) (o:=.dK []) (h':=s.heap.push { cls:=.type "dict",data:=.dict #[] }) (t':=s.toks) (fun _ _ q=>Heap.get?_push_of_some _ q) (Nat.le_refl _) (uU s.heap I.big)
 refine wpAny_Dict_walk (knd:=bY X.prog X.w) hall hl h0 h15 (cR (h pins _ σ _ _ I1 (q _ hn)) fun ws s2 aO=>?_)
 obtain ⟨ps,H2,I2,rel,e,kvs,ep,lk,q2⟩:=aO
 subst ep
 obtain ⟨rs,c,rk⟩:=uW (P:=X.prog) (w:=X.w) rel
 obtain ⟨z,hd,WY,r0,dd⟩:=Hu I2.hok e
 cases r0
 refine ⟨rs,c,dd,fun h' Qs hs=>⟨.ref s.heap.objs.size,_,?_,rfl,q2⟩⟩
 have hz:(uV [] kvs).length≤sizeLine:=by
  have h1:=oO kvs []
  rw [List.length_nil] at h1
  rw [sizeLine_eq]; omega
 have he:∃q,h'.get? s.heap.objs.size=some q:=let ⟨q,_,_,hq,_⟩:=Qs; ⟨q,hq⟩
 exact kI I2 (by rw [e]; exact True.intro) hs he (zJ hz hd (rk.merge .nil) Qs)
structure M1 (X:Cx) (o:Expr) (m:Str) (apos:Pos) (e:Expr) (cpos:Pos):Prop where
 base:attributeBase o m X.env (eval o X.env)=eval o X.env
 few:((backTo cpos (starEach [e] X.env)).all (fun x=>!x.1)&&(backToKw cpos (keywordEach [] X.env)).all (fun x=>x.1.isSome)
  &&decide (([e]:List Expr).length + ([]:List Keyword).length + (if ([]:List Keyword).isEmpty then 0 else 1) < 30))=true
 line:(apos.endLine==cpos.line)=true
 trees:backTo cpos (starEach [e] X.env)=[(false,eval e X.env)]
structure M2 (X:Cx) (o:Expr) (m:Str) (apos:Pos) (e f:Expr) (cpos:Pos):Prop where
 base:attributeBase o m X.env (eval o X.env)=eval o X.env
 few:((backTo cpos (starEach [e,f] X.env)).all (fun x=>!x.1)&&(backToKw cpos (keywordEach [] X.env)).all (fun x=>x.1.isSome)
  &&decide (([e,f]:List Expr).length + ([]:List Keyword).length + (if ([]:List Keyword).isEmpty then 0 else 1) < 30))=true
 line:(apos.endLine==cpos.line)=true
 trees:backTo cpos (starEach [e,f] X.env)=[(false,eval e X.env),(false,eval f X.env)]
section
variable {X:Cx} {pins:List (Addr×Obj)} {σ:St} {H:Hp} {s:Shared} {a:Addr} {y d:V} {u r:Value} {o:Option V} {A:Around} {E:Value→Shared→Prop}
end
section
variable {X:Cx} {o e f:Expr} {apos cpos:Pos} {td ty tx:TE}
end
section
variable {X:Cx} {pins:List (Addr×Obj)} {σ:St} {H:Hp} {s:Shared} {a:Addr} {kvs:List (Key×V)} {A:Around} {E:Value→Shared→Prop}
end
section
variable {X:Cx} {pins:List (Addr×Obj)} {σ:St} {H:Hp} {s:Shared} {a:Addr} {y:V} {u:Value} {A:Around} {E:Value→Shared→Prop}
end
end L2
namespace Att
open PySem PySem.W PySem.Calls PyProof.Rows
theorem uh {P:Params} {h:Heap}:∀(ns:List Int) (vs:List Value),WellAll P h vs (ns.map WData.int)→IntsAre vs ns:=by
 intro ns
 induction ns with
 | nil=>
  intro vs w
  rw [List.map_nil] at w
  cases w
  exact .nil
 | cons n ns ih=>
  intro vs w
  rw [List.map_cons] at w
  cases w with
  | cons a b=>
   cases a
   exact .cons _ _ (ih _ b)
theorem JZ {l:OpenLaw} {n:Nat} (hn:l.most=some n) {P:Params} {h:Heap} {args:List WData} {vals:List Value}
  (hpre:l.row.toRowW.claim.pre args=true) (hwl:WellAll P h vals args):
  ∃a vs ns,vals=[Value.ref a]∧args=[WData.list (ns.map WData.int)]∧h.get? a=some { cls:=.type "list",data:=.seq vs.toArray }∧IntsAre vs ns∧ns.length≤n:=by
 have hsh:WShape.hasAll [] args [.list .int]=true:=(pre_splitW hpre).1
 have hc:l.pre.holds [] { args:=args }=true:=(pre_splitW hpre).2
 obtain ⟨d,r,rfl,h1,h2⟩:=hasAllW_cons hsh
 obtain rfl:=hasAllW_nil h2
 obtain ⟨xs,rfl,h3⟩:=hasW_list h1
 obtain ⟨ns,rfl⟩:=items_int h3
 have hlen:ns.length≤n:=by
  unfold OpenLaw.pre at hc
  have h4:(WTm.not (.lt (.lit (.int (n:Int))) (.len (.arg 0)))).holds [] { args:=[.list (ns.map .int)] }=true:=by
   have h4:=(holds_andW hc).1
   rw [hn] at h4
   exact h4
  have h5:=condW_of h4 (w_not (w_lt w_lit (w_len_list (w_arg rfl))))
  rw [List.length_map] at h5
  refine Nat.le_of_not_lt fun q=>?_
  have q':(n:Int) < ((ns.length:Nat):Int):=by omega
  first
   | (rw [decide_eq_true q'] at h5; exact absurd h5 (by decide))
   | (simp at h5; omega)
 cases hwl with
 | cons w1 w2=>
  cases w2
  cases w1 with
  | list ho hall=>exact ⟨_,_,ns,rfl,rfl,ho,uh ns _ hall,hlen⟩
theorem J0 (l:OpenLaw) (args:List WData):l.row.toRowW.claim.post args (.bool true) args=true:=
 postW_of (r:=l.row.toRowW) (X:=(true==true))
  (show WShape.has [] (.bool true) .bool=true by first | rfl | decide | simp [WShape.has,WShape.arms,WShape.armsAll])
  (show (WTm.eq .res (.lit (.bool true))).value [] { args:=args,res:=some (.bool true),after:=args }=some (.bool (true==true)) from w_eq_bool (w_res rfl) w_lit) rfl
theorem BK {l:OpenLaw} {n:Nat} {q:Program} {loose:List Str} {XP:(Str→Option Value)→Heap→Prop} {YP:World→Heap→Prop} {d:DefRec}
  (hn:l.most=some n) (hdf:d.params.defaults=[])
  (call:∀(w:World) (s₀ s₁:Shared) (mg mb:Str→Option Value) (fa:Addr) (o:Obj) (pm cd doc:Value) (a:Addr) (vs:List Value) (ns:List Int),
   Ground q loose [] XP w s₀ mg mb s₁.heap→YP w s₁.heap→
   s₁.heap.get? fa=some o→o.data=.func (docDef d.name d.params d.body d.scope pm cd doc)→s₁.heap.CodeRec cd d.name→mg d.name=some (.ref fa)→
   s₁.heap.get? a=some { cls:=.type "list",data:=.seq vs.toArray }→IntsAre vs ns→ns.length≤n→s₁.gens=#[]→
   codeAny (model l.prog w) callerA (.call (.ref fa) ⟨[.ref a],[]⟩) (fun r s'=>r=.ok (.ret (.bool true))∧OldK s₁.heap s'.heap∧s'.os=s₁.os∧AllBare s'.gens) s₁):
  WalkO q loose XP YP l.row.toRowW d [] (fun f vs=>PySem.call f vs):=by
 intro w s₀ s₁ mg mb G Y fa o pm cd doc dV kV ho hd hcd hD hmg hg args vals as hpre hlay hrd hwl hlo
 obtain rfl:dV=.none:=Dflts.none hD hdf
 obtain rfl:kV=.none:=Dflts.noKw hD
 obtain ⟨a,vs,ns,rfl,rfl,hobj,hints,hlen⟩:=JZ hn hpre hwl
 refine enter_call (codeAny_mono (call w s₀ s₁ mg mb fa o pm cd doc a vs ns G Y ho (fd_plain hd) hcd hmg hobj hints hlen hg) fun r s' hq=>?_)
 obtain ⟨rfl,h2,h3,h4⟩:=hq
 exact ⟨.inl ⟨.bool true,.bool true,[],rfl,fun _=>rfl,.bool true,J0 l _,fun _=>⟨List.Pairwise.nil,fun _ hm=>(nomatch hm)⟩⟩,h2,h3,h4⟩
section
variable {prog:Program} {w:World} {A:Around} {E:Value→Shared→Prop} {s:Shared} {K:Frag}
noncomputable def ledger (h:Heap) (L d:Addr):List (Addr×Obj):=(List.range h.objs.size).filterMap fun a=>if a=L∨a=d then none else (h.get? a).map fun o=>(a,o)
end
end Att
namespace L2
open PySem PySem.Spec PyProof.Rows
theorem rO:∀{vs:List Value} {ns:List Int},IntsAre vs ns→Vals (ns.map V.int) vs
 | _,_,.nil=>.nil
 | _,_,.cons n t h=>.cons ⟨t,rfl⟩ (rO h)
noncomputable def Only (H:Hp):Prop:=∀b,H b=none∨∃o xs,H b=some (.Bj o (.lst xs))
theorem Mv {P:Program} {w:World} {K:PySem.W.Frag} {mg mb:Str→Option Value} {CX:JQ} {k:Nat} {fa a:Addr} {fd:FuncData} {x:Str} {sp:Sp} {s₁:Shared} {vs:List Value} {ns:List Int}
  (KX:K.In s₁.heap) (hns:s₁.heap.Ns mainGlobals mg) (hb:s₁.heap.Ns builtinsNs mb) (hbb:∀x:Str,x≠"__name__"→mb x=bootBuiltins x) (hlim:s₁.heap.NoLimit) (hg:s₁.gens=#[])
  (ha:s₁.heap.get? a=some { cls:=.type "list",data:=.seq vs.toArray }) (hi:IntsAre vs ns) (hl:ns.length≤sizeLine) (hr:gn k callerA)
  (F:∀base:Heap,K.In base→base.Ns mainGlobals mg→dB P w K mg base CX k fa fd [x] sp) (hbind:∀(s:Shared) (u:Value),BindsTo s fd ⟨[u],[]⟩ [(x,u)])
  (hsp:∀H:Hp,Only H→cM K H a (ns.map V.int)→sp [.ref a] H (fun v _=>v=.bl true) fun _ _ _=>False)
  (hCX:∀H e s',CX [] H s₁ (fun _ _ _=>False) e s'→False):
  codeAny (model P w) callerA (.call (.ref fa) ⟨[.ref a],[]⟩) (fun r s'=>r=.ok (.ret (.bool true))∧OldK s₁.heap s'.heap∧s'.os=s₁.os∧AllBare s'.gens) s₁:=by
 have rv:=rO hi
 have lenV:=hi.length
 have core:∀H:Hp,Only H→cM K H a (ns.map V.int)→qb P w H s₁.heap→(∀b,H b≠none→b=a)→(H a≠none→K.lookup a=none)→
   codeAny (model P w) callerA (.call (.ref fa) ⟨[.ref a],[]⟩) (fun r s'=>r=.ok (.ret (.bool true))∧OldK s₁.heap s'.heap∧s'.os=s₁.os∧AllBare s'.gens) s₁:=by
  intro H hO hS hok hA hK
  have Hw:∀{b:Addr} {o:Obj},s₁.heap.get? b=some o→H b=none→(zb s₁.heap H).get? b=some o:=fun e n=>Li e n
  have Xw:∀{b:Addr} {o:Obj} {es:Array DictEntry} {ep:Nat},s₁.heap.get? b=some o→o.data=.dict es ep→H b=none:=fun {b o es ep} e d=>by
   cases q:H b with
   | none=>rfl
   | some u=>
    have e':b=a:=hA b (by rw [q]; simp)
    subst e'
    rw [ha] at e; cases e
    have d':Data.seq vs.toArray _=Data.dict es ep:=d
    cases d'
  have Zk:∀{b:Addr} {m:Str→Option Value},s₁.heap.Ns b m→(zb s₁.heap H).Ns b m:=fun {b m} ⟨o,es,ep,e,d,r⟩=>⟨o,es,ep,Hw e (Xw e d),d,r⟩
  have hKb:K.In (zb s₁.heap H):=fun b o e=>Hw (KX b o e) (by
   cases q:H b with
   | none=>rfl
   | some u=>
    have e':b=a:=hA b (by rw [q]; simp)
    subst e'
    rw [hK (by rw [q]; simp)] at e; cases e)
  have hM:Mod K mg (zb s₁.heap H):=⟨hKb,Zk hns,⟨mb,Zk hb,hbb⟩,let ⟨mc,h1,h2⟩:=hlim; ⟨mc,Zk h1,h2⟩⟩
  have e0:Fb P w K mg (zb s₁.heap H) callerA [] s₁ H:=⟨rfl,hM,fun b o e=>Qw e,Nat.le_of_eq (JB _ _),trivial,fun b hb=>absurd (show b∈([]:List Addr) from hb) (by simp),hok,.of_eq hg⟩
  refine codeAny_mono ((F _ hKb (Zk hns)).run callerA [] s₁ H ⟨[.ref a],[]⟩ [.ref a] [.ref a] _ _ hr e0 (hbind s₁ (.ref a)) (.cons rfl .nil) (hsp H hO hS)) fun r s' h=>?_
  cases r with
  | error e=>exact (hCX H e s' h).elim
  | ok fl=>
   cases fl with
   | next=>exact False.elim h
   | brk=>exact False.elim h
   | cont=>exact False.elim h
   | ret u=>
    obtain ⟨v,H',os,bare,un,hok',r',q⟩:=h
    have q':v=.bl true:=q
    subst q'
    obtain rfl:u=Value.bool true:=r'
    refine ⟨rfl,OldK.of_keep fun b o e=>?_,os,bare⟩
    cases q:H b with
    | none=>exact un.keep b o e q (by intro z; exact absurd (show b∈([]:List Addr) from z) (by simp)) (by simp)
    | some u=>
     rcases hO b with z | ⟨ob,xs,z⟩
     ·rw [q] at z; cases z
     ·have z2:=un.rG b ob _ z
      obtain ⟨e1,_⟩:=hok b _ z
      obtain ⟨e2,_⟩:=hok' b _ z2
      rw [e] at e1; cases e1
      exact e2
 cases hk:K.lookup a with
 | some o=>
  have e:=KX a o hk
  rw [ha] at e
  cases e
  refine core (fun _=>none) (fun _=>.inl rfl) (.inr ⟨_,vs.toArray,_,hk,rfl,rfl,rfl,by rw [List.size_toArray,lenV]; exact hl,by simpa using rv⟩) (fun b u z=>by have z':(none:Option HO)=some u:=z; cases z') (fun b z=>absurd rfl z) fun z=>absurd rfl z
 | none=>
  refine core (fun b=>if b=a then some (.Bj { cls:=.type "list",data:=.seq vs.toArray } (.lst (ns.map V.int))) else none) (fun b=>?_) (.inl (.inr ⟨{ cls:=.type "list",data:=.seq vs.toArray },if_pos rfl⟩)) (fun b u z=>?_) (fun b z=>?_) fun _=>hk
  ·by_cases hb:b=a
   ·exact .inr ⟨_,_,if_pos hb⟩
   ·exact .inl (if_neg hb)
  ·by_cases hb:b=a
   ·have z':=(if_pos hb).symm.trans z
    cases z'
    subst hb
    exact ⟨ha,by rw [List.length_map]; exact hl,vs,_,rv,ha⟩
   ·have z':=(if_neg hb).symm.trans z
    cases z'
  ·by_cases hb:b=a
   ·exact hb
   ·exact absurd (if_neg hb) z
end L2
namespace L2
open PySem PySem.Spec PyProof.Rows
theorem Q7 {l:PySem.W.OpenLaw} {n k:Nat} {q:Program} {loose:List Str} {XP:(Str→Option Value)→Heap→Prop} {YP:World→Heap→Prop} {d:DefRec} {K:Params→PySem.W.Frag} {CX:World→JQ} {sp:World→Sp} {x:Str}
  (hn:l.most=some n) (hn2:n≤sizeLine) (hdf:d.params.defaults=[]) (hr:gn k callerA)
  (hY:∀(w:World) (h:Heap),YP w h→(K w.params).In h)
  (F:∀(w:World) (mg:Str→Option Value) (fa:Addr) (h:Heap),(K w.params).In h→h.Ns mainGlobals mg→mg d.name=some (.ref fa)→
   ∃fd:FuncData,(∀(s:Shared) (u:Value),BindsTo s fd ⟨[u],[]⟩ [(x,u)])∧
    ∀base:Heap,(K w.params).In base→base.Ns mainGlobals mg→dB l.prog w (K w.params) mg base (CX w) k fa fd [x] (sp w))
  (hsp:∀(w:World) (H:Hp) (a:Addr) (ns:List Int),ns.length≤n→Only H→cM (K w.params) H a (ns.map V.int)→sp w [.ref a] H (fun v _=>v=.bl true) fun _ _ _=>False)
  (hCX:∀(w:World) (H:Hp) (s:Shared) (e:Value) (s':Shared),CX w [] H s (fun _ _ _=>False) e s'→False):
  PySem.W.WalkO q loose XP YP l.row.toRowW d [] (fun f vs=>PySem.call f vs):=by
 refine Att.BK hn hdf fun w s₀ s₁ mg mb fa o pm cd doc a vs ns G Y ho hd hcd hmg hobj hints hlen hg=>?_
 have KX:=hY w _ Y
 obtain ⟨fd,hb,hF⟩:=F w mg fa _ KX G.T.g hmg
 exact Mv KX G.T.g G.T.b G.T.builtins G.T.nolimit hg hobj hints (Nat.le_trans hlen hn2) hr hF hb (fun H hO hS=>hsp w H a ns hlen hO hS) fun H e s'=>hCX w H s₁ e s'
end L2
namespace L2
open PySem PySem.Spec PyProof.Rows
noncomputable def bN (s:Stmt):Arguments:=match s with
 | .FunctionDef _ a _ _ _ _ _ _ _ _=>a
 | _=>{ posonlyargs:=[],args:=[],vararg:=none,kwonlyargs:=[],kw_defaults:=[],kwarg:=none,defaults:=[] }
noncomputable def bH (s:Stmt):List Stmt:=match s with
 | .FunctionDef _ _ b _ _ _ _ _ _ _=>b
 | _=>[]
noncomputable def aC (s:Stmt):Scope:=match s with
 | .FunctionDef _ _ _ _ _ _ sc _ _ _=>sc
 | _=>{ kind:=.function,names:=[],isGenerator:=false,isCoroutine:=false }
noncomputable abbrev qu:JQ:=fun _ _ _ _ _ _=>False
noncomputable abbrev E0:XK:=fun _ _ _=>False
theorem XQ {X:Cx}:Passes qu X E0:=fun _ _ _ _ _ _ _ h=>h.elim
structure tM (K:PySem.W.Frag) (x qual:Str) (st:Stmt) (f:Addr) (fd:FuncData):Prop where
 ex:∃(oc:Value) (od:Option Addr) (kV doc pm:Value) (an:Option Addr) (cdv ct:Value) (osl:Array (Option Value)),
  fd=PySem.W.fnOf x qual (bN st) (bH st) (aC st) .none kV doc pm an cdv ct∧K.lookup f=some ⟨oc,od,.func fd,osl⟩∧PySem.W.codeIn K cdv qual=true
 kp:PySem.W.keepIn K (.ref f)=true
section
variable {P:Program} {w:World} {K:PySem.W.Frag} {mg:Str→Option Value} {base:Heap}
theorem tM.ok {x qual:Str} {st:Stmt} {f:Addr} {fd:FuncData} {N ps:List Str} {k:Nat} {sp:Sp} (F:tM K x qual st f fd) (S:bT N ps (aC st)) (len:∀vs H Q E,sp vs H Q E→vs.length=ps.length)
  (hbody:∀(cdv:Value) (A:Around) (outer:List Env) (s:Shared) (H:Hp) (vs:List V) (Q:VK) (E:XK),gn k (A.deeper (envOfC qual (aC st) s.heap.objs.size f cdv))→sp vs H Q E→
   ∃t,ug (Fd qu P w K mg base N qual (aC st) f cdv A outer s H E).QB (bH st) t∧t { nx:=fun _ H'=>Q .non H',rt:=Q } (start N vs) H):dB P w K mg base qu (k + 1) f fd ps sp:=by
 obtain ⟨oc,od,kV,doc,pm,an,cdv,ct,osl,rfl,lk,hcd⟩:=F.ex
 refine Xx lk hcd S len fun A outer s H vs Q E hr hsp=>?_
 obtain ⟨t,h,q⟩:=hbody cdv A outer s H vs Q E hr hsp
 exact ⟨t,h.QB,q⟩
theorem tM.binds {x qual:Str} {st:Stmt} {f:Addr} {fd:FuncData} {ps:List Str} (F:tM K x qual st f fd)
  (h:∀(kV doc pm:Value) (an:Option Addr) (cdv ct:Value) (us:List Value),us.length=ps.length→bindArgs (PySem.W.fnOf x qual (bN st) (bH st) (aC st) .none kV doc pm an cdv ct) ⟨us,[]⟩=pure (ps.zip us)):Binds K fd ps []:=by
 obtain ⟨oc,od,kV,doc,pm,an,cdv,ct,osl,rfl,lk,hcd⟩:=F.ex
 exact .all (h kV doc pm an cdv ct)
theorem cY {x qual:Str} {st:Stmt} {f:Addr} {oc:Value} {od an:Option Addr} {osl:Array (Option Value)} {kV doc pm cdv ct:Value} (l:K.lookup f=some ⟨oc,od,.func (PySem.W.fnOf x qual (bN st) (bH st) (aC st) .none kV doc pm an cdv ct),osl⟩)
  (c:PySem.W.codeIn K cdv qual=true) (k:PySem.W.keepIn K (.ref f)=true):tM K x qual st f (PySem.W.fnOf x qual (bN st) (bH st) (aC st) .none kV doc pm an cdv ct):=⟨⟨oc,od,kV,doc,pm,an,cdv,ct,osl,rfl,l,c⟩,k⟩
end
section
variable {X:Cx}
theorem pv (i:Nat) {x:Str} {pos:Pos} (hN:X.N[i]?=some x:=by rfl) (hv:Zc X.env.scope x:=by first | exact Or.inl rfl | exact Or.inr (Or.inl rfl) | exact Or.inr (Or.inr rfl)) (hd:(x==("__debug__":Str))=false:=by decide)
  (hcd:(x==("__classdict__":Str))=false:=by decide):PE X (.Name x pos) (rJ i):=Uu hN hv hd hcd
end
theorem w5 {A B:Prop} (h:B):if false=true then A else B:=by
 rw [if_neg Bool.false_ne_true]
 exact h
theorem w6 {A B:Prop} (h:A):if true=true then A else B:=by
 rw [if_pos rfl]
 exact h
noncomputable def aP (H H':Hp):Prop:=∀b o,H b=some o→H' b=some o
theorem aP.refl (H:Hp):aP H H:=fun _ _ h=>h
theorem aP.trans {H H1 H2:Hp} (a:aP H H1) (b:aP H1 H2):aP H H2:=fun c o h=>b c o (a c o h)
theorem aP.free {H H':Hp} (e:aP H H') {l:Addr} (h:H' l=Option.none):H l=Option.none:=by
 cases q:H l with
 | none=>rfl
 | some o=>
  rw [e l o q] at h
  cases h
theorem aP.seq {K:PySem.W.Frag} {H H':Hp} {a:Addr} {xs:List V} (e:aP H H') (h:cM K H a xs):cM K H' a xs:=by
 rcases h with (h | ⟨o,h⟩) | h
 ·exact .inl (.inl (e _ _ h))
 ·exact .inl (.inr ⟨o,e _ _ h⟩)
 ·exact .inr h
section
variable {X:Cx}
theorem J1:cJ X (.builtin "len") (fun xs H Q=>∃a kvs,xs=[V.ref a]∧H a=some (.dK kvs)∧Q (.int kvs.length) H):=by
 intro pins s σ H xs us Q I r h
 obtain ⟨a,kvs,rfl,ha,q⟩:=h
 obtain ⟨u,rfl,ru⟩:=vals1 r
 cases ru
 exact XM I (.inl ha) fun t s' I'=>⟨.int kvs.length,H,I',⟨t,rfl⟩,q⟩
end
section
variable {κ:Type} [DecidableEq κ]
end
end L2
namespace L2
open PySem PySem.Spec PyProof.Rows
noncomputable def Cx.blk (X:Cx) (N:List Str) (scope:Scope) (cl:List (Str×Addr)) (C:Addr) (s:Shared) (H:Hp) (fp:List Addr):Cx:=
 { X with N:=N,s₀:=s,H₀:=H,env:=compEnvC scope cl C X.env,outer:=X.stack,ex:=fp,fn:=fun _=>false,pn:=[],xe:=fun _ _=>False }
theorem mK {env:Env} (f:Str×NameKind→List (Str×Addr)→Sem (ForInStep (List (Str×Addr))))
  (hf:∀n k r,f (n,k) r=if k==NameKind.free then (do let c ←cellOf env n; pure (.yield ((n,c)::r))) else pure (.yield r)):
  ∀(names:List (Str×NameKind)) (cs:List (Str×Addr)),(∀y∈names,y.2=.free→∃c,env.cells.lookup y.1=some c)→(∀n c,cs.lookup n=some c→env.cells.lookup n=some c)→
   ∃cl,(forIn names cs f:Sem (List (Str×Addr)))=pure cl∧(∀n c,cl.lookup n=some c→env.cells.lookup n=some c)∧
    ∀n,((∃c,cs.lookup n=some c)∨∃y∈names,y.1=n∧y.2=.free)→∃c,cl.lookup n=some c
 | [],cs,_,h2=>⟨cs,rfl,h2,fun n h=>h.elim id fun ⟨_,hy,_⟩=>nomatch hy⟩
 | (n,k)::r,cs,h1,h2=>by
  rw [List.forIn_cons,hf]
  by_cases hk:k=.free
  ·subst hk
   obtain ⟨c,hc⟩:=h1 (n,.free) List.mem_cons_self rfl
   have hc':env.cells.lookup n=some c:=hc
   have e:cellOf env n=pure c:=by unfold cellOf; rw [hc']
   obtain ⟨cl,q1,q2,q3⟩:=mK f hf r ((n,c)::cs) (fun y hy=>h1 y (List.mem_cons_of_mem _ hy)) (fun m d hm=>by
    rw [List.lookup_cons] at hm
    by_cases hb:(m==n)=true
    ·rw [hb] at hm
     have:=eq_of_beq hb
     subst this
     cases hm
     exact hc'
    ·rw [Bool.not_eq_true] at hb
     rw [hb] at hm
     exact h2 m d hm)
   refine ⟨cl,?_,q2,fun m hm=>q3 m ?_⟩
   ·rw [if_pos (show (NameKind.free==NameKind.free)=true from rfl),e]
    simp only [pure_bind]
    exact q1
   ·by_cases hb:m=n
    ·subst hb
     exact .inl ⟨c,by simp [List.lookup_cons]⟩
    ·rcases hm with ⟨d,hm⟩ | ⟨y,hy,e1,e2⟩
     ·refine .inl ⟨d,?_⟩
      rw [List.lookup_cons,beq_eq_false_iff_ne.mpr hb]
      exact hm
     ·rcases List.mem_cons.mp hy with rfl | hy
      ·exact absurd e1.symm hb
      ·exact .inr ⟨y,hy,e1,e2⟩
  ·have hb:(k==NameKind.free)=false:=beq_eq_false_iff_ne.mpr hk
   obtain ⟨cl,q1,q2,q3⟩:=mK f hf r cs (fun y hy=>h1 y (List.mem_cons_of_mem _ hy)) h2
   refine ⟨cl,?_,q2,fun m hm=>q3 m ?_⟩
   ·rw [hb]
    simp only [Bool.false_eq_true,if_false,pure_bind]
    exact q1
   ·rcases hm with hm | ⟨y,hy,e1,e2⟩
    ·exact .inl hm
    ·rcases List.mem_cons.mp hy with rfl | hy
     ·exact absurd e2 hk
     ·exact .inr ⟨y,hy,e1,e2⟩
theorem pG {env:Env} {scope:Scope} (h1:∀y∈scope.names,y.2=.free→∃c,env.cells.lookup y.1=some c):
  ∃cl,closureFor scope env=pure cl∧(∀n c,cl.lookup n=some c→env.cells.lookup n=some c)∧∀y∈scope.names,y.2=.free→∃c,cl.lookup y.1=some c:=by
 unfold closureFor
 obtain ⟨cl,q1,q2,q3⟩:=mK (env:=env) (fun x r=>if (x.2==NameKind.free)=true then (do let c ←cellOf env x.1; pure (.yield ((x.1,c)::r))) else pure (.yield r)) (fun n k r=>rfl) scope.names [] h1 (fun n c h=>by simp at h)
 have q:=congrArg (fun t:Sem (List (Str×Addr))=>t >>= fun cs=>pure cs) q1
 simp only [pure_bind] at q
 exact ⟨cl,q,q2,fun y hy e=>q3 y.1 (.inr ⟨y,hy,rfl,e⟩)⟩
theorem qw {scope:Scope} {env:Env} {x:Str}:∀{names:List (Str×NameKind)},
  (names.map fun (n,k)=>if (k==NameKind.free&&env.scope.kind==.function&&env.kindOf n==some .cell) then (n,NameKind.cell) else (n,k)).lookup x=
   (names.lookup x).map fun k=>if (k==NameKind.free&&env.scope.kind==.function&&env.kindOf x==some .cell) then NameKind.cell else k
 | []=>rfl
 | (n,k)::r=>by
  have ih:=@qw scope env x r
  show List.lookup x ((if (k==NameKind.free&&env.scope.kind==.function&&env.kindOf n==some .cell)=true then (n,NameKind.cell) else (n,k))::_)=_
  cases hx:x==n with
  | true=>
   have e:=eq_of_beq hx
   subst e
   by_cases hc:(k==NameKind.free&&env.scope.kind==.function&&env.kindOf x==some .cell)=true
   ·rw [if_pos hc]; simp only [List.lookup_cons,beq_self_eq_true,Option.map_some,hc,if_true]
   ·rw [if_neg hc]; simp only [List.lookup_cons,beq_self_eq_true,Option.map_some,hc,if_false]; rfl
  | false=>
   by_cases hc:(k==NameKind.free&&env.scope.kind==.function&&env.kindOf n==some .cell)=true
   ·rw [if_pos hc]; simp only [List.lookup_cons,hx]; exact ih
   ·rw [if_neg hc]; simp only [List.lookup_cons,hx]; exact ih
noncomputable def frees (js:List Nat) (σ:St):St:=js.map fun j=>(σ[j]?).join
section
variable {X:Cx} {pins:List (Addr×Obj)} {σ:St} {H:Hp} {s s1:Shared} {NT NF:List Str} {js:List Nat} {scope:Scope} {cl:List (Str×Addr)} {fp:List Addr}
structure mL (X:Cx) (NT NF:List Str) (js:List Nat) (scope:Scope):Prop where
 kind:scope.kind=.function
 names:∀y∈scope.names,y.2=.local→scope.names.lookup y.1=some .local
 cell:∀y∈scope.names,y.2≠.cell
 free:∀y∈scope.names,y.2=.free→X.env.scope.names.lookup y.1=some .cell∨X.env.scope.names.lookup y.1=some .free
 len:js.length=NF.length
 fr:∀(k:Nat) (j:Nat) (x:Str),js[k]?=some j→NF[k]?=some x→X.N[j]?=some x∧scope.names.lookup x=some .free
 tg:∀x∈NT,scope.names.lookup x=some .local
 nd:(NT++NF).Nodup
theorem Inv.blk (I:Inv X pins σ H s) (B:mL X NT NF js scope) (q2:∀n c,cl.lookup n=some c→X.env.cells.lookup n=some c) (q3:∀y∈scope.names,y.2=.free→∃c,cl.lookup y.1=some c)
  (hf:∀b∈fp,jo X pins H b) (hlt:∀b∈fp,b < s.heap.objs.size) {m:Str→Option Value} (hns:s1.heap.Ns s.heap.objs.size m) (keep:∀b o,s.heap.get? b=some o→s1.heap.get? b=some o)
  (hos:s1.os=s.os) (hg:AllBare s1.gens):
  Inv (X.blk (NT++NF) scope cl s.heap.objs.size s H fp) [] (List.replicate NT.length none++frees js σ) H s1:=by
 have look:∀x,(X.blk (NT++NF) scope cl s.heap.objs.size s H fp).env.kindOf x=(scope.names.lookup x).map fun k=>if (k==NameKind.free&&X.env.scope.kind==.function&&X.env.kindOf x==some .cell) then NameKind.cell else k:=fun x=>qw (scope:=scope)
 have Vr:∀x,((X.blk (NT++NF) scope cl s.heap.objs.size s H fp).env.kindOf x=some .cell∨(X.blk (NT++NF) scope cl s.heap.objs.size s H fp).env.kindOf x=some .free)→scope.names.lookup x=some .free:=fun x h=>by
  rw [look] at h
  cases e:scope.names.lookup x with
  | none=>rw [e] at h; simp at h
  | some k=>
   rw [e] at h
   by_cases hk:k=.free
   ·rw [hk]
   ·have hb:(k==NameKind.free)=false:=beq_eq_false_iff_ne.mpr hk
    simp only [Option.map_some,hb,Bool.false_and,Bool.false_eq_true,if_false,Option.some.injEq] at h
    rcases h with h | h
    ·subst h
     exact absurd rfl (B.cell _ (PySem.mem_of_lookup e))
    ·exact absurd h hk
 have ltC:∀c x,X.env.cells.lookup x=some c→c < s.heap.objs.size:=fun c x e=>by
  obtain ⟨v,q⟩:=I.cell x c e
  exact q.lt
 refine ⟨⟨I.ok.mod,B.kind,I.ok.glob,I.ok.blt,Nat.le_refl _,fun x y c h1 h2=>I.ok.inj x y c (q2 x c h1) (q2 y c h2),fun x hx=>?_,fun x c h _=>(nomatch (show false=true from h)),I.ok.hd,I.ok.frames,.inl rfl,fun b hb=>⟨Nat.ne_of_lt (hlt b hb),fun x c e=>(hf b hb).2.2.2.2.1 x c (q2 x c e)⟩,I.bs,Nat.le_trans I.ok.Qq I.sz,fun b o e hb=>?_,fun b hb hb2=>?_,I.stack,I.Hh⟩,
  hos,hg,Un.kept keep,⟨m,hns,fun i x v h1 h2 h3=>?_⟩,fun x c e=>?_,I.hok.fresh (Nat.le_refl _),fun x c e=>I.mG x c (q2 x c e),fun p hp=>(nomatch (show p∈([]:List (Addr×Obj)) from hp)),I.hok.kept keep,?_⟩
 ·exact q3 _ (PySem.mem_of_lookup (Vr x hx)) rfl
 ·rcases (hf b hb).2.2.2.1 with z | z
  ·exact I.ok.Lj b o e z
  ·exact absurd (Nat.lt_of_lt_of_le (Heap.lt_size e) (Nat.le_trans I.ok.Qq z)) (Nat.lt_irrefl _)
 ·obtain ⟨_,f1,f2,_⟩:=hf b hb
  rcases List.mem_cons.mp (I.rH b hb2) with z | z
  ·exact f1 z
  ·exact f2 z
 ·have h1':(NT++NF)[i]?=some x:=h1
  by_cases hi:i < NT.length
  ·rw [List.getElem?_append_left (by simpa using hi),List.getElem?_replicate] at h2
   split at h2 <;> cases h2
  ·have hi':NT.length≤i:=by omega
   rw [List.getElem?_append_right (by simpa using hi')] at h2
   rw [List.getElem?_append_right hi'] at h1'
   simp only [List.length_replicate] at h2
   unfold frees at h2
   rw [List.getElem?_map] at h2
   cases ej:js[i - NT.length]? with
   | none=>rw [ej] at h2; cases h2
   | some j=>
    rw [ej] at h2
    have h2':(σ[j]?).join=some v:=by simpa using h2
    obtain ⟨g1,g2⟩:=B.fr _ j x ej h1'
    have hj:σ[j]?=some (some v):=by
     cases e:σ[j]? with
     | none=>rw [e] at h2'; cases h2'
     | some o=>rw [e] at h2'; simp at h2'; rw [h2']
    have hk:=B.free _ (PySem.mem_of_lookup g2) rfl
    have hk':X.env.scope.names.lookup x=some .cell∨X.env.scope.names.lookup x=some .free:=hk
    obtain ⟨m0,hn0,hl0⟩:=I.loc
    obtain ⟨u,r,l⟩:=hl0 j x v g1 hj (.inr hk')
    refine ⟨u,r,.inr ⟨?_,?_⟩⟩
    ·rw [look,g2]
     by_cases hc:(NameKind.free==NameKind.free&&X.env.scope.kind==.function&&X.env.kindOf x==some .cell)=true
     ·left
      simp only [Option.map_some,hc,if_true]
     ·right
      simp only [Option.map_some,hc,if_false]
      rfl
    ·rcases l with ⟨k0,_⟩ | ⟨_,c,e,z⟩
     ·have k0':X.env.scope.names.lookup x=some .local:=k0
      rcases hk' with z | z <;> rw [z] at k0' <;> cases k0'
     ·obtain ⟨c',hc'⟩:=q3 _ (PySem.mem_of_lookup g2) rfl
      have hc2:cl.lookup x=some c':=hc'
      have e2:=q2 x c' hc2
      rw [e] at e2
      cases e2
      obtain ⟨o,ho,hd⟩:=z
      exact ⟨c,hc2,o,keep c o ho,hd⟩
 ·obtain ⟨v,o,ho,hd⟩:=I.cell x c (q2 x c e)
  exact ⟨v,o,keep c o ho,hd⟩
 ·show (List.replicate NT.length none++frees js σ).length=(NT++NF).length
  unfold frees
  simp [B.len]
theorem Inv.Mw {N:List Str} {σ':St} {H':Hp} {s':Shared} {Hj:List (Addr×Obj)} (I:Inv X pins σ H s) (hf:∀b∈fp,jo X pins H b) (J:Inv (X.blk N scope cl s.heap.objs.size s H fp) Hj σ' H' s'):Inv X pins σ H' s':=
 I.call' J.os J.base J.hok J.bare fun b hb=>⟨(hf b hb).2.2.2.1,(hf b hb).2.1,(hf b hb).2.2.2.2.1,(hf b hb).2.2.2.2.2⟩
end
end L2
namespace L2
open PySem PySem.Spec PyProof.Rows
theorem Q8 {α:Type} (a:List α) (x y:α) (b:List α) {n:Nat} (h:a.length=n):(a++x::b).set n y=a++y::b:=by
 subst h
 rw [List.set_append_right _ _ (Nat.le_refl _),Nat.sub_self]
 rfl
inductive oR where
 | one | many (n:Nat)
noncomputable def TJ (K:PySem.W.Frag):oR→V→Hp→List V→Prop
 | .one,x,_,vs=>vs=[x]
 | .many n,x,H,vs=>∃a,x=.ref a∧ig K H a vs∧vs.length=n
noncomputable def isNm (e:Expr) (x:Str):Prop:=∃pos,e=.Name x pos
noncomputable def um (tg:Expr) (NT:List Str):oR→Prop
 | .one=>∃x,isNm tg x∧NT=[x]
 | .many n=>∃es k pos,tg=.Tuple es k pos∧Paired isNm es NT∧NT.length=n
theorem uX {env:Env}:∀{es:List Expr} {NT:List Str},Paired isNm es NT→assignEach es env=es.map fun e=>(false,assign e env)
 | _,_,.nil=>rfl
 | _,_,.cons ⟨pos,e⟩ t=>by
  subst e
  show (false,assign _ env)::assignEach _ env=_
  rw [uX t]
  rfl
section
variable {X:Cx} {pins:List (Addr×Obj)} {H:Hp} {E:Value→Shared→Prop}
theorem J2 {NT:List Str} {es:List Expr} (p:Paired isNm es NT):∀{pre NF:List Str} {σp fs:St} {s:Shared} {vs:List V} {us:List Value} {Q:Unit→Shared→Prop},
  X.N=pre++NT++NF→X.N.Nodup→(∀x∈NT,X.env.scope.names.lookup x=some .local)→σp.length=pre.length→vs.length=NT.length→
  Inv X pins (σp++(List.replicate NT.length none++fs)) H s→Vals vs us→(∀s',Inv X pins (σp++(vs.map some++fs)) H s'→Q () s')→
  wpAny (model X.prog X.w) X.A (assignInOrder (es.map fun e=>assign e X.env) us) Q E s:=by
 induction p with
 | nil=>
  intro pre NF σp fs s vs us Q hN nd hl hp hv I r q
  cases vs with
  | cons _ _=>simp at hv
  | nil=>
   cases r
   exact assignInOrder_nil (q s I)
 | @cons e x es NT he t ih=>
  intro pre NF σp fs s vs us Q hN nd hl hp hv I r q
  cases vs with
  | nil=>simp at hv
  | cons v vs=>
   cases r with
   | cons r rr=>
    obtain ⟨pos,rfl⟩:=he
    have hx:=hl x List.mem_cons_self
    have hi:X.N[pre.length]?=some x:=by
     rw [hN,List.append_assoc,List.getElem?_append_right (Nat.le_refl _)]
     simp
    refine assignInOrder_cons (wpAny_assign_Name (dZ I nd hi (.inl hx) r (fun s' I'=>?_) (.inr hx)))
    have e1:(σp++(List.replicate (x::NT).length none++fs)).set pre.length (some v)=(σp++[some v])++(List.replicate NT.length none++fs):=by
     exact (Q8 σp none (some v) (List.replicate NT.length none++fs) hp).trans (List.append_cons σp (some v) (List.replicate NT.length none++fs))
    rw [e1] at I'
    refine ih (pre:=pre++[x]) (NF:=NF) (σp:=σp++[some v]) (by rw [hN]; simp) nd (fun y hy=>hl y (List.mem_cons_of_mem _ hy)) (by simp [hp]) (by simpa using hv) I' rr fun s2 I2=>q s2 ?_
    have e2:σp++[some v]++(vs.map some++fs)=σp++((v::vs).map some++fs):=by simp
    rw [e2] at I2
    exact I2
theorem Vs {tg:Expr} {NT NF:List Str} {T:oR} {fs:St} {s:Shared} {v:V} {u:Value} {vs:List V} {Q:Unit→Shared→Prop} (tk:um tg NT T) (hN:X.N=NT++NF) (nd:X.N.Nodup) (hc:X.calm=true)
  (hl:∀x∈NT,X.env.scope.names.lookup x=some .local) (I:Inv X pins (List.replicate NT.length none++fs) H s) (r:RelV v u) (hv:TJ X.K T v H vs)
  (q:∀s',Inv X pins (vs.map some++fs) H s'→Q () s'):wpAny (model X.prog X.w) X.A (assign tg X.env u) Q E s:=by
 cases T with
 | one=>
  obtain ⟨x,⟨pos,rfl⟩,rfl⟩:=tk
  have hv':vs=[v]:=hv
  subst hv'
  have hx:=hl x List.mem_cons_self
  exact wpAny_assign_Name (dZ I nd (i:=0) (by rw [hN]; rfl) (.inl hx) r (fun s' I'=>q s' I') (.inr hx))
 | many n=>
  obtain ⟨es,k,pos,rfl,p,hn⟩:=tk
  obtain ⟨a,rfl,hq,hlen⟩:=hv
  cases r
  obtain ⟨its,rv,ht,hz⟩:=I.tuple hq
  have e:=uX (env:=X.env) p
  have hpl:=p.length
  refine assign_Tuple_tuple (I.ok.hd hc) ht (by rw [e]; simp only [List.length_map,List.size_toArray]; rw [←rv.length]; omega) (by rw [e]; simp) fun h' hx=>?_
  have I1:Inv X pins (List.replicate NT.length none++fs) H { s with heap:=h' }:=I.kept (t':=s.toks) fun b o e=>hx b o (Nat.ne_of_lt (Heap.lt_size e)) e
  rw [e,List.map_map]
  exact J2 p (pre:=[]) (σp:=[]) (by rw [hN]; rfl) nd hl rfl (by omega) I1 (by simpa using rv) q
end
noncomputable def turnOf (target iter:Expr) (ifs:List Expr) (it:Value) (env:Env) (emit:Sem Unit) (more:Sem PySem.Fin):Sem PySem.Fin:=do
 standAt iter.pos
 match ←pyNext it with
 | none=>pure (.done .next)
 | some v=>
  letOwnedTupleGo target it v
  assign target env v
  let mut ok:=true
  for c in ifs do
   if ok then ok ←isTrue c env (eval c env)
  if ok then emit
  more
theorem Fq (elt target iter:Expr) (ifs:List Expr) (scope:Scope) (pos:Pos) (it acc:Value) (env:Env):
  compTurn (.ListComp elt [⟨target,iter,ifs,0⟩] scope pos) 0 it acc env=turnOf target iter ifs it env (do let _ ←call (.builtin "list.append") [acc,←eval elt env]) (again (.compLoop (.ListComp elt [⟨target,iter,ifs,0⟩] scope pos) 0 it acc env)):=by rfl
theorem Ft (kx vx target iter:Expr) (ifs:List Expr) (scope:Scope) (pos:Pos) (it:Value) (D:Addr) (env:Env):
  compTurn (.DictComp kx vx [⟨target,iter,ifs,0⟩] scope pos) 0 it (.ref D) env=turnOf target iter ifs it env (do
      let kv ←eval kx env
      let vv ←holding [kv] (eval vx env)
      standAt { kx.pos with endLine:=vx.pos.endLine,endCol:=vx.pos.endCol }
      holding [kv,vv] (dictSet D kv vv)) (again (.compLoop (.DictComp kx vx [⟨target,iter,ifs,0⟩] scope pos) 0 it (.ref D) env)):=by rfl
theorem J3 (elt target iter:Expr) (ifs:List Expr) (scope:Scope) (pos:Pos) (it acc:Value) (env:Env):
  compTurn (.SetComp elt [⟨target,iter,ifs,0⟩] scope pos) 0 it acc env=turnOf target iter ifs it env (do let v ←eval elt env; standAt elt.pos; let _ ←call (.builtin "set.add") [acc,v]) (again (.compLoop (.SetComp elt [⟨target,iter,ifs,0⟩] scope pos) 0 it acc env)):=by rfl
noncomputable def Hz (X:Cx) (ifs:List Expr) (t:TT):Prop:=
 ∀(pins:List (Addr×Obj)) (s:Shared) (σ:St) (H:Hp) (Q:Bool→Hp→Prop),Inv X pins σ H s→t σ H Q→
  wpAny (model X.prog X.w) X.A (forIn ifs true fun c r=>if r=true then do let ok ←isTrue c X.env (eval c X.env); pure (ForInStep.yield ok) else pure (ForInStep.yield r)) (TP X pins σ Q) X.xe s
noncomputable def aal:TT:=fun _ H Q=>Q true H
theorem Q9 {X:Cx}:Hz X [] aal:=fun _ _ _ H _ I h=>wpAny_tests_nil ⟨H,I,h⟩
theorem Ra {X:Cx} {c:Expr} {t:TT} (h:PT X c t):Hz X [c] t:=fun pins s σ H Q I q=>wpAny_tests_one (h pins s σ H Q I q)
noncomputable abbrev TM:=St→Hp→(Hp→Prop)→Prop
noncomputable def PM (X:Cx) (emit:Sem Unit) (t:TM):Prop:=
 ∀(pins:List (Addr×Obj)) (s:Shared) (σ:St) (H:Hp) (Q:Hp→Prop),Inv X pins σ H s→t σ H Q→
  wpAny (model X.prog X.w) X.A emit (fun _ s'=>∃H',Inv X pins σ H' s'∧Q H') X.xe s
noncomputable def zK (D:Addr) (te:TE):TM:=fun σ H Q=>te σ H fun y H1=>∃xs,H1 D=some (.lst xs)∧xs.length < sizeLine∧Q (upd H1 D (.lst (xs++[y])))
theorem J4 {X:Cx} {D:Addr} {elt:Expr} {te:TE} (he:PE X elt te):PM X (do let _ ←call (.builtin "list.append") [.ref D,←eval elt X.env]) (zK D te):=by
 intro pins s σ H Q I h
 refine wpAny_bind (cR (he pins s σ H _ I h) fun v s1 aO=>?_)
 obtain ⟨y,H1,I1,r1,xs,hD,hz,q⟩:=aO
 refine wpAny_bind (cR (rN (X:=X) pins s1 σ H1 (.ref D) [y] (.ref D) [v] (fun _ H'=>Q H') I1 rfl (.cons r1 .nil) ⟨D,xs,y,rfl,rfl,hD,hz,q⟩) fun _ s2 ⟨_,H2,I2,_,q2⟩=>wpAny_pure ⟨H2,I2,q2⟩)
noncomputable def Fv (K:PySem.W.Frag) (T:oR) (ts:TT) (em:TM) (fs:St) (J:It) (H0:Hp) (done:Hp→Prop):Prop:=
 ∃W:Nat→Nat→Hp→Prop,(∃m,W 0 m H0)∧∀i m H,W i m H→
  (J.stop i H∧done H)∨(J.go i H∧∀x H',J.Tq i H x H'→∃vs,TJ K T x H' vs∧
   ts (vs.map some++fs) H' fun b H2=>if b=true then em (vs.map some++fs) H2 fun H3=>∃m',m' < m∧W (i + 1) m' H3 else ∃m',m' < m∧W (i + 1) m' H2)
section
variable {X:Cx} {NT NF:List Str} {tg iter e:Expr} {ifs:List Expr} {T:oR} {ts:TT} {em:TM} {emit:Sem Unit} {acc:Value} {fp:List Addr} {it:Addr} {J:It} {tn:Nat→Heap→Prop}
theorem Mx {fs:St} {vs:List V} {pins:List (Addr×Obj)} {H:Hp} {s:Shared} (hv:vs.length=NT.length) (I:Inv X pins (vs.map some++fs) H s):Inv X pins (List.replicate NT.length none++fs) H s:=
 I.weak (by simp [hv]) fun i v h=>by
  by_cases hi:i < NT.length
  ·rw [List.getElem?_append_left (by simpa using hi),List.getElem?_replicate] at h
   split at h <;> cases h
  ·rw [List.getElem?_append_right (by simp; omega)] at h ⊢
   simpa [hv] using h
theorem TJ.len {tg:Expr} {K:PySem.W.Frag} {x:V} {H:Hp} {vs:List V} (tk:um tg NT T) (h:TJ K T x H vs):vs.length=NT.length:=by
 cases T with
 | one=>obtain ⟨y,_,rfl⟩:=tk; rw [show vs=[x] from h]; rfl
 | many n=>obtain ⟨_,_,_,_,_,e⟩:=tk; obtain ⟨_,_,_,e'⟩:=h; omega
theorem uY {R:Result→Shared→Prop} {fs:St} {H:Hp} {s:Shared} {done:Hp→Prop} (hx:X.xe=fun _ _=>False) (hT:compTurn e 0 (.ref it) acc X.env=turnOf tg iter ifs (.ref it) X.env emit (again (.compLoop e 0 (.ref it) acc X.env)))
  (hq:(Code.compLoop e 0 (.ref it) acc X.env).isFrame=false) (hqu:(Code.compLoop e 0 (.ref it) acc X.env).quiet=true) (hA:X.A.under (Code.compLoop e 0 (.ref it) acc X.env)=X.A)
  (tk:um tg NT T) (hN:X.N=NT++NF) (nd:X.N.Nodup) (hc:X.calm=true) (hl:∀x∈NT,X.env.scope.names.lookup x=some .local)
  (hts:Hz X ifs ts) (hem:PM X emit em) (TT:Turn X.prog X.w X.K tg J fp it tn) (hf:∀b∈fp,jo X [] H b) (I:Inv X [] (List.replicate NT.length none++fs) H s) (st:tn 0 s.heap) (hb:Fv X.K T ts em fs J H done)
  (hR:∀H' s' σ',Inv X [] σ' H' s'→done H'→R (.ok .next) s'):
  codeAny (model X.prog X.w) X.A (.compLoop e 0 (.ref it) acc X.env) R s:=by
 obtain ⟨W,⟨m0,w0⟩,turn⟩:=hb
 have stat:∀{H':Hp},(∀b∈fp,H' b=none)→∀b∈fp,jo X [] H' b:=fun hn b hb=>⟨hn b hb,(hf b hb).2⟩
 have noE:∀{α:Type} {t:Sem α} {Q:α→Shared→Prop} {E:Value→Shared→Prop} {s:Shared},wpAny (model X.prog X.w) X.A t Q (fun _ _=>False) s→wpAny (model X.prog X.w) X.A t Q E s:=fun h=>wpAny_mono h (fun _ _ z=>z) fun _ _ z=>z.elim
 have noX:∀{α:Type} {t:Sem α} {Q:α→Shared→Prop} {E:Value→Shared→Prop} {s:Shared},wpAny (model X.prog X.w) X.A t Q X.xe s→wpAny (model X.prog X.w) X.A t Q E s:=fun h=>noE (by rw [hx] at h; exact h)
 refine codeAny_loop hqu (fun n s'=>∃i H',Inv X [] (List.replicate NT.length none++fs) H' s'∧tn i s'.heap∧(∀b∈fp,H' b=none)∧W i n H') ?_ m0 ⟨0,H,I,st,fun b hb=>(hf b hb).1,w0⟩
 rintro n s3 ⟨i,H3,I3,st3,Xj,w3⟩
 rw [hA]
 show wpAny _ X.A (if (Code.compLoop e 0 (.ref it) acc X.env).isFrame=true then (compTurn e 0 (.ref it) acc X.env).onRaise (leaving X.env) else (compTurn e 0 (.ref it) acc X.env).onRaise (fun x=>do noteFrame x X.env; theTreesLotGoes x)) _ _ s3
 rw [hq,if_neg Bool.false_ne_true]
 refine wpAny_noted (noE ?_)
 rw [hT]
 unfold turnOf
 refine wpAny_bind (wpAny_standAt (wpAny_bind ?_))
 rcases turn i n H3 w3 with ⟨stop,qn⟩ | ⟨go,step⟩
 ·refine cR (TT.done X rfl rfl rfl hc i [] s3 _ H3 _ I3 (stat Xj) st3 stop) fun r s4 aO=>?_
  obtain ⟨hr,I4⟩:=aO
  subst hr
  exact wpAny_pure (hR H3 s4 _ I4 qn)
 ·refine cR (TT.item X rfl rfl rfl hc i [] s3 _ H3 _ I3 (stat Xj) st3 go) fun r s4 aO=>?_
  obtain ⟨u,hr,h4⟩:=aO
  subst hr
  refine wpAny_bind (cR h4 fun _ s5 aO=>?_)
  obtain ⟨x,H5,I5,r5,y5,U3,Z8⟩:=aO
  have Z9:=I5.pinned (stat Z8) (TT.obj _ _ U3)
  obtain ⟨vs,hv,q5⟩:=step x H5 y5
  have hvl:=TJ.len tk hv
  refine wpAny_bind (Vs tk hN nd hc hl Z9 r5 hv fun s6 I6=>?_)
  refine wpAny_bind (noX (cR (hts _ s6 _ H5 _ I6 q5) fun b s7 aO=>?_))
  obtain ⟨H7,I7,q7⟩:=aO
  have My:∀{s8:Shared} {H8:Hp},Inv X ([]++uN fp s5.heap) (vs.map some++fs) H8 s8→(∃m',m' < n∧W (i + 1) m' H8)→
    (Code.compLoop e 0 (.ref it) acc X.env=Code.compLoop e 0 (.ref it) acc X.env)∧∃m,m < n∧∃i H',Inv X [] (List.replicate NT.length none++fs) H' s8∧tn i s8.heap∧(∀b∈fp,H' b=none)∧W i m H':=fun {s8 H8} I8 n8=>by
   obtain ⟨m',hm,w8⟩:=n8
   refine ⟨rfl,m',hm,i + 1,H8,Mx hvl I8.qg,TT.keep _ _ _ U3 fun b hb o e=>(I8.pin (b,o) (List.mem_append_right _ (List.mem_append_right _ (kE hb e)))).1,fun b hb=>?_,w8⟩
   obtain ⟨o,e,d⟩:=TT.obj _ _ U3 b hb
   exact (I8.pin (b,o) (List.mem_append_right _ (List.mem_append_right _ (kE hb e)))).2.1
  cases b with
  | false=>exact wpAny_pure (My I7 q7)
  | true=>exact wpAny_bind (noX (cR (hem _ s7 _ H7 _ I7 q7) fun _ s8 ⟨H8,I8,q8⟩=>wpAny_pure (My I8 q8)))
end
end L2
namespace L2
open PySem PySem.Spec PyProof.Rows
structure Bk where
 cl:List (Str×Addr)
 C:Addr
 s:Shared
 H:Hp
 fp:List Addr
noncomputable abbrev Cx.bk (X:Cx) (N:List Str) (scope:Scope) (b:Bk):Cx:=X.blk N scope b.cl b.C b.s b.H b.fp
section
variable {X:Cx} {NT NF:List Str} {js:List Nat} {elt kx vx tg iter e:Expr} {ifs:List Expr} {T:oR} {wi:TI} {ts:Bk→TT} {te tk' tv:Bk→TE} {scope:Scope} {pos:Pos}
noncomputable def tLC (K:PySem.W.Frag) (wi:TI) (T:oR) (ts:Bk→TT) (te:Bk→TE) (js:List Nat):TE:=fun σ H Q=>wi σ H fun J H1=>∀D,H1 D=none→∀b,Fv K T (ts b) (zK D (te b)) (frees js σ) J (upd H1 D (.lst [])) (Q (.ref D))
theorem Vt {pins:List (Addr×Obj)} {σ:St} {s2:Shared} {H2:Hp} {cl:List (Str×Addr)} {it:Addr} {fp:List Addr} {tn:Nat→Heap→Prop} {J:It} {Q:Hp→Prop} {RR:Value→Addr→Result→Shared→Prop} {E:Value→Shared→Prop}
  (B:mL X NT NF js scope) (tk:um tg NT T) (hc:X.calm=true)
  (hin:∀b,Hz (X.bk (NT++NF) scope b) ifs (ts b)∧PE (X.bk (NT++NF) scope b) elt (te b))
  (q2:∀n c,cl.lookup n=some c→X.env.cells.lookup n=some c) (q3:∀y∈scope.names,y.2=.free→∃c,cl.lookup y.1=some c)
  (I2:Inv X pins σ H2 s2) (TT:Turn X.prog X.w X.K tg J fp it tn) (st2:tn 0 s2.heap) (f2:∀b∈fp,jo X pins H2 b)
  (q:∀b,Fv X.K T (ts b) (zK s2.heap.objs.size (te b)) (frees js σ) J (upd H2 s2.heap.objs.size (.lst [])) Q)
  (hR:∀C H' s' m,Inv X pins σ H' s'→jo X pins H' C→s'.heap.Ns C m→Q H'→RR (.ref s2.heap.objs.size) C (.ok .next) s'):
  wpAny (model X.prog X.w) X.A (newList []) (fun acc s₃=>wpAny (model X.prog X.w) X.A (newFunctionEnv scope X.env.globals cl [] X.env.qual none .none (some X.env)) (fun cenv s₄=>
   codeAny (model X.prog X.w) X.A (.compStart (.ListComp elt [⟨tg,iter,ifs,0⟩] scope pos) 0 (.ref it) acc { cenv with scope:=relabel scope X.env }) (RR acc cenv.locals) s₄) E s₃) E s2:=by
 refine wpAny_newObj_type ?_
 have hD:H2 s2.heap.objs.size=none:=I2.hok.fresh (Nat.le_refl _)
 have I3:Inv X pins σ (upd H2 s2.heap.objs.size (.lst [])) { s2 with heap:=s2.heap.push { cls:=.type "list",dict:=none,data:=.seq ([]:List Value).toArray } }:=
  I2.laid (t':=s2.toks) (fun b o e=>Heap.get?_push_of_some _ e) (Nat.le_refl _) ⟨Nat.zero_le _,[],0,.nil,Heap.get?_push_size _ rfl⟩
 have hsz:(s2.heap.push { cls:=.type "list",dict:=none,data:=.seq ([]:List Value).toArray }).objs.size=s2.heap.objs.size + 1:=Heap.size_push ..
 refine wpAny_newFunctionEnv B.cell (by intro y hy; simp at hy) (fun h₁ hns₁ hsb₁=>?_) B.kind
 have Qt:∀b∈fp,b < s2.heap.objs.size:=fun b hb=>by
  obtain ⟨o,e,_⟩:=TT.obj 0 _ st2 b hb
  exact Heap.lt_size e
 have f3:∀b∈fp,jo X pins (upd H2 s2.heap.objs.size (.lst [])) b:=fun b hb=>⟨by rw [aJ (Nat.ne_of_lt (Qt b hb))]; exact (f2 b hb).1,(f2 b hb).2⟩
 have keep:∀b o,(s2.heap.push { cls:=.type "list",dict:=none,data:=.seq ([]:List Value).toArray }).get? b=some o→h₁.get? b=some o:=fun b o e=>
  hsb₁.extBut b o (Nat.ne_of_lt (Heap.lt_size e)) (Heap.get?_push_of_some _ e)
 have TQ:∀b∈fp,b < (s2.heap.push { cls:=.type "list",dict:=none,data:=.seq ([]:List Value).toArray }).objs.size:=fun b hb=>by have:=Qt b hb; rw [hsz]; exact Nat.lt_succ_of_lt this
 have I4:=I3.blk (s1:={ s2 with heap:=h₁,toks:=s2.toks + ([]:List (Str×Value)).length }) B q2 q3 f3 TQ hns₁ keep rfl I2.bare
 have TV:tn 0 h₁:=TT.keep 0 _ _ st2 fun b _ o e=>keep b o (Heap.get?_push_of_some _ e)
 obtain ⟨i1,i2⟩:=hin ⟨cl,(s2.heap.push { cls:=.type "list",dict:=none,data:=.seq ([]:List Value).toArray }).objs.size,{ s2 with heap:=s2.heap.push { cls:=.type "list",dict:=none,data:=.seq ([]:List Value).toArray } },upd H2 s2.heap.objs.size (.lst []),fp⟩
 have loop:codeAny (model X.prog X.w) X.A (.compLoop (.ListComp elt [⟨tg,iter,ifs,0⟩] scope pos) 0 (.ref it) (.ref s2.heap.objs.size) (compEnvC scope cl (s2.heap.push { cls:=.type "list",dict:=none,data:=.seq ([]:List Value).toArray }).objs.size X.env))
   (RR (.ref s2.heap.objs.size) (s2.heap.push { cls:=.type "list",dict:=none,data:=.seq ([]:List Value).toArray }).objs.size) { s2 with heap:=h₁,toks:=s2.toks + ([]:List (Str×Value)).length }:=by
  refine uY (X:=X.blk (NT++NF) scope cl (s2.heap.push { cls:=.type "list",dict:=none,data:=.seq ([]:List Value).toArray }).objs.size { s2 with heap:=s2.heap.push { cls:=.type "list",dict:=none,data:=.seq ([]:List Value).toArray } } (upd H2 s2.heap.objs.size (.lst [])) fp)
   (T:=T) (fs:=frees js σ) (done:=Q) rfl (Fq elt tg iter ifs scope pos _ _ _) rfl rfl rfl tk rfl B.nd hc (fun x hx=>lookup_relabel_local (B.tg x hx)) i1 (J4 i2) TT (fun b hb=>?_) I4 TV (q _) fun H' s' σ' J' qd=>?_
  ·exact ⟨(f3 b hb).1,Nat.ne_of_lt (TQ b hb),fun hb2=>by
    rcases List.mem_cons.mp (I3.rH b hb2) with z | z
    ·exact (f3 b hb).2.1 z
    ·exact (f3 b hb).2.2.1 z,.inl hb,fun x c e=>(f3 b hb).2.2.2.2.1 x c (q2 x c e),fun p hp=>(nomatch (show p∈([]:List (Addr×Obj)) from hp))⟩
  ·obtain ⟨m,hn,_⟩:=J'.loc
   exact hR _ H' s' m (I3.Mw f3 J') (I3.zj (Nat.le_refl _) J'.free) hn qd
 exact codeAny_compStart_list loop (TT.self _ 0 _ _ _ TV loop)
theorem XR (B:mL X NT NF js scope) (tk:um tg NT T) (hc:X.calm=true) (hi:PI X tg iter wi)
  (hin:∀b,Hz (X.bk (NT++NF) scope b) ifs (ts b)∧PE (X.bk (NT++NF) scope b) elt (te b))
  (hs:∀x,foldedSetIterable iter X.env x=pure x:=by intro _; rfl):PE X (.ListComp elt [⟨tg,iter,ifs,0⟩] scope pos) (tLC X.K wi T ts te js):=by
 intro pins s σ H Q I h
 obtain ⟨cl,hclos,q2,q3⟩:=pG (env:=X.env) (scope:=scope) fun y hy e=>I.ok.has y.1 (B.free y hy e)
 rw [eval_ListComp]
 refine wpAny_comprehension_free (use:=none) rfl hs hclos B.kind B.names (cR (hi pins s σ H _ I h) fun v s1 h1=>cR h1 fun itv s2 aO=>?_)
 obtain ⟨it,fp,tn,J,H2,e,I2,TT,st2,f2,q⟩:=aO
 subst e
 refine Vt (Q:=fun H'=>Q (.ref s2.heap.objs.size) H') (RR:=fun acc C=>compPost (model X.prog X.w) X.A X.xe none (EP X pins σ Q) acc C) B tk hc hin q2 q3 I2 TT st2 f2 (q _ (I2.hok.fresh (Nat.le_refl _))) fun C H' s' m I' fC hn qd=>?_
 refine ⟨m,hn,fun h' sb=>⟨.ref s2.heap.objs.size,H',?_,rfl,qd⟩⟩
 exact I'.turned (t':=s'.toks) (fun b o hb e=>(sb.2 b hb).trans e) fC.1 fC.2.1 fC.2.2.2.1 fC.2.2.2.2.1 fC.2.2.2.2.2
end
end L2
namespace L2
open PySem PySem.Spec PyProof.Rows
noncomputable def Its (z:Str):It:=⟨fun i _=>i < z.cps.size,fun i H x H'=>H'=H∧∃c,z.cps[i]?=some c∧x=.str ⟨#[c]⟩,fun i _=>z.cps.size≤i⟩
theorem Mz {P:Program} {w:World} {K:PySem.W.Frag} {tg:Expr} {z:Str} {t:Tok} {ty:String} {it:Addr} (hty:ty="str_ascii_iterator"∨ty="str_iterator") (hgo:∀i u,letOwnedTupleGo tg i u=pure ()):
  Turn P w K tg (Its z) [it] it (fun i h=>h.IsStrIter it ty z t i) where
 mem:=by simp
 obj:=fun i h st b hb=>by
  have e:b=it:=by simpa using hb
  subst e
  obtain ⟨o,e,c,d⟩:=st
  exact ⟨o,e,fun v q=>by rw [d] at q; cases q⟩
 keep:=fun i h h' st k=>let ⟨o,ho,r⟩:=st; ⟨o,k it (by simp) o ho,r⟩
 item:=by
  intro X hP hw hK hc i pins s σ H E I hf st hg
  subst hP hw hK
  obtain ⟨f0,f1,f2,f3,f4,f5⟩:=hf it (by simp)
  have hi:i < z.cps.size:=hg
  have W:Walks X.prog X.w X.A it [it] [it] z.cps.size (SignAt z) (fun i h=>h.IsStrIter it ty z t i):=by
   rcases hty with rfl | rfl
   ·exact Walks.strAscii (I.ok.hd hc) it z t
   ·exact Walks.strWide (I.ok.hd hc) it z t
  refine W.item i s _ _ hi st fun v h' tk hv st' kk=>?_
  obtain ⟨c,u,hc',rfl⟩:=hv
  have I1:Inv X pins σ H { s with heap:=h',toks:=tk }:=I.turned (fun b o hb e=>kk b o (by simpa using hb) e) f0 f1 f3 f4 f5
  refine ⟨_,rfl,?_⟩
  rw [hgo]
  exact wpAny_pure ⟨.str ⟨#[c]⟩,H,I1,⟨u,rfl⟩,⟨rfl,c,hc',rfl⟩,st',fun b hb=>(hf b hb).1⟩
 done:=by
  intro X hP hw hK hc i pins s σ H E I hf st hg
  subst hP hw hK
  obtain ⟨f0,f1,f2,f3,f4,f5⟩:=hf it (by simp)
  have hi:z.cps.size≤i:=hg
  rcases hty with rfl | rfl
  ·exact wpAny_pyNext_ascii_end (I.ok.hd hc) st (by simpa using hi) fun h' eb=>⟨rfl,I.turned (t':=s.toks) (fun b o hb e=>eb b o hb e) f0 f1 f3 f4 f5⟩
  ·exact wpAny_pyNext_wide_end (I.ok.hd hc) st (by simpa using hi) fun h' eb=>⟨rfl,I.turned (t':=s.toks) (fun b o hb e=>eb b o hb e) f0 f1 f3 f4 f5⟩
 self:=fun _ _ _ _ _ st h=>by
  rcases hty with rfl | rfl
  ·exact wpAny_pyIter_striter_ascii st h
  ·exact wpAny_pyIter_striter_wide st h
section
variable {X:Cx} {tg:Expr}
noncomputable def aan (tl:TE):TI:=fun σ H R=>tl σ H fun x H1=>∃z,x=.str z∧R (Its z) H1
theorem Vu {l:Expr} {tl:TE} (hl:PE X l tl) (hgo:∀i u,letOwnedTupleGo tg i u=pure ():=by intro _ _; rfl):PI X tg l (aan tl):=by
 intro pins s σ H R I h
 refine cR (hl pins s σ H _ I h) fun v s1 aO=>?_
 obtain ⟨x,H1,I1,r1,q1⟩:=aO
 obtain ⟨z,e,q⟩:=q1
 subst e
 obtain ⟨t,rfl⟩:=r1
 have fin:∀(o:Obj) (ty:String),(ty="str_ascii_iterator"∨ty="str_iterator")→Heap.IsStrIter (s1.heap.push o) s1.heap.objs.size ty z t 0→PIE X pins σ tg R (.ref s1.heap.objs.size) { s1 with heap:=s1.heap.push o }:=fun o ty hty st=>by
  refine ⟨s1.heap.objs.size,[s1.heap.objs.size],_,_,H1,rfl,I1.kept (t':=s1.toks) fun b o e=>Heap.get?_push_of_some _ e,Mz hty hgo,st,fun b hb=>?_,q⟩
  have e:b=s1.heap.objs.size:=by simpa using hb
  subst e
  exact I1.zj (Nat.le_refl _) (I1.hok.fresh (Nat.le_refl _))
 cases ha:z.cps.all (· < 128)
 ·exact wpAny_pyIter_wide ha (fin _ _ (.inr rfl) ⟨_,Heap.get?_push_size _ rfl,rfl,rfl⟩)
 ·exact wpAny_pyIter_ascii ha (fin _ _ (.inl rfl) ⟨_,Heap.get?_push_size _ rfl,rfl,rfl⟩)
theorem J5:iI X (compareOp .LtE) (fun x y H Q=>∃i j,x=.str i∧y=.str j∧Q (.bl (!(decide (j.cps.toList < i.cps.toList)))) H):=by
 intro pins s σ H x y v u Q I rx ry h
 obtain ⟨i,j,rfl,rfl,q⟩:=h
 obtain ⟨t,rfl⟩:=rx
 obtain ⟨t',rfl⟩:=ry
 exact PySem.P.le_str (bw I q rfl)
theorem pH:∀{ys:List Str} {us:List Value},Vals (ys.map V.str) us→StrsAre us ys
 | [],_,h=>by cases h; exact .nil
 | y::ys,_,h=>by
  cases h with
  | cons r rr=>
   obtain ⟨t,rfl⟩:=r
   exact .cons y t (pH rr)
theorem Rb:Mq X "str.join" (fun x xs H Q=>∃z p ys,x=.str z∧xs=[.ref p]∧cM X.K H p (ys.map V.str)∧(ys.map (·.length)).sum + ys.length * z.length≤16777216∧Q (.str (Txt.join z ys)) H):=by
 intro pins s σ H x xs v us Q I rx r h
 obtain ⟨z,p,ys,rfl,rfl,hp,hz,q⟩:=h
 obtain ⟨t,rfl⟩:=rx
 obtain ⟨u,rfl,ru⟩:=vals1 r
 cases ru
 obtain ⟨its,rv,pl,_⟩:=I.list hp
 exact join_list pl.isList (by simpa using pH rv) hz fun t' k=>⟨.str _,H,I.tok _,⟨_,rfl⟩,q⟩
end
end L2
namespace L2
open PySem PySem.Spec PyProof.Rows
section
variable {X:Cx}
theorem part_of {v:Value} {o:Option Int} (h:IsPart v o):∃l:Option (Int×Tok),v=partValue l∧l.map (·.1)=o:=by
 cases h with
 | none=>exact ⟨none,rfl,rfl⟩
 | int i t=>exact ⟨some (i,t),rfl,rfl⟩
theorem Vv:QW X (fun x lo hi H Q=>∃z,x=.str z∧z.length≤sizeLine∧Q (.str (Txt.slice z lo hi)) H):=by
 intro pins s σ H x v vl vu lo hi sl Q I rx hs pl pu h
 obtain ⟨z,rfl,hz,q⟩:=h
 obtain ⟨t,rfl⟩:=rx
 obtain ⟨l,rfl,rfl⟩:=part_of pl
 obtain ⟨u,rfl,rfl⟩:=part_of pu
 refine ⟨"str",_,F.slot_str_getitem.lookup,typeIs_str s z t,?_⟩
 exact wpAny_getItem_str_slice (l:=l) (u:=u) (st:=none) hs rfl (post_val_or_str ⟨Nat.le_trans (Txt.slice_le z _ _) hz,fun t' k=>⟨.str _,H,I.tok _,⟨t',rfl⟩,q⟩⟩)
theorem BL:∀{bs:List Bool} {us:List Value},Vals (bs.map V.bl) us→us=bs.map Value.bool
 | [],_,h=>by cases h; rfl
 | b::bs,_,h=>by
  cases h with
  | cons r rr=>
   cases r
   rw [BL rr]
   rfl
theorem MF (hc:X.calm=true):cJ X (.builtin "all") (fun xs H Q=>∃(p:Addr) (bs:List Bool),xs=[.ref p]∧cM X.K H p (bs.map V.bl)∧Q (.bl (bs.all id)) H):=by
 intro pins s σ H xs us Q I r h
 obtain ⟨p,bs,rfl,hp,q⟩:=h
 obtain ⟨u,rfl,ru⟩:=vals1 r
 cases ru
 obtain ⟨its,rv,pl,_⟩:=I.list hp
 have hl:=pl.isList
 have e0:=BL rv
 subst e0
 have hlt:p < s.heap.objs.size:=by obtain ⟨_,e,_⟩:=hl; exact Heap.lt_size e
 refine call_all_walk (wpAny_pyIter_list hl ?_)
 refine ⟨s.heap.objs.size,[s.heap.objs.size,p],[s.heap.objs.size],(bs.map Value.bool).toArray.size,_,_,fun i=>(bs[i]?).getD true,rfl,Walks.list (A:=X.A.in1) (I.ok.hd hc) _ p (Nat.ne_of_lt hlt) (bs.map Value.bool).toArray,
  ⟨⟨_,Heap.get?_push_size _ rfl,rfl,rfl⟩,hl.push _⟩,fun i v s' Q' E' hP hQ=>?_,fun h' tk hk=>?_⟩
 ·have hP':(bs.map Value.bool)[i]?=some v:=by simpa using hP
  rw [List.getElem?_map] at hP'
  cases e:bs[i]? with
  | none=>rw [e] at hP'; cases hP'
  | some b=>
   rw [e] at hP'
   cases hP'
   simp only [e,Option.getD_some] at hQ
   exact wpAny_truthy_bool hQ
 ·have e:((List.range (bs.map Value.bool).toArray.size).all fun i=>(bs[i]?).getD true)=bs.all id:=by
   have:(bs.map Value.bool).toArray.size=bs.length:=by simp
   rw [this,Bool.eq_iff_iff,List.all_eq_true,List.all_eq_true]
   constructor
   ·intro h b hb
    obtain ⟨i,hi,rfl⟩:=List.getElem_of_mem hb
    have:=h i (List.mem_range.mpr hi)
    simpa [List.getElem?_eq_getElem hi] using this
   ·intro h i hi
    have hi':=List.mem_range.mp hi
    simp only [List.getElem?_eq_getElem hi',Option.getD_some]
    exact h _ (List.getElem_mem hi')
  rw [e]
  refine ⟨.bl _,H,I.kept fun b x e=>hk b x (fun hm=>?_) (Heap.get?_push_of_some _ e),rfl,q⟩
  rw [List.mem_singleton.mp hm] at e
  exact Nat.lt_irrefl _ (Heap.lt_size e)
end
end L2
namespace L2
open PySem PySem.Spec PyProof.Rows
mutual
noncomputable def RD (K:PySem.W.Frag) (H:Hp):PyData→V→Prop
 | .none,v=>v=.non
 | .bool b,v=>v=.bl b
 | .int i,v=>v=.int i
 | .str x,v=>v=.str x
 | .tuple ds,v=>∃a vs,v=.ref a∧ig K H a vs∧Fw K H ds vs
 | .list ds,v=>∃a vs,v=.ref a∧cM K H a vs∧Fw K H ds vs
 | .dict _,_=>False
noncomputable def Fw (K:PySem.W.Frag) (H:Hp):List PyData→List V→Prop
 | [],vs=>vs=[]
 | d::ds,vs=>∃v r,vs=v::r∧RD K H d v∧Fw K H ds r
end
theorem ig.same {K:PySem.W.Frag} {H H':Hp} {a:Addr} {xs:List V} (e:∀b ys,H b=some (.tup ys)→H' b=some (.tup ys)) (ef:∀b o u,H b=some (.Bj o u)→H' b=some (.Bj o u)) (h:ig K H a xs):ig K H' a xs:=by
 rcases h with (h | ⟨o,h⟩) | h
 ·exact .inl (.inl (e _ _ h))
 ·exact .inl (.inr ⟨o,ef _ _ _ h⟩)
 ·exact .inr h
mutual
theorem RD.same {K:PySem.W.Frag} {H H':Hp} (e:aP H H'):∀{d:PyData} {v:V},RD K H d v→RD K H' d v
 | .none,_,h=>h
 | .bool _,_,h=>h
 | .int _,_,h=>h
 | .str _,_,h=>h
 | .tuple ds,v,h=>by
  obtain ⟨a,vs,e1,q,r⟩:=h
  exact ⟨a,vs,e1,q.same (fun b ys z=>e _ _ z) (fun b o u z=>e _ _ z),Fw.same e r⟩
 | .list ds,v,h=>by
  obtain ⟨a,vs,e1,q,r⟩:=h
  exact ⟨a,vs,e1,e.seq q,Fw.same e r⟩
theorem Fw.same {K:PySem.W.Frag} {H H':Hp} (e:aP H H'):∀{ds:List PyData} {vs:List V},Fw K H ds vs→Fw K H' ds vs
 | [],_,h=>h
 | d::ds,vs,h=>by
  obtain ⟨v,r,e1,q,t⟩:=h
  exact ⟨v,r,e1,RD.same e q,Fw.same e t⟩
end
section
variable {X:Cx} {pins:List (Addr×Obj)} {σ:St} {H:Hp} {s:Shared}
mutual
theorem RD.reads (I:Inv X pins σ H s):∀{d:PyData} {v:V} {u:Value},RD X.K H d v→RelV v u→∃as,Reads s.heap u d as
 | .none,_,_,h,r=>by
  cases (show _=V.non from h)
  cases r
  exact ⟨_,.none⟩
 | .bool b,_,_,h,r=>by
  cases (show _=V.bl b from h)
  cases r
  exact ⟨_,.bool b⟩
 | .int i,_,_,h,r=>by
  cases (show _=V.int i from h)
  obtain ⟨t,rfl⟩:=r
  exact ⟨_,.int i t⟩
 | .str x,_,_,h,r=>by
  cases (show _=V.str x from h)
  obtain ⟨t,rfl⟩:=r
  exact ⟨_,.str x t⟩
 | .tuple ds,v,u,h,r=>by
  obtain ⟨a,vs,e1,q,t⟩:=h
  subst e1
  cases r
  obtain ⟨its,rv,⟨o,e,c,n,d⟩,_⟩:=I.tuple q
  obtain ⟨as,R⟩:=Fw.reads I t rv
  exact ⟨_,.tuple e c d (by simpa using R)⟩
 | .list ds,v,u,h,r=>by
  obtain ⟨a,vs,e1,q,t⟩:=h
  subst e1
  cases r
  obtain ⟨its,rv,⟨o,n,e,c,_,d⟩,_⟩:=I.list q
  obtain ⟨as,R⟩:=Fw.reads I t rv
  exact ⟨_,.list e c d (by simpa using R)⟩
theorem Fw.reads (I:Inv X pins σ H s):∀{ds:List PyData} {vs:List V} {us:List Value},Fw X.K H ds vs→Vals vs us→∃as,ReadsAll s.heap us ds as
 | [],_,_,h,r=>by
  cases (show _=[] from h)
  cases r
  exact ⟨_,.nil⟩
 | d::ds,vs,us,h,r=>by
  obtain ⟨v,rr,e1,q,t⟩:=h
  subst e1
  cases r with
  | cons r1 r2=>
   obtain ⟨as,R⟩:=RD.reads I q r1
   obtain ⟨bs,R2⟩:=Fw.reads I t r2
   exact ⟨_,.cons R R2⟩
end
end
section
variable {X:Cx}
end
end L2
namespace L2
open PySem PySem.Spec PyProof.Rows
noncomputable def MJ (FJ:Scope) (N0 NT NF:List Str) (js:List Nat) (scope:Scope):Bool:=
 scope.kind==.function&&scope.names.all (fun y=>!(y.2==.local) || scope.names.lookup y.1==some .local)&&scope.names.all (fun y=>!(y.2==.cell))&&
  scope.names.all (fun y=>!(y.2==.free) || (FJ.names.lookup y.1==some .cell || FJ.names.lookup y.1==some .free))&&js.length==NF.length&&
  (js.zip NF).all (fun p=>N0[p.1]?==some p.2&&scope.names.lookup p.2==some .free)&&NT.all (fun x=>scope.names.lookup x==some .local)&&decide (NT++NF).Nodup
theorem xj.ok {X:Cx} {FJ:Scope} {N0 NT NF:List Str} {js:List Nat} {scope:Scope} (h:MJ FJ N0 NT NF js scope=true) (ho:X.env.scope=FJ) (hN:X.N=N0):mL X NT NF js scope:=by
 unfold MJ at h
 simp only [Bool.and_eq_true] at h
 obtain ⟨⟨⟨⟨⟨⟨⟨h1,h2⟩,h3⟩,h4⟩,h5⟩,h6⟩,h7⟩,h8⟩:=h
 refine ⟨eq_of_beq h1,fun y hy e=>?_,fun y hy e=>?_,fun y hy e=>?_,by simpa using h5,fun k j x ej ex=>?_,fun x hx=>?_,of_decide_eq_true h8⟩
 ·have:=List.all_eq_true.mp h2 y hy
  rw [e] at this
  simpa using this
 ·have:=List.all_eq_true.mp h3 y hy
  rw [e] at this
  simp at this
 ·have:=List.all_eq_true.mp h4 y hy
  rw [e] at this
  rw [ho]
  simpa using this
 ·have hm:(j,x)∈js.zip NF:=by
   have:(js.zip NF)[k]?=some (j,x):=by
    rw [List.getElem?_zip_eq_some]
    exact ⟨ej,ex⟩
   exact List.mem_of_getElem? this
  have:=List.all_eq_true.mp h6 _ hm
  simp only [Bool.and_eq_true] at this
  rw [hN]
  exact ⟨eq_of_beq this.1,eq_of_beq this.2⟩
 ·exact eq_of_beq (List.all_eq_true.mp h7 x hx)
structure jq (P:Program) (w:World) (K:PySem.W.Frag) (mg:Str→Option Value) (base:Heap) (x:Str) (k:Nat) (ps:List Str) (sp:Sp):Prop where
 ex:∃(f:Addr) (fd:FuncData),mg x=some (.ref f)∧PySem.W.keepIn K (.ref f)=true∧Binds K fd ps []∧dB P w K mg base qu k f fd ps sp
section
variable {X:Cx} {x:Str} {k:Nat} {ps:List Str} {sp:Sp} {p pos:Pos} {e:Expr} {es:List Expr} {t:TA}
theorem XS (F:jq X.prog X.w X.K X.mg X.base x k ps sp) (hr:gn k X.A) (hg:Gl X x) (ha:PA X (e::es) t) (hdb:(x==("__debug__":Str))=false:=by decide)
  (he:starEach (e::es) X.env=(false,eval e X.env)::starEach es X.env:=by rfl) (hpl:(backTo pos (starEach es X.env)).any (·.1)=false:=by rfl):
  PE X (.Call (.Name x p) (e::es) [] pos) (Mh sp [] E0 t):=by
 obtain ⟨f,fd,h1,h2,h3,h4⟩:=F.ex
 exact QL h4 hr hg h1 h2 h3 .nil XQ ha hdb he hpl
theorem BP:cJ X (.builtin "isinstance") (fun xs H Q=>∃x n t b,xs=[x,.ty n]∧mH X.K H x t∧PySem.W.kitOne X.K t (.type n)=some b∧Q (.bl b) H):=by
 intro pins s σ H xs us Q I r h
 obtain ⟨x,n,t,b,rfl,ty,e,q⟩:=h
 obtain ⟨u,u2,rfl,r1,r2⟩:=vals2 r
 cases r2
 exact JP I r1 ty e fun tk=>⟨.bl b,H,I.tok tk,rfl,q⟩
end
structure Fx (K:PySem.W.Frag) (T:oR) (J:It) (n:Nat) (vs:Nat→List V) (G:Hp→Prop):Prop where
 go:∀i H,i < n→G H→J.go i H
 Tq:∀i H x H',i < n→G H→J.Tq i H x H'→H'=H∧TJ K T x H (vs i)
 stop:∀H,G H→J.stop n H
section
variable {K:PySem.W.Frag} {T:oR} {J:It} {n:Nat} {vs:Nat→List V} {G:Hp→Prop} {ts:TT} {te:TE} {fs:St} {H1:Hp} {D:Addr} {done:Hp→Prop}
end
end L2
namespace L2
open PySem PySem.Spec PyProof.Rows
theorem Rc {n m:Nat} (h:n≤m) (hm:m≤16777216:=by decide):n≤sizeLine:=by rw [sizeLine_eq]; omega
section
variable {K:PySem.W.Frag} {T:oR} {J:It} {n:Nat} {vs:Nat→List V} {G:Hp→Prop} {te:TE} {fs:St} {H1:Hp} {D:Addr} {done:Hp→Prop}
end
section
variable {X:Cx}
theorem Mq.r {id:String} {r:V→List V→Hp→VK→Prop} (h:Mq X id r):WX X id r:=h
end
noncomputable def Ext (p:Addr) (H H':Hp):Prop:=∀b o,H b=some o→b≠p→H' b=some o
theorem Ext.refl (p:Addr) (H:Hp):Ext p H H:=fun _ _ h _=>h
theorem Ext.trans {p:Addr} {H H1 H2:Hp} (a:Ext p H H1) (b:Ext p H1 H2):Ext p H H2:=fun c o h hc=>b c o (a c o h hc) hc
theorem aP.ext {p:Addr} {H H':Hp} (s:aP H H'):Ext p H H':=fun b o h _=>s b o h
theorem Ext.upd {p:Addr} {H:Hp} {o:HO}:Ext p H (upd H p o):=fun b u h hb=>by rw [aJ hb]; exact h
theorem aP.upd {p:Addr} {H:Hp} {o:HO} (h:H p=none):aP H (L2.upd H p o):=fun b u e=>by rw [aJ (aZ e h)]; exact e
end L2
namespace L2
open PySem PySem.Spec PyProof.Rows
noncomputable def Vw (D:Addr) (tk tv:TE):TM:=fun σ H Q=>tk σ H fun y H1=>tv σ H1 fun z H2=>∃kvs k,H2 D=some (.dK kvs)∧y=kV k∧kvs.length < sizeLine∧Q (upd H2 D (.dK (putK kvs k z)))
theorem Vx {X:Cx} {D:Addr} {kx vx:Expr} {tk tv:TE} (hu:X.A.units + 1 < cLine) (hk:PE X kx tk) (hv:PE X vx tv):PM X (do
      let kv ←eval kx X.env
      let vv ←holding [kv] (eval vx X.env)
      standAt { kx.pos with endLine:=vx.pos.endLine,endCol:=vx.pos.endCol }
      holding [kv,vv] (dictSet D kv vv)) (Vw D tk tv):=by
 intro pins s σ H Q I h
 refine wpAny_bind (cR (hk pins s σ H _ I h) fun kv s1 aO=>?_)
 obtain ⟨y,H1,I1,r1,q1⟩:=aO
 refine wpAny_bind (wpAny_holding (cR (hv pins s1 σ H1 _ I1 q1) fun vv s2 aO=>?_))
 obtain ⟨z,H2,I2,r2,kvs,k,hD,ey,hl,q2⟩:=aO
 subst ey
 refine wpAny_bind (wpAny_standAt (wpAny_holding ?_))
 obtain ⟨z1,hd,vs,rel,dd⟩:=Hu I2.hok hD
 have hz:vs.length≤sizeLine:=by rw [←rel.length]; exact z1
 have hl2:(putK kvs k z).length≤sizeLine:=by have:=jw kvs k z; omega
 refine wpAny_dictSet_pairs (hsz:=hz) (uR r1) dd fun h' Qs hs=>⟨_,?_,q2⟩
 have he:∃q,h'.get? D=some q:=let ⟨q,_,_,hq,_⟩:=Qs; ⟨q,hq⟩
 exact kI I2 (by rw [hD]; exact True.intro) hs he (zJ hl2 hd (rel.put k r2) Qs)
section
variable {X:Cx} {NT NF:List Str} {js:List Nat} {elt kx vx tg iter e:Expr} {ifs:List Expr} {T:oR} {wi:TI} {ts:Bk→TT} {te tk' tv:Bk→TE} {scope:Scope} {pos:Pos}
noncomputable def tDC (K:PySem.W.Frag) (wi:TI) (T:oR) (ts:Bk→TT) (tk' tv:Bk→TE) (js:List Nat):TE:=fun σ H Q=>wi σ H fun J H1=>∀D,H1 D=none→∀b,Fv K T (ts b) (Vw D (tk' b) (tv b)) (frees js σ) J (upd H1 D (.dK [])) (Q (.ref D))
theorem Vy {pins:List (Addr×Obj)} {σ:St} {s2:Shared} {H2:Hp} {cl:List (Str×Addr)} {it:Addr} {fp:List Addr} {tn:Nat→Heap→Prop} {J:It} {Q:Hp→Prop} {RR:Value→Addr→Result→Shared→Prop} {E:Value→Shared→Prop}
  (B:mL X NT NF js scope) (tk:um tg NT T) (hc:X.calm=true) (hu:X.A.units + 1 < cLine)
  (hin:∀b,Hz (X.bk (NT++NF) scope b) ifs (ts b)∧PE (X.bk (NT++NF) scope b) kx (tk' b)∧PE (X.bk (NT++NF) scope b) vx (tv b))
  (q2:∀n c,cl.lookup n=some c→X.env.cells.lookup n=some c) (q3:∀y∈scope.names,y.2=.free→∃c,cl.lookup y.1=some c)
  (I2:Inv X pins σ H2 s2) (TT:Turn X.prog X.w X.K tg J fp it tn) (st2:tn 0 s2.heap) (f2:∀b∈fp,jo X pins H2 b)
  (q:∀b,Fv X.K T (ts b) (Vw s2.heap.objs.size (tk' b) (tv b)) (frees js σ) J (upd H2 s2.heap.objs.size (.dK [])) Q)
  (hR:∀C H' s' m,Inv X pins σ H' s'→jo X pins H' C→s'.heap.Ns C m→Q H'→RR (.ref s2.heap.objs.size) C (.ok .next) s'):
  wpAny (model X.prog X.w) X.A (newDict) (fun acc s₃=>wpAny (model X.prog X.w) X.A (newFunctionEnv scope X.env.globals cl [] X.env.qual none .none (some X.env)) (fun cenv s₄=>
   codeAny (model X.prog X.w) X.A (.compStart (.DictComp kx vx [⟨tg,iter,ifs,0⟩] scope pos) 0 (.ref it) acc { cenv with scope:=relabel scope X.env }) (RR acc cenv.locals) s₄) E s₃) E s2:=by
 refine wpAny_newObj_type ?_
 have hD:H2 s2.heap.objs.size=none:=I2.hok.fresh (Nat.le_refl _)
 have I3:Inv X pins σ (upd H2 s2.heap.objs.size (.dK [])) { s2 with heap:=s2.heap.push { cls:=.type "dict",dict:=none,data:=.dict #[] } }:=
  I2.laid (t':=s2.toks) (fun b o e=>Heap.get?_push_of_some _ e) (Nat.le_refl _) (uU s2.heap I2.big)
 have hsz:(s2.heap.push { cls:=.type "dict",dict:=none,data:=.dict #[] }).objs.size=s2.heap.objs.size + 1:=Heap.size_push ..
 refine wpAny_newFunctionEnv B.cell (by intro y hy; simp at hy) (fun h₁ hns₁ hsb₁=>?_) B.kind
 have Qt:∀b∈fp,b < s2.heap.objs.size:=fun b hb=>by
  obtain ⟨o,e,_⟩:=TT.obj 0 _ st2 b hb
  exact Heap.lt_size e
 have f3:∀b∈fp,jo X pins (upd H2 s2.heap.objs.size (.dK [])) b:=fun b hb=>⟨by rw [aJ (Nat.ne_of_lt (Qt b hb))]; exact (f2 b hb).1,(f2 b hb).2⟩
 have keep:∀b o,(s2.heap.push { cls:=.type "dict",dict:=none,data:=.dict #[] }).get? b=some o→h₁.get? b=some o:=fun b o e=>
  hsb₁.extBut b o (Nat.ne_of_lt (Heap.lt_size e)) (Heap.get?_push_of_some _ e)
 have TQ:∀b∈fp,b < (s2.heap.push { cls:=.type "dict",dict:=none,data:=.dict #[] }).objs.size:=fun b hb=>by have:=Qt b hb; rw [hsz]; exact Nat.lt_succ_of_lt this
 have I4:=I3.blk (s1:={ s2 with heap:=h₁,toks:=s2.toks + ([]:List (Str×Value)).length }) B q2 q3 f3 TQ hns₁ keep rfl I2.bare
 have TV:tn 0 h₁:=TT.keep 0 _ _ st2 fun b _ o e=>keep b o (Heap.get?_push_of_some _ e)
 obtain ⟨i1,i2,i3⟩:=hin ⟨cl,(s2.heap.push { cls:=.type "dict",dict:=none,data:=.dict #[] }).objs.size,{ s2 with heap:=s2.heap.push { cls:=.type "dict",dict:=none,data:=.dict #[] } },upd H2 s2.heap.objs.size (.dK []),fp⟩
 have loop:codeAny (model X.prog X.w) X.A (.compLoop (.DictComp kx vx [⟨tg,iter,ifs,0⟩] scope pos) 0 (.ref it) (.ref s2.heap.objs.size) (compEnvC scope cl (s2.heap.push { cls:=.type "dict",dict:=none,data:=.dict #[] }).objs.size X.env))
   (RR (.ref s2.heap.objs.size) (s2.heap.push { cls:=.type "dict",dict:=none,data:=.dict #[] }).objs.size) { s2 with heap:=h₁,toks:=s2.toks + ([]:List (Str×Value)).length }:=by
  refine uY (X:=X.blk (NT++NF) scope cl (s2.heap.push { cls:=.type "dict",dict:=none,data:=.dict #[] }).objs.size { s2 with heap:=s2.heap.push { cls:=.type "dict",dict:=none,data:=.dict #[] } } (upd H2 s2.heap.objs.size (.dK [])) fp)
   (T:=T) (fs:=frees js σ) (done:=Q) rfl (Ft kx vx tg iter ifs scope pos _ _ _) rfl rfl rfl tk rfl B.nd hc (fun x hx=>lookup_relabel_local (B.tg x hx)) i1 (Vx hu i2 i3) TT (fun b hb=>?_) I4 TV (q _) fun H' s' σ' J' qd=>?_
  ·exact ⟨(f3 b hb).1,Nat.ne_of_lt (TQ b hb),fun hb2=>by
    rcases List.mem_cons.mp (I3.rH b hb2) with z | z
    ·exact (f3 b hb).2.1 z
    ·exact (f3 b hb).2.2.1 z,.inl hb,fun x c e=>(f3 b hb).2.2.2.2.1 x c (q2 x c e),fun p hp=>(nomatch (show p∈([]:List (Addr×Obj)) from hp))⟩
  ·obtain ⟨m,hn,_⟩:=J'.loc
   exact hR _ H' s' m (I3.Mw f3 J') (I3.zj (Nat.le_refl _) J'.free) hn qd
 exact codeAny_compStart_dict loop (TT.self _ 0 _ _ _ TV loop)
theorem MK {i:Nat} {y:Str} {pos' spos:Pos} (B:mL X NT NF js scope) (tk:um tg NT T) (hc:X.calm=true) (hu:X.A.units + 1 < cLine) (hi:PI X tg iter wi)
  (hin:∀b,Hz (X.bk (NT++NF) scope b) ifs (ts b)∧PE (X.bk (NT++NF) scope b) kx (tk' b)∧PE (X.bk (NT++NF) scope b) vx (tv b))
  (hsw:swapsWith (.DictComp kx vx [⟨tg,iter,ifs,0⟩] scope pos) (some (.Name y pos')) spos.line X.env=pure true)
  (hN:X.N.Nodup) (hI:X.N[i]?=some y) (hy:X.env.scope.names.lookup y=some .local)
  (hs:∀x,foldedSetIterable iter X.env x=pure x:=by intro _; rfl):PS X (.Assign [.Name y pos'] (.DictComp kx vx [⟨tg,iter,ifs,0⟩] scope pos) spos) (Ls (tDC X.K wi T ts tk' tv js) (uM i)):=by
 intro pins s σ H D I h
 obtain ⟨cl,hclos,q2,q3⟩:=pG (env:=X.env) (scope:=scope) fun y hy e=>I.ok.has y.1 (B.free y hy e)
 rw [exec_Assign_Name_used _ _ _ _ hsw]
 refine wpAny_bind (wpAny_standAt (wpAny_bind ?_))
 show wpAny _ X.A (do let _ ←comprehension (.DictComp kx vx [⟨tg,iter,ifs,0⟩] scope pos) scope X.env _ (newDict) false (eval iter X.env) (some (assign (.Name y pos') X.env))) _ _ s
 refine wpAny_bind (wpAny_mono (wpAny_comprehension_free (use:=some (assign (.Name y pos') X.env)) (Q:=fun _ s'=>SP X pins D .next s') rfl hs hclos B.kind B.names
  (cR (hi pins s σ H _ I h) fun v s1 h1=>cR h1 fun itv s2 ⟨it,fp,tn,J,H2,e,I2,TT,st2,f2,q⟩=>?_)) (fun _ s' hq=>wpAny_pure (wpAny_pure hq)) fun _ _ e=>e)
 subst e
 refine Vy (hu:=hu) (Q:=fun H'=>D.nx (σ.set i (some (.ref s2.heap.objs.size))) H') (RR:=fun acc C=>compPost (model X.prog X.w) X.A X.xe (some (assign (.Name y pos') X.env)) (fun _ s'=>SP X pins D .next s') acc C) B tk hc (hin:=hin) q2 q3 I2 TT st2 f2 (q _ (I2.hok.fresh (Nat.le_refl _))) fun C H' s' m I' fC hn qd=>?_
 show wpAny _ X.A (assign (.Name y pos') X.env (.ref s2.heap.objs.size)) _ _ _
 refine wpAny_assign_Name (xY I' hN hI (.inl hy) (v:=.ref s2.heap.objs.size) rfl (fun s3 I3 aO=>?_) (.inr hy))
 obtain ⟨a,sb,ha⟩:=aO
 have hCa:C≠a:=by
  rcases ha with z | z
  ·rw [z]; exact fC.2.1
  ·exact fun w=>fC.2.2.2.2.1 y a z w.symm
 refine ⟨m,hn.sameBut sb hCa,fun h' sb'=>⟨_,H',?_,qd⟩⟩
 exact I3.turned (t':=s3.toks) (fun b o hb e=>(sb'.2 b hb).trans e) fC.1 fC.2.1 fC.2.2.2.1 fC.2.2.2.2.1 fC.2.2.2.2.2
end
end L2
namespace L2
open PySem PySem.Spec PyProof.Rows
section
variable {X:Cx}
theorem Rf {K:PySem.W.Frag} {t:Value} {c d:Value} {p q:Bool} (e1:PySem.W.kitOne K t c=some p) (e2:PySem.W.kitOne K t d=some q):PySem.W.kitAny K t [c,d]=some (p || q):=by
 unfold PySem.W.kitAny
 rw [e1]
 cases p with
 | true=>rfl
 | false=>
  unfold PySem.W.kitAny
  rw [e2]
  cases q with
  | true=>rfl
  | false=>rfl
end
structure Fy (K:PySem.W.Frag) (T:oR) (J:It) (n:Nat) (vs:Nat→List V) (G:Hp→Prop):Prop where
 go:∀i H,i < n→G H→J.go i H
 Tq:∀i H x H',i < n→G H→J.Tq i H x H'→aP H H'∧TJ K T x H' (vs i)
 stop:∀H,G H→J.stop n H
section
variable {K:PySem.W.Frag} {T:oR} {J:It} {n:Nat} {vs:Nat→List V} {G:Hp→Prop} {ts:TT} {te:TE} {fs:St} {H1:Hp} {D:Addr} {done:Hp→Prop}
end
theorem Inv.qx {X:Cx} {pins:List (Addr×Obj)} {σ:St} {H H':Hp} {s:Shared} {h':Heap} {t':Nat} {ch:List Addr} (I:Inv X pins σ H s) (k:∀b o,b∉ch→s.heap.get? b=some o→h'.get? b=some o) (hf:∀b∈ch,jo X pins H b)
  (hs:aP H H') (hfr:∀b o,s.heap.get? b=some o→H b=none→H' b=none) (hn:∀b u,H' b=some u→H b=some u∨bL X.prog X.w H' h' b u):Inv X pins σ H' { s with heap:=h',toks:=t' }:=by
 have W6:∀b u,H b=some u→b∉ch:=fun b u e z=>by rw [(hf b z).1] at e; cases e
 refine I.step (g':=s.gens) (d':=s.drawn) (ch:=ch) (fun b hb=>⟨(hf b hb).2.2.2.1,(hf b hb).2.1,(hf b hb).2.2.2.2.1,(hf b hb).2.2.2.2.2⟩) (fun b o _ _ hc e _=>k b o hc e) (fun b o _ _ hc e _=>⟨o.slots,k b o hc e⟩) (fun b o _ e n=>hfr b o e n)
  (fun b o hc e=>⟨o,k b o hc e⟩) (fun _ _ e=>hs _ _ e) (fun _ _ _ e=>hs _ _ e) (fun b ps e=>⟨#[],by rw [hs _ _ e]; simp⟩) (fun m hm=>?_) (fun b u e=>?_) I.bare
 ·obtain ⟨o,es,ep,ho,r⟩:=hm
  exact ⟨o,es,ep,k _ o (fun z=>(hf _ z).2.1 rfl) ho,r⟩
 ·rcases hn b u e with z | z
  ·refine (I.hok b u z).stay (fun c v hc q=>k c v ?_ q) (fun _ q=>hs _ _ q) fun _ _ q=>hs _ _ q
   rcases hc with y | y
   ·rw [y]; exact W6 b u z
   ·exact W6 c _ y
  ·exact z
noncomputable def Itz (K:PySem.W.Frag) (a b:Addr):It:=⟨fun i H=>∃xs ys,cM K H a xs∧cM K H b ys∧i < min xs.length ys.length,
 fun i H v H'=>∃p x y,H p=none∧v=.ref p∧H'=upd H p (.tup [x,y])∧∀xs ys,cM K H a xs→cM K H b ys→xs[i]?=some x∧ys[i]?=some y,
 fun i H=>∃xs ys,cM K H a xs∧cM K H b ys∧i=min xs.length ys.length⟩
theorem MN {P:Program} {w:World} {K:PySem.W.Frag} {es:List Expr} {k:Nat} {ps:Pos} {a b z TI TO i1 i2:Addr} (D:ZipApart z TI TO i1 i2 a b):
  Turn P w K (.Tuple es k ps) (Itz K a b) [z,TI,TO,i1,i2] z (fun i h=>IsZip h z TI TO .none∧IsPair h TI (.ref i1) (.ref i2)∧(∃c d,IsPair h TO c d)∧h.IsListIter i1 a i∧h.IsListIter i2 b i) where
 mem:=by simp
 obj:=fun i h st c hc=>by
  obtain ⟨h1,h2,⟨_,_,h3⟩,⟨o4,e4,_,d4⟩,⟨o5,e5,_,d5⟩⟩:=st
  simp only [List.mem_cons,List.not_mem_nil,or_false] at hc
  rcases hc with rfl | rfl | rfl | rfl | rfl
  ·exact ⟨_,h1,fun v q=>by cases q⟩
  ·exact ⟨_,h2,fun v q=>by cases q⟩
  ·exact ⟨_,h3,fun v q=>by cases q⟩
  ·exact ⟨_,e4,fun v q=>by rw [d4] at q; cases q⟩
  ·exact ⟨_,e5,fun v q=>by rw [d5] at q; cases q⟩
 keep:=fun i h h' st kk=>by
  obtain ⟨h1,h2,⟨c,d,h3⟩,h4,h5⟩:=st
  exact ⟨kk z (by simp) _ h1,kk TI (by simp) _ h2,⟨c,d,kk TO (by simp) _ h3⟩,h4.at fun o e=>kk i1 (by simp) o e,h5.at fun o e=>kk i2 (by simp) o e⟩
 item:=by
  intro X hP hw hK hc i pins s σ H E I hf st hg
  subst hP hw hK
  obtain ⟨xs,ys,ha,hb,hi⟩:=hg
  obtain ⟨its,r1,p1,_⟩:=I.list ha
  obtain ⟨its2,r2,p2,_⟩:=I.list hb
  have l1:=r1.length
  have l2:=r2.length
  have W:=WalksT.zip2 (prog:=X.prog) (w:=X.w) (A:=X.A) (I.ok.hd hc) z TI TO i1 i2 a b D its.toArray its2.toArray
  obtain ⟨s1,s2,s3,s4,s5⟩:=st
  refine W.item i s _ E (by simp; omega) ⟨s1,s2,s3,s4,s5,p1.isList,p2.isList⟩ fun T vals h' tk hv hT ht hm kk=>?_
  obtain ⟨x,y,hx,hy,rfl⟩:=hv
  refine ⟨_,rfl,W.go es k ps i T _ _ E hm fun h2 st2 MP=>?_⟩
  have gx:xs[i]?=some (xs.getD i .non):=by
   have:i < xs.length:=by omega
   simp [List.getD,this]
  have gy:ys[i]?=some (ys.getD i .non):=by
   have:i < ys.length:=by omega
   simp [List.getD,this]
  obtain ⟨u1,hu1,q1⟩:=r1.get gx
  obtain ⟨u2,hu2,q2⟩:=r2.get gy
  have ex:u1=x:=by
   have:its[i]?=some x:=by simpa using hx
   rw [hu1] at this
   exact Option.some.inj this
  have ey:u2=y:=by
   have:its2[i]?=some y:=by simpa using hy
   rw [hu2] at this
   exact Option.some.inj this
  subst ex ey
  have wf:∀c,c∈[z,TO,i1,i2]→jo X pins H c:=fun c hc=>hf c (by simp at hc ⊢; rcases hc with rfl | rfl | rfl | rfl <;> simp)
  have XX:H T=none:=I.hok.fresh hT
  have nT:T∉[z,TO,i1,i2]:=W.apart i T _ hm
  have kT:h2.get? T=h'.get? T:=by
   obtain ⟨o,e,_⟩:=id ht
   rw [MP T o nT e]
   exact e.symm
  obtain ⟨oT,eT,cT,nT',dT⟩:=id ht
  refine ⟨.ref T,upd H T (.tup [xs.getD i .non,ys.getD i .non]),I.qx (fun c o hc e=>MP c o hc (kk c o hc e)) wf (aP.upd XX) (fun c o e n=>?_) (fun c u e=>?_),rfl,⟨T,_,_,XX,rfl,rfl,fun xs' ys' h1 h2=>?_⟩,?_,fun c hc=>?_⟩
  ·rw [aJ]
   ·exact n
   ·intro z
    subst z
    exact absurd (Heap.lt_size e) (Nat.not_lt.mpr hT)
  ·by_cases X3:c=T
   ·subst X3
    rw [aH] at e
    cases e
    refine .inr ⟨by show 2≤sizeLine; decide,[u1,u2],.cons q1 (.cons q2 .nil),oT,kT.trans eT,cT,nT',by simpa using dT⟩
   ·rw [aJ X3] at e
    exact .inl e
  ·rw [I.qe h1 ha,I.qe h2 hb]
   exact ⟨gx,gy⟩
  ·exact ⟨st2.1,st2.2.1,st2.2.2.1,st2.2.2.2.1,st2.2.2.2.2.1⟩
  ·rw [aJ]
   ·exact (hf c hc).1
   ·intro z
    subst z
    obtain ⟨o,e,_⟩:∃o,s.heap.get? c=some o∧True:=by
     simp only [List.mem_cons,List.not_mem_nil,or_false] at hc
     obtain ⟨c1,d1,s3⟩:=s3
     obtain ⟨o4,e4,_⟩:=s4
     obtain ⟨o5,e5,_⟩:=s5
     rcases hc with rfl | rfl | rfl | rfl | rfl
     ·exact ⟨_,s1,trivial⟩
     ·exact ⟨_,s2,trivial⟩
     ·exact ⟨_,s3,trivial⟩
     ·exact ⟨_,e4,trivial⟩
     ·exact ⟨_,e5,trivial⟩
    exact absurd (Heap.lt_size e) (Nat.not_lt.mpr hT)
 done:=by
  intro X hP hw hK hc i pins s σ H E I hf st hg
  subst hP hw hK
  obtain ⟨xs,ys,ha,hb,hi⟩:=hg
  obtain ⟨its,r1,p1,_⟩:=I.list ha
  obtain ⟨its2,r2,p2,_⟩:=I.list hb
  have l1:=r1.length
  have l2:=r2.length
  have W:=WalksT.zip2 (prog:=X.prog) (w:=X.w) (A:=X.A) (I.ok.hd hc) z TI TO i1 i2 a b D its.toArray its2.toArray
  obtain ⟨s1,s2,s3,s4,s5⟩:=st
  have e:i=min its.toArray.size its2.toArray.size:=by simp; omega
  subst e
  refine W.done s _ E ⟨s1,s2,s3,s4,s5,p1.isList,p2.isList⟩ fun h' tk kk=>⟨rfl,?_⟩
  have wf:∀c,c∈[z,TO,i1,i2]→jo X pins H c:=fun c hc=>hf c (by simp at hc ⊢; rcases hc with rfl | rfl | rfl | rfl <;> simp)
  exact I.qx kk wf (aP.refl H) (fun _ _ _ n=>n) fun _ _ e=>.inl e
 self:=fun _ _ _ _ _ st h=>wpAny_pyIter_zip st.1 h
noncomputable def aap (K:PySem.W.Frag) (t:TA):TI:=fun σ H R=>t σ H fun vs H1=>∃a b xs ys,vs=[.ref a,.ref b]∧cM K H1 a xs∧cM K H1 b ys∧R (Itz K a b) H1
theorem Vz {X:Cx} {es:List Expr} {k:Nat} {ps:Pos} {x y:Expr} {t:TA} {p pos:Pos} (hg:Gl X "zip") (hm:X.mg "zip"=none) (ha:PA X [x,y] t) (hs:starEach [x,y] X.env=[(false,eval x X.env),(false,eval y X.env)]:=by rfl) (hs2:starEach [y] X.env=[(false,eval y X.env)]:=by rfl):
  PI X (.Tuple es k ps) (.Call (.Name "zip" p) [x,y] [] pos) (aap X.K t):=by
 intro pins s σ H R I h
 refine Call_ (kj I hg hm PyProof.Rows.boot_zip (PyProof.Rows.callWith_type1 (cR (ha pos pins s σ H _ I h) fun us s1 aO=>?_) (by rw [hs,hs2]) (by rw [hs2]; rfl)))
 obtain ⟨vs,H1,I1,r1,q1⟩:=aO
 obtain ⟨a,b,xs,ys,e,h1,h2,q⟩:=q1
 subst e
 cases r1 with
 | cons r rr=>
  cases rr with
  | cons r' rr=>
   cases rr
   cases r
   cases r'
   obtain ⟨its,v1,p1,_⟩:=I1.list h1
   obtain ⟨its2,v2,p2,_⟩:=I1.list h2
   have lt1:a < s1.heap.objs.size:=by obtain ⟨_,e,_⟩:=p1.isList; exact Heap.lt_size e
   have Qt:b < s1.heap.objs.size:=by obtain ⟨_,e,_⟩:=p2.isList; exact Heap.lt_size e
   refine call_zip_2 p1.isList p2.isList fun h' g1 g2 g3 g4 g5 hsz kk=>?_
   refine wpAny_pyIter_zip g1 ?_
   have I2:Inv X pins σ H1 { s1 with heap:=h' }:=I1.kept (t':=s1.toks) kk
   refine ⟨s1.heap.objs.size + 4,[s1.heap.objs.size + 4,s1.heap.objs.size + 2,s1.heap.objs.size + 3,s1.heap.objs.size,s1.heap.objs.size + 1],_,_,H1,rfl,I2,MN (zipApart_new lt1 Qt),⟨g1,g2,⟨_,_,g3⟩,g4,g5⟩,fun c hc=>?_,q⟩
   refine I1.zj ?_ (I1.hok.fresh ?_)
   all_goals
    simp only [List.mem_cons,List.not_mem_nil,or_false] at hc
    rcases hc with rfl | rfl | rfl | rfl | rfl <;> omega
theorem FP {X:Cx} {pins:List (Addr×Obj)} {σ:St} {H:Hp} {s:Shared} {A:Around} {E:Value→Shared→Prop} {Q:Value→Shared→Prop} {b:Bool} {c:Addr} {its:List Value} {x:V} {u t:Value} (I:Inv X pins σ H s) (rx:RelV x u) (ty:mH X.K H x t) (e:PySem.W.kitAny X.K t its=some b)
  (hc:s.heap.IsTuple c its.toArray) (h:∀tk,Q (.bool b) { s with toks:=tk }):wpAny (model X.prog X.w) A (call (.builtin "isinstance") [u,.ref c]) Q E s:=by
 obtain ⟨⟨oc,od,oda,osl⟩,g1,g2,g3,g4⟩:=hc
 simp only at g2 g4
 subst g2 g4
 cases ty with
 | non=>cases (show u=Value.none from rx); exact PySem.W.kia_tup PySem.W.kitx_none I.rE True.intro g1 e (fun z=>nomatch z) h
 | bl y=>cases (show u=Value.bool y from rx); exact PySem.W.kia_tup PySem.W.kitx_bool I.rE True.intro g1 e (fun z=>nomatch z) h
 | int i=>obtain ⟨t,q⟩:=(show ∃t,u=Value.int i t from rx); cases q; exact PySem.W.kia_tup PySem.W.kitx_int I.rE True.intro g1 e (fun z=>nomatch z) h
 | str y=>obtain ⟨t,q⟩:=(show ∃t,u=Value.str y t from rx); cases q; exact PySem.W.kia_tup PySem.W.kitx_str I.rE True.intro g1 e (fun z=>nomatch z) h
 | flt y=>obtain ⟨t,q⟩:=(show ∃t,u=Value.float y t from rx); cases q; exact PySem.W.kia_tup PySem.W.kitx_float I.rE True.intro g1 e (fun z=>nomatch z) h
 | @lst a xs ea=>
  cases (show u=Value.ref a from rx)
  obtain ⟨_,_,n,_,h1⟩:=(show bL X.prog X.w H s.heap a (.lst xs) from I.hok a _ ea)
  exact PySem.W.kia_tup PySem.W.kitx_list I.rE ⟨_,h1,rfl⟩ g1 e (fun z=>nomatch z) h
 | @Bj a ob xs ea=>
  cases (show u=Value.ref a from rx)
  obtain ⟨_,_,_,n,_,h1⟩:=(show bL X.prog X.w H s.heap a (.Bj ob (.lst xs)) from I.hok a _ ea)
  exact PySem.W.kia_tup PySem.W.kitx_list I.rE ⟨_,h1,rfl⟩ g1 e (fun z=>nomatch z) h
 | @tup a xs ea=>
  cases (show u=Value.ref a from rx)
  obtain ⟨_,_,_,p⟩:=(show bL X.prog X.w H s.heap a (.tup xs) from I.hok a _ ea)
  obtain ⟨o,h1,h2,_⟩:=p
  exact PySem.W.kia_tup PySem.W.kitx_tuple I.rE ⟨o,h1,h2⟩ g1 e (fun z=>nomatch z) h
 | @dK a kvs ea=>
  cases (show u=Value.ref a from rx)
  obtain ⟨_,_,vs,_,p⟩:=(show bL X.prog X.w H s.heap a (.dK kvs) from I.hok a _ ea)
  obtain ⟨o,es,ep,h1,h2,_⟩:=p
  exact PySem.W.kia_tup PySem.W.kitx_dict I.rE ⟨o,h1,h2.1⟩ g1 e (fun z=>nomatch z) h
 | @dT a kvs ea=>
  cases (show u=Value.ref a from rx)
  obtain ⟨_,_,xs,_,o,es,ep,h1,h2,_⟩:=(show bL X.prog X.w H s.heap a (.dT kvs) from I.hok a _ ea)
  exact PySem.W.kia_tup PySem.W.kitx_dict I.rE ⟨o,h1,h2.1⟩ g1 e (fun z=>nomatch z) h
 | @ins a C dx fs ea cl ha hn htk hm=>
  cases (show u=Value.ref a from rx)
  obtain ⟨mA,O,_⟩:=Hq I.hok ea
  obtain ⟨od,J,_⟩:=O.look
  exact PySem.W.kia_tup (PySem.W.kitx_own (cl.get _) cl.hd ha hn htk hm) I.rE J g1 e (fun z=>nomatch z) h
theorem zL {X:Cx}:cJ X (.builtin "isinstance") (fun xs H Q=>∃x c m n t p q,xs=[x,.ref c]∧H c=some (.tup [.ty m,.ty n])∧mH X.K H x t∧PySem.W.kitOne X.K t (.type m)=some p∧PySem.W.kitOne X.K t (.type n)=some q∧Q (.bl (p || q)) H):=by
 intro pins s σ H xs us Q I r h
 obtain ⟨x,c,m,n,t,p,q,rfl,hc,ty,e1,e2,k⟩:=h
 obtain ⟨u,u2,rfl,r1,r2⟩:=vals2 r
 cases r2
 obtain ⟨_,its,rv,ob,g1,g2,g3⟩:=(show bL X.prog X.w H s.heap c (.tup [.ty m,.ty n]) from I.hok c _ hc)
 cases rv with
 | cons a1 rv=>
  cases rv with
  | cons a2 rv=>
   cases rv
   cases a1
   cases a2
   exact FP I r1 ty (Rf e1 e2) ⟨ob,g1,g2,g3⟩ fun tk=>⟨.bl (p || q),H,I.tok tk,rfl,k⟩
end L2
namespace L2
open PySem PySem.Spec PyProof.Rows PySem.W
section
variable {N:Nat} {lt:Nat→Nat→Bool} {α β:Type}
noncomputable def bM (N:Nat) (lt:Nat→Nat→Bool):KasT α→(α→Prop)→Prop
 | .ret a,R=>R a
 | .ask i j k,R=>i < N∧j < N∧bM N lt (k (lt i j)) R
theorem bM.mono {R S:α→Prop}:∀{t:KasT α},bM N lt t R→(∀a,R a→S a)→bM N lt t S
 | .ret a,h,f=>f a h
 | .ask i j k,h,f=>⟨h.1,h.2.1,bM.mono h.2.2 f⟩
theorem bM.bind {f:α→KasT β} {R:β→Prop}:∀{t:KasT α},bM N lt t (fun a=>bM N lt (f a) R)→bM N lt (t.bind f) R
 | .ret a,h=>h
 | .ask i j k,h=>⟨h.1,h.2.1,bM.bind h.2.2⟩
theorem bM.wp {cmp:Nat→Nat→(Bool→Shared→Prop)→Shared→Prop} {R:α→Prop} {Q:α→Shared→Prop} {s:Shared} (ask:∀i j,i < N→j < N→∀C:Bool→Shared→Prop,C (lt i j) s→cmp i j C s) (q:∀a,R a→Q a s):∀{t:KasT α},bM N lt t R→t.kasWp cmp Q s
 | .ret a,h=>q a h
 | .ask i j k,h=>ask i j h.1 h.2.1 _ (bM.wp ask q h.2.2)
noncomputable def KP (N:Nat) (p:Array Nat):Prop:=p.toList.Perm (List.range N)
theorem KP.ix {p:Array Nat} (h:KP N p) (h0:0 < N) (i:Nat):p.getD i 0 < N:=by
 by_cases hi:i < p.size
 ·have:p.getD i 0∈p.toList:=by simp [Array.getD,hi]
  exact List.mem_range.mp (h.mem_iff.mp this)
 ·simpa [Array.getD,hi] using h0
theorem KP.rev {p:Array Nat} (h:KP N p) (i j:Nat):KP N (kas_rev p i j):=((mirror_perm p i j _).toList).trans h
theorem KP.bub {p:Array Nat} (h:KP N p) (i j:Nat):KP N (bubble p i j):=((bubble_perm p i j).toList).trans h
theorem FQ {p:Array Nat} (h:KP N p) (h0:0 < N):∀f n,bM N lt (kas_asc p f n) fun _=>True
 | 0,n=>trivial
 | f + 1,n=>by
  refine ⟨h.ix h0 _,h.ix h0 _,?_⟩
  dsimp only
  split
  ·exact trivial
  ·exact FQ h h0 f (n + 1)
theorem uy (h0:0 < N):∀f (p:Array Nat) n q,KP N p→bM N lt (kas_desc f p n q) fun r=>KP N r.1
 | 0,p,n,q,h=>h
 | f + 1,p,n,q,h=>by
  refine ⟨h.ix h0 _,h.ix h0 _,?_⟩
  dsimp only
  split
  ·split
   ·exact uy h0 f _ _ _ (h.rev _ _)
   ·exact uy h0 f _ _ _ h
  ·refine ⟨h.ix h0 _,h.ix h0 _,?_⟩
   dsimp only
   split
   ·exact h
   ·exact uy h0 f _ _ _ h
theorem BR (h0:0 < N) {p:Array Nat} (h:KP N p) (n nrem:Nat):bM N lt (kas_tail3 n nrem p) fun r=>KP N r.2:=
 bM.bind (bM.mono (FQ (h.rev 0 n) h0 _ _) fun _ _=>h.rev 0 n)
theorem tO (h0:0 < N) {p:Array Nat} (h:KP N p) (n nrem:Nat):bM N lt (kas_descPart n nrem p) fun r=>KP N r.2:=by
 refine bM.bind (bM.mono (uy h0 _ p _ _ h) fun r hr=>?_)
 split
 ·exact BR h0 (KP.rev hr _ _) _ _
 ·exact BR h0 hr _ _
theorem MT (h0:0 < N) {p:Array Nat} (h:KP N p) (nrem:Nat):bM N lt (kas_count nrem p) fun r=>KP N r.2:=by
 refine bM.bind (bM.mono (FQ h h0 _ _) fun n _=>?_)
 split
 ·exact h
 ·split
  ·refine ⟨h.ix h0 _,h.ix h0 _,?_⟩
   dsimp only
   split
   ·exact h
   ·exact tO h0 (h.rev _ _) _ _
  ·exact tO h0 h _ _
theorem uZ (h0:0 < N) {p:Array Nat} (h:KP N p) (k:Nat):∀f l r,bM N lt (kas_place p k f l r) fun _=>True
 | 0,l,r=>trivial
 | f + 1,l,r=>by
  unfold kas_place
  split
  ·exact trivial
  ·refine ⟨h.ix h0 _,h.ix h0 _,?_⟩
   dsimp only
   split
   ·exact uZ h0 h k f _ _
   ·exact uZ h0 h k f _ _
theorem M3 (h0:0 < N):∀f (p:Array Nat) k,KP N p→bM N lt (kas_bin f p k) (KP N)
 | 0,p,k,h=>h
 | f + 1,p,k,h=>bM.bind (bM.mono (uZ h0 h k _ _ _) fun l _=>M3 h0 f _ _ (h.bub _ _))
theorem HB (h0:0 < N):bM N lt (kas_sort N) (KP N):=by
 refine bM.bind (bM.mono (MT h0 (p:=List.toArray (List.range N)) (List.Perm.refl _) N) fun r hr=>?_)
 split
 ·exact M3 h0 _ _ _ hr
 ·exact hr
end
noncomputable def kLt:Key→Key→Bool
 | .inl i,.inl j=>decide (i < j)
 | .inr x,.inr y=>decide (x.cps.toList < y.cps.toList)
 | _,_=>false
noncomputable def gr:List Key→List Key→Bool
 | a::r,b::t=>if a=b then gr r t else kLt a b
 | _,_=>false
noncomputable def dD:Key→Bool
 | .inl _=>true
 | .inr _=>false
section
variable {prog:Program} {w:World} {A:Around} {E:Value→Shared→Prop} {s:Shared} {Q:Bool→Shared→Prop}
theorem M4 {a b:Key} {u v:Value} {f:Bool} (ra:RelV (kV a) u) (rb:RelV (kV b) v) (ht:dD a=dD b) (h:Q (kLt a b) s):wpAny (model prog w) A (oneLt' f u v) Q E s:=by
 cases a with
 | inl i=>
  cases b with
  | inr y=>cases ht
  | inl j=>
   obtain ⟨t,rfl⟩:=ra
   obtain ⟨t',rfl⟩:=rb
   cases f with
   | true=>exact oneLt_int h
   | false=>exact kat_one _ _ (lt_int h)
 | inr x=>
  cases b with
  | inl y=>cases ht
  | inr y=>
   obtain ⟨t,rfl⟩:=ra
   obtain ⟨t',rfl⟩:=rb
   cases f with
   | true=>exact oneLt_str h
   | false=>exact kat_one _ _ (lt_str h)
theorem HD {a b:Key} (ht:dD a=dD b):Mm (kV a) (kV b)=decide (a=b):=by
 cases a with
 | inl i=>
  cases b with
  | inr y=>cases ht
  | inl j=>show (i==j)=_; rw [Bool.eq_iff_iff]; simp
 | inr x=>
  cases b with
  | inl y=>cases ht
  | inr y=>show (x==y)=_; rw [Bool.eq_iff_iff]; simp
theorem qy (a:Key):jY (kV a)=true:=by cases a <;> rfl
theorem BV:∀{ks js:List Key} {us vs:List Value} {i:Nat},Vals (ks.map kV) us→Vals (js.map kV) vs→ks.map dD=js.map dD→Q (gr ks js) s→KatLex prog w A true false Q (us.zip vs) i s
 | [],[],_,_,_,ra,rb,_,h=>by
  cases ra
  cases rb
  exact kat_nil h
 | [],_::_,_,_,_,_,_,e,_=>by cases e
 | _::_,[],_,_,_,_,_,e,_=>by cases e
 | a::ks,b::js,us,vs,i,ra,rb,e,h=>by
  cases ra with
  | cons r1 ra=>
   cases rb with
   | cons r2 rb=>
    have e1:dD a=dD b:=(List.cons.inj e).1
    have e2:=(List.cons.inj e).2
    refine kat_cons (Fj r1 r2 (qy a) (qy b) prog w _ _ ?_)
    rw [HD e1]
    unfold gr at h
    by_cases hab:a=b
    ·rw [if_pos hab] at h
     rw [decide_eq_true hab]
     exact kat_yes (BV ra rb e2 h)
    ·rw [if_neg hab] at h
     rw [decide_eq_false hab]
     exact kat_no (M4 r1 r2 e1 h)
end
section
variable {prog:Program} {w:World} {A:Around} {E:Value→Shared→Prop} {s:Shared} {vs:List Value} {κ:SortKind} {lt:Nat→Nat→Bool} {Rl:List Nat→Prop}
noncomputable def Kp (a:Addr) (h h':Heap):Prop:=∀b o,b≠a→h.get? b=some o→h'.get? b=some o
theorem u5 {a:Addr} {n:Nat} {P:PySem.Fin→Shared→Prop} (ho:s.heap.get? a=some (seqObj "list" vs.toArray n)) (h64:vs.length < 64) (hg:2≤vs.length→bM vs.length lt (kas_sort vs.length) fun p=>KP vs.length p∧Rl p.toList) (hsm:vs.length < 2→Rl (List.range vs.length))
  (hk:2≤vs.length→∀s':Shared,Kp a s.heap s'.heap→∀Q:SortKind→Shared→Prop,Q κ s'→wpAny (model prog w) A (keyKind' vs.toArray) Q (fun _ _=>False) s')
  (hl:2≤vs.length→∀s':Shared,Kp a s.heap s'.heap→∀i j,i < vs.length→j < vs.length→∀C:Bool→Shared→Prop,C (lt i j) s'→kas_ask prog w A κ vs i j C s')
  (h:∀(p:List Nat) (h':Heap) (c:Nat),p.Perm (List.range vs.length)→Rl p→Kp a s.heap h'→h'.get? a=some (seqObj "list" (p.map fun i=>vs.getD i Value.none).toArray c)→P (.done (.ret .none)) { s with heap:=h' }):
  wpAny (model prog w) A (Builtin.«list.sort» ⟨[.ref a],[]⟩) P E s:=by
 have lta:a < s.heap.objs.size:=Heap.lt_size ho
 obtain ⟨e1,ho1⟩:∃e1,(s.heap.update a (Obj.mapSeq fun _=>(#[]:Array Value))).get? a=some (seqObj "list" #[] e1):=⟨_,get?_update_seq ho fun _=>#[]⟩
 have sz:vs.length≤sizeLine:=by rw [sizeLine_eq]; omega
 have kp:Kp a s.heap (((s.heap.update a (Obj.mapSeq fun _=>(#[]:Array Value))).push (seqObj "tuple" vs.toArray 0)).push (seqObj "list" #[] 0)):=fun b o hb e=>
  Heap.get?_push_of_some _ (Heap.get?_push_of_some _ (((Heap.SameBut.update s.heap a _).2 b hb).trans e))
 have X4:(((s.heap.update a (Obj.mapSeq fun _=>(#[]:Array Value))).push (seqObj "tuple" vs.toArray 0)).push (seqObj "list" #[] 0)).get? a=some (seqObj "list" #[] e1):=Heap.get?_push_of_some _ (Heap.get?_push_of_some _ ho1)
 rw [list_sort_plain]
 refine wpAny_bind (listItems_at ho rfl (wpAny_bind (listUpdate_at ho rfl (wpAny_bind (seqEpoch_at ho1 rfl (wpAny_bind (wpAny_newTuple (wpAny_bind (wpAny_newList (wpAny_holding ?_) (Nat.zero_le _))) (by show vs.length≤_; exact sz))))) (by rw [List.size_toArray]; exact sz) (Nat.zero_le _))))
 show wpAny (model prog w) A _ P E { s with heap:=((s.heap.update a (Obj.mapSeq fun _=>(#[]:Array Value))).push (seqObj "tuple" vs.toArray 0)).push (seqObj "list" #[] 0) }
 dsimp only
 have fin:∀(p:List Nat),p.Perm (List.range vs.length)→Rl p→∀out:Array Value,out=(p.map fun i=>vs.getD i Value.none).toArray→
   P (.done (.ret .none)) { s with heap:=(((s.heap.update a (Obj.mapSeq fun _=>(#[]:Array Value))).push (seqObj "tuple" vs.toArray 0)).push (seqObj "list" #[] 0)).update a (Obj.mapSeq fun _=>out) }:=fun p hp hrl out eo=>by
  subst eo
  refine h p _ _ hp hrl (fun b o hb e=>((Heap.SameBut.update _ a _).2 b hb).trans (kp b o hb e)) (get?_update_seq X4 _)
 by_cases h2:vs.toArray.size < 2
 ·rw [if_pos h2,if_pos h2]
  refine wpAny_bind (wpAny_pure ?_)
  rw [StateT.run_pure]
  refine wpAny_bind (wpAny_pure ?_)
  dsimp only
  have hz:(pairsOf vs).size≤sizeLine:=by rw [pairsOf_size]; exact sz
  refine wpAny_bind (seqEpoch_at X4 rfl (wpAny_bind (listUpdate_at X4 rfl ?_ (hsz2:=by rw [Array.size_map]; show (pairsOf vs).size≤_; omega))))
  simp only [bne_self_eq_false,Bool.false_eq_true,if_false]
  refine wpAny_pure (fin (List.range vs.length) (List.Perm.refl _) (hsm (by simpa using h2)) _ ?_)
  apply Array.toList_inj.mp
  show ((vs.toArray.zip vs.toArray).map (·.2)).toList=_
  rw [Array.toList_map,Array.toList_zip,List.map_snd_zip (Nat.le_refl _)]
  show vs=_
  refine List.ext_getElem (by simp) fun i h1 h3=>?_
  simp [List.getD,h1]
 ·have h2':2≤vs.length:=by simpa using h2
  rw [if_neg h2,if_neg h2]
  refine wpAny_bind (wpAny_mono (hk h2' _ kp (fun k s'=>k=κ∧s'={ s with heap:=((s.heap.update a (Obj.mapSeq fun _=>(#[]:Array Value))).push (seqObj "tuple" vs.toArray 0)).push (seqObj "list" #[] 0) }) ⟨rfl,rfl⟩) (fun k s0 hk0=>?_) fun _ _ x=>x.elim)
  obtain ⟨rfl,rfl⟩:=hk0
  refine wpAny_bind (wpAny_mono (kat_run (ks:=vs) (vs:=vs) (Q:=fun st' s'=>∃p:Array Nat,(KP vs.length p∧Rl p.toList)∧arrOf st'=p.map (kas_item (vs.toArray.zip vs.toArray))∧failedOf st'=none∧s'={ s with heap:=((s.heap.update a (Obj.mapSeq fun _=>(#[]:Array Value))).push (seqObj "tuple" vs.toArray 0)).push (seqObj "list" #[] 0) })
   rfl h2' h64 (G:=fun p s'=>(KP vs.length p∧Rl p.toList)∧s'={ s with heap:=((s.heap.update a (Obj.mapSeq fun _=>(#[]:Array Value))).push (seqObj "tuple" vs.toArray 0)).push (seqObj "list" #[] 0) }) (fun p st' s' a1 a2 a3 a4=>⟨p,a4.1,a2,a3,a4.2⟩) (bM.wp (lt:=lt) (hl h2' _ kp) (fun p hp=>⟨hp,rfl⟩) (hg h2'))) ?_ fun _ _ e=>e)
  rintro ⟨⟨⟩,st'⟩ s' ⟨p,⟨hp,hrl⟩,har,hf,rfl⟩
  dsimp only
  have hout:=kat_snds (ks:=vs) (vs:=vs) rfl har
  have hps:p.toList.length=vs.length:=by rw [hp.length_eq,List.length_range]
  rw [hout]
  refine wpAny_bind (seqEpoch_at X4 rfl (wpAny_bind (listUpdate_at X4 rfl ?_ (Nat.zero_le _) (by rw [List.size_toArray,List.length_map,hps]; omega))))
  rw [hf]
  simp only [bne_self_eq_false,Bool.false_eq_true,if_false]
  exact wpAny_pure (fin p.toList hp hrl _ rfl)
theorem tQ {r:Addr} {Q:Value→Shared→Prop} (h64:vs.length < 64) (hg:2≤vs.length→bM vs.length lt (kas_sort vs.length) fun p=>KP vs.length p∧Rl p.toList) (hsm:vs.length < 2→Rl (List.range vs.length))
  (hc:∀R:List Value→Shared→Prop,(∀us h1 tk,s.heap.objs.size≤h1.objs.size→(∀b o,s.heap.get? b=some o→h1.get? b=some o)→us=vs→R us { s with heap:=h1,toks:=tk })→wpAny (model prog w) A.in1 (collect (.ref r)) R E s)
  (hk:2≤vs.length→∀s':Shared,(∀b o,s.heap.get? b=some o→s'.heap.get? b=some o)→∀Q:SortKind→Shared→Prop,Q κ s'→wpAny (model prog w) A.in1.in1 (keyKind' vs.toArray) Q (fun _ _=>False) s')
  (hl:2≤vs.length→∀s':Shared,(∀b o,s.heap.get? b=some o→s'.heap.get? b=some o)→∀i j,i < vs.length→j < vs.length→∀C:Bool→Shared→Prop,C (lt i j) s'→kas_ask prog w A.in1.in1 κ vs i j C s')
  (h:∀(p:List Nat) (D:Addr) (h':Heap) (c tk:Nat),p.Perm (List.range vs.length)→Rl p→s.heap.objs.size≤D→(∀b o,s.heap.get? b=some o→h'.get? b=some o)→h'.get? D=some (seqObj "list" (p.map fun i=>vs.getD i Value.none).toArray c)→Q (.ref D) { s with heap:=h',toks:=tk }):
  wpAny (model prog w) A (call (.builtin "sorted") [.ref r]) Q E s:=by
 refine Calls.call_function_entry kind_sorted plain_sorted entry_sorted (args_sorted1 _) ?_
 unfold Builtin.«sorted»
 refine wpAny_bind (m:=checkCount "sorted" 1 1 _) (wpAny_pure (wpAny_bind (hc _ fun us h1 tk hsz kk eu=>?_)))
 subst eu
 refine wpAny_bind (wpAny_newList ?_ (by rw [sizeLine_eq]; omega))
 have hoL:(h1.push (seqObj "list" us.toArray 0)).get? h1.objs.size=some (seqObj "list" us.toArray 0):=Heap.get?_push_size _ rfl
 have ltD:∀b o,s.heap.get? b=some o→b≠h1.objs.size:=fun b o e=>Nat.ne_of_lt (Heap.lt_size (kk b o e))
 have up:∀s':Shared,Kp h1.objs.size (h1.push (seqObj "list" us.toArray 0)) s'.heap→∀b o,s.heap.get? b=some o→s'.heap.get? b=some o:=fun s' k b o e=>k b o (ltD b o e) (Heap.get?_push_of_some _ (kk b o e))
 refine wpAny_bind (wpAny_holding (wpAny_call_entry slot_list_sort ⟨_,hoL,rfl⟩ entry_list_sort (u5 (κ:=κ) (lt:=lt) (s:={ s with heap:=h1.push (seqObj "list" us.toArray 0),toks:=tk }) hoL h64 hg hsm (fun h2 s' k=>hk h2 s' (up s' k)) (fun h2 s' k=>hl h2 s' (up s' k)) fun p h' c hp hrl k e=>⟨_,rfl,?_⟩) (args_list_sort _)))
 exact wpAny_pure ⟨_,rfl,h p h1.objs.size h' c tk hp hrl hsz (up { s with heap:=h' } k) e⟩
end
end L2
namespace L2
open PySem PySem.Spec PyProof.Rows PySem.W
noncomputable def BW (h:Heap) (d:Addr) (es:Array DictEntry) (ep:Nat):Prop:=∃o,h.get? d=some o∧o.ExactDict∧o.data=.dict es ep
section
variable {prog:Program} {w:World} {A:Around} {E:Value→Shared→Prop} {s:Shared} {d it:Addr} {es:Array DictEntry} {ep i:Nat}
theorem BW.ty (h:BW s.heap d es ep):s.TypeIs (.ref d) "dict":=let ⟨o,ho,hc,_⟩:=h; ⟨o,ho,hc.1⟩
theorem M5 {Q:Value→Shared→Prop} (hd:(d==sysModules)=false) (hm:BW s.heap d es ep)
  (hQ:Q (.ref s.heap.objs.size) { s with heap:=s.heap.push { cls:=.type "dict_keyiterator",data:=.fields #[.ref d,.int 0 0,.int es.size 0,.int ep 0] } }):wpAny (model prog w) A (pyIter (.ref d)) Q E s:=by
 obtain ⟨o,ho,hc,hdat⟩:=id hm
 have hT:=hm.ty
 refine wpAny_pyIter_slot hT F.slot_dict_iter (wpAny_call_entry F.slot_dict_iter hT F.entry_dict_iter ?_ (F.args_dict_iter_1 _)); unfold Builtin.«dict.__iter__»
 refine wpAny_bind ?_; unfold Builtin.Dict.dictSlotNone
 refine wpAny_bind (wpAny_notOrdered_dict hT ?_); show wpAny _ _ (pure (Value.ref d)) _ _ s
 refine wpAny_pure ?_; show wpAny _ _ (Builtin.Dict.showsAll d >>= _) _ _ s
 unfold Builtin.Dict.showsAll; rw [if_neg (by rw [hd]; exact Bool.false_ne_true)]
 refine wpAny_bind (wpAny_pure (wpAny_bind (wpAny_dictEntries ho hdat (wpAny_bind (wpAny_dictEpoch ho hdat ?_)))))
 refine wpAny_bind (wpAny_newObj_type (wpAny_pure ⟨_,rfl,"dict_keyiterator",_,⟨_,Heap.get?_push_size _ rfl,rfl⟩,F.slot_dict_keyiterator_next.lookup,?_⟩)); simpa [rawInt] using hQ
theorem M6 {Q:Option Value→Shared→Prop} (hit:s.heap.IsKeyIter it d i es.size ep) (hm:BW s.heap d es ep) (hlt:i < es.size)
  (hQ:∀h',h'.IsKeyIter it d (i + 1) es.size ep→Heap.SameBut it s.heap h'→Q (some es[i].key) { s with heap:=h' }):wpAny (model prog w) A (pyNext (.ref it)) Q E s:=by
 obtain ⟨o,ho,hc,hd⟩:=id hit; obtain ⟨od,hod,hcd,hdd⟩:=id hm
 unfold pyNext; refine wpAny_bind (wpAny_attempt (wpAny_callSpecial?_slot (name:=Str.ofString "__next__") hit.typeIs F.slot_dict_keyiterator_next (wpAny_call_entry F.slot_dict_keyiterator_next hit.typeIs F.entry_dict_keyiterator_next ?_ (F.args_dict_keyiterator_next_1 _))))
 refine wpAny_bind (wpAny_pure ?_); refine wpAny_bind ?_; refine wpAny_bind ?_
 first | refine wpAny_bind (wpAny_typeNameOfWhole_keyiter hit.typeIs (wpAny_pure (wpAny_bind (wpAny_fieldsOf ho hd ?_)))) | refine wpAny_bind (wpAny_typeNameOf_keyiter hit.typeIs (wpAny_pure (wpAny_bind (wpAny_fieldsOf ho hd ?_))))
 have own:Builtin.Dict_items.ownsTuple "dict_keyiterator"=false:=by decide
 simp only [own,Bool.false_eq_true,if_false]; show wpAny _ _ (if (Value.ref d==Value.none)=true then _ else _) _ _ s
 rw [if_neg (show ¬((Value.ref d==Value.none)=true) from Bool.false_ne_true)]; refine wpAny_bind (wpAny_pure (wpAny_bind (wpAny_dictEntries hod hdd ?_)))
 rw [if_neg (by simp)]; refine wpAny_bind (wpAny_pure (wpAny_bind (wpAny_dictEpoch hod hdd ?_)))
 rw [if_neg (by simp)]; refine wpAny_pure ?_
 simp only [show ¬((i:Int) < 0) from by omega,if_false,Int.toNat_natCast,Array.getElem?_eq_getElem hlt]; refine wpAny_bind ?_
 first | refine wpAny_bind (wpAny_typeNameOfWhole_keyiter hit.typeIs (wpAny_pure (wpAny_bind (wpAny_isOneOf_keyiter hit.typeIs ?_)))) | refine wpAny_bind (wpAny_typeNameOf_keyiter hit.typeIs (wpAny_pure (wpAny_bind (wpAny_isOneOf_keyiter hit.typeIs ?_))))
 show wpAny _ _ (setField (.ref it) 1 (rawInt ((i:Int) + 1)) >>= _) _ _ s; refine wpAny_bind (wpAny_setField ho hd (by simp) ?_)
 have hit':(s.heap.update it (Obj.mapFields (·.setIfInBounds 1 (rawInt ((i:Int) + 1))))).IsKeyIter it d (i + 1) es.size ep:=⟨_,Heap.get?_update_self _ ho (Obj.isFreed_of_fields (Obj.data_mapFields hd _)),(Obj.cls_mapFields ..).trans hc,by rw [Obj.data_mapFields hd]; simp [rawInt]⟩
 refine wpAny_bind (wpAny_holding ?_); refine wpAny_bind (wpAny_isOneOf_keyiter (s:={ s with heap:=s.heap.update it (Obj.mapFields (·.setIfInBounds 1 (rawInt ((i:Int) + 1)))) }) hit'.typeIs ?_)
 show wpAny _ _ (pure es[i].key) _ _ _; exact wpAny_pure (wpAny_pure ⟨_,rfl,wpAny_pure (hQ _ hit' (Heap.SameBut.update ..))⟩)
theorem Rg {Q:Option Value→Shared→Prop} (hh:A.handled=none) (hit:s.heap.IsKeyIter it d i es.size ep) (hm:BW s.heap d es ep) (hge:es.size≤i)
  (hQ:∀h',Heap.ExtBut it s.heap h'→Q none { s with heap:=h' }):wpAny (model prog w) A (pyNext (.ref it)) Q E s:=by
 obtain ⟨o,ho,hc,hd⟩:=id hit; obtain ⟨od,hod,hcd,hdd⟩:=id hm
 unfold pyNext; refine wpAny_bind (wpAny_attempt (wpAny_callSpecial?_slot (name:=Str.ofString "__next__") hit.typeIs F.slot_dict_keyiterator_next (wpAny_call_entry F.slot_dict_keyiterator_next hit.typeIs F.entry_dict_keyiterator_next ?_ (F.args_dict_keyiterator_next_1 _))))
 refine wpAny_bind (wpAny_pure ?_); refine wpAny_bind ?_; refine wpAny_bind ?_
 first | refine wpAny_bind (wpAny_typeNameOfWhole_keyiter hit.typeIs (wpAny_pure (wpAny_bind (wpAny_fieldsOf ho hd ?_)))) | refine wpAny_bind (wpAny_typeNameOf_keyiter hit.typeIs (wpAny_pure (wpAny_bind (wpAny_fieldsOf ho hd ?_))))
 have own:Builtin.Dict_items.ownsTuple "dict_keyiterator"=false:=by decide
 simp only [own,Bool.false_eq_true,if_false]; show wpAny _ _ (if (Value.ref d==Value.none)=true then _ else _) _ _ s
 rw [if_neg (show ¬((Value.ref d==Value.none)=true) from Bool.false_ne_true)]; refine wpAny_bind (wpAny_pure (wpAny_bind (wpAny_dictEntries hod hdd ?_)))
 rw [if_neg (by simp)]; refine wpAny_bind (wpAny_pure (wpAny_bind (wpAny_dictEpoch hod hdd ?_)))
 rw [if_neg (by simp)]; refine wpAny_pure ?_
 simp only [show ¬((i:Int) < 0) from by omega,if_false,Int.toNat_natCast,Array.getElem?_eq_none hge]; refine wpAny_bind ?_
 first | refine wpAny_bind (wpAny_typeNameOfWhole_keyiter hit.typeIs (wpAny_pure ?_)) | refine wpAny_bind (wpAny_typeNameOf_keyiter hit.typeIs (wpAny_pure ?_))
 show wpAny _ _ (setField (.ref it) 0 .none >>= _) _ _ s; refine wpAny_bind (wpAny_setField ho hd (by simp) ?_)
 show wpAny _ _ (newExc (.type "StopIteration") [] >>= _) _ _ _; refine wpAny_bind ?_; simp only [newExc,newTuple]
 refine wpAny_bind (wpAny_newObj_type ?_ (by size_fits)); refine wpAny_bind (m:=firstArgMember _ _) (wpAny_of_eq (a:=Value.none) (by first | rfl | (simp only [firstArgMember]; rfl)) ?_)
 refine wpAny_newObj_type ?_ (by size_fits); simp only [raiseNew]; refine wpAny_bind (wpAny_handled ?_)
 rw [show A.in1.handled=none from hh]; refine wpAny_bind (wpAny_pure (wpAny_throw ?_))
 refine wpAny_bind (wpAny_isInstance (T:="StopIteration") (b:=true) ⟨_,Heap.get?_push_size _ rfl,rfl⟩ isSubtype_stop ?_); exact wpAny_pure (hQ _ (((Heap.SameBut.update ..).extBut.push _).push _))
theorem J6 (hh:A.handled=none) (hne:d≠it):Walks prog w A it [it,d] [it] es.size (fun i v=>(es[i]?).map (·.key)=some v) (fun i h=>h.IsKeyIter it d i es.size ep∧BW h d es ep) where
 sub:=fun b hb=>by simp at hb; simp [hb]
 frame:=fun _ _ _ st hk=>⟨st.1.at fun o e=>hk it (by simp) o e,let ⟨o,ho,r⟩:=st.2; ⟨o,hk d (by simp) o ho,r⟩⟩
 item:=fun i s Q E hi st hQ=>M6 st.1 st.2 hi fun h' hit' hs'=>hQ _ h' s.toks (by simp [hi]) ⟨hit',let ⟨o,ho,r⟩:=st.2; ⟨o,(hs'.2 d hne).trans ho,r⟩⟩ fun b o hb e=>(hs'.2 b fun z=>hb (by simp [z])).trans e
 done:=fun s Q E st hQ=>Rg hh st.1 st.2 (Nat.le_refl _) fun h' he'=>hQ h' s.toks fun b o hb e=>he' b o (fun z=>hb (by simp [z])) e
 self:=fun _ _ _ _ st hQ=>wpAny_pyIter_keyiter st.1 hQ
theorem Rh (lo:(d==sysModules)=false):KdlSrc prog w "dict" d d es.size (fun i v=>(es[i]?).map (·.key)=some v) (fun h=>BW h d es ep) where
 type:=fun _ hm=>hm.ty
 there:=fun _ hm=>let ⟨_,ho,_⟩:=hm; ⟨Heap.lt_size ho,Heap.lt_size ho⟩
 keep:=fun _ _ hm hk=>let ⟨o,ho,r⟩:=hm; ⟨o,hk d (.inl rfl) o ho,r⟩
 notList:=by decide
 notTuple:=by decide
 hint:=fun _ _ _ _ hm hq=>kdl_hint_dict hm.ty hq
 iter:=fun _ _ hh hm=>⟨_,_,(fun _ _ hq=>M5 lo hm hq),J6 hh (let ⟨_,ho,_⟩:=hm; Nat.ne_of_lt (Heap.lt_size ho)),⟨⟨_,Heap.get?_push_size _ rfl,rfl,rfl⟩,let ⟨o,ho,r⟩:=hm; ⟨o,Heap.get?_push_of_some _ ho,r⟩⟩⟩
theorem BX {T:String} {r d:Addr} {n:Nat} {P:Nat→Value→Prop} {OK:Heap→Prop} {R:List Value→Shared→Prop} (K:KdlSrc prog w T r d n P OK) (hh:A.handled=none) (hok:OK s.heap) (hn:n≤sizeLine)
  (h:∀(h':Heap) (tk:Nat) (acc:Array Value),s.heap.objs.size≤h'.objs.size→(∀b o,s.heap.get? b=some o→h'.get? b=some o)→ItemsOf P acc n→R acc.toList { s with heap:=h',toks:=tk }):
  wpAny (model prog w) A (collect (.ref r)) R E s:=by
 have hlt:=K.there _ hok
 unfold collect; refine wpAny_bind (wpAny_runValue (codeAny_builtin entry_proto_collect' ?_)); rw [Around.under_plainId PySem.F.plain_proto_collect _]
 show wpAny _ A.in1 (newList [] >>= fun l=>again (.builtin "list.__iadd__" ⟨[l,.ref r],[]⟩)) _ _ s; refine wpAny_bind (wpAny_newObj_type ?_)
 refine wpAny_pure ⟨plainId_quiet PySem.F.plain_list_iadd _,codeAny_builtin entry_list_iadd' ?_⟩; rw [Around.under_plainId PySem.F.plain_list_iadd _]
 have hS:(s.heap.push { cls:=.type "list",data:=.seq ([]:List Value).toArray }).get? s.heap.objs.size=some { cls:=.type "list",data:=.seq #[] }:=Heap.get?_push_size _ rfl
 show wpAny _ A.in1 (Builtin.List.listExtendWith (.ref s.heap.objs.size) (.ref r) (.ref s.heap.objs.size)) _ _ _
 have key:=kdl_extend (A:=A) (s:={ s with heap:=s.heap.push { cls:=.type "list",data:=.seq ([]:List Value).toArray } }) (R:=fun (q:Result) (s':Shared)=>∃(h':Heap) (tk:Nat) (acc':Array Value) (c':Nat),q=.ok (.ret (.ref s.heap.objs.size))∧s'={ s with heap:=h',toks:=tk }∧(∀b o,s.heap.get? b=some o→h'.get? b=some o)∧h'.get? s.heap.objs.size=some { cls:=.type "list",dict:=none,data:=.seq acc' c',slots:=#[] }∧ItemsOf P acc' n)
  K hh (K.keep _ _ hok fun b _ o e=>Heap.get?_push_of_some _ e) s.heap.objs.size (Nat.ne_of_gt hlt.1) (Nat.ne_of_gt hlt.2) (.ref s.heap.objs.size) 0 hS (fun h' tk acc' c' hk hS' hacc=>⟨h',tk,acc',c',rfl,rfl,fun b o e=>hk b o (Nat.ne_of_lt (Heap.lt_size e)) (Heap.get?_push_of_some _ e),hS',hacc⟩) hn
 refine wpAny_mono key (fun fin s' x=>?_) fun e s' x=>?_
 ·cases fin with
  | done f=>
   obtain ⟨h',tk,acc',c',e,rfl,hk,hS',hacc⟩:=x
   cases e; show wpAny _ A (load s.heap.objs.size >>= _) _ _ _
   exact wpAny_bind (wpAny_load hS' (wpAny_pure (h h' tk acc' (Nat.le_of_lt (Heap.lt_size hS')) hk hacc)))
  | again c₁=>
   refine ⟨x.1,codeAny_mono x.2 fun q s₂ y=>?_⟩
   obtain ⟨h',tk,acc',c',rfl,rfl,hk,hS',hacc⟩:=y
   show wpAny _ A (load s.heap.objs.size >>= _) _ _ _; exact wpAny_bind (wpAny_load hS' (wpAny_pure (h h' tk acc' (Nat.le_of_lt (Heap.lt_size hS')) hk hacc)))
 ·obtain ⟨_,_,_,_,e',_⟩:=x; cases e'
end
end L2
namespace L2
open PySem PySem.Spec PyProof.Rows PySem.W
theorem rP:∀{us:List Value} {ns:List Str},StrsAre us ns→Vals (ns.map V.str) us
 | _,_,.nil=>.nil
 | _,_,.cons _ t r=>.cons ⟨t,rfl⟩ (rP r)
section
variable {X:Cx}
theorem rQ:cJ X (.builtin "sorted") (fun xs H Q=>∃(p:Addr) (ns:List Int),xs=[.ref p]∧cM X.K H p (ns.map V.int)∧ns.length < 64∧∀(l:Addr) (ns':List Int),H l=none→ns'.Perm ns→ns'.Pairwise (·≤·)→Q (.ref l) (upd H l (.lst (ns'.map V.int)))):=by
 intro pins s σ H xs us Q I r h
 obtain ⟨p,ns,rfl,hp,h64,q⟩:=h
 obtain ⟨u,rfl,ru⟩:=vals1 r
 cases ru
 obtain ⟨its,rv,pl,_⟩:=I.list hp
 have hi:IntsAre its ns:=intsAre_of rv
 have hl:=rv.length
 rw [List.length_map] at hl
 refine sorted_ints pl.isList hi (by omega) fun out ns' a1 a2 a3=>?_
 obtain ⟨e,he⟩:=sortedAll_at s.heap its out
 have hz:ns'.length≤sizeLine:=by rw [a2.length_eq,sizeLine_eq]; omega
 exact ⟨.ref (s.heap.objs.size + 1),_,I.laid (o:=.lst (ns'.map V.int)) (t':=s.toks) (fun _ _=>sortedAll_old) (Nat.le_succ _) ⟨by rw [List.length_map]; exact hz,out.toList,e,rO a1,by simpa [seqObj] using he⟩,rfl,q _ ns' (I.hok.fresh (Nat.le_succ _)) a2 a3⟩
theorem rR:cJ X (.builtin "sorted") (fun xs H Q=>∃(p:Addr) (ns:List Str),xs=[.ref p]∧cM X.K H p (ns.map V.str)∧ns.length < 64∧∀(l:Addr) (ns':List Str),H l=none→ns'.Perm ns→sortedS ns'=true→Q (.ref l) (upd H l (.lst (ns'.map V.str)))):=by
 intro pins s σ H xs us Q I r h
 obtain ⟨p,ns,rfl,hp,h64,q⟩:=h
 obtain ⟨u,rfl,ru⟩:=vals1 r
 cases ru
 obtain ⟨its,rv,pl,_⟩:=I.list hp
 have hi:StrsAre its ns:=pH rv
 have hl:=rv.length
 rw [List.length_map] at hl
 refine sorted_strs pl.isList hi (by omega) fun out ns' a1 a2 a3=>?_
 obtain ⟨e,he⟩:=sortedAll_at s.heap its out
 have hz:ns'.length≤sizeLine:=by rw [a2.length_eq,sizeLine_eq]; omega
 exact ⟨.ref (s.heap.objs.size + 1),_,I.laid (o:=.lst (ns'.map V.str)) (t':=s.toks) (fun _ _=>sortedAll_old) (Nat.le_succ _) ⟨by rw [List.length_map]; exact hz,out.toList,e,rP a1,by simpa [seqObj] using he⟩,rfl,q _ ns' (I.hok.fresh (Nat.le_succ _)) a2 a3⟩
theorem gn.aN {k:Nat} {A:Around} (r:gn k A):A.units + 1 < cLine:=by have:=r.un; omega
noncomputable abbrev Row:=Addr×List Key
noncomputable def TupAt (h:Heap) (r:Row):Prop:=∃its,Vals (r.2.map kV) its∧IsTup h r.1 its.toArray
theorem TupAt.keep {h h':Heap} {r:Row} (t:TupAt h r) (k:∀b o,h.get? b=some o→h'.get? b=some o):TupAt h' r:=by
 obtain ⟨its,v,o,e,c⟩:=t
 exact ⟨its,v,o,k _ _ e,c⟩
theorem HF {h:Heap} {b:Bool} {sh:List Bool}:∀{rows:List Row},(∀r∈rows,TupAt h r∧r.2.map dD=b::sh)→∃fs,KatTups h (rows.map fun r=>Value.ref r.1) fs∧fs.length=rows.length∧∀f∈fs,∃k,RelV (kV k) f∧dD k=b
 | [],_=>⟨[],KatTups.nil,rfl,by simp⟩
 | r::rows,ha=>by
  obtain ⟨fs,t,l,g⟩:=HF (rows:=rows) fun q hq=>ha q (List.mem_cons_of_mem _ hq)
  obtain ⟨⟨its,v,o,e,c,n,d⟩,s⟩:=ha r List.mem_cons_self
  obtain ⟨a,ks⟩:=r
  cases ks with
  | nil=>cases s
  | cons k ks=>
   cases v with
   | @cons _ u _ us v1 v2=>
    refine ⟨u::fs,KatTups.cons e c d (by simp) t,by simp [l],fun f hf=>?_⟩
    rcases List.mem_cons.mp hf with rfl | hf
    ·exact ⟨k,v1,(List.cons.inj s).1⟩
    ·exact g f hf
theorem J7 {M:Model} {h:Heap} {k:Key} {f:Value} {b:Bool} (r:RelV (kV k) f) (e:dD k=b):Looks M h (typeOf f) (if b=true then .type "int" else .type "str"):=by
 subst e
 cases k with
 | inl i=>obtain ⟨t,rfl⟩:=r; exact Looks.of_pure rfl
 | inr i=>obtain ⟨t,rfl⟩:=r; exact Looks.of_pure rfl
theorem u6 (rows:List Row) {i:Nat} (hi:i < rows.length):(rows.map fun r=>Value.ref r.1).getD i Value.none=.ref rows[i].1:=by simp [List.getD,hi]
noncomputable def rowAt (rows:List Row) (i:Nat):List Key:=((rows[i]?).map (·.2)).getD []
theorem rT {prog:Program} {w:World} {A:Around} {s':Shared} {rows:List Row} {b:Bool} {sh:List Bool} (ha:∀r∈rows,TupAt s'.heap r∧r.2.map dD=b::sh) (h0:0 < rows.length) (Q:SortKind→Shared→Prop) (q:Q (tuples' true) s'):
  wpAny (model prog w) A (keyKind' (rows.map fun r=>Value.ref r.1).toArray) Q (fun _ _=>False) s':=by
 obtain ⟨fs,t,l,g⟩:=HF ha
 refine kat_kind (T:=if b=true then .type "int" else .type "str") t (by omega) (fun v hv=>?_) (by cases b <;> rfl) (by cases b <;> exact q)
 obtain ⟨k,r,e⟩:=g v hv
 exact J7 r e
theorem Ri {prog:Program} {w:World} {A:Around} {s':Shared} {rows:List Row} {sh:List Bool} (ha:∀r∈rows,TupAt s'.heap r∧r.2.map dD=sh) {i j:Nat} (hi:i < rows.length) (hj:j < rows.length) (C:Bool→Shared→Prop) (q:C (gr (rowAt rows i) (rowAt rows j)) s'):
  kas_ask prog w A (tuples' true) (rows.map fun r=>Value.ref r.1) i j C s':=by
 obtain ⟨⟨its,v,o,e,c,n,d⟩,s1⟩:=ha rows[i] (List.getElem_mem hi)
 obtain ⟨⟨its2,v2,o2,e2,c2,n2,d2⟩,s2⟩:=ha rows[j] (List.getElem_mem hj)
 unfold kas_ask
 rw [u6 rows hi,u6 rows hj]
 have l1:=v.length
 have l2:=v2.length
 have l3:rows[i].2.length=rows[j].2.length:=by
  have:=congrArg List.length (s1.trans s2.symm)
  simpa using this
 refine kat_lt e d e2 d2 ?_
 have ez:decide (its.toArray.size < its2.toArray.size)=false:=by
  rw [decide_eq_false]
  simp only [List.size_toArray]
  rw [List.length_map] at l1 l2
  omega
 rw [ez]
 have q':C (gr rows[i].2 rows[j].2) s':=by
  unfold rowAt at q
  rw [List.getElem?_eq_getElem hi,List.getElem?_eq_getElem hj] at q
  exact q
 exact BV (by simpa using v) (by simpa using v2) (s1.trans s2.symm) q'
theorem n6 {rows:List Row} {p:List Nat} (h:p.Perm (List.range rows.length)):(p.map fun i=>rows.getD i (0,[])).Perm rows:=by
 have e:(List.range rows.length).map (fun i=>rows.getD i (0,[]))=rows:=List.ext_getElem (by simp) fun i h1 h2=>by simp [List.getD,h2]
 exact (h.map _).trans (by rw [e])
theorem rU {rows:List Row} {p:List Nat} (h:p.Perm (List.range rows.length)):(p.map fun i=>(rows.map fun r=>Value.ref r.1).getD i Value.none)=(p.map fun i=>rows.getD i (0,[])).map fun r=>Value.ref r.1:=by
 rw [List.map_map]
 refine List.map_congr_left fun i hi=>?_
 have hlt:=List.mem_range.mp (h.mem_iff.mp hi)
 rw [u6 rows hlt]
 simp [List.getD,hlt]
theorem HH:∀{rows:List Row} {us:List Value},Vals (rows.map fun r=>V.ref r.1) us→us=rows.map fun r=>Value.ref r.1
 | [],_,h=>by cases h; rfl
 | r::rows,_,h=>by
  cases h with
  | cons a b=>
   cases a
   rw [HH b]
   rfl
theorem oh:∀(rows:List Row),Vals (rows.map fun r=>V.ref r.1) (rows.map fun r=>Value.ref r.1)
 | []=>.nil
 | r::rows=>.cons rfl (oh rows)
end
end L2
namespace L2
open PySem PySem.Spec PyProof.Rows PySem.W
section
variable {K:PySem.W.Frag} {T:oR} {J:It} {n:Nat} {vs:Nat→List V} {G:Hp→Prop} {ts:TT} {em:TM} {fs:St} {H0 H1:Hp} {D:Addr} {done:Hp→Prop}
end
end L2
namespace L2
open PySem PySem.Spec PyProof.Rows PySem.W
theorem M7 (A:Around) (s:Shared) {a b:Key} {u v:Value} (ra:RelV (kV a) u) (rb:RelV (kV b) v) (ht:dD a=dD b):SeqAt.EqAt A s u v (decide (a=b)):=by
 rw [←HD ht]
 exact Fj ra rb (qy a) (qy b)
theorem BZ (A:Around) (s:Shared) {a b:Key} {u v:Value} (ra:RelV (kV a) u) (rb:RelV (kV b) v) (ht:dD a=dD b) (prog:Program) (w:World) (E:Value→Shared→Prop) (Q:Value→Shared→Prop) (h:Q (.bool (kLt a b)) s):
  wpAny (model prog w) A (richCompare .Lt u v) Q E s:=by
 cases a with
 | inl i=>
  cases b with
  | inr y=>cases ht
  | inl j=>
   obtain ⟨t,rfl⟩:=ra
   obtain ⟨t',rfl⟩:=rb
   exact (lt_int h:wpAny (model prog w) A (compareOp .Lt _ _) Q E s)
 | inr x=>
  cases b with
  | inl y=>cases ht
  | inr y=>
   obtain ⟨t,rfl⟩:=ra
   obtain ⟨t',rfl⟩:=rb
   exact (lt_str h:wpAny (model prog w) A (compareOp .Lt _ _) Q E s)
section
open PySem.SeqAt
open PySem.AutoSeq1 (wpAny_loadPart')
open PySem.MeetsSeq PySem.MeetsSeq2 PySem.MeetsSeq3
theorem xm (l b:Addr) (items items2:Array Value) (n n2:Nat) (dd dd2:Option Addr) (sl sl2:Array (Option Value)) (ns ms:List Key) (hi:Vals (ns.map kV) items.toList) (hj:Vals (ms.map kV) items2.toList) (hty:ns.map dD=ms.map dD):
  Meets (Builtin.«tuple.__lt__» ⟨[.ref l,.ref b],[]⟩)
   (fun _ R s=>s.heap.get? l=some { cls:=.type "tuple",dict:=dd,data:=.seq items n,slots:=sl }∧s.heap.get? b=some { cls:=.type "tuple",dict:=dd2,data:=.seq items2 n2,slots:=sl2 }∧R (.ok (.ret (.bool (gr ns ms)))) s):=
 .of_wp fun prog w A R s h=>by
  obtain ⟨hp,g,d,tk,os⟩:=s; obtain ⟨hl,hb,h⟩:=h
  have f2:=AutoSeq1.sub_tuple_tuple
  have z0:ns.length=ms.length:=by have:=congrArg List.length hty; simpa using this
  have z1:items.size=ns.length:=by have:=hi.length; rw [List.length_map] at this; simpa using this.symm
  have z2:items2.size=ms.length:=by have:=hj.length; rw [List.length_map] at this; simpa using this.symm
  wp_walk using wpAny_loadPart' hl,wpAny_loadPart' hb,wpAny_forIn_list _ (fun rest b s'=>b.1=none∧s'=⟨hp,g,d,tk,os⟩∧∃(vs ws:List Value) (ns' ms':List Key),rest=vs.zip ws∧
   Vals (ns'.map kV) vs∧Vals (ms'.map kV) ws∧ns'.map dD=ms'.map dD∧R (.ok (.ret (.bool (gr ns' ms')))) ⟨hp,g,d,tk,os⟩) _
  case turn=>
   rintro ⟨y,x⟩ rest b s' ⟨hb',rfl,vs,ws,ns',ms',hz,Zm,hwi,hlen,hR⟩
   cases ns' with
   | nil=>cases Zm; rw [List.zip_nil_left] at hz; cases hz
   | cons a ns'=>
    cases ms' with
    | nil=>cases hlen
    | cons c ms'=>
     cases Zm with
     | cons r1 X5=>
      cases hwi with
      | cons r2 X6=>
       rw [List.zip_cons_cons] at hz
       injection hz with hyx hrest
       injection hyx with hy hx
       subst hy hx
       have t1:dD a=dD c:=(List.cons.inj hlen).1
       have t2:=(List.cons.inj hlen).2
       unfold gr at hR
       refine wpAny_bind (M7 A.in1 ⟨hp,g,d,tk,os⟩ r1 r2 t1 prog w _ _ ?_)
       by_cases hac:a=c
       ·rw [if_pos hac] at hR
        rw [decide_eq_true hac]
        wp_walk
        exact ⟨rfl,rfl,_,_,_,_,hrest,X5,X6,t2,hR⟩
       ·rw [if_neg hac] at hR
        rw [decide_eq_false hac]
        have hri:=BZ A.in1 ⟨hp,g,d,tk,os⟩ r1 r2 t1 prog w
        wp_walk using hri
        exact ⟨_,rfl,by simpa using hR⟩
  case fin=>
   rintro ⟨b1,b2⟩ s' ⟨hb',rfl,vs,ws,ns',ms',hz,Zm,hwi,hlen,hR⟩
   simp only at hb'
   subst hb'
   have hv:gr ns' ms'=decide (items.size < items2.size):=by
    rw [decide_eq_false (by omega)]
    cases ns' with
    | nil=>unfold gr; rfl
    | cons a ns'=>
     cases ms' with
     | nil=>cases hlen
     | cons c ms'=>
      cases Zm with
      | cons r1 X5=>
       cases hwi with
       | cons r2 X6=>
        rw [List.zip_cons_cons] at hz
        cases hz
   rw [hv] at hR
   wp_walk
   exact ⟨_,rfl,by simpa [Builtin.Tuple.tupleCompareSizes] using hR⟩
  case h=>
   exact ⟨rfl,rfl,items.toList,items2.toList,ns,ms,rfl,hi,hj,hty,h⟩
end
theorem u9 {prog:Program} {w:World} {A:Around} {E:Value→Shared→Prop} {s:Shared} {l b:Addr} {items items2:Array Value} {ns ms:List Key} {Q:Value→Shared→Prop} (hl:IsTup s.heap l items) (hb:IsTup s.heap b items2) (hi:Vals (ns.map kV) items.toList) (hj:Vals (ms.map kV) items2.toList) (hty:ns.map dD=ms.map dD)
  (hu:A.units < cLine) (h:Q (.bool (gr ns ms)) s):wpAny (model prog w) A (compareOp .Lt (.ref l) (.ref b)) Q E s:=by
 obtain ⟨⟨cls,dd,data,sl⟩,ho,hc,n,hd⟩:=id hl
 obtain ⟨⟨cls2,dd2,data2,sl2⟩,ho2,hc2,n2,hd2⟩:=id hb
 simp only at hc hd hc2 hd2
 subst hc hd hc2 hd2
 exact richCompare_meets_room (op:=.Lt) ⟨_,ho,rfl⟩ ⟨_,ho2,rfl⟩ PySem.F.slot_tuple_lt PySem.F.entry_tuple_lt (PySem.F.args_tuple_lt_2 _ _) (xm l b items items2 n n2 dd dd2 sl sl2 ns ms hi hj hty)
  ⟨ho,ho2,show Value.bool (gr ns ms)≠Value.notImplemented∧Q (.bool (gr ns ms)) s from ⟨(fun x=>nomatch x),h⟩⟩ hu
mutual
noncomputable def RX (H:Hp):PyData→V→Prop
 | .none,v=>v=.non
 | .bool b,v=>v=.bl b
 | .int i,v=>v=.int i
 | .str x,v=>v=.str x
 | .list ds,v=>∃a vs,v=.ref a∧H a=some (.lst vs)∧Ca H ds vs
 | .tuple ds,v=>∃a vs,v=.ref a∧H a=some (.tup vs)∧Ca H ds vs
 | .dict _,_=>False
noncomputable def Ca (H:Hp):List PyData→List V→Prop
 | [],vs=>vs=[]
 | d::ds,vs=>∃v r,vs=v::r∧RX H d v∧Ca H ds r
end
mutual
theorem RX.same {H H':Hp} (s:aP H H'):∀{d:PyData} {v:V},RX H d v→RX H' d v
 | .none,_,h=>h
 | .bool _,_,h=>h
 | .int _,_,h=>h
 | .str _,_,h=>h
 | .list ds,_,h=>by
  obtain ⟨a,vs,e,q,r⟩:=h
  exact ⟨a,vs,e,s _ _ q,Ca.same s r⟩
 | .tuple ds,_,h=>by
  obtain ⟨a,vs,e,q,r⟩:=h
  exact ⟨a,vs,e,s _ _ q,Ca.same s r⟩
theorem Ca.same {H H':Hp} (s:aP H H'):∀{ds:List PyData} {vs:List V},Ca H ds vs→Ca H' ds vs
 | [],_,h=>h
 | d::ds,vs,h=>by
  obtain ⟨v,r,e,q,t⟩:=h
  exact ⟨v,r,e,RX.same s q,Ca.same s t⟩
end
mutual
theorem RX.rd {K:PySem.W.Frag} {H:Hp}:∀{d:PyData} {v:V},RX H d v→RD K H d v
 | .none,_,h=>h
 | .bool _,_,h=>h
 | .int _,_,h=>h
 | .str _,_,h=>h
 | .list ds,_,h=>by
  obtain ⟨a,vs,e,q,r⟩:=h
  exact ⟨a,vs,e,cM.of q,Ca.rd r⟩
 | .tuple ds,_,h=>by
  obtain ⟨a,vs,e,q,r⟩:=h
  exact ⟨a,vs,e,ig.of q,Ca.rd r⟩
theorem Ca.rd {K:PySem.W.Frag} {H:Hp}:∀{ds:List PyData} {vs:List V},Ca H ds vs→Fw K H ds vs
 | [],_,h=>h
 | d::ds,vs,h=>by
  obtain ⟨v,r,e,q,t⟩:=h
  exact ⟨v,r,e,RX.rd q,Ca.rd t⟩
end
noncomputable def X7:PyData→Value
 | .none=>.type "NoneType"
 | .bool _=>.type "bool"
 | .int _=>.type "int"
 | .str _=>.type "str"
 | .list _=>.type "list"
 | .tuple _=>.type "tuple"
 | .dict _=>.type "dict"
theorem RX.ty {K:PySem.W.Frag} {H:Hp} {d:PyData} {v:V} (h:RX H d v):mH K H v (X7 d):=by
 cases d with
 | none=>cases (show v=.non from h); exact .non
 | bool b=>cases (show v=.bl b from h); exact .bl b
 | int i=>cases (show v=.int i from h); exact .int i
 | str x=>cases (show v=.str x from h); exact .str x
 | list ds=>obtain ⟨a,vs,rfl,e,_⟩:=h; exact .lst e
 | tuple ds=>obtain ⟨a,vs,rfl,e,_⟩:=h; exact .tup e
 | dict ds=>exact (show False from h).elim
section
variable {X:Cx}
theorem FW (hu:X.A.units < cLine):iI X (compareOp .Lt) (fun x y H Q=>∃a b ks js,x=.ref a∧y=.ref b∧H a=some (.tup (ks.map kV))∧H b=some (.tup (js.map kV))∧ks.map dD=js.map dD∧Q (.bl (gr ks js)) H):=by
 intro pins s σ H x y v u Q I rx ry h
 obtain ⟨a,b,ks,js,rfl,rfl,ha,hb,ht,q⟩:=h
 cases rx
 cases ry
 obtain ⟨_,its,r1,p1⟩:=(show bL X.prog X.w H s.heap a (.tup (ks.map kV)) from I.hok a _ ha)
 obtain ⟨_,its2,r2,p2⟩:=(show bL X.prog X.w H s.heap b (.tup (js.map kV)) from I.hok b _ hb)
 exact u9 p1 p2 (by simpa using r1) (by simpa using r2) ht hu (bw I q rfl)
theorem kJ (hu:X.A.units < cLine):iI X (compareOp .Lt) (fun x y H Q=>(∃a b,x=kV a∧y=kV b∧dD a=dD b∧Q (.bl (kLt a b)) H)∨∃a b ks js,x=.ref a∧y=.ref b∧H a=some (.tup (ks.map kV))∧H b=some (.tup (js.map kV))∧ks.map dD=js.map dD∧Q (.bl (gr ks js)) H):=by
 refine iI.or ?_ (FW hu)
 intro pins s σ H x y v u Q I rx ry h
 obtain ⟨a,b,rfl,rfl,ht,q⟩:=h
 exact BZ X.A s rx ry ht _ _ _ _ (bw I q rfl)
end
end L2
namespace L2
open PySem PySem.Spec PyProof.Rows PySem.W
structure Ord (lt:Nat→Nat→Bool):Prop where
 X8:∀a b,lt a b=true→lt b a=false
 trans:∀a b c,lt b a=false→lt c b=false→lt c a=false
section
variable {N:Nat} {lt:Nat→Nat→Bool} (O:Ord lt)
noncomputable abbrev at0 (p:Array Nat) (i:Nat):Nat:=p.getD i 0
noncomputable def Up (lt:Nat→Nat→Bool) (p:Array Nat) (n:Nat):Prop:=∀i j,i < j→j < n→lt (at0 p j) (at0 p i)=false
noncomputable def Dn (lt:Nat→Nat→Bool) (p:Array Nat) (n:Nat):Prop:=∀i j,i < j→j < n→lt (at0 p i) (at0 p j)=false
theorem KP.size {p:Array Nat} (h:KP N p):p.size=N:=by
 have:=h.length_eq
 rw [List.length_range] at this
 simpa using this
include O
theorem Up.succ {p:Array Nat} {n:Nat} (h:Up lt p n) (hn:1≤n) (hs:lt (at0 p n) (at0 p (n - 1))=false):Up lt p (n + 1):=fun i j hij hj=>by
 by_cases e:j < n
 ·exact h i j hij e
 ·have ej:j=n:=by omega
  subst ej
  by_cases ei:i=j - 1
  ·rw [ei]; exact hs
  ·exact O.trans _ _ _ (h i (j - 1) (by omega) (by omega)) hs
theorem Dn.succ {p:Array Nat} {n:Nat} (h:Dn lt p n) (hn:1≤n) (hs:lt (at0 p (n - 1)) (at0 p n)=false):Dn lt p (n + 1):=fun i j hij hj=>by
 by_cases e:j < n
 ·exact h i j hij e
 ·have ej:j=n:=by omega
  subst ej
  by_cases ei:i=j - 1
  ·rw [ei]; exact hs
  ·exact O.trans _ _ _ hs (h i (j - 1) (by omega) (by omega))
end
end L2
namespace L2
open PySem PySem.Spec PyProof.Rows PySem.W
theorem Rj {a b:Key} (h:kLt a b=true):kLt b a=false:=by
 cases a with
 | inl i=>
  cases b with
  | inr y=>cases h
  | inl j=>have:=of_decide_eq_true h; exact decide_eq_false (by omega)
 | inr x=>
  cases b with
  | inl y=>cases h
  | inr y=>exact KeyOrd.klt_asymm (O:=strKind.toKeyOrd) (a:=x.cps.toList) (b:=y.cps.toList) h
theorem VB {a b c:Key} (t1:dD a=dD b) (t2:dD b=dD c) (h:kLt a c=true):kLt a b=true∨kLt b c=true:=by
 cases a with
 | inl i=>
  cases b with
  | inr y=>cases t1
  | inl j=>
   cases c with
   | inr y=>cases t2
   | inl k=>
    have h1:=of_decide_eq_true h
    by_cases h2:i < j
    ·exact .inl (decide_eq_true h2)
    ·exact .inr (decide_eq_true (by omega))
 | inr x=>
  cases b with
  | inl y=>cases t1
  | inr y=>
   cases c with
   | inl k=>cases t2
   | inr z=>exact strKind.negTrans x.cps.toList y.cps.toList z.cps.toList h
theorem str_of_list {x y:Str} (h:x.cps.toList=y.cps.toList):x=y:=by
 cases x
 cases y
 simp at h
 simp [h]
theorem VD {a b:Key} (t:dD a=dD b) (h1:kLt a b=false) (h2:kLt b a=false):a=b:=by
 cases a with
 | inl i=>
  cases b with
  | inr y=>cases t
  | inl j=>
   have g1:=of_decide_eq_false h1
   have g2:=of_decide_eq_false h2
   have:i=j:=by omega
   rw [this]
 | inr x=>
  cases b with
  | inl y=>cases t
  | inr y=>
   have:=strKind.total x.cps.toList y.cps.toList h1 h2
   rw [str_of_list this]
noncomputable def qz (rows:List Row) (i:Nat):List Key:=(rows.getD i (rows.headD (0,[]))).2
noncomputable def fP (rows:List Row) (i j:Nat):Bool:=gr (qz rows i) (qz rows j)
noncomputable def runK {α:Type} (lt:Nat→Nat→Bool):KasT α→α
 | .ret a=>a
 | .ask i j k=>runK lt (k (lt i j))
theorem bM.run {α:Type} {N:Nat} {lt:Nat→Nat→Bool} {R:α→Prop}:∀{t:KasT α},bM N lt t R→bM N lt t (fun a=>R a∧a=runK lt t)∧R (runK lt t)
 | .ret a,h=>⟨⟨h,rfl⟩,h⟩
 | .ask i j k,h=>let r:=bM.run h.2.2; ⟨⟨h.1,h.2.1,r.1⟩,r.2⟩
noncomputable def uo (ks:List (List Key)):List Nat:=if ks.length < 2 then List.range ks.length else (runK (fun i j=>gr (ks.getD i (ks.headD [])) (ks.getD j (ks.headD []))) (kas_sort ks.length)).toList
noncomputable def vd (ks:List (List Key)):List (List Key):=(uo ks).map fun i=>ks.getD i (ks.headD [])
theorem J8 (ks:List (List Key)):(uo ks).Perm (List.range ks.length):=by
 unfold uo
 split
 ·exact List.Perm.refl _
 ·exact (bM.run (HB (lt:=fun i j=>gr (ks.getD i (ks.headD [])) (ks.getD j (ks.headD []))) (by omega))).2
theorem J9 (ks:List (List Key)):(vd ks).Perm ks:=by
 have:=(J8 ks).map fun i=>ks.getD i (ks.headD [])
 refine this.trans (List.Perm.of_eq ?_)
 refine List.ext_getElem (by simp) fun i h1 h2=>?_
 simp [h2]
theorem qC (rows:List Row) (i:Nat):qz rows i=(rows.map (·.2)).getD i ((rows.map (·.2)).headD []):=by
 unfold qz
 cases h:rows[i]? with
 | none=>cases rows <;> simp_all [List.getD]
 | some r=>simp [List.getD,h]
theorem rW {rows:List Row} {n:Nat} (hn:n=rows.length) (h2:2≤n):bM n (fP rows) (kas_sort n) fun p=>KP n p∧p.toList=uo (rows.map (·.2)):=by
 subst hn
 have e:fP rows=fun i j=>gr ((rows.map (·.2)).getD i ((rows.map (·.2)).headD [])) ((rows.map (·.2)).getD j ((rows.map (·.2)).headD [])):=by
  funext i j
  rw [fP,qC,qC]
 refine (bM.run (HB (lt:=fP rows) (N:=rows.length) (by omega))).1.mono fun p hp=>⟨hp.1,?_⟩
 unfold uo
 rw [if_neg (by rw [List.length_map]; omega),hp.2,e,List.length_map]
theorem pI {rows:List Row} {n:Nat} (hn:n=rows.length) (h:n < 2):List.range n=uo (rows.map (·.2)):=by
 subst hn
 unfold uo
 rw [if_pos (by rw [List.length_map]; exact h),List.length_map]
theorem zM {rows:List Row} {p:List Nat} (h:p.Perm (List.range rows.length)) (hr:p=uo (rows.map (·.2))):(p.map fun i=>rows.getD i (0,[])).map (·.2)=vd (rows.map (·.2)):=by
 unfold vd
 rw [←hr,List.map_map]
 refine List.map_congr_left fun i hi=>?_
 have hlt:=List.mem_range.mp (h.mem_iff.mp hi)
 simp [List.getD,hlt]
section
variable {X:Cx}
theorem vf {prog:Program} {w:World} {A:Around} {s':Shared} {rows:List Row} {sh:List Bool} (ha:∀r∈rows,TupAt s'.heap r∧r.2.map dD=sh) {i j:Nat} (hi:i < rows.length) (hj:j < rows.length) (C:Bool→Shared→Prop) (q:C (fP rows i j) s'):
  kas_ask prog w A (tuples' true) (rows.map fun r=>Value.ref r.1) i j C s':=by
 refine Ri ha hi hj C ?_
 have e1:qz rows i=rowAt rows i:=by simp [qz,rowAt,List.getD,hi]
 have e2:qz rows j=rowAt rows j:=by simp [qz,rowAt,List.getD,hj]
 unfold fP at q
 rw [e1,e2] at q
 exact q
theorem qD:cJ X (.builtin "sorted") (fun xs H Q=>∃(p:Addr) (rows:List Row) (b:Bool) (sh:List Bool),xs=[.ref p]∧cM X.K H p (rows.map fun r=>V.ref r.1)∧rows.length < 64∧(∀r∈rows,H r.1=some (.tup (r.2.map kV))∧r.2.map dD=b::sh)∧
  ∀(l:Addr) (rows':List Row),H l=none→rows'.Perm rows→rows'.map (·.2)=vd (rows.map (·.2))→Q (.ref l) (upd H l (.lst (rows'.map fun r=>V.ref r.1)))):=by
 intro pins s σ H xs us Q I r h
 obtain ⟨p,rows,b,sh,rfl,hp,h64,ha,q⟩:=h
 obtain ⟨u,rfl,ru⟩:=vals1 r
 cases ru
 obtain ⟨its,rv,pl,_⟩:=I.list hp
 have e0:=HH rv
 subst e0
 have tu:∀r∈rows,TupAt s.heap r∧r.2.map dD=b::sh:=fun r hr=>by
  obtain ⟨_,its,v,t⟩:=(show bL X.prog X.w H s.heap r.1 (.tup (r.2.map kV)) from I.hok r.1 _ (ha r hr).1)
  exact ⟨⟨its,v,t⟩,(ha r hr).2⟩
 refine tQ (κ:=tuples' true) (lt:=fP rows) (vs:=rows.map fun r=>Value.ref r.1) (Rl:=fun p=>p=uo (rows.map (·.2))) (by simpa using h64) (fun h2=>rW (by rw [List.length_map]) h2) (fun h2=>pI (by rw [List.length_map]) h2) (fun R hR=>?_) (fun h2 s' k Q' q'=>rT (fun r hr=>⟨(tu r hr).1.keep k,(tu r hr).2⟩) (by rw [List.length_map] at h2; omega) Q' q')
  (fun h2 s' k i j hi hj C q'=>vf (sh:=b::sh) (fun r hr=>⟨(tu r hr).1.keep k,(tu r hr).2⟩) (by simpa using hi) (by simpa using hj) C q') fun p D h' c tk hp' hrl hD k e=>?_
 ·refine collect_list pl.isList (hR _ _ s.toks ?_ (fun b o e=>?_) rfl)
  ·rw [Heap.size_update,size_push']
   omega
  ·have hlt:b≠s.heap.objs.size:=Nat.ne_of_lt (Heap.lt_size e)
   rw [Heap.get?_update_ne _ _ _ _ hlt]
   exact Heap.get?_push_of_some _ e
 ·rw [List.length_map] at hp'
  rw [rU hp'] at e
  refine ⟨.ref D,_,I.laid (o:=.lst ((p.map fun i=>rows.getD i (0,[])).map fun r=>V.ref r.1)) k hD ⟨?_,_,c,oh _,by simpa [seqObj] using e⟩,rfl,q D _ (I.hok.fresh hD) (n6 hp') (zM hp' hrl)⟩
  rw [List.length_map,List.length_map,hp'.length_eq,List.length_range,sizeLine_eq]
  omega
theorem lO (hc:X.calm=true):cJ X (.builtin "sorted") (fun xs H Q=>∃(d:Addr) (kvs:List (List Key×V)) (b:Bool) (sh:List Bool),xs=[.ref d]∧H d=some (.dT kvs)∧kvs.length < 64∧(∀kv∈kvs,kv.1.map dD=b::sh)∧
  ∀(l:Addr) (rows:List Row),H l=none→(rows.map (·.2)).Perm (kvs.map (·.1))→rows.map (·.2)=vd (kvs.map (·.1))→(∀r∈rows,H r.1=some (.tup (r.2.map kV)))→Q (.ref l) (upd H l (.lst (rows.map fun r=>V.ref r.1)))):=by
 intro pins s σ H xs us Q I r h
 obtain ⟨d,kvs,b,sh,rfl,hd,h64,ha,q⟩:=h
 obtain ⟨u,rfl,ru⟩:=vals1 r
 cases ru
 obtain ⟨z,lo,ys,rel,o,es,ep,g1,g2,g3,g4,g5,g6⟩:=TF I.hok hd
 have raw:BW s.heap d es ep:=⟨o,g1,g2,g3⟩
 obtain ⟨rows,r1,r2,r3⟩:∃rows:List Row,rows.map (·.2)=kvs.map (·.1)∧(∀r∈rows,H r.1=some (.tup (r.2.map kV)))∧es.toList.map (·.key)=rows.map fun r=>Value.ref r.1:=by
  clear g5 g6 h64 ha q z hd
  rw [g4]
  clear g4 raw g3
  induction rel with
  | nil=>exact ⟨[],rfl,by simp,rfl⟩
  | @cons p q ps qs h t ih=>
   obtain ⟨rows,a1,a2,a3⟩:=ih
   refine ⟨(q.2.1,p.1)::rows,by simp [a1],fun r hr=>?_,?_⟩
   ·rcases List.mem_cons.mp hr with rfl | hr
    ·exact h.2.1
    ·exact a2 r hr
   ·rw [List.map_cons,List.map_cons,a3]
    rfl
 have hlen:rows.length=kvs.length:=by
  have:=congrArg List.length r1
  simpa using this
 have hes:es.size=rows.length:=by
  have:=congrArg List.length r3
  simpa using this
 have tu:∀r∈rows,TupAt s.heap r∧r.2.map dD=b::sh:=fun r hr=>by
  obtain ⟨_,its,v,t⟩:=(show bL X.prog X.w H s.heap r.1 (.tup (r.2.map kV)) from I.hok r.1 _ (r2 r hr))
  have:r.2∈kvs.map (·.1):=by rw [←r1]; exact List.mem_map.mpr ⟨r,hr,rfl⟩
  obtain ⟨kv,hk,e⟩:=List.mem_map.mp this
  exact ⟨⟨its,v,t⟩,by rw [←e]; exact ha kv hk⟩
 refine tQ (κ:=tuples' true) (lt:=fP rows) (vs:=rows.map fun r=>Value.ref r.1) (Rl:=fun p=>p=uo (rows.map (·.2))) (by rw [List.length_map]; omega) (fun h2=>rW (by rw [List.length_map]) h2) (fun h2=>pI (by rw [List.length_map]) h2) (fun R hR=>?_) (fun h2 s' k Q' q'=>rT (fun r hr=>⟨(tu r hr).1.keep k,(tu r hr).2⟩) (by rw [List.length_map] at h2; omega) Q' q')
  (fun h2 s' k i j hi hj C q'=>vf (sh:=b::sh) (fun r hr=>⟨(tu r hr).1.keep k,(tu r hr).2⟩) (by simpa using hi) (by simpa using hj) C q') fun p D h' c tk hp' hrl hD k e=>?_
 ·refine BX (Rh (es:=es) (ep:=ep) lo) (I.ok.hd hc) raw (by rw [sizeLine_eq]; omega) fun h' tk acc hsz kk hacc=>hR _ h' tk hsz kk ?_
  refine List.ext_getElem? fun i=>?_
  by_cases hi:i < es.size
  ·have e1:acc.size=es.size:=hacc.1
   have:=hacc.2 i (acc[i]'(by omega)) (by simp [e1,hi])
   rw [Array.getElem?_toList,Array.getElem?_eq_getElem (by omega)]
   rw [←this,←r3,List.getElem?_map,Array.getElem?_toList]
  ·have e1:acc.size=es.size:=hacc.1
   rw [List.getElem?_eq_none (by simp; omega),List.getElem?_eq_none (by simp; omega)]
 ·rw [List.length_map] at hp'
  rw [rU hp'] at e
  refine ⟨.ref D,_,I.laid (o:=.lst ((p.map fun i=>rows.getD i (0,[])).map fun r=>V.ref r.1)) k hD ⟨?_,_,c,oh _,by simpa [seqObj] using e⟩,rfl,q D _ (I.hok.fresh hD) (((n6 hp').map _).trans (by rw [r1])) ((zM hp' hrl).trans (by rw [r1])) fun r hr=>r2 r ((n6 hp').mem_iff.mp hr)⟩
  rw [List.length_map,List.length_map,hp'.length_eq,List.length_range,sizeLine_eq]
  omega
end
end L2
namespace L2
open PySem PySem.Spec PyProof.Rows PySem.W
noncomputable abbrev vg:=List (Option PyData)
noncomputable def mO (H:Hp) (Γ:vg) (σ:St):Prop:=σ.length=Γ.length∧∀(i:Nat) (d:PyData),Γ[i]?=some (some d)→∃v,σ[i]?=some (some v)∧RX H d v
theorem mO.same {H H':Hp} {Γ:vg} {σ:St} (h:mO H Γ σ) (s:aP H H'):mO H' Γ σ:=⟨h.1,fun i d e=>let ⟨v,a,b⟩:=h.2 i d e; ⟨v,a,b.same s⟩⟩
theorem mO.set {H:Hp} {Γ:vg} {σ:St} (h:mO H Γ σ) {i:Nat} {d:PyData} {v:V} (hv:RX H d v):mO H (Γ.set i (some d)) (σ.set i (some v)):=by
 refine ⟨by rw [List.length_set,List.length_set]; exact h.1,fun j e he=>?_⟩
 by_cases hj:i=j
 ·subst hj
  rw [List.getElem?_set] at he
  simp only [if_true] at he
  split at he
  ·rename_i hl
   cases he
   refine ⟨v,?_,hv⟩
   rw [List.getElem?_set]
   simp only [if_true]
   rw [if_pos (by rw [h.1]; exact hl)]
  ·cases he
 ·rw [List.getElem?_set_ne hj] at he
  rw [List.getElem?_set_ne hj]
  exact h.2 j e he
noncomputable def er (Z:List Addr) (H:Hp):Hp:=fun b=>if b∈Z then none else H b
theorem bJ {Z:List Addr} {H:Hp} {b:Addr} {o:HO} (h:er Z H b=some o):H b=some o:=by
 unfold er at h
 split at h
 ·cases h
 ·exact h
theorem tR (Z:List Addr) (H:Hp):aP (er Z H) H:=fun b o h=>bJ h
theorem qF {Z:List Addr} {H H':Hp} (s:aP H H'):aP (er Z H) (er Z H'):=fun b o h=>by
 unfold er at h ⊢
 split at h
 ·cases h
 ·rename_i n
  rw [if_neg n]
  exact s _ _ h
theorem vh (H:Hp):er [] H=H:=by
 funext b
 simp [er]
noncomputable def zN (t:TE) (Γ:vg) (d:PyData):Prop:=∀Z σ H (Q:VK),(∀b,b∈Z→H b≠none)→mO (er Z H) Γ σ→(∀v H',aP H H'→RX (er Z H') d v→Q v H')→t σ H Q
noncomputable def HJ (t:TA) (Γ:vg) (ds:List PyData):Prop:=∀Z σ H (Q:List V→Hp→Prop),(∀b,b∈Z→H b≠none)→mO (er Z H) Γ σ→(∀vs H',aP H H'→Ca (er Z H') ds vs→Q vs H')→t σ H Q
section
variable {Γ:vg} {K:PySem.W.Frag}
theorem zN.run {t:TE} {d:PyData} (h:zN t Γ d) {σ:St} {H:Hp} {Q:VK} (e:mO H Γ σ) (q:∀v H',aP H H'→RX H' d v→Q v H'):t σ H Q:=
 h [] σ H Q (fun _ m=>by cases m) (by rw [vh]; exact e) fun v H' s r=>q v H' s (by rw [vh] at r; exact r)
end
end L2
namespace HT
open PySem PySem.Spec PyProof.Rows
section
variable {prog:Program} {w:World} {A:Around} {E:Value→Shared→Prop} {s:Shared}
theorem oM {t sl:Addr} {items:Array Value} {vl vu:Value} {lo hi:Option Int} {Q:Value→Shared→Prop} (ht:IsTup s.heap t items) (hs:s.heap.IsSliceOf sl vl vu .none) (pl:IsPart vl lo) (pu:IsPart vu hi)
  (hw:dY items.size 0 lo=0∧dY items.size items.size hi=items.size) (h:Q (.ref t) s):wpAny (model prog w) A (getItem (.ref t) (.ref sl)) Q E s:=by
 obtain ⟨os,hos,hcs,hds⟩:=id hs
 have hTs:s.TypeIs (.ref sl) "slice":=⟨os,hos,hcs⟩
 unfold getItem
 try with_reducible refine wpAny_holding ?_
 first | refine wpAny_bind (wpAny_pure ?_) | skip
 refine wpAny_bind (wpAny_sequenceKey ht.typeIs (by decide) ?_)
 refine wpAny_bind (wpAny_callSpecial?_slot (name:=Str.ofString "__getitem__") ht.typeIs PyProof.Rows.slot_tuple_getitem
  (wpAny_call_entry PyProof.Rows.slot_tuple_getitem ht.typeIs entry_tuple_getitem ?_ (args_tuple_getitem _ _)))
 show wpAny _ _ (Builtin.Tuple.tupleItemsOf (.ref t) >>= _) _ _ s
 refine wpAny_bind (tupleItemsOf_ ht ?_)
 refine wpAny_bind (wpAny_typeOf hTs ?_)
 rw [if_pos (by decide)]
 refine wpAny_bind (jX hs pl pu ?_)
 have hyes:((((dY items.size 0 lo:Nat):Int)==0&&(1:Int)==1&&(dY items.size items.size hi - dY items.size 0 lo)==items.size)=true):=by
  rw [hw.1,hw.2]
  simp
 show wpAny _ _ (if (((dY items.size 0 lo:Nat):Int)==0&&(1:Int)==1&&(dY items.size items.size hi - dY items.size 0 lo)==items.size)=true then _ else _) _ _ s
 rw [if_pos hyes]
 unfold Builtin.Tuple.tupleIsExact
 refine wpAny_bind (wpAny_bind (wpAny_typeOf ht.typeIs (wpAny_pure ?_)))
 rw [if_pos (by decide)]
 refine wpAny_bind (wpAny_rule ?_)
 exact wpAny_pure ⟨_,rfl,wpAny_pure h⟩
end
end HT
namespace L2
open PySem PySem.Spec PyProof.Rows PySem.W
section
variable {X:Cx}
noncomputable def aaq (K:PySem.W.Frag):V→Option Int→Option Int→Hp→VK→Prop:=fun x lo hi H Q=>∃a xs,x=.ref a∧ig K H a xs∧(uQ xs lo hi=xs→Q (.ref a) H)∧∀p,H p=none→Q (.ref p) (upd H p (.tup (uQ xs lo hi)))
theorem Rk:QW X (aaq X.K):=by
 intro pins s σ H x v vl vu lo hi sl Q I rx hs pl pu h
 obtain ⟨a,xs,rfl,hx,q1,q2⟩:=h
 by_cases hw:HT.dY xs.length 0 lo=0∧HT.dY xs.length xs.length hi=xs.length
 ·cases rx
  obtain ⟨its,r,ht,hz⟩:=I.tuple hx
  have hlen:its.toArray.size=xs.length:=by rw [List.size_toArray]; exact r.length.symm
  refine ⟨"tuple",_,PyProof.Rows.slot_tuple_getitem.lookup,ht.typeIs,?_⟩
  refine HT.oM ht hs pl pu (by rw [hlen]; exact hw) ?_
  refine ⟨.ref a,H,I,rfl,q1 ?_⟩
  unfold uQ
  rw [hw.1,hw.2]
  simp
 ·exact Vg pins s σ H _ v vl vu lo hi sl Q I rx hs pl pu ⟨a,xs,rfl,hx,hw,q2⟩
end
end L2
namespace HT
open PySem PySem.Spec PyProof.Rows
open Sem (wp)
open Builtin
end HT
namespace L2
open PySem PySem.Spec PyProof.Rows PySem.W
section
variable {X:Cx}
end
end L2
namespace L2
open PySem PySem.Spec PyProof.Rows PySem.W
section
variable {Γ:vg} {K:PySem.W.Frag}
end
end L2
namespace L2
open PySem PySem.Spec PyProof.Rows PySem.W
section
variable {Γ:vg} {K:PySem.W.Frag}
end
end L2
namespace L2
open PySem PySem.Spec PyProof.Rows PySem.W
section
variable {Γ:vg} {K:PySem.W.Frag}
end
end L2
namespace L2
open PySem PySem.Spec PyProof.Rows PySem.W
section
variable {X:Cx}
theorem FZ (hu:X.A.units + 64 < cLine):iI X (compareOp .NotEq) (fun x y H Q=>∃d e,RX H d x∧RX H e y∧PySem.SeqAt.shaped d=true∧PySem.SeqAt.shaped e=true∧Q (.bl (!PyData.eqv d e)) H):=by
 intro pins s σ H x y v u Q I rx ry h
 obtain ⟨d,e,hd,he,h1,h2,q⟩:=h
 obtain ⟨as,ra⟩:=RD.reads I (hd.rd (K:=X.K)) rx
 obtain ⟨bs,rb⟩:=RD.reads I (he.rd (K:=X.K)) ry
 exact ne_dataH ra rb h1 h2 hu ⟨.bl _,H,I,rfl,q⟩
end
section
variable {Γ:vg} {K:PySem.W.Frag}
noncomputable def VF (t:TE) (Γ:vg) (d:PyData):Prop:=∀σ H (Q:VK),mO H Γ σ→(∀v H',aP H H'→RX H' d v→Q v H')→t σ H Q
theorem zN.r {t:TE} {d:PyData} (h:zN t Γ d):VF t Γ d:=fun σ H Q e q=>h.run e q
theorem HJ.run {t:TA} {ds:List PyData} (h:HJ t Γ ds) {σ:St} {H:Hp} {Q:List V→Hp→Prop} (e:mO H Γ σ) (q:∀vs H',aP H H'→Ca H' ds vs→Q vs H'):t σ H Q:=
 h [] σ H Q (fun _ m=>by cases m) (by rw [vh]; exact e) fun v H' s r=>q v H' s (by rw [vh] at r; exact r)
end
end L2
namespace L2
open PySem PySem.Spec PyProof.Rows PySem.W
theorem uz {xs:Array Nat} (h:xs.toList.Pairwise (· < ·)) {i k d:Nat} (hik:i < k) (hk:k < xs.size):xs.getD i d < xs.getD k d:=by
 have h1:=List.pairwise_iff_getElem.mp h i k (by simpa using Nat.lt_trans hik hk) (by simpa using hk) hik
 have hi:i < xs.size:=Nat.lt_trans hik hk
 rw [Array.getD_eq_getD_getElem?,Array.getD_eq_getD_getElem?,Array.getElem?_eq_getElem hk,Array.getElem?_eq_getElem hi]
 simpa using h1
theorem vm {xs:Array Nat} {j:Nat} (h:xs.toList.Pairwise (· < ·)):∀f lo hi,lo≤hi→hi≤xs.size→hi - lo≤f→(∀i,i < lo→xs.getD i j < j)→(∀i,hi≤i→i < xs.size→j≤xs.getD i j)→
  SetTable.below.go xs j f lo hi≤xs.size∧(∀i,i < SetTable.below.go xs j f lo hi→xs.getD i j < j)∧∀i,SetTable.below.go xs j f lo hi≤i→i < xs.size→j≤xs.getD i j
 | 0,lo,hi,h1,h2,h3,h4,h5=>by
  unfold SetTable.below.go
  exact ⟨by omega,h4,fun i a b=>h5 i (by omega) b⟩
 | f + 1,lo,hi,h1,h2,h3,h4,h5=>by
  unfold SetTable.below.go
  by_cases hlt:lo < hi
  ·rw [if_pos hlt]
   dsimp only
   by_cases hm:xs.getD ((lo + hi) / 2) j < j
   ·rw [if_pos hm]
    refine vm h f _ _ (by omega) h2 (by omega) (fun i hi'=>?_) h5
    by_cases e:i=(lo + hi) / 2
    ·rw [e]; exact hm
    ·exact Nat.lt_trans (uz h (by omega) (by omega)) hm
   ·rw [if_neg hm]
    refine vm h f _ _ (by omega) (by omega) (by omega) h4 (fun i hi' hs=>?_)
    by_cases e:i=(lo + hi) / 2
    ·rw [e]; omega
    ·have:=uz (d:=j) h (show (lo + hi) / 2 < i by omega) hs
     omega
  ·rw [if_neg hlt]
   exact ⟨by omega,h4,fun i a b=>h5 i (by omega) b⟩
theorem rY {xs:Array Nat} (j:Nat) (h:xs.toList.Pairwise (· < ·)):SetTable.below xs j≤xs.size∧(∀i,i < SetTable.below xs j→xs.getD i j < j)∧∀i,SetTable.below xs j≤i→i < xs.size→j≤xs.getD i j:=
 vm h xs.size 0 xs.size (Nat.zero_le _) (Nat.le_refl _) (by omega) (fun i hi=>by omega) (fun i a b=>by omega)
theorem HN {xs:Array Nat} (h:xs.toList.Pairwise (· < ·)):SetTable.below xs 0=0:=by
 obtain ⟨_,b,_⟩:=rY 0 h
 cases e:SetTable.below xs 0 with
 | zero=>rfl
 | succ n=>have:=b 0 (by omega); omega
theorem vo {xs:Array Nat} (h:xs.toList.Pairwise (· < ·)) {i:Nat} (hi:i < xs.size):SetTable.below xs (xs[i] + 1)=i + 1:=by
 obtain ⟨a,b,c⟩:=rY (xs[i] + 1) h
 have e:∀k d,(hk:k < xs.size)→xs.getD k d=xs[k]:=fun k d hk=>by rw [Array.getD_eq_getD_getElem?,Array.getElem?_eq_getElem hk]; rfl
 have mono:∀p q,(hp:p < xs.size)→(hq:q < xs.size)→p < q→xs[p] < xs[q]:=fun p q hp hq pq=>by
  have:=uz (d:=0) h pq hq
  rwa [e p 0 hp,e q 0 hq] at this
 by_cases h1:SetTable.below xs (xs[i] + 1)≤i
 ·have:=c i h1 hi
  rw [e i _ hi] at this
  omega
 ·by_cases h2:SetTable.below xs (xs[i] + 1)=i + 1
  ·exact h2
  ·have hs:i + 1 < xs.size:=by omega
   have:=b (i + 1) (by omega)
   rw [e _ _ hs] at this
   have:=mono i (i + 1) hi hs (by omega)
   omega
structure iK (b:Bool) (t:SetTable):Prop where
 led:t.led=b
 dum:t.dummies=#[]
 ris:t.place.toList.Pairwise (· < ·)
theorem iK.standIn {b:Bool} {t:SetTable} (h:iK b t) (n:Nat):iK b (t.standIn n):=⟨h.led,rfl,by simpa [SetTable.standIn] using List.pairwise_lt_range⟩
theorem iK.orStandIn {b:Bool} {t:SetTable} (h:iK b t) (n:Nat):iK b (t.orStandIn n):=by
 unfold SetTable.orStandIn
 split
 ·exact h
 ·exact h.standIn n
theorem has_none (j:Nat):SetTable.has #[] j=false:=rfl
theorem vp {t:SetTable} (hd:t.dummies=#[]) (f:Nat→Int) (h:Int):∀fuel (p:SetTable.Probe) j d,p.dummy=none→SetTable.probe.go t f h fuel p=some (.empty j d)→d=none∧t.slot j=.empty
 | 0,p,j,d,_,e=>by simp [SetTable.probe.go] at e
 | fuel + 1,p,j,d,hp,e=>by
  unfold SetTable.probe.go at e
  have adv:(t.advance p).dummy=none:=by
   unfold SetTable.advance
   split <;> exact hp
  cases hs:t.slot p.j with
  | empty=>
   rw [hs] at e
   simp only [Option.some.injEq,SetTable.Met.empty.injEq] at e
   exact ⟨by rw [←e.2]; exact hp,by rw [←e.1]; exact hs⟩
  | dummy=>
   unfold SetTable.slot at hs
   rw [hd] at hs
   simp only [has_none] at hs
   split at hs
   ·cases hs
   ·simp at hs
  | live i=>
   rw [hs] at e
   simp only at e
   split at e
   ·cases e
   ·exact vp hd f h fuel _ j d adv e
theorem Ga {xs:Array Nat} {j:Nat} (h:xs.toList.Pairwise (· < ·)) (hn:xs[SetTable.below xs j]?≠some j):(SetTable.insertAt xs (SetTable.below xs j) j).toList.Pairwise (· < ·):=by
 obtain ⟨a,b,c⟩:=rY j h
 rw [SetTable.toList_insertAt]
 have h':=h
 rw [←List.take_append_drop (SetTable.below xs j) xs.toList,List.pairwise_append] at h'
 obtain ⟨h1,h2,h3⟩:=h'
 have e:∀k d,(hk:k < xs.size)→xs.getD k d=xs.toList[k]'(by simpa using hk):=fun k d hk=>by rw [Array.getD_eq_getD_getElem?,Array.getElem?_eq_getElem hk]; simp
 have lo:∀x,x∈xs.toList.take (SetTable.below xs j)→x < j:=fun x hx=>by
  obtain ⟨i,hi,rfl⟩:=List.getElem_of_mem hx
  have hi':i < SetTable.below xs j:=by simp at hi; omega
  have:=b i hi'
  rw [e i j (by omega)] at this
  rw [List.getElem_take]
  exact this
 have hi:∀x,x∈xs.toList.drop (SetTable.below xs j)→j < x:=fun x hx=>by
  obtain ⟨i,hi,rfl⟩:=List.getElem_of_mem hx
  have hs:SetTable.below xs j + i < xs.size:=by simp at hi; omega
  have h0:=c (SetTable.below xs j) (Nat.le_refl _) (by omega)
  have ne:xs.getD (SetTable.below xs j) j≠j:=fun z=>hn (by
   have hb:SetTable.below xs j < xs.size:=by omega
   rw [Array.getD_eq_getD_getElem?,Array.getElem?_eq_getElem hb] at z
   rw [Array.getElem?_eq_getElem hb]
   simpa using z)
  rw [List.getElem_drop,←e _ j hs]
  by_cases z:i=0
  ·subst z
   simp only [Nat.add_zero]
   omega
  ·have:=uz (d:=j) h (show SetTable.below xs j < SetTable.below xs j + i by omega) hs
   omega
 rw [List.pairwise_append]
 refine ⟨h1,List.pairwise_cons.mpr ⟨hi,h2⟩,fun x hx y hy=>?_⟩
 rcases List.mem_cons.mp hy with rfl | hy
 ·exact lo x hx
 ·exact h3 x hx y hy
theorem iK.layNew {b:Bool} {t:SetTable} (h:iK b t) (es:Array (Int×Value)) (hs:Int) (x:Value):iK b (layNew t es hs x).2.1:=by
 unfold PySem.layNew
 cases hf:t.freeSlot hs with
 | none=>exact h.standIn _
 | some q=>
  obtain ⟨slot,wd⟩:=q
  have free:t.slot slot=.empty:=by
   unfold SetTable.freeSlot at hf
   split at hf
   ·rename_i j d hp
    obtain ⟨rfl,hj⟩:=vp h.dum _ _ _ _ _ _ rfl hp
    simp only [Option.some.injEq,Prod.mk.injEq] at hf
    rw [←hf.1]
    exact hj
   ·cases hf
  have hn:t.place[SetTable.below t.place slot]?≠some slot:=fun z=>by
   unfold SetTable.slot at free
   simp [z] at free
  show iK b ((t.put slot).1.orStandIn _)
  refine iK.orStandIn (t:=(t.put slot).1) ⟨h.led,?_,Ga h.ris hn⟩ _
  show (if SetTable.has t.dummies slot then _ else t.dummies)=#[]
  rw [h.dum]
  rfl
theorem iK.relayAll {b:Bool} {t:SetTable} (h:iK b t) (es:Array (Int×Value)) (n:Nat):iK b (relayAll t es n).2.1:=by
 unfold PySem.relayAll
 split
 ·rename_i t' order hr
  dsimp only
  split
  ·unfold SetTable.relaid SetTable.laid at hr
   cases ho:SetTable.layClean (SetTable.sizeAbove n - 1) (es.map (·.1)) with
   | none=>simp [ho] at hr
   | some owner=>
    simp only [ho,Option.bind_eq_bind,Option.bind_some,Option.pure_def,Option.some.injEq,Prod.mk.injEq] at hr
    rw [←hr.1]
    refine ⟨h.led,rfl,?_⟩
    simp only [List.map_filterMap]
    refine List.Pairwise.filterMap _ (fun x y hxy=>?_) List.pairwise_lt_range
    intro u hu v hv
    simp only [Option.map_eq_some_iff] at hu hv
    obtain ⟨p,⟨_,_,rfl⟩,rfl⟩:=hu
    obtain ⟨q,⟨_,_,rfl⟩,rfl⟩:=hv
    exact hxy
  ·exact h.standIn _
 ·exact h.standIn _
theorem iK.plain {b:Bool} {t:SetTable} (h:iK b t) (v:Bool):iK b { t with plain:=v }:=⟨h.led,h.dum,h.ris⟩
theorem iK.fresh (b:Bool):iK b (.fresh 0 0 b):=⟨rfl,rfl,.nil⟩
end L2
namespace L2
open PySem PySem.Spec PySem.W
section
variable {prog:Program} {w:World} {T:Type} [DecidableEq T] (knd:PySem.KeyKind prog w T)
noncomputable def bt (w:World):Bool:=!(w.params.followText "set-order")
inductive xx:List (Int×Value)→List T→Prop
 | nil:xx [] []
 | cons {e:Int×Value} {k:T} {es:List (Int×Value)} {ks:List T}:(knd.is k e.2=true∧e.1=knd.hash k∧e.2.scannable=true)→xx es ks→xx (e::es) (k::ks)
noncomputable def pJ (h:Heap) (a:Addr) (ks:List T):Prop:=∃o es ep t,h.get? a=some o∧o.ExactSet∧o.data=.set es ep t∧(∃ks',xx knd es.toList ks'∧ks'.Perm ks)∧es.size < scanBound∧t.fits es.size=true∧iK (bt w) t
noncomputable def kO (ks:List T) (k:T):List T:=if k∈ks then ks else ks++[k]
variable {knd}
theorem xx.elems {es:List (Int×Value)} {ks:List T} (h:xx knd es ks):ElemsOf knd es:=by
 induction h with
 | nil=>intro e he; cases he
 | cons a _ ih=>
  intro e he
  rcases List.mem_cons.mp he with rfl | he
  ·exact ⟨⟨_,a.1,a.2.1⟩,a.2.2⟩
  ·exact ih e he
theorem xx.len {es:List (Int×Value)} {ks:List T} (h:xx knd es ks):es.length=ks.length:=by
 induction h with
 | nil=>rfl
 | cons _ _ ih=>simp [ih]
theorem xx.perm {es es':List (Int×Value)} (p:es'.Perm es):∀{ks:List T},xx knd es ks→∃ks',xx knd es' ks'∧ks'.Perm ks:=by
 induction p with
 | nil=>intro ks h; exact ⟨ks,h,.refl _⟩
 | cons x _ ih=>
  intro ks h
  cases h with
  | cons a r=>
   obtain ⟨ks',h1,h2⟩:=ih r
   exact ⟨_::ks',.cons a h1,h2.cons _⟩
 | swap x y l=>
  intro ks h
  cases h with
  | cons a r=>
   cases r with
   | cons b r=>exact ⟨_::_::_,.cons b (.cons a r),.swap ..⟩
 | trans _ _ ih1 ih2=>
  intro ks h
  obtain ⟨k2,h1,p1⟩:=ih2 h
  obtain ⟨k3,h2,p2⟩:=ih1 h1
  exact ⟨k3,h2,p2.trans p1⟩
theorem xx.push {es:List (Int×Value)} {ks:List T} (h:xx knd es ks) {k:T} {x:Value} (hk:knd.is k x=true) (hx:x.scannable=true):xx knd (es++[(knd.hash k,x)]) (ks++[k]):=by
 induction h with
 | nil=>exact .cons ⟨hk,rfl,hx⟩ .nil
 | cons a _ ih=>exact .cons a ih
theorem xx.mem {es:List (Int×Value)} {ks:List T} (h:xx knd es ks) {k:T} {x:Int×Value} (hm:x∈es) (hp:knd.is k x.2=true):k∈ks:=by
 induction h with
 | nil=>cases hm
 | cons a _ ih=>
  rcases List.mem_cons.mp hm with rfl | hm
  ·cases knd.inj _ _ _ hp a.1
   exact List.mem_cons_self ..
  ·exact List.mem_cons_of_mem _ (ih hm)
theorem xx.none {es:List (Int×Value)} {ks:List T} (h:xx knd es ks) {k:T} (e:es.findIdx? (fun e=>knd.is k e.2)=.none):k∉ks:=by
 have e':=List.findIdx?_eq_none_iff.mp e
 clear e
 induction h with
 | nil=>intro h; cases h
 | cons a _ ih=>
  intro hm
  rcases List.mem_cons.mp hm with rfl | hm
  ·have:=e' _ (List.mem_cons_self ..)
   rw [a.1] at this
   cases this
  ·exact ih (fun x hx=>e' x (List.mem_cons_of_mem _ hx)) hm
variable {A:Around} {E:Value→Shared→Prop} {s:Shared}
theorem HQ {h:Heap} {a:Addr} {o:Obj} {es es':Array (Int×Value)} {ep:Nat} {t t':SetTable} {ks:List T} (ho:h.get? a=some o) (ex:o.ExactSet) (hd:o.data=.set es ep t) (e:∃ks',xx knd es'.toList ks'∧ks'.Perm ks)
  (hb:es'.size < scanBound) (hf:t'.fits es'.size=true) (tb:iK (bt w) t'):
  ∃o',(h.update a (Obj.putSet es' t')).get? a=some o'∧o'.ExactSet∧o'.data=.set es' (ep + 1) t'∧pJ knd (h.update a (Obj.putSet es' t')) a ks:=by
 have g:=Heap.get?_update_self (Obj.putSet es' t') ho (by rw [putSet_of es' t' hd]; rfl)
 rw [putSet_of es' t' hd] at g
 exact ⟨_,g,ex,rfl,_,es',ep + 1,t',g,ex,rfl,e,hb,hf,tb⟩
theorem Rm {a:Addr} {k:T} {x:Value} {ks:List T} {Q:Bool→Shared→Prop} (hk:knd.is k x=true) (hx:x.scannable=true) (hS:pJ knd s.heap a ks) (room:ks.length + 1 < scanBound)
  (h:∀b h',Heap.SameBut a s.heap h'→pJ knd h' a (kO ks k)→Q b { s with heap:=h' }):wpAny (model prog w) A (setAddHashed a x (knd.hash k)) Q E s:=by
 obtain ⟨o,es,ep,t,ho,ex,hd,⟨k0,ek,pk⟩,hb,hf,tb⟩:=hS
 have sz:es.size=ks.length:=by rw [←Array.length_toList,ek.len,pk.length_eq]
 have el:=ek.elems
 have mono:∀{u:Unit→Shared→Prop} {s1:Shared} (g:Bool),u () s1→∀r:Sem Unit,(r=rule "set.scan.the-table-gave-way"∨r=pure ())→wpAny (model prog w) A r u E s1:=fun g hu r hr=>by
  rcases hr with rfl | rfl
  ·exact wpAny_rule hu
  ·exact wpAny_pure hu
 unfold setAddHashed setAddHashedIn
 refine wpAny_holding (wpAny_bind (wpAny_setState_of ho hd hf ?_))
 simp only [byScan_of hx hb el,if_true]
 unfold setAddByScan
 refine wpAny_bind (wpAny_bind (wpAny_rule (wpAny_bind (wpAny_setScan_of hk ho hd hf el ?_))))
 cases hr:es.toList.findIdx? (fun e=>knd.is k e.2) with
 | some j=>
  obtain ⟨hj,hp,_⟩:=List.findIdx?_eq_some_iff_getElem.mp hr
  have hm:k∈ks:=pk.mem_iff.mp (ek.mem (List.getElem_mem hj) hp)
  refine wpAny_pure (wpAny_pure (h _ s.heap (Heap.SameBut.refl a s.heap) ?_))
  rw [kO,if_pos hm]
  exact ⟨o,es,ep,t,ho,ex,hd,⟨k0,ek,pk⟩,hb,hf,tb⟩
 | none=>
  have hm:k∉ks:=fun z=>ek.none hr (pk.mem_iff.mpr z)
  have pn:=layNew_perm t es (knd.hash k) x
  have fn:=layNew_fits t es (knd.hash k) x
  have tn:=tb.layNew es (knd.hash k) x
  dsimp only
  generalize layNew t es (knd.hash k) x=L at pn fn tn ⊢
  obtain ⟨es1,t1,wd,gv⟩:=L
  dsimp only at pn fn tn ⊢
  rw [Array.toList_push] at pn
  obtain ⟨k1,e1,p1⟩:=(ek.push hk hx).perm pn
  have ak:kO ks k=ks++[k]:=by rw [kO,if_neg hm]
  have q1:∃ks',xx knd es1.toList ks'∧ks'.Perm (kO ks k):=⟨k1,e1,by rw [ak]; exact p1.trans (pk.append_right _)⟩
  have TX:es1.size=es.size + 1:=by rw [←Array.length_toList,pn.length_eq,List.length_append,Array.length_toList]; rfl
  have b1:es1.size < scanBound:=by omega
  refine wpAny_bind (mono gv ?_ _ (by cases gv <;> first | exact .inl rfl | exact .inr rfl))
  have tail:∀t2:SetTable,t2.fits es1.size=true→iK (bt w) t2→wpAny (model prog w) A (do
    storeSet a es1 t2
    if (!wd&&t2.tooFull)=true then do
      (match (PySem.relayAll t2 es1 (SetTable.grown es1.size)).2.2 with | true=>rule "set.scan.the-table-gave-way" | false=>pure ())
      storeSet a (PySem.relayAll t2 es1 (SetTable.grown es1.size)).1 (PySem.relayAll t2 es1 (SetTable.grown es1.size)).2.1
      pure (some true)
     else pure (some true)) (fun r s'=>wpAny (model prog w) A (match r with | some added=>pure added | none=>setAddHashedIn a x (knd.hash k) 99999) Q E s') E s:=fun t2 f2 tb2=>by
   obtain ⟨o1,g1,ex1,d1,S1⟩:=HQ (knd:=knd) ho ex hd q1 b1 f2 tb2
   refine wpAny_bind (wpAny_storeSet_of ho hd ?_ (fits_of_scanBound b1))
   have vq:=Heap.SameBut.update s.heap a (Obj.putSet es1 t2)
   split
   ·have pr:=relayAll_perm t2 es1 (SetTable.grown es1.size)
    have fr:=relayAll_fits t2 es1 (SetTable.grown es1.size)
    have tr:=tb2.relayAll es1 (SetTable.grown es1.size)
    generalize PySem.relayAll t2 es1 (SetTable.grown es1.size)=L2 at pr fr tr ⊢
    obtain ⟨es2,t3,gv2⟩:=L2
    dsimp only at pr fr tr ⊢
    obtain ⟨k2,e2,p2⟩:=q1
    obtain ⟨k3,e3,p3⟩:=e2.perm pr
    have sz2:es2.size=es1.size:=by rw [←Array.length_toList,pr.length_eq,Array.length_toList]
    have b2:es2.size < scanBound:=by omega
    refine wpAny_bind (mono gv2 ?_ _ (by cases gv2 <;> first | exact .inl rfl | exact .inr rfl))
    refine wpAny_bind (wpAny_storeSet_of g1 d1 ?_ (fits_of_scanBound b2))
    obtain ⟨_,_,_,_,S2⟩:=HQ (knd:=knd) g1 ex1 d1 ⟨k3,e3,p3.trans p2⟩ b2 fr tr
    exact wpAny_pure (wpAny_pure (h _ _ (vq.trans (Heap.SameBut.update ..)) S2))
   ·exact wpAny_pure (wpAny_pure (h _ _ vq S1))
  split
  ·refine wpAny_bind ?_
   rw [hashByValue_scannable 8 hx]
   refine wpAny_pure ?_
   by_cases hv:plainKind x=true
   ·simp only [hv,if_true]
    exact tail t1 fn tn
   ·simp only [hv,Bool.false_eq_true,if_false]
    exact tail _ (SetTable.fits_plain_off fn) (tn.plain false)
  ·refine wpAny_bind (wpAny_pure ?_)
   simp only [if_true]
   exact tail t1 fn tn
end
end L2
namespace L2
open PySem PySem.Spec PySem.W
section
variable {T:Type} [DecidableEq T]
noncomputable def dedup (ks:List T):List T:=ks.foldl kO []
theorem Gb (ks:List T) (k:T):dedup (ks++[k])=kO (dedup ks) k:=by simp [dedup,List.foldl_append]
theorem M8 {ks:List T} {k x:T}:x∈kO ks k ↔ x∈ks∨x=k:=by
 unfold kO
 split
 ·rename_i h
  exact ⟨.inl,fun z=>z.elim id fun e=>e ▸ h⟩
 ·simp
theorem mQ {x:T}:∀(ks as:List T),x∈ks.foldl kO as ↔ x∈as∨x∈ks
 | [],as=>by simp
 | k::ks,as=>by rw [List.foldl_cons,mQ,M8,List.mem_cons,or_assoc]
theorem Ka {ks:List T} {x:T}:x∈dedup ks ↔ x∈ks:=by
 rw [dedup,mQ]
 simp
theorem Gd {ks:List T} {k:T} (h:ks.Nodup):(kO ks k).Nodup:=by
 unfold kO
 split
 ·exact h
 ·rename_i hk
  exact List.nodup_append.mpr ⟨h,by simp,fun a ha b hb=>by rw [List.mem_singleton] at hb; rintro rfl; exact hk (hb ▸ ha)⟩
theorem j0:∀(ks as:List T),as.Nodup→(ks.foldl kO as).Nodup
 | [],_,h=>h
 | k::ks,_,h=>j0 ks _ (Gd h)
theorem Cd (ks:List T):(dedup ks).Nodup:=j0 ks [] .nil
theorem M9 (ks:List T) (k:T):(kO ks k).length≤ks.length + 1:=by
 unfold kO
 split <;> simp
theorem mR:∀(ks as:List T),(ks.foldl kO as).length≤as.length + ks.length
 | [],_=>by simp
 | k::ks,as=>by
  have h1:=mR ks (kO as k)
  have h2:=M9 as k
  simp only [List.foldl_cons,List.length_cons]
  omega
theorem Kc (ks:List T):(dedup ks).length≤ks.length:=by simpa [dedup] using mR ks []
end
section
variable {prog:Program} {w:World} {T:Type} [DecidableEq T] {knd:PySem.KeyKind prog w T} {A:Around} {E:Value→Shared→Prop} {s:Shared}
theorem pJ.at {h h':Heap} {a:Addr} {ks:List T} (H:pJ knd h a ks) (e:∀o,h.get? a=some o→h'.get? a=some o):pJ knd h' a ks:=
 let ⟨o,es,ep,t,ho,r⟩:=H
 ⟨o,es,ep,t,e o ho,r⟩
theorem pJ.lt {h:Heap} {a:Addr} {ks:List T} (H:pJ knd h a ks):a < h.objs.size:=let ⟨_,_,_,_,ho,_⟩:=H; Heap.lt_size ho
theorem pJ.ty {a:Addr} {ks:List T} (H:pJ knd s.heap a ks):s.TypeIs (.ref a) "set":=let ⟨o,_,_,_,ho,ex,_⟩:=H; ⟨o,ho,ex.1⟩
end
end L2
namespace L2
open PySem PySem.Spec PySem.W
section
variable {prog:Program} {w:World} {T:Type} [DecidableEq T] {knd:PySem.KeyKind prog w T} {A:Around} {E:Value→Shared→Prop} {s:Shared}
noncomputable def uq (w:World):Obj:={ cls:=.type "set",dict:=none,data:=.set #[] 0 (.fresh 0 0 (bt w)) }
theorem VG {h:Heap} {a:Addr} (g:h.get? a=some (uq w)):pJ knd h a []:=⟨_,#[],0,_,g,⟨rfl,rfl,rfl⟩,rfl,⟨[],.nil,.refl _⟩,by decide,rfl,iK.fresh _⟩
end
end L2
namespace L2
open PySem PySem.Spec PySem.W
theorem Cg:Manifest.owners.lookup (String.ofList "rotareti_tes".toList.reverse)=some Manifest.sig_set_iterator:=by kernel_rfl
theorem fQ:Slot "set_iterator" "__next__" "set_iterator.__next__":=.of (owner:="set_iterator") (n:="__next__") (by rw [typeLookup_type,builtinLookup_eq_fast]; kernel_rfl) (by decide +kernel) (by decide +kernel) (by decide +kernel) (by first | exact .inl (by decide +kernel) | exact .inr (by decide +kernel)) (by rw [isSubtype_type]; kernel_rfl)
theorem HR:Slot "set_iterator" "__iter__" "set_iterator.__iter__":=.of (owner:="set_iterator") (n:="__iter__") (by rw [typeLookup_type,builtinLookup_eq_fast]; kernel_rfl) (by decide +kernel) (by decide +kernel) (by decide +kernel) (by first | exact .inl (by decide +kernel) | exact .inr (by decide +kernel)) (by rw [isSubtype_type]; kernel_rfl)
theorem ou:entryFor table "set_iterator.__next__"=some Builtin.«set_iterator.__next__»:=entryFor_of_tree (by kernel_rfl)
theorem Kd:entryFor table "set_iterator.__iter__"=some Builtin.«dict_keyiterator.__iter__»:=entryFor_alias (id':="dict_keyiterator.__iter__") (by kernel_rfl) rfl (by decide +kernel) (by kernel_rfl)
theorem Ge:entryFor table "set.__iter__"=some Builtin.«frozenset.__iter__»:=entryFor_alias (id':="frozenset.__iter__") (by kernel_rfl) rfl (by decide +kernel) (by kernel_rfl)
theorem oA (a:Value):argsOk "set_iterator.__next__" ⟨[a],[]⟩:=by
 unfold argsOk; rw [signature?_of (id:="set_iterator.__next__") (n:="__txen__".toList) (o:="rotareti_tes".toList) (by kernel_rfl) Cg]; kernel_rfl
theorem Ke (a:Value):argsOk "set_iterator.__iter__" ⟨[a],[]⟩:=by
 unfold argsOk; rw [signature?_of (id:="set_iterator.__iter__") (n:="__reti__".toList) (o:="rotareti_tes".toList) (by kernel_rfl) Cg]; kernel_rfl
end L2
namespace L2
open PySem PySem.Spec PySem.W
section
variable {prog:Program} {w:World} {A:Around} {E:Value→Shared→Prop} {s:Shared} {it S:Addr} {es:Array (Int×Value)} {ep i n:Nat} {t:SetTable} {first:Value}
noncomputable def mU (b:Bool) (h:Heap) (a:Addr) (es:Array (Int×Value)) (ep:Nat) (t:SetTable):Prop:=∃o,h.get? a=some o∧o.ExactSet∧o.data=.set es ep t∧t.fits es.size=true∧iK b t
theorem mU.at {b:Bool} {h h':Heap} {a:Addr} (H:mU b h a es ep t) (e:∀o,h.get? a=some o→h'.get? a=some o):mU b h' a es ep t:=let ⟨o,ho,r⟩:=H; ⟨o,e o ho,r⟩
noncomputable def yp (h:Heap) (it S:Addr) (first:Value) (i n ep:Nat):Prop:=∃o,h.get? it=some o∧o.cls=.type "set_iterator"∧o.data=.fields #[first,rawInt i,.ref S,rawInt n,rawInt ep]
theorem yp.at {h h':Heap} (H:yp h it S first i n ep) (e:∀o,h.get? it=some o→h'.get? it=some o):yp h' it S first i n ep:=let ⟨o,ho,r⟩:=H; ⟨o,e o ho,r⟩
theorem yp.ty (H:yp s.heap it S first i n ep):s.TypeIs (.ref it) "set_iterator":=let ⟨o,ho,c,_⟩:=H; ⟨o,ho,c⟩
theorem yp.set {h:Heap} {j:Nat} {x:Value} {vs:Array Value} {o:Obj} (ho:h.get? it=some o) (hc:o.cls=.type "set_iterator") (hd:o.data=.fields vs):
  ∃o',(h.update it (Obj.mapFields (·.setIfInBounds j x))).get? it=some o'∧o'.cls=.type "set_iterator"∧o'.data=.fields (vs.setIfInBounds j x):=
 ⟨_,Heap.get?_update_self _ ho (Obj.isFreed_of_fields (Obj.data_mapFields hd _)),(Obj.cls_mapFields ..).trans hc,by rw [Obj.data_mapFields hd]⟩
theorem zO {Q:Value→Shared→Prop} (hit:yp s.heap it S first i n ep) (h:Q (.ref it) s):wpAny (model prog w) A (pyIter (.ref it)) Q E s:=by
 refine wpAny_pyIter_slot hit.ty HR (wpAny_call_entry HR hit.ty Kd (show wpAny _ _ (ret (.ref it)) _ _ s from ?_) (Ke _))
 exact wpAny_pure ⟨_,rfl,"set_iterator",_,hit.ty,fQ.lookup,h⟩
theorem HS {Q:Option Value→Shared→Prop} {slot:Nat} {R:Option (Value×Nat)} (hit:yp s.heap it S (rawInt slot) i n ep) (hs:mU (bt w) s.heap S es ep t) (hn:n=es.size) (ne:S≠it)
  (nx:∀{B:Around} {E':Value→Shared→Prop} {C:Option (Value×Nat)→Shared→Prop},C R s→wpAny (model prog w) B (setNext S slot i ep) C E' s) {x:Value} {nxt:Nat} (hR:R=some (x,nxt))
  (h:∀h',yp h' it S (rawInt nxt) (i + 1) n ep→Heap.SameBut it s.heap h'→Q (some x) { s with heap:=h' }):wpAny (model prog w) A (pyNext (.ref it)) Q E s:=by
 obtain ⟨o,ho,hc,hd⟩:=id hit
 obtain ⟨os,hos,exs,hds,hf,tb⟩:=id hs
 unfold pyNext
 refine wpAny_bind (wpAny_attempt (wpAny_callSpecial?_slot (name:=Str.ofString "__next__") hit.ty fQ (wpAny_call_entry fQ hit.ty ou ?_ (oA _))))
 unfold Builtin.«set_iterator.__next__»
 refine wpAny_bind (wpAny_pure (wpAny_bind (wpAny_fieldsOf ho hd ?_)))
 dsimp only [rawInt]
 refine wpAny_bind (wpAny_setEntries_of hos hds hf ?_)
 subst hn; subst hR
 rw [if_neg (by simp)]
 refine wpAny_bind (nx ?_)
 dsimp only
 refine wpAny_bind (wpAny_setField ho hd (by simp) ?_)
 obtain ⟨o1,g1,c1,d1⟩:=yp.set (j:=0) (x:=.int nxt 0) ho hc hd
 refine wpAny_bind (wpAny_setField g1 d1 (by simp) ?_)
 obtain ⟨o2,g2,c2,d2⟩:=yp.set (j:=1) (x:=.int (i + 1) 0) g1 c1 d1
 refine wpAny_pure ⟨_,rfl,wpAny_pure (h _ ⟨o2,g2,c2,?_⟩ ((Heap.SameBut.update ..).trans (Heap.SameBut.update ..)))⟩
 rw [d2]
 simp [rawInt]
theorem HW {Q:Option Value→Shared→Prop} {s':Shared} (hh:A.handled=none) (h:∀h',(∀b o,s'.heap.get? b=some o→h'.get? b=some o)→Q none { s' with heap:=h' }):
  wpAny (model prog w) A.in1 (do let e ←newExc (.type "StopIteration") []; (raiseNew e:Sem Fin)) (fun fin s1=>∃v,fin=Fin.done (Flow.ret v)∧wpAny (model prog w) A (pure (some v)) Q E s1)
   (fun e s1=>wpAny (model prog w) A (do if (←isInstance e (Value.type "StopIteration"))=true then pure none else throw e) Q E s1) s':=by
 refine wpAny_bind ?_
 simp only [newExc,newTuple]
 refine wpAny_bind (wpAny_newObj_type ?_ (by size_fits))
 refine wpAny_bind (m:=firstArgMember _ _) (wpAny_of_eq (a:=Value.none) (by first | rfl | (simp only [firstArgMember]; rfl)) ?_)
 refine wpAny_newObj_type ?_ (by size_fits); simp only [raiseNew]; refine wpAny_bind (wpAny_handled ?_)
 rw [show A.in1.handled=none from hh]; refine wpAny_bind (wpAny_pure (wpAny_throw ?_))
 refine wpAny_bind (wpAny_isInstance (T:="StopIteration") (b:=true) ⟨_,Heap.get?_push_size _ rfl,rfl⟩ isSubtype_stop ?_)
 exact wpAny_pure (h _ fun b o e=>Heap.get?_push_of_some _ (Heap.get?_push_of_some _ e))
theorem Nb {Q:Option Value→Shared→Prop} {slot:Nat} (hh:A.handled=none) (hit:yp s.heap it S (rawInt slot) i n ep) (hs:mU (bt w) s.heap S es ep t) (hn:n=es.size)
  (nx:∀{B:Around} {E':Value→Shared→Prop} {C:Option (Value×Nat)→Shared→Prop},C none s→wpAny (model prog w) B (setNext S slot i ep) C E' s)
  (h:∀h',(∀b o,b≠it→s.heap.get? b=some o→h'.get? b=some o)→Q none { s with heap:=h' }):wpAny (model prog w) A (pyNext (.ref it)) Q E s:=by
 obtain ⟨o,ho,hc,hd⟩:=id hit
 obtain ⟨os,hos,exs,hds,hf,tb⟩:=id hs
 unfold pyNext
 refine wpAny_bind (wpAny_attempt (wpAny_callSpecial?_slot (name:=Str.ofString "__next__") hit.ty fQ (wpAny_call_entry fQ hit.ty ou ?_ (oA _))))
 unfold Builtin.«set_iterator.__next__»
 refine wpAny_bind (wpAny_pure (wpAny_bind (wpAny_fieldsOf ho hd ?_)))
 dsimp only [rawInt]
 refine wpAny_bind (wpAny_setEntries_of hos hds hf ?_)
 subst hn
 rw [if_neg (by simp)]
 refine wpAny_bind (nx ?_)
 dsimp only
 refine wpAny_bind (wpAny_setField ho hd (by simp) ?_)
 exact HW hh fun h' kk=>h h' fun b o hb e=>kk b o (((Heap.SameBut.update ..).2 b hb).trans e)
end
end L2
namespace L2
open PySem PySem.Spec PySem.W
section
variable {prog:Program} {w:World} {A:Around} {E:Value→Shared→Prop} {s:Shared} {it S:Addr} {es:Array (Int×Value)} {ep i n:Nat} {t:SetTable} {first:Value}
theorem uA {Q:Bool→Shared→Prop} (h:Q (!bt w) s):wpAny (model prog w) A setsByText Q E s:=by
 unfold setsByText
 refine wpAny_bind (wpAny_askSetting (wpAny_pure ?_))
 have h':Q (w.params.followText "set-order") s:=by simpa [bt] using h
 exact h'
theorem pK {α:Type}:∀{l:List α} {j:Nat} (h:j < l.length),(l[j]::l.eraseIdx j).Perm l
 | [],j,h=>by cases h
 | a::l,0,h=>.refl _
 | a::l,j + 1,h=>by
  have:=pK (l:=l) (j:=j) (by simpa using h)
  simp only [List.getElem_cons_succ,List.eraseIdx_cons_succ]
  exact (List.Perm.swap ..).trans (this.cons a)
theorem yr {C:Option (Value×Nat)→Shared→Prop} {slot:Nat} (hs:mU (bt w) s.heap S es ep t) (hb:bt w=true) (nd:(!t.plain&&decide (es.size > 1))=false)
  (h:C (match es[SetTable.below t.place slot]?,t.place[SetTable.below t.place slot]? with | some (_,x),some j=>some (x,j + 1) | _,_=>none) s):wpAny (model prog w) A (setNext S slot i ep) C E s:=by
 obtain ⟨o,ho,ex,hd,hf,tb⟩:=hs
 unfold setNext
 refine wpAny_bind (wpAny_setState_of ho hd hf ?_)
 refine wpAny_bind (uA ?_)
 rw [hb]
 simp only [Bool.not_true,Bool.false_eq_true,if_false]
 refine wpAny_ite_split (fun z=>?_) (fun _=>?_)
 ·have z':(!t.plain&&decide (es.size > 1))=true:=z
  rw [nd] at z'
  cases z'
 refine wpAny_bind (show wpAny _ _ (if (!t.led&&!es.isEmpty)=true then _ else _) _ _ _ from ?_)
 rw [tb.led,hb]
 simp only [Bool.not_true,Bool.false_and,Bool.false_eq_true,if_false]
 exact wpAny_pure (wpAny_pure h)
theorem yt {C:Option (Value×Nat)→Shared→Prop} {slot:Nat} (hs:mU (bt w) s.heap S es ep t) (hb:bt w=false)
  (h:C (((pickOrder (w.params.setOrder S ep) es)[i]?).map fun e=>(e.2,slot)) s):wpAny (model prog w) A (setNext S slot i ep) C E s:=by
 obtain ⟨o,ho,ex,hd,hf,tb⟩:=hs
 unfold setNext
 refine wpAny_bind (wpAny_setState_of ho hd hf ?_)
 refine wpAny_bind (uA ?_)
 rw [hb]
 simp only [Bool.not_false,if_true,bne_self_eq_false,Bool.false_eq_true,if_false]
 refine wpAny_bind ?_
 unfold setWalk
 refine wpAny_bind (wpAny_setState_of ho hd hf ?_)
 refine wpAny_bind (uA ?_)
 rw [hb]
 simp only [Bool.not_false,if_true]
 refine wpAny_bind (wpAny_askSetting (wpAny_pure ?_))
 exact wpAny_pure h
theorem HX {α:Type} (f:Nat→Nat):∀(m k:Nat) (left:List α) (out:Array α),left.length=m→(pickOrder.go f m k left out).toList.Perm (out.toList++left)
 | 0,k,left,out,h=>by
  unfold pickOrder.go
  rw [List.length_eq_zero_iff.mp h]
  simp
 | m + 1,k,left,out,h=>by
  unfold pickOrder.go
  have hl:f k % left.length < left.length:=Nat.mod_lt _ (by omega)
  rw [List.getElem?_eq_getElem hl]
  dsimp only
  refine (HX f m (k + 1) _ _ (by rw [List.length_eraseIdx]; simp [hl]; omega)).trans ?_
  rw [Array.toList_push,List.append_assoc]
  refine List.Perm.append_left _ ?_
  exact pK hl
theorem rZ {α:Type} (f:Nat→Nat) (xs:Array α):(pickOrder f xs).toList.Perm xs.toList:=by
 have:=HX f xs.size 0 xs.toList #[] (by simp)
 simpa [pickOrder] using this
theorem Nf {src:Source} {m:Nat} {Q:Nat→Shared→Prop} (hm:m≠0) (h:∀j d,j < m→Q j { s with drawn:=d }):wpAny (model prog w) A (choose src m) Q E s:=fun Γ p _=>⟨hm,h _ _ (Nat.mod_lt _ (Nat.pos_of_ne_zero hm))⟩
theorem Cj {α:Type}:∀(m:Nat) (xs:List α) (s:Shared) (Q:List α→Shared→Prop),xs.length=m→(∀ys d,ys.Perm xs→Q ys { s with drawn:=d })→wpAny (model prog w) A (drawOrder m xs) Q E s
 | 0,xs,s,Q,hl,h=>by
  unfold drawOrder
  rw [List.length_eq_zero_iff.mp hl] at h
  exact wpAny_pure (h [] s.drawn (.refl _))
 | m + 1,[],s,Q,hl,h=>by cases hl
 | m + 1,x::xs,s,Q,hl,h=>by
  unfold drawOrder
  refine wpAny_bind (Nf (by simp) fun j d hj=>?_)
  rw [List.getElem?_eq_getElem hj]
  dsimp only
  refine wpAny_bind (Cj m _ _ _ (by rw [List.length_eraseIdx,if_pos hj]; simpa using hl) fun ys d' hp=>?_)
  exact wpAny_pure (h _ d' ((hp.cons _).trans (pK hj)))
end
end L2
namespace L2
open PySem PySem.Spec PySem.W
section
variable {prog:Program} {w:World} {A:Around} {E:Value→Shared→Prop} {s:Shared} {it S pl:Addr} {es:Array (Int×Value)} {ep i n:Nat} {t:SetTable} {ps:List Nat}
noncomputable def W0 (h:Heap) (pl:Addr) (ps:List Nat):Prop:=∃o c,h.get? pl=some o∧o.data=.seq (ps.map fun k:Nat=>rawInt k).toArray c
theorem W0.at {h h':Heap} (H:W0 h pl ps) (e:∀o,h.get? pl=some o→h'.get? pl=some o):W0 h' pl ps:=let ⟨o,c,ho,r⟩:=H; ⟨o,c,e o ho,r⟩
theorem Rn {Q:Option Value→Shared→Prop} {k:Nat} {e:Int×Value} (hit:yp s.heap it S (.ref pl) i n ep) (hs:mU (bt w) s.heap S es ep t) (hp:W0 s.heap pl ps) (hn:n=es.size) (hk:ps[i]?=some k) (he:es[k]?=some e)
  (h:∀h',yp h' it S (.ref pl) (i + 1) n ep→Heap.SameBut it s.heap h'→Q (some e.2) { s with heap:=h' }):wpAny (model prog w) A (pyNext (.ref it)) Q E s:=by
 obtain ⟨o,ho,hc,hd⟩:=id hit
 obtain ⟨os,hos,exs,hds,hf,tb⟩:=id hs
 obtain ⟨op,cp,hop,hdp⟩:=hp
 unfold pyNext
 refine wpAny_bind (wpAny_attempt (wpAny_callSpecial?_slot (name:=Str.ofString "__next__") hit.ty fQ (wpAny_call_entry fQ hit.ty ou ?_ (oA _))))
 unfold Builtin.«set_iterator.__next__»
 refine wpAny_bind (wpAny_pure (wpAny_bind (wpAny_fieldsOf ho hd ?_)))
 dsimp only [rawInt]
 refine wpAny_bind (wpAny_setEntries_of hos hds hf ?_)
 subst hn
 rw [if_neg (by simp)]
 refine wpAny_bind (wpAny_seqItems hop hdp ?_)
 dsimp only
 rw [show ((ps.map fun k:Nat=>rawInt k).toArray)[((i:Int)).toNat]?=some (.int (k:Int) 0) by simp [hk,rawInt]]
 dsimp only
 refine wpAny_bind ?_
 unfold setNextDrawn
 refine wpAny_bind (wpAny_setState_of hos hds hf ?_)
 simp only [Int.toNat_natCast,bne_self_eq_false,Bool.false_eq_true,if_false,he]
 refine wpAny_pure (wpAny_bind (wpAny_setField ho hd (by simp) ?_))
 obtain ⟨o1,g1,c1,d1⟩:=yp.set (j:=1) (x:=.int (i + 1) 0) ho hc hd
 refine wpAny_pure ⟨_,rfl,wpAny_pure (h _ ⟨o1,g1,c1,?_⟩ (Heap.SameBut.update ..))⟩
 rw [d1]
 simp [rawInt]
theorem VH {Q:Option Value→Shared→Prop} (hh:A.handled=none) (hit:yp s.heap it S (.ref pl) i n ep) (hs:mU (bt w) s.heap S es ep t) (hp:W0 s.heap pl ps) (hn:n=es.size) (hk:ps.length≤i)
  (h:∀h',(∀b o,b≠it→s.heap.get? b=some o→h'.get? b=some o)→Q none { s with heap:=h' }):wpAny (model prog w) A (pyNext (.ref it)) Q E s:=by
 obtain ⟨o,ho,hc,hd⟩:=id hit
 obtain ⟨os,hos,exs,hds,hf,tb⟩:=id hs
 obtain ⟨op,cp,hop,hdp⟩:=hp
 unfold pyNext
 refine wpAny_bind (wpAny_attempt (wpAny_callSpecial?_slot (name:=Str.ofString "__next__") hit.ty fQ (wpAny_call_entry fQ hit.ty ou ?_ (oA _))))
 unfold Builtin.«set_iterator.__next__»
 refine wpAny_bind (wpAny_pure (wpAny_bind (wpAny_fieldsOf ho hd ?_)))
 dsimp only [rawInt]
 refine wpAny_bind (wpAny_setEntries_of hos hds hf ?_)
 subst hn
 rw [if_neg (by simp)]
 refine wpAny_bind (wpAny_seqItems hop hdp ?_)
 dsimp only
 rw [show ((ps.map fun k:Nat=>rawInt k).toArray)[((i:Int)).toNat]?=none by simp [hk]]
 dsimp only
 refine wpAny_bind (wpAny_setField ho hd (by simp) ?_)
 obtain ⟨o1,g1,c1,d1⟩:=yp.set (j:=0) (x:=.int 0 0) ho hc hd
 refine wpAny_bind (wpAny_setField g1 d1 (by simp) ?_)
 exact HW hh fun h' kk=>h h' fun b o hb e=>kk b o ((((Heap.SameBut.update ..).trans (Heap.SameBut.update ..)).2 b hb).trans e)
theorem Kf (hh:A.handled=none) (ne:S≠it) (hb:bt w=true) (nd:(!t.plain&&decide (es.size > 1))=false) (hz:t.place.size=es.size) (rs:t.place.toList.Pairwise (· < ·)):
  Walks prog w A it [it,S] [it] es.size (fun i v=>(es.toList.map (·.2))[i]?=some v) (fun i h=>yp h it S (rawInt (if i=0 then 0 else t.place.getD (i - 1) 0 + 1:Nat)) i es.size ep∧mU (bt w) h S es ep t) where
 sub:=fun b hb=>by simp at hb; simp [hb]
 frame:=fun _ _ _ st hk=>⟨st.1.at fun o e=>hk it (by simp) o e,st.2.at fun o e=>hk S (by simp) o e⟩
 item:=fun i s Q E hi st hQ=>by
  have hp:i < t.place.size:=by omega
  have bl:SetTable.below t.place (if i=0 then 0 else t.place.getD (i - 1) 0 + 1)=i:=by
   by_cases z:i=0
   ·subst z
    exact HN rs
   ·rw [if_neg z]
    have h1:i - 1 < t.place.size:=by omega
    have:=vo rs h1
    rw [Array.getD_eq_getD_getElem?,Array.getElem?_eq_getElem h1,Option.getD_some,this]
    omega
  refine HS (R:=some (es[i].2,t.place[i] + 1)) st.1 st.2 rfl ne (fun c=>yr st.2 hb nd ?_) rfl fun h' hit' same=>hQ _ h' s.toks (by simp [hi]) ⟨?_,st.2.at fun o e=>(same.2 S ne).trans e⟩ fun b o hb e=>(same.2 b fun z=>hb (by simp [z])).trans e
  ·rw [bl,Array.getElem?_eq_getElem hi,Array.getElem?_eq_getElem hp]
   exact c
  ·have e1:(if i + 1=0 then 0 else t.place.getD (i + 1 - 1) 0 + 1)=t.place[i] + 1:=by
    rw [if_neg (by omega),Nat.add_sub_cancel,Array.getD_eq_getD_getElem?,Array.getElem?_eq_getElem hp,Option.getD_some]
   rw [e1]
   exact hit'
 done:=fun s Q E st hQ=>by
  have bl:SetTable.below t.place (if es.size=0 then 0 else t.place.getD (es.size - 1) 0 + 1)=es.size:=by
   by_cases z:es.size=0
   ·rw [if_pos z,z]
    exact HN rs
   ·rw [if_neg z]
    have h1:es.size - 1 < t.place.size:=by omega
    have:=vo rs h1
    rw [Array.getD_eq_getD_getElem?,Array.getElem?_eq_getElem h1,Option.getD_some,this]
    omega
  refine Nb hh st.1 st.2 rfl (fun c=>yr st.2 hb nd ?_) fun h' kk=>hQ h' s.toks fun b o hb e=>kk b o (fun z=>hb (by simp [z])) e
  rw [bl,Array.getElem?_eq_none (Nat.le_refl _)]
  exact c
 self:=fun _ _ _ _ st hQ=>zO st.1 hQ
theorem Kg (hh:A.handled=none) (ne:S≠it) (hb:bt w=false):
  Walks prog w A it [it,S] [it] es.size (fun i v=>((pickOrder (w.params.setOrder S ep) es).toList.map (·.2))[i]?=some v) (fun i h=>yp h it S (rawInt (0:Nat)) i es.size ep∧mU (bt w) h S es ep t) where
 sub:=fun b hb=>by simp at hb; simp [hb]
 frame:=fun _ _ _ st hk=>⟨st.1.at fun o e=>hk it (by simp) o e,st.2.at fun o e=>hk S (by simp) o e⟩
 item:=fun i s Q E hi st hQ=>by
  have hl:(pickOrder (w.params.setOrder S ep) es).size=es.size:=by rw [←Array.length_toList,(rZ _ es).length_eq,Array.length_toList]
  have hp:i < (pickOrder (w.params.setOrder S ep) es).size:=by omega
  refine HS (R:=some ((pickOrder (w.params.setOrder S ep) es)[i].2,0)) st.1 st.2 rfl ne (fun c=>yt st.2 hb ?_) rfl fun h' hit' same=>hQ _ h' s.toks (by simp [hp]) ⟨hit',st.2.at fun o e=>(same.2 S ne).trans e⟩ fun b o hb e=>(same.2 b fun z=>hb (by simp [z])).trans e
  rw [Array.getElem?_eq_getElem hp]
  exact c
 done:=fun s Q E st hQ=>by
  have hl:(pickOrder (w.params.setOrder S ep) es).size=es.size:=by rw [←Array.length_toList,(rZ _ es).length_eq,Array.length_toList]
  refine Nb hh st.1 st.2 rfl (fun c=>yt st.2 hb ?_) fun h' kk=>hQ h' s.toks fun b o hb e=>kk b o (fun z=>hb (by simp [z])) e
  rw [Array.getElem?_eq_none (by omega)]
  exact c
 self:=fun _ _ _ _ st hQ=>zO st.1 hQ
theorem Gf (hh:A.handled=none) (ne:S≠it) (np:pl≠it) (pp:ps.Perm (List.range es.size)):
  Walks prog w A it [it,S,pl] [it] es.size (fun i v=>(ps.map fun k=>(es.getD k (0,.none)).2)[i]?=some v) (fun i h=>yp h it S (.ref pl) i es.size ep∧mU (bt w) h S es ep t∧W0 h pl ps) where
 sub:=fun b hb=>by simp at hb; simp [hb]
 frame:=fun _ _ _ st hk=>⟨st.1.at fun o e=>hk it (by simp) o e,st.2.1.at fun o e=>hk S (by simp) o e,st.2.2.at fun o e=>hk pl (by simp) o e⟩
 item:=fun i s Q E hi st hQ=>by
  have hl:ps.length=es.size:=by rw [pp.length_eq,List.length_range]
  have hp:i < ps.length:=by omega
  have hk:ps[i] < es.size:=List.mem_range.mp (pp.mem_iff.mp (List.getElem_mem hp))
  refine Rn (k:=ps[i]) (e:=es[ps[i]]) st.1 st.2.1 st.2.2 rfl (List.getElem?_eq_getElem hp) (Array.getElem?_eq_getElem hk) fun h' hit' same=>hQ _ h' s.toks ?_ ⟨hit',st.2.1.at fun o e=>(same.2 S ne).trans e,st.2.2.at fun o e=>(same.2 pl np).trans e⟩ fun b o hb e=>(same.2 b fun z=>hb (by simp [z])).trans e
  rw [List.getElem?_map,List.getElem?_eq_getElem hp,Option.map_some,Array.getD_eq_getD_getElem?,Array.getElem?_eq_getElem hk]
  rfl
 done:=fun s Q E st hQ=>by
  have hl:ps.length=es.size:=by rw [pp.length_eq,List.length_range]
  exact VH hh st.1 st.2.1 st.2.2 rfl (by omega) fun h' kk=>hQ h' s.toks fun b o hb e=>kk b o (fun z=>hb (by simp [z])) e
 self:=fun _ _ _ _ st hQ=>zO st.1 hQ
end
end L2
namespace L2
open PySem PySem.Spec PySem.W
section
variable {prog:Program} {w:World} {A:Around} {E:Value→Shared→Prop} {s:Shared} {S:Addr} {es:Array (Int×Value)} {ep:Nat} {t:SetTable}
theorem Kh {Q:Bool→Shared→Prop} (hs:mU (bt w) s.heap S es ep t) (h:Q (bt w&&(!t.plain&&decide (es.size > 1))) s):wpAny (model prog w) A (setDrawn S) Q E s:=by
 obtain ⟨os,hos,exs,hds,hf,tb⟩:=id hs
 unfold setDrawn
 refine wpAny_bind (wpAny_setState_of hos hds hf ?_)
 refine wpAny_bind (uA (wpAny_pure ?_))
 rw [Bool.not_not]
 exact h
theorem Ng {Q:Value→Shared→Prop} (hh:A.handled=none) (hs:mU (bt w) s.heap S es ep t) (hb:es.size < scanBound)
  (h:∀(I:Addr) (h1:Heap) (d:Drawn) (fp:List Addr) (out:List Value) (St:Nat→Heap→Prop),Walks prog w A I fp [I] es.size (fun i v=>out[i]?=some v) St→St 0 h1→out.Perm (es.toList.map (·.2))→(∀b o,s.heap.get? b=some o→h1.get? b=some o)→s.heap.objs.size≤I→
   (∀b∈fp,b=S∨s.heap.objs.size≤b)→Q (.ref I) { s with heap:=h1,drawn:=d }):wpAny (model prog w) A (pyIter (.ref S)) Q E s:=by
 obtain ⟨os,hos,exs,hds,hf,tb⟩:=id hs
 have hT:s.TypeIs (.ref S) "set":=⟨os,hos,exs.1⟩
 have lt:S < s.heap.objs.size:=Heap.lt_size hos
 have hz:t.place.size=es.size:=by
  have:=hf
  simp only [SetTable.fits,Bool.and_eq_true,beq_iff_eq] at this
  exact this.1
 refine wpAny_pyIter_slot hT F.slot_set_iter (wpAny_call_entry F.slot_set_iter hT Ge ?_ (F.args_set_iter_1 _))
 unfold Builtin.«frozenset.__iter__» Builtin.Frozenset.slot0 Builtin.Frozenset.sizeOf
 refine wpAny_bind (wpAny_bind (wpAny_pure (wpAny_pure ?_)))
 refine wpAny_bind (wpAny_bind (wpAny_setEntries_of hos hds hf (wpAny_pure ?_)))
 refine wpAny_bind (Kh hs ?_)
 by_cases hd:(bt w&&(!t.plain&&decide (es.size > 1)))=true
 ·rw [if_pos hd]
  refine wpAny_bind (Cj _ _ _ _ (List.length_range ..) fun ps d pp=>?_)
  have pl:ps.length=es.size:=by rw [pp.length_eq,List.length_range]
  unfold newTuple
  refine wpAny_bind (wpAny_newObj_type ?_ (show (List.map (fun i:Nat=>rawInt i) ps).toArray.size≤sizeLine by rw [List.size_toArray,List.length_map,pl,sizeLine_eq]; unfold scanBound at hb; omega))
  have g1:(s.heap.push { cls:=.type "tuple",data:=.seq (ps.map fun k:Nat=>rawInt k).toArray }).get? S=some os:=Heap.get?_push_of_some _ hos
  refine wpAny_bind (wpAny_setEpoch_of (s:={ s with heap:=s.heap.push _,drawn:=d }) g1 hds hf ?_)
  refine wpAny_bind ?_
  unfold newFields
  refine wpAny_newObj_type ?_
  refine wpAny_pure ⟨_,rfl,"set_iterator",_,⟨_,Heap.get?_push_size _ rfl,rfl⟩,fQ.lookup,?_⟩
  have TX:(s.heap.push { cls:=.type "tuple",data:=.seq (ps.map fun k:Nat=>rawInt k).toArray }).objs.size=s.heap.objs.size + 1:=Heap.size_push ..
  refine h _ _ d [_,S,s.heap.objs.size] _ _ (Gf (ep:=ep) (t:=t) hh ?_ ?_ pp) ⟨⟨_,Heap.get?_push_size _ rfl,rfl,rfl⟩,⟨os,Heap.get?_push_of_some _ g1,exs,hds,hf,tb⟩,⟨_,0,Heap.get?_push_of_some _ (Heap.get?_push_size _ rfl),rfl⟩⟩ ?_ (fun b o e=>Heap.get?_push_of_some _ (Heap.get?_push_of_some _ e)) ?_ ?_
  ·rw [TX]
   exact Nat.ne_of_lt (Nat.lt_succ_of_lt lt)
  ·rw [TX]
   exact Nat.ne_of_lt (Nat.lt_succ_self _)
  ·have e2:(List.range es.size).map (fun k=>(es.getD k (0,Value.none)).2)=es.toList.map (·.2):=by
    refine List.ext_getElem (by simp) fun j h1 h2=>?_
    have hj:j < es.size:=by simpa using h1
    simp [Array.getD_eq_getD_getElem?,Array.getElem?_eq_getElem hj]
   rw [←e2]
   exact pp.map _
  ·rw [TX]
   exact Nat.le_succ _
  ·intro b hb'
   simp only [List.mem_cons,List.not_mem_nil,or_false] at hb'
   rcases hb' with rfl | rfl | rfl
   ·right
    rw [TX]
    exact Nat.le_succ _
   ·exact .inl rfl
   ·exact .inr (Nat.le_refl _)
 ·rw [if_neg hd]
  refine wpAny_bind (wpAny_pure ?_)
  refine wpAny_bind (wpAny_setEpoch_of hos hds hf ?_)
  refine wpAny_bind ?_
  unfold newFields
  refine wpAny_newObj_type ?_
  refine wpAny_pure ⟨_,rfl,"set_iterator",_,⟨_,Heap.get?_push_size _ rfl,rfl⟩,fQ.lookup,?_⟩
  have Yb:∀b,b∈[s.heap.objs.size,S]→b=S∨s.heap.objs.size≤b:=fun b hb'=>by
   simp only [List.mem_cons,List.not_mem_nil,or_false] at hb'
   rcases hb' with rfl | rfl
   ·exact .inr (Nat.le_refl _)
   ·exact .inl rfl
  cases hbt:bt w with
  | true=>
   rw [hbt] at hd
   have nd:(!t.plain&&decide (es.size > 1))=false:=by simpa using hd
   exact h _ _ s.drawn [_,S] _ _ (Kf (ep:=ep) hh (Nat.ne_of_lt lt) hbt nd hz tb.ris) ⟨⟨_,Heap.get?_push_size _ rfl,rfl,rfl⟩,⟨os,Heap.get?_push_of_some _ hos,exs,hds,hf,tb⟩⟩ (.refl _) (fun b o e=>Heap.get?_push_of_some _ e) (Nat.le_refl _) Yb
  | false=>
   exact h _ _ s.drawn [_,S] _ _ (Kg (ep:=ep) (t:=t) hh (Nat.ne_of_lt lt) hbt) ⟨⟨_,Heap.get?_push_size _ rfl,rfl,rfl⟩,⟨os,Heap.get?_push_of_some _ hos,exs,hds,hf,tb⟩⟩ ((rZ _ es).map _) (fun b o e=>Heap.get?_push_of_some _ e) (Nat.le_refl _) Yb
end
end L2
namespace L2
open PySem PySem.Spec PySem.W PyProof.Rows
section
variable {prog:Program} {w:World} {A:Around} {E:Value→Shared→Prop} {s:Shared} {S:Addr} {es:Array (Int×Value)} {ep:Nat} {t:SetTable}
theorem Nh {Q:Bool→Shared→Prop} (hT:s.TypeIs (.ref S) "set") (h:Q false s):wpAny (model prog w) A (Builtin.List.listLengthHint (.ref S)) Q E s:=by
 unfold Builtin.List.listLengthHint
 refine wpAny_bind (wpAny_specialOf hT PySem.F.slot_set_len.lookup ?_)
 generalize hid:("set.__len__":String)=nm
 wp_delta
 rw [show splitId nm=some ("set","__len__") by subst hid; decide +kernel]
 subst hid
 refine wpAny_bind (wpAny_isInstance (T:="set") (b:=true) hT (by rw [isSubtype_type]; kernel_rfl) ?_)
 refine wpAny_ite_split (fun z=>absurd z (by decide)) fun _=>wpAny_ite_split (fun _=>?_) fun z=>absurd (by decide +kernel) z
 exact wpAny_bind (wpAny_typeOf hT (wpAny_pure h))
theorem Kl {out:List Value} {acc:Array Value} (h:ItemsOf (fun i v=>out[i]?=some v) acc out.length):acc=out.toArray:=by
 refine Array.ext (by simpa using h.1) fun j h1 h2=>?_
 have this:out[j]?=some acc[j]:=h.2 j acc[j] (Array.getElem?_eq_getElem h1)
 have hj:j < out.length:=by simpa using h2
 rw [List.getElem?_eq_getElem hj] at this
 simpa using (Option.some.inj this).symm
theorem Gg {R:Result→Shared→Prop} (hh:A.handled=none) (hs:mU (bt w) s.heap S es ep t) (hb:es.size < scanBound) {L:Addr} (ne:L≠S) {c0:Nat} (hL:s.heap.get? L=some { cls:=.type "list",data:=.seq #[] c0 }) (res:Value)
  (hR:∀(h':Heap) (d:Drawn) (tk:Nat) (us:List Value) (c':Nat),us.Perm (es.toList.map (·.2))→(∀b o,b≠L→s.heap.get? b=some o→h'.get? b=some o)→h'.get? L=some { cls:=.type "list",dict:=none,data:=.seq us.toArray c',slots:=#[] }→
   R (.ok (.ret res)) { s with heap:=h',drawn:=d,toks:=tk }):
  wpAny (model prog w) A.in1 (Builtin.List.listExtendWith (.ref L) (.ref S) res) (fun fin s'=>match fin with | .done f=>R (.ok f) s' | .again c'=>c'.quiet=true∧codeAny (model prog w) A c' R s') (fun e s'=>R (.error e) s') s:=by
 obtain ⟨os,hos,exs,hds,hf,tb⟩:=id hs
 have hT:s.TypeIs (.ref S) "set":=⟨os,hos,exs.1⟩
 have ltL:L < s.heap.objs.size:=Heap.lt_size hL
 unfold Builtin.List.listExtendWith
 refine wpAny_bind (wpAny_typeOf hT ?_)
 rw [show (Builtin.List.listSameRef (.ref L) (.ref S) || Value.type "set"==Value.type "list" || Value.type "set"==Value.type "tuple")=false by
  rw [show Builtin.List.listSameRef (.ref L) (.ref S)=false by simp [Builtin.List.listSameRef,ne]]
  decide]
 simp only [Bool.false_eq_true,if_false]
 refine wpAny_bind (Ng (A:=A.in1) hh hs hb fun I h1 d fp out St W st pm kp geI okf=>?_)
 have lo:out.length=es.size:=by rw [pm.length_eq,List.length_map,Array.length_toList]
 have bF:L∉fp:=fun z=>(okf L z).elim ne fun z'=>absurd ltL (Nat.not_lt.mpr z')
 have run:∀(h2:Heap) (c1 tk:Nat),St 0 h2→(∀b o,b≠L→s.heap.get? b=some o→h2.get? b=some o)→h2.get? L=some { cls:=.type "list",data:=.seq #[] c1 }→
   codeAny (model prog w) A (.builtin "list.extend.loop" ⟨[.ref L,.ref I,res],[]⟩) R { s with heap:=h2,drawn:=d,toks:=tk }:=fun h2 c1 tk st2 k2 g2=>by
  refine codeAny_extend_loopS W.toS (fits_of_scanBound hb) L bF res es.size 0 _ #[] c1 rfl (Nat.zero_le _) st2 g2 (ItemsOf.nil _) fun s3 acc c3 mv g3 io=>?_
  rw [←lo] at io
  have ea:=Kl io
  subst ea
  rw [Moved.eq_with mv]
  refine hR s3.heap d s3.toks out c3 pm (fun b o nb e=>mv.heap b o (fun z=>?_) (k2 b o nb e)) g3
  rcases List.mem_cons.mp z with z | z
  ·exact nb z
  ·exact absurd (Heap.lt_size e) (by rw [List.mem_singleton.mp z]; exact Nat.not_lt.mpr geI)
 have gL:=kp L _ hL
 have gS:Shared.TypeIs { s with heap:=h1,drawn:=d } (.ref S) "set":=⟨os,kp S _ hos,exs.1⟩
 refine wpAny_bind (wpAny_holding (Nh gS ?_))
 refine wpAny_ite_split (fun _=>?_) fun _=>wpAny_pure ⟨plainId_quiet PySem.F.plain_extend_loop _,run h1 c0 s.toks st (fun b o _ e=>kp b o e) gL⟩
 refine wpAny_bind (wpAny_rule (wpAny_bind (show wpAny _ _ (updateSeq L (·.push .none) >>= fun _=>updateSeq L (·.pop)) _ _ _ from ?_)))
 refine wpAny_bind (wpAny_updateSeq gL rfl ?_)
 have u2:=Heap.get?_update_self (Obj.mapSeq (·.push Value.none)) gL rfl
 refine wpAny_updateSeq (hz:=by seq_fits) u2 rfl ?_
 have u3:=Heap.get?_update_self (Obj.mapSeq (·.pop)) u2 rfl
 have far:∀b o,b≠L→h1.get? b=some o→((h1.update L (Obj.mapSeq (·.push Value.none))).update L (Obj.mapSeq (·.pop))).get? b=some o:=fun b o nb e=>
  (Heap.get?_update_other _ _ (Ne.symm nb)).trans ((Heap.get?_update_other _ _ (Ne.symm nb)).trans e)
 exact wpAny_pure ⟨plainId_quiet PySem.F.plain_extend_loop _,run _ _ s.toks (W.frame 0 _ _ st fun b hb' o e=>far b o (fun z=>bF (z ▸ hb')) e) (fun b o nb e=>far b o nb (kp b o e)) u3⟩
theorem Ck {R:List Value→Shared→Prop} (hh:A.handled=none) (hs:mU (bt w) s.heap S es ep t) (hb:es.size < scanBound)
  (h:∀(h':Heap) (d:Drawn) (tk:Nat) (us:List Value),us.Perm (es.toList.map (·.2))→s.heap.objs.size≤h'.objs.size→(∀b o,s.heap.get? b=some o→h'.get? b=some o)→R us { s with heap:=h',drawn:=d,toks:=tk }):
  wpAny (model prog w) A (collect (.ref S)) R E s:=by
 have ltS:S < s.heap.objs.size:=let ⟨_,e,_⟩:=hs; Heap.lt_size e
 unfold collect
 refine wpAny_bind (wpAny_runValue (codeAny_builtin entry_proto_collect' ?_)); rw [Around.under_plainId PySem.F.plain_proto_collect _]
 show wpAny _ A.in1 (newList [] >>= fun l=>again (.builtin "list.__iadd__" ⟨[l,.ref S],[]⟩)) _ _ s
 refine wpAny_bind (wpAny_newObj_type (wpAny_pure ⟨plainId_quiet PySem.F.plain_list_iadd _,codeAny_builtin entry_list_iadd' ?_⟩)); rw [Around.under_plainId PySem.F.plain_list_iadd _]
 have g0:(s.heap.push { cls:=.type "list",data:=.seq ([]:List Value).toArray }).get? s.heap.objs.size=some { cls:=.type "list",data:=.seq #[] }:=Heap.get?_push_size _ rfl
 show wpAny _ A.in1 (Builtin.List.listExtendWith (.ref s.heap.objs.size) (.ref S) (.ref s.heap.objs.size)) _ _ _
 have key:=Gg (prog:=prog) (A:=A) (s:={ s with heap:=s.heap.push { cls:=.type "list",data:=.seq ([]:List Value).toArray } })
  (R:=fun (q:Result) (s':Shared)=>∃(h':Heap) (d:Drawn) (tk:Nat) (us:List Value) (c':Nat),q=.ok (.ret (.ref s.heap.objs.size))∧s'={ s with heap:=h',drawn:=d,toks:=tk }∧us.Perm (es.toList.map (·.2))∧(∀b o,s.heap.get? b=some o→h'.get? b=some o)∧h'.get? s.heap.objs.size=some { cls:=.type "list",dict:=none,data:=.seq us.toArray c',slots:=#[] })
  hh (hs.at fun o e=>Heap.get?_push_of_some _ e) hb (Nat.ne_of_gt ltS) g0 (.ref s.heap.objs.size) (fun h' d tk us c' pm kk g=>⟨h',d,tk,us,c',rfl,rfl,pm,fun b o e=>kk b o (Nat.ne_of_lt (Heap.lt_size e)) (Heap.get?_push_of_some _ e),g⟩)
 refine wpAny_mono key (fun fin s' x=>?_) fun e s' x=>?_
 ·cases fin with
  | done f=>
   obtain ⟨h',d,tk,us,c',e,rfl,pm,kk,g⟩:=x
   cases e
   show wpAny _ A (load s.heap.objs.size >>= _) _ _ _
   exact wpAny_bind (wpAny_load g (wpAny_pure (h h' d tk us pm (Nat.le_of_lt (Heap.lt_size g)) kk)))
  | again c1=>
   refine ⟨x.1,codeAny_mono x.2 fun q s2 y=>?_⟩
   obtain ⟨h',d,tk,us,c',rfl,rfl,pm,kk,g⟩:=y
   show wpAny _ A (load s.heap.objs.size >>= _) _ _ _
   exact wpAny_bind (wpAny_load g (wpAny_pure (h h' d tk us pm (Nat.le_of_lt (Heap.lt_size g)) kk)))
 ·obtain ⟨_,_,_,_,_,e',_⟩:=x
  cases e'
end
end L2
namespace L2
open PySem PySem.Spec PySem.W PyProof.Rows
section
variable {prog:Program} {w:World} {A:Around} {E:Value→Shared→Prop} {s:Shared} {S:Addr} {es:Array (Int×Value)} {ep:Nat} {t:SetTable}
theorem Gh {Ok:List Value→Prop} {Q:Value→Shared→Prop} (hh:A.handled=none) (hs:mU (bt w) s.heap S es ep t) (few:es.size < 64)
  (srt:∀us:List Value,us.Perm (es.toList.map (·.2))→∀(B:Around) (s1:Shared) (a:Addr) (n:Nat) (P:Fin→Shared→Prop) (E':Value→Shared→Prop),s1.heap.get? a=some (seqObj "list" us.toArray n)→
   (∀out:Array Value,Ok out.toList→P (.done (.ret .none)) { s1 with heap:=sortedHeap s1.heap a us out })→wpAny (model prog w) B (Builtin.«list.sort» ⟨[.ref a],[]⟩) P E' s1)
  (h:∀(D:Addr) (h':Heap) (d:Drawn) (tk c:Nat) (out:Array Value),Ok out.toList→s.heap.objs.size≤D→(∀b o,s.heap.get? b=some o→h'.get? b=some o)→h'.get? D=some (seqObj "list" out c)→Q (.ref D) { s with heap:=h',drawn:=d,toks:=tk }):
  wpAny (model prog w) A (call (.builtin "sorted") [.ref S]) Q E s:=by
 refine Calls.call_function_entry kind_sorted plain_sorted entry_sorted (args_sorted1 _) ?_
 unfold Builtin.«sorted»
 refine wpAny_bind (m:=checkCount "sorted" 1 1 _) (wpAny_pure (wpAny_bind (Ck (A:=A.in1) hh hs (by unfold scanBound; omega) fun h1 d tk us pm ge kk=>?_)))
 have lu:us.length=es.size:=by rw [pm.length_eq,List.length_map,Array.length_toList]
 refine wpAny_bind (wpAny_newList ?_ (by rw [sizeLine_eq]; omega))
 have gL:(h1.push (seqObj "list" us.toArray 0)).get? h1.objs.size=some (seqObj "list" us.toArray 0):=Heap.get?_push_size _ rfl
 refine wpAny_bind (wpAny_holding (wpAny_call_entry slot_list_sort ⟨_,gL,rfl⟩ entry_list_sort (srt us pm _ { s with heap:=h1.push (seqObj "list" us.toArray 0),drawn:=d,toks:=tk } _ 0 _ _ gL fun out ok=>⟨_,rfl,?_⟩) (args_list_sort _)))
 obtain ⟨c,gD⟩:=sortedHeap_at (out:=out) gL
 refine wpAny_pure ⟨_,rfl,h h1.objs.size _ d tk c out ok ge (fun b o e=>?_) gD⟩
 have lb:b < h1.objs.size:=Heap.lt_size (kk b o e)
 show (sortedHeap (h1.push (seqObj "list" us.toArray 0)) h1.objs.size us out).get? b=some o
 rw [sortedHeap_old (Nat.ne_of_lt lb) (by rw [Heap.size_push]; exact Nat.lt_succ_of_lt lb)]
 exact Heap.get?_push_of_some _ (kk b o e)
end
end L2
namespace L2
open PySem PySem.Spec PySem.W PyProof.Rows
theorem Inv.drew {X:Cx} {pins:List (Addr×Obj)} {σ:St} {H:Hp} {s:Shared} (d:Drawn) (I:Inv X pins σ H s):Inv X pins σ H { s with drawn:=d }:=
 I.call (g':=s.gens) (t':=s.toks) (d':=d) (ch:=[]) (Un.kept fun _ _ e=>e) (I.hok.kept fun _ _ e=>e) I.bare (fun _ z=>nomatch z)
section
variable {X:Cx} {T:Type} [DecidableEq T] {knd:PySem.KeyKind X.prog X.w T} {l:Expr} {tl:TE} {p1 p2 pos1 pos2:Pos}
end
section
variable {prog:Program} {w:World}
theorem Ni {es:List (Int×Value)} {ks:List Str} (h:xx (PySem.strKind prog w) es ks):(es.map (·.2)).map strOf=ks∧∀v,v∈es.map (·.2)→∃x t,v=.str x t:=by
 induction h with
 | nil=>exact ⟨rfl,fun v hv=>by cases hv⟩
 | @cons e k es ks a _ ih=>
  obtain ⟨t,ht⟩:=Value.isStrOf_shape (show Value.isStrOf k e.2=true from a.1)
  refine ⟨by rw [List.map_cons,List.map_cons,ih.1,ht]; rfl,fun v hv=>?_⟩
  rcases List.mem_cons.mp hv with rfl | hv
  ·exact ⟨k,t,ht⟩
  ·exact ih.2 v hv
end
section
variable {X:Cx} {l:Expr} {tl:TE} {p1 p2 pos1 pos2:Pos}
end
end L2
namespace L2
open PySem PySem.Spec PySem.W PyProof.Rows
section
variable {prog:Program} {w:World} {A:Around} {E:Value→Shared→Prop} {s:Shared} {R:Result→Shared→Prop} {I S:Addr} {fp wr:List Addr} {n:Nat} {Pv:Nat→Value→Prop} {St:Nat→Heap→Prop} {bt:Nat→Nat→Bool}
noncomputable def Yc (v:Value) (c:Nat):Obj:={ cls:=.type "list",dict:=none,data:=.seq #[v,v] c,slots:=#[] }
end
end L2
namespace L2
open PySem PySem.Spec PySem.W PyProof.Rows
section
variable {prog:Program} {w:World} {A:Around} {E:Value→Shared→Prop} {s:Shared}
theorem zP {id:String} {b:Builtin} {as:List Value} {kw:List (Str×Value)} {Q:Value→Shared→Prop} (hk:builtinKind id=none) (hp:plainId id=true) (hb:entryFor table id=some b) (ha:argsOk id ⟨as,kw⟩)
  (hc:wpAny (model prog w) A.in1 (b ⟨as,kw⟩) (fun fin s'=>match fin with
   | .done f=>(match (Except.ok f:Result) with | .ok (.ret v)=>Q v s' | .ok _=>False | .error e=>E e s')
   | .again c'=>c'.quiet=true∧codeAny (model prog w) A c' (fun r s'=>match r with | .ok (.ret v)=>Q v s' | .ok _=>False | .error e=>E e s') s') E s):wpAny (model prog w) A (call (.builtin id) as kw) Q E s:=by
 refine wpAny_call (codeAny_call_builtin hp hb ?_)
 simp only [checkBuiltinCall,hk]
 cases hg:Manifest.signature? id with
 | none=>exact wpAny_pure hc
 | some sg=>
  simp only [argsOk,hg] at ha
  show wpAny _ A.in1 (Bind.checkArgs id sg ⟨as,kw⟩) _ _ s
  rw [show Bind.checkArgs id sg ⟨as,kw⟩=pure () from ha]
  exact wpAny_pure hc
end
section
variable {X:Cx} {l de:Expr} {tl td:TE} {p pos kp:Pos}
end
end L2
namespace L2
open PySem PySem.Spec PyProof.Rows PySem.W
noncomputable def cN:PyData→Option Key
 | .int i=>some (.inl i)
 | .str x=>some (.inr x)
 | _=>none
noncomputable def keysOf:List PyData→Option (List Key)
 | []=>some []
 | d::r=>match cN d,keysOf r with
  | some k,some t=>some (k::t)
  | _,_=>none
noncomputable def jx:PyData→Option (List Key)
 | .tuple ds=>keysOf ds
 | _=>none
noncomputable def b7 {κ:Type} (f:PyData→Option κ):List (PyData×PyData)→Option (List κ)
 | []=>some []
 | p::r=>match f p.1,b7 f r with
  | some k,some t=>some (k::t)
  | _,_=>none
noncomputable def TY (H:Hp) (a:Addr) (kvs:List (PyData×PyData)) (vs:List V):Prop:=
 (∃ks,b7 cN kvs=some ks∧H a=some (.dK (ks.zip vs)))∨∃ks,(kvs≠[]∧b7 jx kvs=some ks)∧H a=some (.dT (ks.zip vs))
mutual
noncomputable def RZ (H:Hp):PyData→V→Prop
 | .none,v=>v=.non
 | .bool b,v=>v=.bl b
 | .int i,v=>v=.int i
 | .str x,v=>v=.str x
 | .list ds,v=>∃a vs,v=.ref a∧H a=some (.lst vs)∧dU H ds vs
 | .tuple ds,v=>∃a vs,v=.ref a∧H a=some (.tup vs)∧dU H ds vs
 | .dict kvs,v=>∃a vs,v=.ref a∧TY H a kvs vs∧pL H kvs vs
noncomputable def dU (H:Hp):List PyData→List V→Prop
 | [],vs=>vs=[]
 | d::ds,vs=>∃v r,vs=v::r∧RZ H d v∧dU H ds r
noncomputable def pL (H:Hp):List (PyData×PyData)→List V→Prop
 | [],vs=>vs=[]
 | p::r,vs=>∃v t,vs=v::t∧RZp H p v∧pL H r t
noncomputable def RZp (H:Hp):PyData×PyData→V→Prop
 | (_,d),v=>RZ H d v
end
theorem TY.same {H H':Hp} (s:aP H H') {a:Addr} {kvs:List (PyData×PyData)} {vs:List V} (h:TY H a kvs vs):TY H' a kvs vs:=by
 rcases h with ⟨ks,e,h⟩ | ⟨ks,e,h⟩
 ·exact .inl ⟨ks,e,s _ _ h⟩
 ·exact .inr ⟨ks,e,s _ _ h⟩
mutual
theorem RZ.same {H H':Hp} (s:aP H H'):∀{d:PyData} {v:V},RZ H d v→RZ H' d v
 | .none,_,h=>h
 | .bool _,_,h=>h
 | .int _,_,h=>h
 | .str _,_,h=>h
 | .list ds,_,h=>by
  obtain ⟨a,vs,e,q,r⟩:=h
  exact ⟨a,vs,e,s _ _ q,dU.same s r⟩
 | .tuple ds,_,h=>by
  obtain ⟨a,vs,e,q,r⟩:=h
  exact ⟨a,vs,e,s _ _ q,dU.same s r⟩
 | .dict kvs,_,h=>by
  obtain ⟨a,vs,e,q,r⟩:=h
  exact ⟨a,vs,e,q.same s,pL.same s r⟩
theorem dU.same {H H':Hp} (s:aP H H'):∀{ds:List PyData} {vs:List V},dU H ds vs→dU H' ds vs
 | [],_,h=>h
 | d::ds,vs,h=>by
  obtain ⟨v,r,e,q,t⟩:=h
  exact ⟨v,r,e,RZ.same s q,dU.same s t⟩
theorem pL.same {H H':Hp} (s:aP H H'):∀{kvs:List (PyData×PyData)} {vs:List V},pL H kvs vs→pL H' kvs vs
 | [],_,h=>h
 | (k,d)::ds,vs,h=>by
  obtain ⟨v,r,e,q,t⟩:=h
  exact ⟨v,r,e,RZ.same s q,pL.same s t⟩
end
theorem bB {H:Hp}:∀{ds:List PyData} {vs:List V},dU H ds vs→vs.length=ds.length
 | [],_,h=>by cases (show _=[] from h); rfl
 | e::ds,vs,h=>by
  obtain ⟨u,r,e1,q,s⟩:=h
  subst e1
  rw [List.length_cons,List.length_cons,bB s]
theorem qG {H:Hp}:∀{ds:List (PyData×PyData)} {vs:List V},pL H ds vs→vs.length=ds.length
 | [],_,h=>by cases (show _=[] from h); rfl
 | e::ds,vs,h=>by
  obtain ⟨u,r,e1,q,s⟩:=h
  subst e1
  rw [List.length_cons,List.length_cons,qG s]
theorem kW {H:Hp}:∀{ds:List PyData} {vs:List V} {i:Nat} {d:PyData},dU H ds vs→ds[i]?=some d→∃v,vs[i]?=some v∧RZ H d v
 | [],_,_,_,_,e=>by simp at e
 | x::ds,vs,i,d,h,e=>by
  obtain ⟨u,r,e1,q,s⟩:=h
  subst e1
  cases i with
  | zero=>cases e; exact ⟨u,rfl,q⟩
  | succ i=>
   obtain ⟨v,e2,h2⟩:=kW (i:=i) s (by simpa using e)
   exact ⟨v,by simpa using e2,h2⟩
theorem kY {H:Hp}:∀{ds es:List PyData} {vs ws:List V},dU H ds vs→dU H es ws→dU H (ds++es) (vs++ws)
 | [],_,_,_,h,g=>by cases (show _=[] from h); exact g
 | d::ds,_,_,_,h,g=>by
  obtain ⟨u,r,e1,q,s⟩:=h
  subst e1
  exact ⟨u,_,rfl,q,kY s g⟩
theorem Cm {H:Hp}:∀{ds:List PyData} {vs:List V} (n:Nat),dU H ds vs→dU H (ds.take n) (vs.take n)
 | _,_,0,_=>by rw [List.take_zero,List.take_zero]; rfl
 | [],_,n + 1,h=>by cases (show _=[] from h); rfl
 | d::ds,_,n + 1,h=>by
  obtain ⟨u,r,e1,q,s⟩:=h
  subst e1
  exact ⟨u,_,rfl,q,Cm n s⟩
theorem Cp {H:Hp}:∀{ds:List PyData} {vs:List V} (n:Nat),dU H ds vs→dU H (ds.drop n) (vs.drop n)
 | _,_,0,h=>h
 | [],_,n + 1,h=>by cases (show _=[] from h); rfl
 | d::ds,_,n + 1,h=>by
  obtain ⟨u,r,e1,q,s⟩:=h
  subst e1
  exact Cp n s
theorem HY {H:Hp} {d:PyData} {v:V} (hv:RZ H d v):∀{ds:List PyData} {vs:List V} (i:Nat),dU H ds vs→dU H (ds.set i d) (vs.set i v)
 | [],_,_,h=>by cases (show _=[] from h); rfl
 | x::ds,_,i,h=>by
  obtain ⟨u,r,e1,q,s⟩:=h
  subst e1
  cases i with
  | zero=>exact ⟨v,r,rfl,hv,s⟩
  | succ i=>exact ⟨u,_,rfl,q,HY hv i s⟩
noncomputable def fU:PyData→Bool
 | .none=>true
 | .bool _=>true
 | .int _=>true
 | .str _=>true
 | _=>false
noncomputable def toV:PyData→V
 | .none=>.non
 | .bool b=>.bl b
 | .int i=>.int i
 | .str x=>.str x
 | _=>.non
theorem Ro {H:Hp} {d:PyData} {v:V} (f:fU d=true) (h:RZ H d v):v=toV d:=by
 cases d <;> first | exact h | cases f
theorem Rp {H:Hp} {d:PyData} (f:fU d=true):RZ H d (toV d):=by
 cases d <;> first | rfl | cases f
theorem vz {H:Hp}:∀{ds:List PyData} {vs:List V},ds.all fU=true→dU H ds vs→vs=ds.map toV
 | [],_,_,h=>h
 | d::ds,vs,f,h=>by
  obtain ⟨u,r,e1,q,s⟩:=h
  rw [List.all_cons,Bool.and_eq_true] at f
  rw [e1,Ro f.1 q,vz f.2 s]
  rfl
theorem Nj {H:Hp} (ns:List Int):dU H (ns.map PyData.int) (ns.map V.int):=by
 induction ns with
 | nil=>rfl
 | cons n r ih=>exact ⟨_,_,rfl,rfl,ih⟩
theorem Cq {H:Hp} (ns:List Str):dU H (ns.map PyData.str) (ns.map V.str):=by
 induction ns with
 | nil=>rfl
 | cons n r ih=>exact ⟨_,_,rfl,rfl,ih⟩
mutual
noncomputable def xF:PyData→Bool
 | .list _=>false
 | .tuple ds=>fM ds
 | .dict _=>false
 | _=>true
noncomputable def fM:List PyData→Bool
 | []=>true
 | d::r=>xF d&&fM r
end
mutual
theorem RZ.xF {H H':Hp} (t:∀a vs,H a=some (.tup vs)→H' a=some (.tup vs)):∀{d:PyData} {v:V},xF d=true→RZ H d v→RZ H' d v
 | .none,_,_,h=>h
 | .bool _,_,_,h=>h
 | .int _,_,_,h=>h
 | .str _,_,_,h=>h
 | .list ds,_,n,h=>nomatch n
 | .tuple ds,_,n,h=>by
  obtain ⟨a,vs,e,q,r⟩:=h
  exact ⟨a,vs,e,t _ _ q,dU.xF t n r⟩
 | .dict _,_,n,_=>nomatch n
theorem dU.xF {H H':Hp} (t:∀a vs,H a=some (.tup vs)→H' a=some (.tup vs)):∀{ds:List PyData} {vs:List V},fM ds=true→dU H ds vs→dU H' ds vs
 | [],_,_,h=>h
 | d::ds,vs,n,h=>by
  obtain ⟨v,r,e,q,w⟩:=h
  have n':L2.xF d=true∧fM ds=true:=by rw [fM,Bool.and_eq_true] at n; exact n
  exact ⟨v,r,e,RZ.xF t n'.1 q,dU.xF t n'.2 w⟩
end
mutual
noncomputable def Nk:PyData→Bool
 | .list ds=>Cr ds
 | .tuple ds=>Cr ds
 | .dict _=>false
 | _=>true
noncomputable def Cr:List PyData→Bool
 | []=>true
 | d::r=>Nk d&&Cr r
end
mutual
theorem RZ.rx {H:Hp}:∀{d:PyData} {v:V},Nk d=true→RZ H d v→RX H d v
 | .none,_,_,h=>h
 | .bool _,_,_,h=>h
 | .int _,_,_,h=>h
 | .str _,_,_,h=>h
 | .list ds,_,n,h=>by
  obtain ⟨a,vs,e,q,r⟩:=h
  exact ⟨a,vs,e,q,dU.rx n r⟩
 | .tuple ds,_,n,h=>by
  obtain ⟨a,vs,e,q,r⟩:=h
  exact ⟨a,vs,e,q,dU.rx n r⟩
 | .dict _,_,n,_=>nomatch n
theorem dU.rx {H:Hp}:∀{ds:List PyData} {vs:List V},Cr ds=true→dU H ds vs→Ca H ds vs
 | [],_,_,h=>h
 | d::ds,vs,n,h=>by
  obtain ⟨v,r,e,q,t⟩:=h
  have n':Nk d=true∧Cr ds=true:=by rw [Cr,Bool.and_eq_true] at n; exact n
  exact ⟨v,r,e,RZ.rx n'.1 q,dU.rx n'.2 t⟩
end
inductive Vl where
 | im (d:PyData)
 | ow (d:PyData)
 | ce (n:Nat)
 | sc (ns:List Int)
noncomputable abbrev En:=List (Option Vl)
noncomputable abbrev Ce:=List (List Int)
noncomputable def own1:Option Vl→Option V→List Addr
 | some (.ow _),some (.ref a)=>[a]
 | _,_=>[]
noncomputable def aV:En→St→List Addr
 | x::e,v::s=>own1 x v++aV e s
 | _,_=>[]
theorem b8 {a:Addr}:∀{env:En} {σ:St},a∈aV env σ ↔ ∃(i:Nat) (d:PyData),env[i]?=some (some (Vl.ow d))∧σ[i]?=some (some (V.ref a))
 | [],σ=>by
  constructor
  ·intro h; simp [aV] at h
  ·rintro ⟨i,d,e,_⟩; simp at e
 | x::e,[]=>by
  constructor
  ·intro h; simp [aV] at h
  ·rintro ⟨i,d,_,e⟩; simp at e
 | x::e,v::s=>by
  rw [aV,List.mem_append,b8 (env:=e) (σ:=s)]
  constructor
  ·rintro (h | ⟨i,d,h1,h2⟩)
   ·unfold own1 at h
    split at h
    ·rw [List.mem_singleton] at h
     subst h
     exact ⟨0,_,rfl,rfl⟩
    ·simp at h
   ·exact ⟨i + 1,d,by simpa using h1,by simpa using h2⟩
  ·rintro ⟨i,d,h1,h2⟩
   cases i with
   | zero=>
    simp at h1 h2
    subst h1 h2
    exact .inl (List.mem_singleton.mpr rfl)
   | succ i=>exact .inr ⟨i,d,by simpa using h1,by simpa using h2⟩
theorem qH {a:Addr}:∀{env:En} {σ:St} {i j:Nat} {d e:PyData},(aV env σ).Nodup→env[i]?=some (some (Vl.ow d))→σ[i]?=some (some (V.ref a))→env[j]?=some (some (Vl.ow e))→σ[j]?=some (some (V.ref a))→i=j
 | [],_,i,_,_,_,_,h,_,_,_=>by simp at h
 | _::_,[],i,_,_,_,_,_,h,_,_=>by simp at h
 | x::en,v::s,i,j,d,e,nd,h1,h2,h3,h4=>by
  rw [aV,List.nodup_append] at nd
  cases i with
  | zero=>
   cases j with
   | zero=>rfl
   | succ j=>
    simp at h1 h2
    subst h1 h2
    have:a∈aV en s:=b8.mpr ⟨j,e,by simpa using h3,by simpa using h4⟩
    exact absurd rfl (nd.2.2 a (List.mem_singleton.mpr rfl) a this)
  | succ i=>
   cases j with
   | zero=>
    simp at h3 h4
    subst h3 h4
    have:a∈aV en s:=b8.mpr ⟨i,d,by simpa using h1,by simpa using h2⟩
    exact absurd rfl (nd.2.2 a (List.mem_singleton.mpr rfl) a this)
   | succ j=>rw [qH (i:=i) (j:=j) nd.2.1 (by simpa using h1) (by simpa using h2) (by simpa using h3) (by simpa using h4)]
noncomputable def fz1 (x y:Option Vl):Prop:=y=x∨∃d,x=some (.ow d)∧y=some (.im d)
noncomputable def Fz:En→En→Prop
 | [],[]=>True
 | x::r,y::t=>fz1 x y∧Fz r t
 | _,_=>False
theorem Fz.refl:∀e:En,Fz e e
 | []=>trivial
 | x::r=>⟨.inl rfl,Fz.refl r⟩
theorem Fz.trans:∀{a b c:En},Fz a b→Fz b c→Fz a c
 | [],[],[],_,_=>trivial
 | x::r,y::t,z::w,h,g=>by
  refine ⟨?_,Fz.trans h.2 g.2⟩
  rcases h.1 with e | ⟨d,e1,e2⟩
  ·rw [←e]; exact g.1
  ·rcases g.1 with e | ⟨d',e3,e4⟩
   ·exact .inr ⟨d,e1,e.trans e2⟩
   ·rw [e2] at e3; cases e3
 | [],[],_::_,_,g=>nomatch g
 | [],_::_,_,h,_=>nomatch h
 | _::_,[],_,h,_=>nomatch h
 | _::_,_::_,[],_,g=>nomatch g
theorem Fz.len:∀{a b:En},Fz a b→b.length=a.length
 | [],[],_=>rfl
 | _::_,_::_,h=>by rw [List.length_cons,List.length_cons,Fz.len h.2]
 | [],_::_,h=>nomatch h
 | _::_,[],h=>nomatch h
theorem Fz.at:∀{a b:En} {i:Nat} {y:Vl},Fz a b→b[i]?=some (some y)→a[i]?=some (some y)∨∃d,a[i]?=some (some (.ow d))∧y=.im d
 | [],[],i,y,_,e=>by simp at e
 | x::r,z::t,0,y,h,e=>by
  simp at e
  rcases h.1 with q | ⟨d,q1,q2⟩
  ·left; rw [←q,e]; rfl
  ·right; rw [e] at q2; cases q2; exact ⟨d,by rw [q1]; rfl,rfl⟩
 | x::r,z::t,i + 1,y,h,e=>by
  simpa using Fz.at (i:=i) h.2 (by simpa using e)
 | [],_::_,_,_,h,_=>nomatch h
 | _::_,[],_,_,h,_=>nomatch h
theorem Rq {x y:Option Vl} (h:fz1 x y) (v:Option V):List.Sublist (own1 y v) (own1 x v):=by
 rcases h with e | ⟨d,e1,e2⟩
 ·rw [e]; exact List.Sublist.refl _
 ·rw [e2]; exact List.nil_sublist _
theorem Fz.own:∀{a b:En} {σ:St},Fz a b→List.Sublist (aV b σ) (aV a σ)
 | [],[],σ,_=>by cases σ <;> exact List.Sublist.refl _
 | x::r,y::t,[],h=>List.Sublist.refl _
 | x::r,y::t,v::s,h=>by
  rw [aV,aV]
  exact List.Sublist.append (Rq h.1 v) (Fz.own h.2)
 | [],_::_,_,h=>nomatch h
 | _::_,[],_,h=>nomatch h
noncomputable abbrev aK (Z Θ:List Addr) (env:En) (σ:St):List Addr:=Z++(Θ++aV env σ)
noncomputable def mV (E H:Hp) (a:Addr):PyData→Prop
 | .list ds=>∃vs,H a=some (.lst vs)∧dU E ds vs
 | .dict kvs=>∃vs,TY H a kvs vs∧pL E kvs vs
 | _=>False
theorem mV.same {E E' H H':Hp} {a:Addr} {d:PyData} (s:aP E E') (h:∀o,H a=some o→H' a=some o) (r:mV E H a d):mV E' H' a d:=by
 cases d <;> first | exact r.elim | skip
 ·obtain ⟨vs,e,q⟩:=r
  exact ⟨vs,h _ e,q.same s⟩
 ·obtain ⟨vs,e,q⟩:=r
  refine ⟨vs,?_,q.same s⟩
  rcases e with ⟨ks,k,e⟩ | ⟨ks,k,e⟩
  ·exact .inl ⟨ks,k,h _ e⟩
  ·exact .inr ⟨ks,k,h _ e⟩
theorem mV.rz {E H:Hp} {a:Addr} {d:PyData} (h:∀o,H a=some o→E a=some o) (r:mV E H a d):RZ E d (.ref a):=by
 cases d <;> first | exact r.elim | skip
 ·obtain ⟨vs,e,q⟩:=r
  exact ⟨a,vs,rfl,h _ e,q⟩
 ·obtain ⟨vs,e,q⟩:=r
  refine ⟨a,vs,rfl,?_,q⟩
  rcases e with ⟨ks,k,e⟩ | ⟨ks,k,e⟩
  ·exact .inl ⟨ks,k,h _ e⟩
  ·exact .inr ⟨ks,k,h _ e⟩
structure bA (Θ:List Addr) (H H':Hp):Prop where
 keep:∀a o,H a=some o→a∉Θ→H' a=some o
 dom:∀a,H a≠none→H' a≠none
theorem bA.refl (Θ:List Addr) (H:Hp):bA Θ H H:=⟨fun _ _ e _=>e,fun _ e=>e⟩
theorem bA.trans {Θ:List Addr} {H H1 H2:Hp} (a:bA Θ H H1) (b:bA Θ H1 H2):bA Θ H H2:=⟨fun c o e n=>b.keep _ _ (a.keep _ _ e n) n,fun c e=>b.dom _ (a.dom _ e)⟩
theorem bA.none {Θ:List Addr} {H H':Hp} (k:bA Θ H H') {a:Addr} (h:H' a=none):H a=none:=by
 cases e:H a with
 | none=>rfl
 | some o=>exact absurd h (k.dom a (by rw [e]; exact Option.some_ne_none _))
theorem bA.of {Θ:List Addr} {H H':Hp} (s:aP H H'):bA Θ H H':=⟨fun a o e _=>s _ _ e,fun a h=>by
 cases e:H a with
 | none=>exact absurd e h
 | some o=>rw [s _ _ e]; exact Option.some_ne_none _⟩
theorem bA.upd {Θ:List Addr} {H:Hp} {p:Addr} {o:HO} (h:H p=Option.none):bA Θ H (L2.upd H p o):=bA.of (aP.upd h)
theorem fj {Z Z' Θ:List Addr} {H H':Hp} (k:bA Θ H H') (ht:∀a∈Θ,a∈Z) (hz:∀a,a∈Z'→a∈Z∨H a=none):aP (er Z H) (er Z' H'):=fun b o h=>by
 unfold er at h ⊢
 split at h
 ·cases h
 ·rename_i n
  rw [if_neg,k.keep _ _ h (fun m=>n (ht b m))]
  intro m
  rcases hz b m with q | q
  ·exact n q
  ·rw [q] at h; cases h
noncomputable def Km (K:PySem.W.Frag) (E H:Hp) (Θ:List Addr):Vl→V→Prop
 | .im d,v=>RZ E d v
 | .ow d,v=>∃a,v=.ref a∧mV E H a d
 | .ce n,v=>∃a,v=.ref a∧Θ[n]?=some a
 | .sc ns,v=>∃a,v=.ref a∧cM K E a (ns.map V.int)
noncomputable def NT (o:Option HO):Prop:=∃u,o=some u∧∀vs,u≠.tup vs
theorem NT.ne {o:Option HO} (h:NT o):o≠none:=by
 obtain ⟨u,rfl,_⟩:=h
 exact Option.some_ne_none _
theorem mV.nt {E H:Hp} {a:Addr} {d:PyData} (r:mV E H a d):NT (H a):=by
 cases d <;> first | exact r.elim | skip
 ·obtain ⟨vs,e,q⟩:=r
  exact ⟨_,e,fun _ z=>nomatch z⟩
 ·obtain ⟨vs,e,q⟩:=r
  rcases e with ⟨ks,k,e⟩ | ⟨ks,k,e⟩
  ·exact ⟨_,e,fun _ z=>nomatch z⟩
  ·exact ⟨_,e,fun _ z=>nomatch z⟩
theorem mV.there {E H:Hp} {a:Addr} {d:PyData} (r:mV E H a d):H a≠none:=r.nt.ne
structure dW (Θ:List Addr) (C:Ce) (H:Hp):Prop where
 len:C.length=Θ.length
 at_:∀(n:Nat) (a:Addr) (ns:List Int),Θ[n]?=some a→C[n]?=some ns→H a=some (.lst (ns.map V.int))
structure Sm (K:PySem.W.Frag) (Z Θ:List Addr) (env:En) (C:Ce) (σ:St) (H:Hp):Prop where
 len:σ.length=env.length
 nd:(aK Z Θ env σ).Nodup
 dom:∀a∈Z,NT (H a)
 slot:∀(i:Nat) (x:Vl),env[i]?=some (some x)→∃v,σ[i]?=some (some v)∧Km K (er (aK Z Θ env σ) H) H Θ x v
 cell:dW Θ C H
theorem dW.dom {Θ:List Addr} {C:Ce} {H:Hp} (c:dW Θ C H):∀a∈Θ,NT (H a):=fun a m=>by
 obtain ⟨n,hn,e⟩:=List.getElem_of_mem m
 have e1:Θ[n]?=some a:=by rw [List.getElem?_eq_getElem hn,e]
 have h2:n < C.length:=by rw [c.len]; exact hn
 exact ⟨_,c.at_ n a C[n] e1 (List.getElem?_eq_getElem h2),fun _ z=>nomatch z⟩
section
variable {K:PySem.W.Frag} {Z Θ:List Addr} {env env':En} {C C':Ce} {σ:St} {H H':Hp}
theorem Sm.Zn (S:Sm K Z Θ env C σ H):∀a∈aK Z Θ env σ,NT (H a):=fun a m=>by
 rcases List.mem_append.mp m with m | m
 ·exact S.dom a m
 ·rcases List.mem_append.mp m with m | m
  ·exact S.cell.dom a m
  ·obtain ⟨i,d,e1,e2⟩:=b8.mp m
   obtain ⟨v,e3,b,e4,r⟩:=S.slot i _ e1
   rw [e2] at e3
   cases e3
   cases e4
   exact r.nt
theorem Sm.zQ (S:Sm K Z Θ env C σ H):∀a∈aK Z Θ env σ,H a≠none:=fun a m=>(S.Zn a m).ne
theorem Sm.H9 (S:Sm K Z Θ env C σ H):∀a∈Θ,a∈aK Z Θ env σ:=fun a m=>List.mem_append_right _ (List.mem_append_left _ m)
theorem Km.same {E E':Hp} {x:Vl} {v:V} (s:aP E E') (h:∀d a,x=.ow d→v=.ref a→∀o,H a=some o→H' a=some o) (r:Km K E H Θ x v):Km K E' H' Θ x v:=by
 cases x with
 | im d=>exact RZ.same s r
 | ow d=>obtain ⟨a,e,q⟩:=r; exact ⟨a,e,q.same s (h d a rfl e)⟩
 | ce n=>exact r
 | sc ns=>obtain ⟨a,e,q⟩:=r; exact ⟨a,e,s.seq q⟩
theorem Sm.eU (S:Sm K Z Θ env C σ H) {a:Addr} (m:a∈aV env σ):a∉Z∧a∉Θ:=by
 have h:=S.nd
 rw [List.nodup_append] at h
 obtain ⟨_,h2,h3⟩:=h
 rw [List.nodup_append] at h2
 refine ⟨fun z=>h3 a z a (List.mem_append_right _ m) rfl,fun z=>h2.2.2 a z a m rfl⟩
theorem Sm.go (S:Sm K Z Θ env C σ H) (k:bA Θ H H') (c:dW Θ C' H'):Sm K Z Θ env C' σ H' where
 len:=S.len
 nd:=S.nd
 dom:=fun a m=>by
  obtain ⟨u,e,n⟩:=S.dom a m
  have h:=S.nd
  rw [List.nodup_append] at h
  exact ⟨u,k.keep _ _ e fun z=>h.2.2 a m a (List.mem_append_left _ z) rfl,n⟩
 slot:=fun i x e=>by
  obtain ⟨v,e1,r⟩:=S.slot i x e
  refine ⟨v,e1,r.same (fj k S.H9 fun a m=>.inl m) fun d a ex ev o ho=>k.keep _ _ ho ?_⟩
  subst ex ev
  exact (S.eU (b8.mpr ⟨i,d,e,e1⟩)).2
 cell:=c
theorem Sm.fz (S:Sm K Z Θ env C σ H) (f:Fz env env'):Sm K Z Θ env' C σ H:=by
 have sub:List.Sublist (aK Z Θ env' σ) (aK Z Θ env σ):=List.Sublist.append (List.Sublist.refl _) (List.Sublist.append (List.Sublist.refl _) f.own)
 have sm:aP (er (aK Z Θ env σ) H) (er (aK Z Θ env' σ) H):=fj (bA.refl [] H) (fun _ m=>nomatch m) fun a m=>.inl (sub.subset m)
 refine ⟨by rw [f.len]; exact S.len,sub.nodup S.nd,S.dom,fun i x e0=>?_,S.cell⟩
 rcases f.at e0 with e | ⟨d,e,ex⟩
 ·obtain ⟨v,e1,r⟩:=S.slot i x e
  exact ⟨v,e1,r.same sm fun _ _ _ _ _ ho=>ho⟩
 ·subst ex
  obtain ⟨v,e1,a,ev,r⟩:=S.slot i _ e
  subst ev
  refine ⟨_,e1,mV.rz (H:=H) (fun o ho=>?_) (r.same sm fun _ ho=>ho)⟩
  unfold er
  rw [if_neg]
  ·exact ho
  ·intro m
   have hm:a∈aV env σ:=b8.mpr ⟨i,d,e,e1⟩
   rcases List.mem_append.mp m with m | m
   ·exact (S.eU hm).1 m
   ·rcases List.mem_append.mp m with m | m
    ·exact (S.eU hm).2 m
    ·obtain ⟨j,d',e3,e4⟩:=b8.mp m
     have nd:=S.nd
     rw [List.nodup_append] at nd
     have nd2:=nd.2.1
     rw [List.nodup_append] at nd2
     rcases f.at e3 with e5 | ⟨_,_,e5⟩
     ·have:=qH nd2.2.1 e e1 e5 e4
      subst this
      rw [e0] at e3
      cases e3
     ·cases e5
end
end L2
namespace L2
open PySem PySem.Spec PyProof.Rows PySem.W
section
variable {K:PySem.W.Frag} {Z Θ:List Addr} {env env':En} {C C':Ce} {σ:St} {H H':Hp} {a p:Addr}
theorem Sm.pop (S:Sm K (a::Z) Θ env C σ H):Sm K Z Θ env C σ H:=by
 have sm:aP (er (aK (a::Z) Θ env σ) H) (er (aK Z Θ env σ) H):=fj (bA.refl [] H) (fun _ m=>nomatch m) fun b m=>.inl (List.mem_cons_of_mem _ m)
 exact ⟨S.len,(List.nodup_cons.mp S.nd).2,fun b m=>S.dom b (List.mem_cons_of_mem _ m),fun i x e=>let ⟨v,e1,r⟩:=S.slot i x e; ⟨v,e1,r.same sm fun _ _ _ _ _ h=>h⟩,S.cell⟩
theorem Sm.push (S:Sm K Z Θ env C σ H) (hp:H p=none) (o:HO) (ho:∀vs,o≠.tup vs):Sm K (p::Z) Θ env C σ (upd H p o):=by
 have k:bA Θ H (upd H p o):=bA.upd hp
 have sm:aP (er (aK Z Θ env σ) H) (er (aK (p::Z) Θ env σ) (upd H p o)):=fj k S.H9 fun b m=>by
  rcases List.mem_cons.mp m with rfl | m
  ·exact .inr hp
  ·exact .inl m
 have c:dW Θ C (upd H p o):=⟨S.cell.len,fun n b ns e1 e2=>by
  have:=S.cell.at_ n b ns e1 e2
  rw [aJ (aZ this hp)]
  exact this⟩
 refine ⟨S.len,List.nodup_cons.mpr ⟨fun m=>S.zQ p m hp,S.nd⟩,fun b m=>?_,fun i x e=>?_,c⟩
 ·rcases List.mem_cons.mp m with rfl | m
  ·exact ⟨o,aH,ho⟩
  ·obtain ⟨u,e,n⟩:=S.dom b m
   exact ⟨u,by rw [aJ (aZ e hp)]; exact e,n⟩
 ·obtain ⟨v,e1,r⟩:=S.slot i x e
  refine ⟨v,e1,r.same sm fun d b ex ev o' ho=>?_⟩
  rw [aJ (aZ ho hp)]
  exact ho
theorem Sm.vq (S:Sm K Z Θ env C σ H) (s:aP H H'):Sm K Z Θ env C σ H':=
 S.go (bA.of s) ⟨S.cell.len,fun n b ns e1 e2=>s _ _ (S.cell.at_ n b ns e1 e2)⟩
noncomputable def Res (K:PySem.W.Frag) (Z Θ:List Addr) (env:En) (C:Ce) (σ:St) (H H':Hp):Vl→V→Prop
 | .im d,v=>Sm K Z Θ env C σ H'∧RZ (er (aK Z Θ env σ) H') d v
 | .ow d,v=>∃a,v=.ref a∧H a=none∧Sm K (a::Z) Θ env C σ H'∧mV (er (aK (a::Z) Θ env σ) H') H' a d
 | .ce n,v=>Sm K Z Θ env C σ H'∧∃a,v=.ref a∧Θ[n]?=some a
 | .sc ns,v=>Sm K Z Θ env C σ H'∧∃a,v=.ref a∧cM K (er (aK Z Θ env σ) H') a (ns.map V.int)
noncomputable def VJ (E T:Hp):PyData→V→Prop
 | .list ds,v=>∃a vs,v=.ref a∧T a=some (.lst vs)∧dU E ds vs
 | .dict kvs,v=>∃a vs,v=.ref a∧TY T a kvs vs∧pL E kvs vs
 | d,v=>RZ E d v
theorem VJ.same {E E' T T':Hp} {d:PyData} {v:V} (s:aP E E') (t:aP T T') (h:VJ E T d v):VJ E' T' d v:=by
 cases d <;> first | exact RZ.same s h | skip
 ·obtain ⟨a,vs,e,q,r⟩:=h
  exact ⟨a,vs,e,t _ _ q,r.same s⟩
 ·obtain ⟨a,vs,e,q,r⟩:=h
  exact ⟨a,vs,e,q.same t,r.same s⟩
theorem RZ.bor {E T:Hp} {d:PyData} {v:V} (t:aP E T) (h:RZ E d v):VJ E T d v:=by
 cases d <;> first | exact h | skip
 ·obtain ⟨a,vs,e,q,r⟩:=h
  exact ⟨a,vs,e,t _ _ q,r⟩
 ·obtain ⟨a,vs,e,q,r⟩:=h
  exact ⟨a,vs,e,q.same t,r⟩
noncomputable abbrev dX (Z Θ:List Addr) (env:En) (σ:St) (H:Hp) (d:PyData) (v:V):Prop:=VJ (er (aK Z Θ env σ) H) (er Θ H) d v
theorem jH {Z Z':List Addr} {H:Hp} (h:∀a,a∈Z'→a∈Z):aP (er Z H) (er Z' H):=fj (bA.refl [] H) (fun _ m=>nomatch m) fun b m=>.inl (h b m)
theorem T3:aP (er (aK Z Θ env σ) H) (er Θ H):=jH fun a m=>List.mem_append_right _ (List.mem_append_left _ m)
theorem Fz.sub (f:Fz env env'):∀a,a∈aK Z Θ env' σ→a∈aK Z Θ env σ:=fun a m=>
 (List.Sublist.append (List.Sublist.refl _) (List.Sublist.append (List.Sublist.refl _) f.own)).subset m
theorem Nm (S:Sm K Z Θ env C σ H) (k:bA Θ H H') (f:Fz env env'):aP (er (aK Z Θ env σ) H) (er (aK Z Θ env' σ) H'):=fj k S.H9 fun a m=>.inl (f.sub a m)
theorem zR (k:bA Θ H H'):aP (er Θ H) (er Θ H'):=fj k (fun _ m=>m) fun a m=>.inl m
theorem dX.go {d:PyData} {v:V} (h:dX Z Θ env σ H d v) (S:Sm K Z Θ env C σ H) (k:bA Θ H H') (f:Fz env env'):dX Z Θ env' σ H' d v:=VJ.same (Nm S k f) (zR k) h
noncomputable def dat:Vl→Option PyData
 | .im d=>some d
 | .ow d=>some d
 | .ce _=>none
 | .sc _=>none
theorem Res.sm {r:Vl} {v:V} (h:Res K Z Θ env C σ H H' r v):Sm K Z Θ env C σ H':=by
 cases r with
 | im d=>exact h.1
 | ow d=>obtain ⟨a,_,_,S,_⟩:=h; exact S.pop
 | ce n=>exact h.1
 | sc ns=>exact h.1
theorem Res.bor {r:Vl} {v:V} {d:PyData} (h:Res K Z Θ env C σ H H' r v) (e:dat r=some d):dX Z Θ env σ H' d v:=by
 cases r with
 | im d'=>cases e; exact RZ.bor T3 h.2
 | ow d'=>
  cases e
  obtain ⟨a,rfl,_,S,r⟩:=h
  have na:a∉Θ:=fun m=>(List.nodup_cons.mp S.nd).1 (List.mem_append_right _ (List.mem_append_left _ m))
  have sm:aP (er (aK (a::Z) Θ env σ) H') (er (aK Z Θ env σ) H'):=jH fun b m=>List.mem_cons_of_mem _ m
  have ha:∀o,H' a=some o→er Θ H' a=some o:=fun o ho=>by unfold er; rw [if_neg na]; exact ho
  cases d <;> first | exact r.elim | skip
  ·obtain ⟨vs,e,q⟩:=r
   exact ⟨a,vs,rfl,ha _ e,q.same sm⟩
  ·obtain ⟨vs,e,q⟩:=r
   refine ⟨a,vs,rfl,?_,q.same sm⟩
   rcases e with ⟨ks,k,e⟩ | ⟨ks,k,e⟩
   ·exact .inl ⟨ks,k,ha _ e⟩
   ·exact .inr ⟨ks,k,ha _ e⟩
 | ce n=>cases e
 | sc ns=>cases e
noncomputable def still:Vl→Vl
 | .ow d=>.im d
 | r=>r
theorem Res.still {r:Vl} {v:V} (h:Res K Z Θ env C σ H H' r v):Res K Z Θ env C σ H H' (still r) v:=by
 cases r with
 | ow d=>
  obtain ⟨a,rfl,hn,S,r⟩:=h
  refine ⟨S.pop,mV.rz (H:=H') (fun o ho=>?_) (r.same (jH fun b m=>List.mem_cons_of_mem _ m) fun _ h=>h)⟩
  unfold er
  rw [if_neg (show ¬a∈aK Z Θ env σ from (List.nodup_cons.mp S.nd).1)]
  exact ho
 | im d=>exact h
 | ce n=>exact h
 | sc ns=>exact h
theorem Res.from {H0:Hp} {r:Vl} {v:V} (h:Res K Z Θ env C σ H H' r v) (k:bA Θ H0 H):Res K Z Θ env C σ H0 H' r v:=by
 cases r with
 | ow d=>
  obtain ⟨a,e,hn,S,r⟩:=h
  exact ⟨a,e,k.none hn,S,r⟩
 | im d=>exact h
 | ce n=>exact h
 | sc ns=>exact h
theorem sr (S:Sm K Z Θ env C σ H) {a:Addr} {vs:List V} (h:H a=some (.tup vs)):er (aK Z Θ env σ) H a=some (.tup vs):=by
 unfold er
 rw [if_neg]
 ·exact h
 ·intro m
  obtain ⟨u,e,n⟩:=S.Zn a m
  rw [h] at e
  exact n vs (Option.some.inj e).symm
noncomputable def rst (r:Vl) (env env':En):En:=match r with
 | .im d=>if xF d then env else env'
 | _=>env'
theorem Res.rst {r:Vl} {v:V} (S:Sm K Z Θ env C σ H) (k:bA Θ H H') (h:Res K Z Θ env' C' σ H H' r v):Res K Z Θ (rst r env env') C' σ H H' r v:=by
 cases r with
 | im d=>
  by_cases f:L2.xF d=true
  ·have:L2.rst (.im d) env env'=env:=if_pos f
   rw [this]
   have S':=S.go k h.1.cell
   exact ⟨S',h.2.xF (fun a vs e=>sr S' (bJ e)) f⟩
  ·have:L2.rst (.im d) env env'=env':=if_neg f
   rw [this]
   exact h
 | ow d=>exact h
 | ce n=>exact h
 | sc ns=>exact h
theorem Fz.rst (r:Vl) (f:Fz env env'):Fz env (rst r env env'):=by
 cases r with
 | im d=>
  show Fz env (if L2.xF d then env else env')
  split
  ·exact Fz.refl _
  ·exact f
 | ow d=>exact f
 | ce n=>exact f
 | sc ns=>exact f
theorem bh {d:PyData} (S:Sm K Z Θ env C σ H) (f:fU d=true) {v:V} (hv:v=toV d):Res K Z Θ env C σ H H (.im d) v:=⟨S,by rw [hv]; exact Rp f⟩
theorem dI {ds:List PyData} {vs:List V} (S:Sm K Z Θ env C σ H) (r:dU (er (aK Z Θ env σ) H) ds vs) (hp:H p=none):Res K Z Θ env C σ H (upd H p (.lst vs)) (.ow (.list ds)) (.ref p):=by
 refine ⟨p,rfl,hp,S.push hp _ (fun _ z=>nomatch z),vs,aH,r.same (fj (bA.upd (Θ:=Θ) hp) S.H9 fun b m=>?_)⟩
 rcases List.mem_cons.mp m with rfl | m
 ·exact .inr hp
 ·exact .inl m
theorem Rr {kvs:List (PyData×PyData)} {vs:List V} {o:HO} (S:Sm K Z Θ env C σ H) (ho:∀vs,o≠.tup vs) (d:TY (upd H p o) p kvs vs) (r:pL (er (aK Z Θ env σ) H) kvs vs) (hp:H p=none):Res K Z Θ env C σ H (upd H p o) (.ow (.dict kvs)) (.ref p):=by
 refine ⟨p,rfl,hp,S.push hp _ ho,vs,d,r.same (fj (bA.upd (Θ:=Θ) hp) S.H9 fun b m=>?_)⟩
 rcases List.mem_cons.mp m with rfl | m
 ·exact .inr hp
 ·exact .inl m
theorem uB {ds:List PyData} {vs:List V} (S:Sm K Z Θ env C σ H) (r:dU (er (aK Z Θ env σ) H) ds vs) (hp:H p=none):Res K Z Θ env C σ H (upd H p (.tup vs)) (.im (.tuple ds)) (.ref p):=by
 have S':=S.vq (aP.upd (o:=.tup vs) hp)
 refine ⟨S',p,vs,rfl,?_,r.same (fj (bA.upd (Θ:=Θ) hp) S.H9 fun b m=>.inl m)⟩
 unfold er
 rw [if_neg (fun m=>S.zQ p m hp),aH]
end
noncomputable abbrev FE:=En→Ce→Option (Vl×En×Ce)
noncomputable abbrev FB:=En→Ce→Option (PyData×En×Ce)
noncomputable abbrev FT:=En→Ce→Option (Bool×Ce)
noncomputable abbrev Qu:=En→Ce→Option (List PyData×En×Ce)
noncomputable abbrev FA:=En→Ce→Option (List Vl×En×Ce)
inductive tE (K:PySem.W.Frag) (f:FE) (σ:St) (H:Hp) (Q:VK):Prop
 | mk (Z Θ:List Addr) (env:En) (C:Ce) (r:Vl) (env':En) (C':Ce) (S:Sm K Z Θ env C σ H) (hf:f env C=some (r,env',C')) (q:∀v H',bA Θ H H'→Fz env env'→Res K Z Θ env' C' σ H H' r v→Q v H'):tE K f σ H Q
inductive lZ (K:PySem.W.Frag) (f:FB) (σ:St) (H:Hp) (Q:VK):Prop
 | mk (Z Θ:List Addr) (env:En) (C:Ce) (d:PyData) (env':En) (C':Ce) (S:Sm K Z Θ env C σ H) (hf:f env C=some (d,env',C')) (q:∀v H',bA Θ H H'→Fz env env'→Sm K Z Θ env' C' σ H'→dX Z Θ env' σ H' d v→Q v H'):lZ K f σ H Q
inductive mF (K:PySem.W.Frag) (f:FT) (σ:St) (H:Hp) (Q:Bool→Hp→Prop):Prop
 | mk (Z Θ:List Addr) (env:En) (C:Ce) (b:Bool) (C':Ce) (S:Sm K Z Θ env C σ H) (hf:f env C=some (b,C')) (q:∀H',bA Θ H H'→Sm K Z Θ env C' σ H'→Q b H'):mF K f σ H Q
inductive Gi (E T:Hp):List PyData→List V→Prop
 | nil:Gi E T [] []
 | cons {d:PyData} {v:V} {ds:List PyData} {vs:List V}:VJ E T d v→Gi E T ds vs→Gi E T (d::ds) (v::vs)
noncomputable abbrev Ia (Z Θ:List Addr) (env:En) (σ:St) (H:Hp) (ds:List PyData) (vs:List V):Prop:=Gi (er (aK Z Θ env σ) H) (er Θ H) ds vs
inductive Rt (K:PySem.W.Frag) (f:Qu) (σ:St) (H:Hp) (Q:List V→Hp→Prop):Prop
 | mk (Z Θ:List Addr) (env:En) (C:Ce) (ds:List PyData) (env':En) (C':Ce) (S:Sm K Z Θ env C σ H) (hf:f env C=some (ds,env',C')) (q:∀vs H',bA Θ H H'→Fz env env'→Sm K Z Θ env' C' σ H'→Ia Z Θ env' σ H' ds vs→Q vs H'):Rt K f σ H Q
theorem PE.weak {X:Cx} {e:Expr} {t t':TE} (h:PE X e t) (w:∀σ H Q,t' σ H Q→t σ H Q):PE X e t':=fun pins s σ H Q I q=>h pins s σ H Q I (w σ H Q q)
theorem PT.weak {X:Cx} {e:Expr} {t t':TT} (h:PT X e t) (w:∀σ H Q,t' σ H Q→t σ H Q):PT X e t':=fun pins s σ H Q I q=>h pins s σ H Q I (w σ H Q q)
theorem PA.weak {X:Cx} {e:List Expr} {t t':TA} (h:PA X e t) (w:∀σ H Q,t' σ H Q→t σ H Q):PA X e t':=fun p pins s σ H Q I q=>h p pins s σ H Q I (w σ H Q q)
theorem PS.weak {X:Cx} {e:Stmt} {t t':TS} (h:PS X e t) (w:∀D σ H,t' D σ H→t D σ H):PS X e t':=fun pins s σ H D I q=>h pins s σ H D I (w D σ H q)
theorem ug.weak {X:Cx} {e:List Stmt} {t t':TS} (h:ug X e t) (w:∀D σ H,t' D σ H→t D σ H):ug X e t':=fun pins s σ H D I q=>h pins s σ H D I (w D σ H q)
theorem PW.weak {X:Cx} {e:Expr} {t t':TT} (h:PW X e t) (w:∀σ H Q,t' σ H Q→t σ H Q):PW X e t':=fun wh pins s σ H Q I q=>h wh pins s σ H Q I (w σ H Q q)
noncomputable def fVar (i:Nat):FE:=fun env C=>match env[i]? with
 | some (some (.im d))=>some (.im d,env,C)
 | some (some (.ow d))=>some (.im d,env.set i (some (.im d)),C)
 | some (some (.ce n))=>some (.ce n,env,C)
 | some (some (.sc ns))=>some (.sc ns,env,C)
 | _=>none
noncomputable def aA (i:Nat):FB:=fun env C=>match env[i]? with
 | some (some x)=>(dat x).map fun d=>(d,env,C)
 | _=>none
noncomputable def fCst (d:PyData):FE:=fun env C=>some (.im d,env,C)
noncomputable def au (f:FE):FB:=fun env C=>match f env C with
 | some (r,e',C')=>(dat r).map fun d=>(d,e',C')
 | none=>none
theorem Np:∀{env:En} {i:Nat} {d:PyData},env[i]?=some (some (.ow d))→Fz env (env.set i (some (.im d)))
 | [],i,d,e=>by simp at e
 | x::r,0,d,e=>by simp at e; subst e; exact ⟨.inr ⟨d,rfl,rfl⟩,Fz.refl r⟩
 | x::r,i + 1,d,e=>⟨.inl rfl,Np (by simpa using e)⟩
section
variable {X:Cx} {e:Expr} {i:Nat}
theorem aB (h:PE X e (rJ i)):PE X e (tE X.K (fVar i)):=h.weak fun σ H Q aO=>by
 obtain ⟨Z,Θ,env,C,r,env',C',S,hf,q⟩:=aO
 unfold fVar at hf
 split at hf
 all_goals first | (rename_i d hd; cases hf) | cases hf
 ·obtain ⟨v,e1,r⟩:=S.slot i _ hd
  exact ⟨v,e1,q v H (bA.refl _ _) (Fz.refl _) ⟨S,r⟩⟩
 ·have f:=Np hd
  obtain ⟨v,e1,r⟩:=S.slot i _ hd
  have S':=S.fz f
  refine ⟨v,e1,q v H (bA.refl _ _) f ⟨S',?_⟩⟩
  have hi:i < env.length:=by
   have:=List.getElem?_eq_some_iff.mp hd
   exact this.1
  obtain ⟨v',e2,r'⟩:=S'.slot i (.im d) (by rw [List.getElem?_set,if_pos rfl,if_pos hi])
  rw [e1] at e2
  cases e2
  exact r'
 ·obtain ⟨v,e1,r⟩:=S.slot i _ hd
  exact ⟨v,e1,q v H (bA.refl _ _) (Fz.refl _) ⟨S,r⟩⟩
 ·obtain ⟨v,e1,r⟩:=S.slot i _ hd
  exact ⟨v,e1,q v H (bA.refl _ _) (Fz.refl _) ⟨S,r⟩⟩
theorem aj (h:PE X e (rJ i)):PE X e (lZ X.K (aA i)):=h.weak fun σ H Q aO=>by
 obtain ⟨Z,Θ,env,C,d,env',C',S,hf,q⟩:=aO
 unfold aA at hf
 split at hf
 ·rename_i x hx
  obtain ⟨v,e1,r⟩:=S.slot i _ hx
  have ex:dat x=some d∧env=env'∧C=C':=by
   cases hd:dat x with
   | none=>rw [hd] at hf; cases hf
   | some d'=>rw [hd] at hf; cases hf; exact ⟨rfl,rfl,rfl⟩
  obtain ⟨ex,rfl,rfl⟩:=ex
  refine ⟨v,e1,q v H (bA.refl _ _) (Fz.refl _) S ?_⟩
  cases x with
  | im d'=>cases ex; exact RZ.bor T3 r
  | ow d'=>
   cases ex
   obtain ⟨a,rfl,r⟩:=r
   have na:=(S.eU (b8.mpr ⟨i,_,hx,e1⟩)).2
   have ha:∀o,H a=some o→er Θ H a=some o:=fun o ho=>by unfold er; rw [if_neg na]; exact ho
   cases d <;> first | exact r.elim | skip
   ·obtain ⟨vs,e,q⟩:=r
    exact ⟨a,vs,rfl,ha _ e,q⟩
   ·obtain ⟨vs,e,q⟩:=r
    refine ⟨a,vs,rfl,?_,q⟩
    rcases e with ⟨ks,k,e⟩ | ⟨ks,k,e⟩
    ·exact .inl ⟨ks,k,ha _ e⟩
    ·exact .inr ⟨ks,k,ha _ e⟩
  | ce n=>cases ex
  | sc ns=>cases ex
 ·cases hf
theorem aq {d:PyData} {v:V} (h:PE X e (tC v)) (f:fU d=true:=by rfl) (hv:v=toV d:=by rfl):PE X e (tE X.K (fCst d)):=h.weak fun σ H Q aO=>by
 obtain ⟨Z,Θ,env,C,r,env',C',S,hf,q⟩:=aO
 cases hf
 exact q v H (bA.refl _ _) (Fz.refl _) (bh S f hv)
theorem ao {f:FE} (h:PE X e (tE X.K f)):PE X e (lZ X.K (au f)):=h.weak fun σ H Q aO=>by
 obtain ⟨Z,Θ,env,C,d,env',C',S,hf,q⟩:=aO
 unfold au at hf
 split at hf
 ·rename_i r e' C1 hr
  cases hd:dat r with
  | none=>rw [hd] at hf; cases hf
  | some d'=>
   rw [hd] at hf
   cases hf
   exact ⟨Z,Θ,env,C,r,env',C',S,hr,fun v H' k f R=>q v H' k f R.sm (R.bor hd)⟩
 ·cases hf
end
end L2
namespace L2
open PySem PySem.Spec PyProof.Rows PySem.W
noncomputable def LIM:Nat:=1000000
theorem d7 {n:Nat} (h:n≤LIM):n≤sizeLine:=by rw [sizeLine_eq]; unfold LIM at h; omega
noncomputable def oU (K:PySem.W.Frag) (r:R2) (op:PyData→PyData→Option Vl):Prop:=
 ∀(Z Θ:List Addr) (env:En) (C:Ce) (σ:St) (H:Hp) (x y:V) (dx dy:PyData) (res:Vl),Sm K Z Θ env C σ H→dX Z Θ env σ H dx x→dX Z Θ env σ H dy y→op dx dy=some res→
  ∀Q:VK,(∀v H',bA Θ H H'→Res K Z Θ env C σ H H' res v→Q v H')→r x y H Q
noncomputable def aF (op:PyData→PyData→Option Vl) (fa fb:FB):FE:=fun env C=>match fa env C with
 | some (x,e1,C1)=>match fb e1 C1 with
  | some (y,e2,C2)=>match op x y with
   | some r=>some (r,rst r env e2,C2)
   | none=>none
  | none=>none
 | none=>none
theorem qI {K:PySem.W.Frag} {r:R2} {op:PyData→PyData→Option Vl} (L:oU K r op) {fa fb:FB}:∀σ H Q,tE K (aF op fa fb) σ H Q→Xk r (lZ K fa) (lZ K fb) σ H Q:=by
 rintro σ H Q ⟨Z,Θ,env,C,res,env',C',S,hf,q⟩
 unfold aF at hf
 split at hf
 ·rename_i x e1 C1 h1
  split at hf
  ·rename_i y e2 C2 h2
   split at hf
   ·rename_i r0 h3
    cases hf
    refine ⟨Z,Θ,env,C,x,e1,C1,S,h1,fun v H1 k1 f1 S1 b1=>⟨Z,Θ,e1,C1,y,e2,C',S1,h2,fun u H2 k2 f2 S2 b2=>?_⟩⟩
    refine L Z Θ e2 C' σ H2 v u x y res S2 (b1.go S1 k2 f2) b2 h3 Q fun z H3 k3 R=>?_
    have k:=(k1.trans k2).trans k3
    exact q z H3 k ((f1.trans f2).rst res) ((R.from (k1.trans k2)).rst S k)
   ·cases hf
  ·cases hf
 ·cases hf
section
variable {X:Cx} {a b:Expr} {fa fb:FB} {pos:Pos} {r:R2} {op:PyData→PyData→Option Vl}
theorem aM {o:Operator} (ho:iI X (binaryOp o) r) (L:oU X.K r op) (ha:PE X a (lZ X.K fa)) (hb:PE X b (lZ X.K fb)):PE X (.BinOp a o b pos) (tE X.K (aF op fa fb)):=(Xl ho ha hb).weak (qI L)
theorem mW {o:CmpOp} (ho:iI X (compareOp o) r) (L:oU X.K r op) (ha:PE X a (lZ X.K fa)) (hb:PE X b (lZ X.K fb)) (hm:behindInMarks o b=false):PE X (.Compare a [o] [b] pos) (tE X.K (aF op fa fb)):=(QJ ho ha hb hm).weak (qI L)
theorem bU (ho:Le X r) (L:oU X.K r op) (ha:PE X a (lZ X.K fa)) (hb:PE X b (lZ X.K fb)) (hs:ux b):PE X (.Subscript a b pos) (tE X.K (aF op fa fb)):=(Ml ho ha hb hs).weak (qI L)
end
theorem oU.or {K:PySem.W.Frag} {r r':R2} {op op':PyData→PyData→Option Vl} (h:oU K r op) (h':oU K r' op'):oU K (fun x y H Q=>r x y H Q∨r' x y H Q) (fun x y=>match op x y with | some z=>some z | none=>op' x y):=by
 intro Z Θ env C σ H x y dx dy res S bx jJ e Q q
 cases h1:op dx dy with
 | some z=>
  simp only [h1] at e
  cases e
  exact .inl (h Z Θ env C σ H x y dx dy _ S bx jJ h1 Q q)
 | none=>
  simp only [h1] at e
  exact .inr (h' Z Θ env C σ H x y dx dy res S bx jJ e Q q)
section
variable {K:PySem.W.Frag} {Z Θ:List Addr} {env:En} {C:Ce} {σ:St} {H:Hp} {x:V}
theorem dX.int {i:Int} (h:dX Z Θ env σ H (.int i) x):x=.int i:=h
theorem dX.str {i:Str} (h:dX Z Θ env σ H (.str i) x):x=.str i:=h
theorem dX.tup {ds:List PyData} (h:dX Z Θ env σ H (.tuple ds) x):∃a vs,x=.ref a∧H a=some (.tup vs)∧dU (er (aK Z Θ env σ) H) ds vs:=by
 obtain ⟨a,vs,e,q,r⟩:=h
 exact ⟨a,vs,e,bJ q,r⟩
theorem dX.lst {ds:List PyData} (h:dX Z Θ env σ H (.list ds) x):∃a vs,x=.ref a∧H a=some (.lst vs)∧dU (er (aK Z Θ env σ) H) ds vs:=by
 obtain ⟨a,vs,e,q,r⟩:=h
 exact ⟨a,vs,e,bJ q,r⟩
theorem dX.dct {kvs:List (PyData×PyData)} (h:dX Z Θ env σ H (.dict kvs) x):∃a vs,x=.ref a∧TY H a kvs vs∧pL (er (aK Z Θ env σ) H) kvs vs:=by
 obtain ⟨a,vs,e,q,r⟩:=h
 exact ⟨a,vs,e,q.same (tR _ _),r⟩
theorem dX.flat {d:PyData} (f:fU d=true) (h:dX Z Θ env σ H d x):x=toV d:=by
 cases d <;> first | exact h | cases f
theorem dX.rx {d:PyData} (n:Nk d=true) (h:dX Z Θ env σ H d x):RX H d x:=by
 cases d <;> first | exact h | skip
 ·obtain ⟨a,vs,e,q,r⟩:=h
  exact ⟨a,vs,e,bJ q,(r.same (tR _ _)).rx n⟩
 ·obtain ⟨a,vs,e,q,r⟩:=h
  exact ⟨a,vs,e,bJ q,(r.same (tR _ _)).rx n⟩
 ·cases n
end
section
variable {X:Cx}
noncomputable def bu:PyData→PyData→Option Vl
 | .int i,.int j=>some (.im (.int (i + j)))
 | .str x,.str y=>if x.length + y.length≤LIM then some (.im (.str (x++y))) else none
 | .list xs,.list ys=>if xs.length + ys.length≤LIM then some (.ow (.list (xs++ys))) else none
 | .tuple xs,.tuple ys=>if xs.isEmpty then some (.im (.tuple ys)) else if xs.length + ys.length≤LIM then some (.im (.tuple (xs++ys))) else none
 | _,_=>none
noncomputable def T4 (K:PySem.W.Frag):R2:=fun x y H Q=>∃a b ys,x=.ref a∧y=.ref b∧ig K H a []∧ig K H b ys∧Q (.ref b) H
theorem Ru {X:Cx}:iI X (binaryOp .Add) (T4 X.K):=by
 intro pins s σ H x y v u Q I rx ry h
 obtain ⟨a,b,ys,rfl,rfl,ha,hb,q⟩:=h
 cases rx
 cases ry
 obtain ⟨its,r1,p1,_⟩:=I.tuple ha
 obtain ⟨its2,r2,p2,_⟩:=I.tuple hb
 obtain ⟨⟨cls,dd,data,sl⟩,ho,hc,n,hd⟩:=id p1
 obtain ⟨⟨cls2,dd2,data2,sl2⟩,ho2,hc2,n2,hd2⟩:=id p2
 simp only at hc hd hc2 hd2
 subst hc hd hc2 hd2
 exact concat_meets ⟨_,ho,rfl⟩ ⟨_,ho2,rfl⟩ noFill_tuple_add seq_tuple_add PySem.F.slot_tuple_add PySem.F.entry_tuple_add (PySem.F.args_tuple_add_2 _ _)
  (tuple_addW0 a b its.toArray its2.toArray n n2 dd dd2 sl sl2 (by cases r1; rfl)) ⟨ho,ho2,⟨.ref b,H,I,rfl,q⟩⟩
noncomputable def T5 (K:PySem.W.Frag):R2:=fun x y H Q=>(((JK fun i j=>.int (i + j)) x y H Q∨∃i j,x=.str i∧y=.str j∧i.length + j.length≤sizeLine∧Q (.str (i++j)) H)∨XH x y H Q)∨T4 K x y H Q∨Tu K x y H Q
theorem bC:iI X (binaryOp .Add) (T5 X.K):=((U6.or Ez).or Vp).or (Ru.or QX)
theorem bW {K:PySem.W.Frag}:oU K (T5 K) bu:=by
 intro Z Θ env C σ H x y dx dy res S bx jJ e Q q
 unfold bu at e
 split at e
 ·cases e
  cases bx.int; cases jJ.int
  exact .inl (.inl (.inl ⟨_,_,rfl,rfl,q _ _ (bA.refl _ _) (bh S rfl rfl)⟩))
 ·split at e
  ·rename_i hl
   cases e
   cases bx.str; cases jJ.str
   exact .inl (.inl (.inr ⟨_,_,rfl,rfl,d7 hl,q _ _ (bA.refl _ _) (bh S rfl rfl)⟩))
  ·cases e
 ·split at e
  ·rename_i hl
   cases e
   obtain ⟨a,vs,rfl,ha,r1⟩:=bx.lst
   obtain ⟨b,ws,rfl,hb,r2⟩:=jJ.lst
   exact .inl (.inr ⟨a,b,vs,ws,rfl,rfl,ha,hb,by rw [bB r1,bB r2]; exact d7 hl,fun p hp=>q _ _ (bA.upd hp) (dI S (kY r1 r2) hp)⟩)
  ·cases e
 ·split at e
  ·rename_i xs ys he
   cases e
   have:xs=[]:=List.isEmpty_iff.mp he
   subst this
   have by2:=jJ
   obtain ⟨a,vs,rfl,ha,r1⟩:=bx.tup
   obtain ⟨b,ws,rfl,hb,r2⟩:=jJ.tup
   cases (show vs=[] from r1)
   exact .inr (.inl ⟨a,b,ws,rfl,rfl,ig.of ha,ig.of hb,q _ _ (bA.refl _ _) ⟨S,by2⟩⟩)
  split at e
  ·rename_i xs ys he hl
   cases e
   obtain ⟨a,vs,rfl,ha,r1⟩:=bx.tup
   obtain ⟨b,ws,rfl,hb,r2⟩:=jJ.tup
   have l1:=bB r1
   have l2:=bB r2
   have hv:vs≠[]:=fun z=>by
    subst z
    cases xs with
    | nil=>exact he rfl
    | cons _ _=>cases l1
   refine .inr (.inr ⟨a,b,vs,ws,rfl,rfl,ig.of ha,ig.of hb,hv,by rw [l1,l2]; exact d7 hl,fun z=>?_,fun _ p hp=>q _ _ (bA.upd hp) (uB S (kY r1 r2) hp)⟩)
   subst z
   have:ys=[]:=List.eq_nil_of_length_eq_zero l2.symm
   subst this
   rw [List.append_nil] at q
   refine q _ _ (bA.refl _ _) ⟨S,?_⟩
   exact bx
  ·cases e
 ·cases e
noncomputable def oV:PyData→PyData→Option Vl
 | .int i,.int j=>some (.im (.int (i - j)))
 | _,_=>none
theorem zT {K:PySem.W.Frag} {g:Int→Int→V} {op:PyData→PyData→Option Vl} (h:∀dx dy res,op dx dy=some res→∃i j d,dx=.int i∧dy=.int j∧res=.im d∧fU d=true∧g i j=toV d):oU K (JK g) op:=by
 intro Z Θ env C σ H x y dx dy res S bx jJ e Q q
 obtain ⟨i,j,d,rfl,rfl,rfl,f,hv⟩:=h _ _ _ e
 cases bx.int; cases jJ.int
 exact ⟨_,_,rfl,rfl,q _ _ (bA.refl _ _) (bh S f hv)⟩
theorem zU {K:PySem.W.Frag} {Cn:Int→Int→Prop} {g:Int→Int→V} {op:PyData→PyData→Option Vl} (h:∀dx dy res,op dx dy=some res→∃i j d,dx=.int i∧dy=.int j∧res=.im d∧fU d=true∧g i j=toV d∧Cn i j):oU K (rI Cn g) op:=by
 intro Z Θ env C σ H x y dx dy res S bx jJ e Q q
 obtain ⟨i,j,d,rfl,rfl,rfl,f,hv,c⟩:=h _ _ _ e
 cases bx.int; cases jJ.int
 exact ⟨_,_,rfl,rfl,c,q _ _ (bA.refl _ _) (bh S f hv)⟩
theorem su {K:PySem.W.Frag}:oU K (JK fun i j=>.int (i - j)) oV:=zT fun dx dy res e=>by
 unfold oV at e
 split at e <;> cases e
 exact ⟨_,_,_,rfl,rfl,rfl,rfl,rfl⟩
noncomputable def fB:PyData→PyData→Option Vl
 | .int i,.int j=>if 0 < j then some (.im (.int (i % j))) else none
 | _,_=>none
theorem jK {K:PySem.W.Frag}:oU K (rI (fun _ j=>0 < j) fun i j=>.int (i % j)) fB:=zU fun dx dy res e=>by
 unfold fB at e
 split at e
 ·split at e
  ·rename_i h; cases e; exact ⟨_,_,_,rfl,rfl,rfl,rfl,rfl,h⟩
  ·cases e
 ·cases e
noncomputable def mX:PyData→PyData→Option Vl
 | .int i,.int j=>if 0 < j∧j < 1073741824 then some (.im (.int (i / j))) else none
 | _,_=>none
theorem zV {K:PySem.W.Frag}:oU K (rI Xn fun i j=>.int (i / j)) mX:=zU fun dx dy res e=>by
 unfold mX at e
 split at e
 ·split at e
  ·rename_i h; cases e; exact ⟨_,_,_,rfl,rfl,rfl,rfl,rfl,h⟩
  ·cases e
 ·cases e
noncomputable def Ib:PyData→PyData→Option Vl
 | .int i,.int j=>if 0≤j∧j≤1000000∧i.natAbs < 2 ^ 64 then some (.im (.int (i ^ j.toNat))) else none
 | _,_=>none
theorem VL {K:PySem.W.Frag}:oU K (rI Xo fun i j=>.int (i ^ j.toNat)) Ib:=zU fun dx dy res e=>by
 unfold Ib at e
 split at e
 ·split at e
  ·rename_i h; cases e; exact ⟨_,_,_,rfl,rfl,rfl,rfl,rfl,h⟩
  ·cases e
 ·cases e
noncomputable def fV:PyData→PyData→Option Vl
 | .int i,.int j=>if (-(2 ^ 64) < i∧i < 2 ^ 64)∨(-(2 ^ 64) < j∧j < 2 ^ 64) then some (.im (.int (i * j))) else none
 | _,_=>none
theorem jL {K:PySem.W.Frag}:oU K (rI QG fun i j=>.int (i * j)) fV:=zU fun dx dy res e=>by
 unfold fV at e
 split at e
 ·split at e
  ·rename_i h; cases e; exact ⟨_,_,_,rfl,rfl,rfl,rfl,rfl,h⟩
  ·cases e
 ·cases e
end
section
variable {X:Cx}
noncomputable def VM:PyData→PyData→Option Bool
 | .int i,.int j=>some (i==j)
 | .str x,.str y=>some (x==y)
 | .bool a,.bool b=>some (a==b)
 | d,e=>if Nk d&&Nk e&&(PySem.SeqAt.shaped d&&PySem.SeqAt.shaped e) then some (PyData.eqv d e) else none
noncomputable def kZ (d e:PyData):Option Vl:=(VM d e).map fun b=>.im (.bool b)
noncomputable def pM (d e:PyData):Option Vl:=(VM d e).map fun b=>.im (.bool (!b))
theorem Gj (hu:X.A.units + 64 < cLine):iI X (compareOp .Eq) (fun x y H Q=>∃d e,RX H d x∧RX H e y∧PySem.SeqAt.shaped d=true∧PySem.SeqAt.shaped e=true∧Q (.bl (PyData.eqv d e)) H):=by
 intro pins s σ H x y v u Q I rx ry h
 obtain ⟨d,e,hd,he,h1,h2,q⟩:=h
 obtain ⟨as,ra⟩:=RD.reads I (hd.rd (K:=X.K)) rx
 obtain ⟨bs,rb⟩:=RD.reads I (he.rd (K:=X.K)) ry
 exact PySem.SeqAt.compareEq_shaped ra rb h1 h2 hu ⟨.bl _,H,I,rfl,q⟩
noncomputable def Yd:R2:=fun x y H Q=>rEq x y H Q∨∃d e,RX H d x∧RX H e y∧PySem.SeqAt.shaped d=true∧PySem.SeqAt.shaped e=true∧Q (.bl (PyData.eqv d e)) H
noncomputable def Ye:R2:=fun x y H Q=>rNe x y H Q∨∃d e,RX H d x∧RX H e y∧PySem.SeqAt.shaped d=true∧PySem.SeqAt.shaped e=true∧Q (.bl (!PyData.eqv d e)) H
theorem jM (hu:X.A.units + 64 < cLine):iI X (compareOp .Eq) Yd:=Xp.or (Gj hu)
theorem zW (hu:X.A.units + 64 < cLine):iI X (compareOp .NotEq) Ye:=Xq.or (FZ hu)
theorem yu {d e:PyData} {b:Bool} (h:VM d e=some b):(fU d=true∧fU e=true∧U8 (toV d) (toV e)=true∧b=decide (toV d=toV e))∨(Nk d=true∧Nk e=true∧PySem.SeqAt.shaped d=true∧PySem.SeqAt.shaped e=true∧b=PyData.eqv d e):=by
 unfold VM at h
 split at h
 ·cases h; exact .inl ⟨rfl,rfl,rfl,zp.symm⟩
 ·cases h; exact .inl ⟨rfl,rfl,rfl,zq.symm⟩
 ·cases h; exact .inl ⟨rfl,rfl,rfl,Ex.symm⟩
 ·split at h
  ·rename_i q
   cases h
   rw [Bool.and_eq_true,Bool.and_eq_true,Bool.and_eq_true] at q
   exact .inr ⟨q.1.1,q.1.2,q.2.1,q.2.2,rfl⟩
  ·cases h
theorem oW {K:PySem.W.Frag}:oU K Yd kZ:=by
 intro Z Θ env C σ H x y dx dy res S bx jJ e Q q
 unfold kZ at e
 cases h:VM dx dy with
 | none=>rw [h] at e; cases e
 | some b=>
  rw [h] at e
  cases e
  have fin:=q (.bl b) H (bA.refl _ _) (bh S rfl rfl)
  rcases yu h with ⟨f1,f2,sc,eb⟩ | ⟨n1,n2,s1,s2,eb⟩
  ·rw [bx.flat f1,jJ.flat f2]
   rw [eb] at fin
   exact .inl ⟨sc,fin⟩
  ·rw [eb] at fin
   exact .inr ⟨dx,dy,bx.rx n1,jJ.rx n2,s1,s2,fin⟩
theorem Ie {K:PySem.W.Frag}:oU K Ye pM:=by
 intro Z Θ env C σ H x y dx dy res S bx jJ e Q q
 unfold pM at e
 cases h:VM dx dy with
 | none=>rw [h] at e; cases e
 | some b=>
  rw [h] at e
  cases e
  have fin:=q (.bl (!b)) H (bA.refl _ _) (bh S rfl rfl)
  rcases yu h with ⟨f1,f2,sc,eb⟩ | ⟨n1,n2,s1,s2,eb⟩
  ·rw [bx.flat f1,jJ.flat f2]
   rw [eb] at fin
   exact .inl ⟨sc,fin⟩
  ·rw [eb] at fin
   exact .inr ⟨dx,dy,bx.rx n1,jJ.rx n2,s1,s2,fin⟩
noncomputable def strLt (x y:Str):Bool:=decide (x.cps.toList < y.cps.toList)
noncomputable def T6 (xs ys:List PyData):Option Bool:=match keysOf xs,keysOf ys with
 | some ks,some js=>if ks.map dD=js.map dD then some (gr ks js) else none
 | _,_=>none
noncomputable def vA:PyData→PyData→Option Vl
 | .int i,.int j=>some (.im (.bool (decide (i < j))))
 | .str x,.str y=>some (.im (.bool (strLt x y)))
 | .tuple xs,.tuple ys=>(T6 xs ys).map fun b=>.im (.bool b)
 | _,_=>none
theorem iU {E:Hp}:∀{ds:List PyData} {ks:List Key} {vs:List V},keysOf ds=some ks→dU E ds vs→vs=ks.map kV
 | [],ks,vs,h,r=>by cases h; exact r
 | d::ds,ks,vs,h,r=>by
  unfold keysOf at h
  split at h
  ·rename_i k t h1 h2
   cases h
   obtain ⟨u,w,e1,q,s⟩:=r
   rw [e1,iU h2 s]
   have:u=kV k:=by
    cases d <;> first | (cases h1; exact q) | cases h1
   rw [this]
   rfl
  ·cases h
noncomputable def aau:R2:=fun x y H Q=>(∃a b,x=kV a∧y=kV b∧dD a=dD b∧Q (.bl (kLt a b)) H)∨∃a b ks js,x=.ref a∧y=.ref b∧H a=some (.tup (ks.map kV))∧H b=some (.tup (js.map kV))∧ks.map dD=js.map dD∧Q (.bl (gr ks js)) H
theorem Ig {K:PySem.W.Frag}:oU K aau vA:=by
 intro Z Θ env C σ H x y dx dy res S bx jJ e Q q
 unfold vA at e
 split at e
 ·cases e
  cases bx.int; cases jJ.int
  exact .inl ⟨.inl _,.inl _,rfl,rfl,rfl,q _ _ (bA.refl _ _) (bh S rfl rfl)⟩
 ·cases e
  cases bx.str; cases jJ.str
  exact .inl ⟨.inr _,.inr _,rfl,rfl,rfl,q _ _ (bA.refl _ _) (bh S rfl rfl)⟩
 ·rename_i xs ys
  unfold T6 at e
  split at e
  ·rename_i ks js h1 h2
   split at e
   ·rename_i ht
    cases e
    obtain ⟨a,vs,rfl,ha,r1⟩:=bx.tup
    obtain ⟨b,ws,rfl,hb,r2⟩:=jJ.tup
    rw [iU h1 r1] at ha
    rw [iU h2 r2] at hb
    exact .inr ⟨a,b,ks,js,rfl,rfl,ha,hb,ht,q _ _ (bA.refl _ _) (bh S rfl rfl)⟩
   ·cases e
  ·cases e
 ·cases e
noncomputable def ur:PyData→PyData→Option Vl
 | .int i,.int j=>some (.im (.bool (decide (i≤j))))
 | .str x,.str y=>some (.im (.bool (!strLt y x)))
 | _,_=>none
noncomputable def Yg:R2:=fun x y H Q=>(JK fun i j=>.bl (decide (i≤j))) x y H Q∨∃i j,x=.str i∧y=.str j∧Q (.bl (!(decide (j.cps.toList < i.cps.toList)))) H
theorem vB:iI X (compareOp .LtE) Yg:=Xr.or J5
theorem Cu {K:PySem.W.Frag}:oU K Yg ur:=by
 intro Z Θ env C σ H x y dx dy res S bx jJ e Q q
 unfold ur at e
 split at e
 ·cases e
  cases bx.int; cases jJ.int
  exact .inl ⟨_,_,rfl,rfl,q _ _ (bA.refl _ _) (bh S rfl rfl)⟩
 ·cases e
  cases bx.str; cases jJ.str
  exact .inr ⟨_,_,rfl,rfl,q _ _ (bA.refl _ _) (bh S rfl rfl)⟩
 ·cases e
noncomputable def Nq:PyData→PyData→Option Vl
 | .int i,.int j=>some (.im (.bool (decide (j < i))))
 | _,_=>none
noncomputable def Rv:PyData→PyData→Option Vl
 | .int i,.int j=>some (.im (.bool (decide (j≤i))))
 | _,_=>none
theorem T7 {K:PySem.W.Frag}:oU K (JK fun i j=>.bl (decide (j < i))) Nq:=zT fun dx dy res e=>by
 unfold Nq at e
 split at e <;> cases e
 exact ⟨_,_,_,rfl,rfl,rfl,rfl,rfl⟩
theorem Yh {K:PySem.W.Frag}:oU K (JK fun i j=>.bl (decide (j≤i))) Rv:=zT fun dx dy res e=>by
 unfold Rv at e
 split at e <;> cases e
 exact ⟨_,_,_,rfl,rfl,rfl,rfl,rfl⟩
noncomputable def isNone:PyData→Bool
 | .none=>true
 | _=>false
noncomputable def vC (d e:PyData):Option Vl:=if isNone e then some (.im (.bool (isNone d))) else none
noncomputable def vD (d e:PyData):Option Vl:=if isNone e then some (.im (.bool (!isNone d))) else none
theorem qJ {Z Θ:List Addr} {env:En} {σ:St} {H:Hp} {x:V} {d:PyData} (h:dX Z Θ env σ H d x):decide (x=V.non)=isNone d:=by
 cases d <;> first
  | (cases (show x=_ from h); rfl)
  | (obtain ⟨a,vs,e,_⟩:=h; subst e; rfl)
theorem Nr {K:PySem.W.Frag}:oU K (fun x y H Q=>y=.non∧Q (.bl (decide (x=.non))) H) vC:=by
 intro Z Θ env C σ H x y dx dy res S bx jJ e Q q
 unfold vC at e
 split at e
 ·rename_i hn
  cases e
  have hy:y=.non:=of_decide_eq_true ((qJ jJ).trans hn)
  exact ⟨hy,by rw [qJ bx]; exact q _ _ (bA.refl _ _) (bh S rfl rfl)⟩
 ·cases e
theorem Rw {K:PySem.W.Frag}:oU K (fun x y H Q=>y=.non∧Q (.bl (!decide (x=.non))) H) vD:=by
 intro Z Θ env C σ H x y dx dy res S bx jJ e Q q
 unfold vD at e
 split at e
 ·rename_i hn
  cases e
  have hy:y=.non:=of_decide_eq_true ((qJ jJ).trans hn)
  exact ⟨hy,by rw [qJ bx]; exact q _ _ (bA.refl _ _) (bh S rfl rfl)⟩
 ·cases e
end
end L2
namespace L2
open PySem PySem.Spec PyProof.Rows PySem.W
section
variable {X:Cx} {pins:List (Addr×Obj)} {σ:St} {H:Hp} {s:Shared} {a b:Addr}
theorem Inv.Zo (I:Inv X pins σ H s) (h:H a=some (.dK [])):Inv X pins σ (upd H a (.dT [])) s:=by
 obtain ⟨z,hm,vs,r,o,es,ep,h1,h2,h3,h4,h5,h6⟩:=I.hok a _ h
 cases r
 have e0:es.toList=[]:=by
  cases hh:es.toList with
  | nil=>rfl
  | cons x xs=>rw [hh] at h5; cases h5
 have:=kI (t':=s.toks) (ob:=.dT []) I (by rw [h]; trivial) (Heap.SameBut.refl a s.heap) ⟨_,h1⟩ ⟨Nat.zero_le _,hm,[],.nil,o,es,ep,h1,h2,h3,e0,List.nodup_nil⟩
 exact this
theorem Inv.reT (I:Inv X pins σ (upd H a (.dT [])) s) (h:H a=some (.dK [])):Inv X pins σ H s:=by
 obtain ⟨z,hm,xs,r,o,es,ep,h1,h2,h3,h4,h5⟩:=I.hok a _ aH
 cases r
 have e0:es=#[]:=by
  cases es
  simp at h4
  rw [h4]
 subst e0
 have:=kI (t':=s.toks) (ob:=.dK []) I (by rw [aH]; trivial) (Heap.SameBut.refl a s.heap) ⟨_,h1⟩ (zJ (Nat.zero_le _) hm .nil ⟨o,#[],ep,h1,h2,h3,fun i hi=>absurd hi (by simp),.nil,List.nodup_nil⟩)
 rw [Hg] at this
 have e:upd H a (.dK [])=H:=by
  funext b
  by_cases hb:b=a
  ·subst hb; rw [aH,h]
  ·exact aJ hb
 rw [e] at this
 exact this
end
noncomputable def Nt (H:Hp) (a:Addr) (y:V) (r:Option V):Prop:=oK H a y r∨(H a=some (.dK [])∧(∃(b:Addr) (ks:List Key),y=.ref b∧H b=some (.tup (ks.map kV)))∧r=none)
section
variable {X:Cx} {pins:List (Addr×Obj)} {σ:St} {H:Hp} {s:Shared} {a:Addr} {y v:V} {u r:Value} {o:Option V} {A:Around} {E:Value→Shared→Prop}
theorem Nt.re (ha:H a=some (.dK [])) {b:Addr} {ks:List Key} (hb:H b=some (.tup (ks.map kV))):oK (upd H a (.dT [])) a (.ref b) none:=by
 have:(upd H a (.dT [])) b=some (.tup (ks.map kV)):=by rw [aJ (Lh hb ha (fun z=>nomatch z))]; exact hb
 exact oK.t (kvs:=[]) (k:=ks) aH this
theorem Yi {Q:Value→Shared→Prop} (hu:A.units + 1 < cLine) (I:Inv X pins σ H s) (g:Nt H a y o) (ry:RelV y u) (h:∀s',Inv X pins σ H s'→Q (.bool o.isSome) s'):wpAny (model X.prog X.w) A (compareOp .In u (.ref a)) Q E s:=by
 rcases g with g | ⟨ha,⟨b,ks,rfl,hb⟩,rfl⟩
 ·exact XJ hu I g ry h
 ·exact XJ hu (I.Zo ha) (Nt.re ha hb) ry fun s' I'=>h s' (I'.reT ha)
theorem Nu {Q:Value→Shared→Prop} (hu:A.units + 1 < cLine) (I:Inv X pins σ H s) (g:Nt H a y o) (ry:RelV y u) (h:∀s',Inv X pins σ H s'→Q (.bool (!o.isSome)) s'):wpAny (model X.prog X.w) A (compareOp .NotIn u (.ref a)) Q E s:=by
 rcases g with g | ⟨ha,⟨b,ks,rfl,hb⟩,rfl⟩
 ·exact Hv hu I g ry h
 ·exact Hv hu (I.Zo ha) (Nt.re ha hb) ry fun s' I'=>h s' (I'.reT ha)
theorem VN (hu:X.A.units + 1 < cLine):iI X (compareOp .In) (fun y x H Q=>∃a o,x=.ref a∧Nt H a y o∧Q (.bl o.isSome) H):=by
 intro pins s σ H x y v u Q I rx ry h
 obtain ⟨a,o,rfl,g,q⟩:=h
 cases ry
 exact Yi hu I g rx fun s' I'=>⟨.bl _,H,I',rfl,q⟩
theorem Ko (hu:X.A.units + 1 < cLine):iI X (compareOp .NotIn) (fun y x H Q=>∃a o,x=.ref a∧Nt H a y o∧Q (.bl (!o.isSome)) H):=by
 intro pins s σ H x y v u Q I rx ry h
 obtain ⟨a,o,rfl,g,q⟩:=h
 cases ry
 exact Nu hu I g rx fun s' I'=>⟨.bl _,H,I',rfl,q⟩
theorem Rx (hu:X.A.units + 1 < cLine):Le X (fun x y H Q=>∃a v,x=.ref a∧oK H a y (some v)∧Q v H):=by
 intro value slice pins s σ H x y v u Q I rx ry h hs
 obtain ⟨a,z,rfl,g,q⟩:=h
 cases rx
 have hT:=BJ I g
 have h2:wpAny (model X.prog X.w) X.A (getItem (.ref a) u) (EP X pins σ Q) X.xe s:=JX hu I g ry fun w' s' I' r'=>⟨z,H,I',r',q⟩
 unfold subscriptTail
 refine wpAny_bind ?_
 rw [getitemInPython_of_ne hT.not_modules]
 refine wpAny_bind (wpAny_specialOf hT PySem.F.slot_dict_getitem.lookup ?_)
 have fin:wpAny (model X.prog X.w) X.A (subscripted slice false (.ref a) u) (fun r s₃=>wpAny (model X.prog X.w) X.A (letTemporaryGo value (.ref a) r >>= fun _=>pure r) (EP X pins σ Q) X.xe s₃) X.xe s:=by
  rw [hs]
  exact wpAny_operating (wpAny_mono h2 (fun r s₃ h₃=>wpAny_bind (wpAny_letTemporaryGo (wpAny_pure h₃))) fun _ _ x=>x)
 first
  | exact wpAny_pure (wpAny_bind fin)
  | exact wpAny_bind (wpAny_pure (wpAny_bind fin))
  | exact wpAny_bind fin
end
noncomputable def lQ {κ:Type} [DecidableEq κ] (f:PyData→Option κ) (k:κ):List (PyData×PyData)→Option PyData
 | []=>none
 | p::r=>if f p.1=some k then some p.2 else lQ f k r
noncomputable def lR (kvs:List (PyData×PyData)) (d:PyData):Option (Option PyData):=match cN d with
 | some k=>if (b7 cN kvs).isSome then some (lQ cN k kvs) else none
 | none=>match jx d with
  | some ks=>if (b7 jx kvs).isSome then some (lQ jx ks kvs) else none
  | none=>none
theorem vG {κ:Type} [DecidableEq κ] {f:PyData→Option κ} {k:κ} {E:Hp}:∀{kvs:List (PyData×PyData)} {ks:List κ} {vs:List V},b7 f kvs=some ks→pL E kvs vs→
  (∃d v,lQ f k kvs=some d∧oJ (ks.zip vs) k=some v∧RZ E d v)∨(lQ f k kvs=none∧oJ (ks.zip vs) k=none)
 | [],ks,vs,h,r=>by
  cases h
  cases (show vs=[] from r)
  exact .inr ⟨rfl,rfl⟩
 | (p,d)::kvs,ks,vs,h,r=>by
  unfold b7 at h
  split at h
  ·rename_i k' t h1 h2
   cases h
   obtain ⟨v,w,rfl,q,s⟩:=r
   by_cases e:k'=k
   ·subst e
    refine .inl ⟨d,v,?_,?_,q⟩
    ·unfold lQ; rw [if_pos h1]
    ·exact qp (p:=(k',v)) rfl
   ·have e1:lQ f k ((p,d)::kvs)=lQ f k kvs:=by
     show (if f p=some k then some d else lQ f k kvs)=_
     rw [if_neg]
     intro z
     rw [h1] at z
     exact e (Option.some.inj z)
    have e2:oJ ((k'::t).zip (v::w)) k=oJ (t.zip w) k:=qt (p:=(k',v)) e
    rw [e1,e2]
    exact vG h2 s
  ·cases h
theorem gM {κ:Type} {f:PyData→Option κ}:∀{kvs:List (PyData×PyData)} {ks:List κ},b7 f kvs=some ks→ks.length=kvs.length
 | [],ks,h=>by cases h; rfl
 | p::kvs,ks,h=>by
  unfold b7 at h
  split at h
  ·rename_i k' t h1 h2
   cases h
   rw [List.length_cons,List.length_cons,gM h2]
  ·cases h
theorem Nv {E:Hp} {d:PyData} {k:Key} {v:V} (h:cN d=some k) (r:RZ E d v):v=kV k:=by
 cases d <;> first | (cases h; exact r) | cases h
theorem Nx {d:PyData} {k:Key} {ks:List Key} (h:cN d=some k) (g:jx d=some ks):False:=by
 cases d <;> first | (cases h; done) | (cases g; done)
section
variable {K:PySem.W.Frag} {Z Θ:List Addr} {env:En} {C:Ce} {σ:St} {H:Hp} {x y:V}
theorem jd {kvs:List (PyData×PyData)} {ks:List Key} {js:List (List Key)} (h:b7 cN kvs=some ks) (g:b7 jx kvs=some js):kvs=[]:=by
 cases kvs with
 | nil=>rfl
 | cons p r=>
  unfold b7 at h g
  split at h
  ·rename_i h1 h2
   split at g
   ·rename_i h3 h4
    exact (Nx h1 h3).elim
   ·cases g
  ·cases h
theorem dX.get {kvs:List (PyData×PyData)} {d:PyData} {o:Option PyData} (h:dX Z Θ env σ H (.dict kvs) x) (hy:dX Z Θ env σ H d y) (e:lR kvs d=some o):
  ∃a r,x=.ref a∧Nt H a y r∧((∃v,r=some v∧∃d',o=some d'∧RZ (er (aK Z Θ env σ) H) d' v∧oK H a y (some v))∨(r=none∧o=none)):=by
 obtain ⟨a,vs,rfl,dt,rd⟩:=h.dct
 unfold lR at e
 split at e
 ·rename_i k hk
  split at e
  ·rename_i hs
   cases e
   have yk:y=kV k:=by
    cases d <;> first | (cases hk; exact hy) | cases hk
   have dk:∃ks,b7 cN kvs=some ks∧H a=some (.dK (ks.zip vs)):=by
    rcases dt with h | ⟨ks,⟨ne,h2⟩,_⟩
    ·exact h
    ·obtain ⟨ks',h1⟩:=Option.isSome_iff_exists.mp hs
     exact absurd (jd h1 h2) ne
   obtain ⟨ks,h1,ha⟩:=dk
   have g:=oK.k (k:=k) ha
   rw [←yk] at g
   rcases vG (k:=k) h1 rd with ⟨d',v,e1,e2,r⟩ | ⟨e1,e2⟩
   ·rw [e2] at g
    exact ⟨a,some v,rfl,.inl g,.inl ⟨v,rfl,d',e1,r,g⟩⟩
   ·rw [e2] at g
    exact ⟨a,none,rfl,.inl g,.inr ⟨rfl,e1⟩⟩
  ·cases e
 ·split at e
  ·rename_i ks hks
   split at e
   ·rename_i hs
    cases e
    obtain ⟨b,hb,rfl⟩:∃b,H b=some (.tup (ks.map kV))∧y=.ref b:=by
     cases d <;> first | cases hks | skip
     obtain ⟨b,ws,rfl,hb,r⟩:=hy.tup
     rw [iU hks r] at hb
     exact ⟨b,hb,rfl⟩
    rcases dt with ⟨js,h1,ha⟩ | ⟨js,⟨ne,h1⟩,ha⟩
    ·obtain ⟨js',h2⟩:=Option.isSome_iff_exists.mp hs
     have:=jd h1 h2
     subst this
     cases h1
     exact ⟨a,none,rfl,.inr ⟨ha,⟨b,ks,rfl,hb⟩,rfl⟩,.inr ⟨rfl,rfl⟩⟩
    ·have g:=oK.t (k:=ks) ha hb
     rcases vG (k:=ks) h1 rd with ⟨d',v,e1,e2,r⟩ | ⟨e1,e2⟩
     ·rw [e2] at g
      exact ⟨a,some v,rfl,.inl g,.inl ⟨v,rfl,d',e1,r,g⟩⟩
     ·rw [e2] at g
      exact ⟨a,none,rfl,.inl g,.inr ⟨rfl,e1⟩⟩
   ·cases e
  ·cases e
end
noncomputable def inD (d:PyData) (ds:List PyData):Bool:=ds.any fun e=>Mm (toV e) (toV d)
noncomputable def inB (d:PyData):PyData→Option Bool
 | .list ds=>if fU d&&ds.all fU then some (inD d ds) else none
 | .tuple ds=>if fU d&&ds.all fU then some (inD d ds) else none
 | .dict kvs=>(lR kvs d).map (·.isSome)
 | _=>none
noncomputable def pN (d e:PyData):Option Vl:=(inB d e).map fun b=>.im (.bool b)
noncomputable def qK (d e:PyData):Option Vl:=(inB d e).map fun b=>.im (.bool (!b))
noncomputable def Yj (K:PySem.W.Frag):R2:=fun x y H Q=>Zi K false x y H Q∨∃a o,y=.ref a∧Nt H a x o∧Q (.bl o.isSome) H
noncomputable def Ih (K:PySem.W.Frag):R2:=fun x y H Q=>Zi K true x y H Q∨∃a o,y=.ref a∧Nt H a x o∧Q (.bl (!o.isSome)) H
theorem sy {X:Cx} (hu:X.A.units + 1 < cLine):iI X (compareOp .In) (Yj X.K):=JT.or (VN hu)
theorem yw {X:Cx} (hu:X.A.units + 1 < cLine):iI X (compareOp .NotIn) (Ih X.K):=zF.or (Ko hu)
theorem sE {d:PyData} (f:fU d=true):jY (toV d)=true:=by
 cases d <;> first | rfl | cases f
theorem T8 {d:PyData} {ds:List PyData}:inV (toV d) (ds.map toV)=inD d ds:=by
 unfold inV inD
 rw [List.any_map]
 rfl
theorem Ii {ds:List PyData} (f:ds.all fU=true):(ds.map toV).all jY=true:=by
 rw [List.all_map,List.all_eq_true]
 intro d hd
 exact sE (List.all_eq_true.mp f d hd)
theorem Cv {K:PySem.W.Frag} {Z Θ:List Addr} {env:En} {σ:St} {H:Hp} {x y:V} {dx dy:PyData} {b:Bool} (bx:dX Z Θ env σ H dx x) (jJ:dX Z Θ env σ H dy y) (e:inB dx dy=some b):
  (∃p xs,y=.ref p∧(cM K H p xs∨ig K H p xs)∧jY x=true∧xs.all jY=true∧inV x xs=b)∨∃a o,y=.ref a∧Nt H a x o∧o.isSome=b:=by
 unfold inB at e
 split at e
 ·split at e
  ·rename_i ds hf
   rw [Bool.and_eq_true] at hf
   cases e
   obtain ⟨a,vs,rfl,ha,r⟩:=jJ.lst
   rw [vz hf.2 r] at ha
   rw [bx.flat hf.1]
   exact .inl ⟨a,_,rfl,.inl (cM.of ha),sE hf.1,Ii hf.2,T8⟩
  ·cases e
 ·split at e
  ·rename_i ds hf
   rw [Bool.and_eq_true] at hf
   cases e
   obtain ⟨a,vs,rfl,ha,r⟩:=jJ.tup
   rw [vz hf.2 r] at ha
   rw [bx.flat hf.1]
   exact .inl ⟨a,_,rfl,.inr (ig.of ha),sE hf.1,Ii hf.2,T8⟩
  ·cases e
 ·rename_i kvs
  cases hl:lR kvs dx with
  | none=>rw [hl] at e; cases e
  | some o=>
   rw [hl] at e
   cases e
   obtain ⟨a,r,rfl,g,q⟩:=jJ.get bx hl
   refine .inr ⟨a,r,rfl,g,?_⟩
   rcases q with ⟨v,rfl,d',rfl,_⟩ | ⟨rfl,rfl⟩ <;> rfl
 ·cases e
theorem yx {K:PySem.W.Frag}:oU K (Yj K) pN:=by
 intro Z Θ env C σ H x y dx dy res S bx jJ e Q q
 unfold pN at e
 cases h:inB dx dy with
 | none=>rw [h] at e; cases e
 | some b=>
  rw [h] at e
  cases e
  have fin:=q (.bl b) H (bA.refl _ _) (bh S rfl rfl)
  rcases Cv (K:=K) bx jJ h with ⟨p,xs,e1,e2,e3,e4,e5⟩ | ⟨a,o,e1,e2,e3⟩
  ·rw [←e5] at fin
   exact .inl ⟨p,xs,e1,e2,e3,e4,fin⟩
  ·rw [←e3] at fin
   exact .inr ⟨a,o,e1,e2,fin⟩
theorem Cw {K:PySem.W.Frag}:oU K (Ih K) qK:=by
 intro Z Θ env C σ H x y dx dy res S bx jJ e Q q
 unfold qK at e
 cases h:inB dx dy with
 | none=>rw [h] at e; cases e
 | some b=>
  rw [h] at e
  cases e
  have fin:=q (.bl (!b)) H (bA.refl _ _) (bh S rfl rfl)
  rcases Cv (K:=K) bx jJ h with ⟨p,xs,e1,e2,e3,e4,e5⟩ | ⟨a,o,e1,e2,e3⟩
  ·rw [←e5] at fin
   exact .inl ⟨p,xs,e1,e2,e3,e4,fin⟩
  ·rw [←e3] at fin
   exact .inr ⟨a,o,e1,e2,fin⟩
noncomputable def Ry:PyData→PyData→Option PyData
 | .list ds,.int i=>ju ds i
 | .tuple ds,.int i=>ju ds i
 | .str z,.int i=>if z.length≤LIM then (ju z.cps.toList i).map fun c=>.str ⟨#[c]⟩ else none
 | .dict kvs,d=>match lR kvs d with
  | some (some e)=>some e
  | _=>none
 | _,_=>none
noncomputable def bD (d e:PyData):Option Vl:=(Ry d e).map .im
noncomputable def Yk (K:PySem.W.Frag):R2:=fun x y H Q=>rIx K x y H Q∨∃a v,x=.ref a∧oK H a y (some v)∧Q v H
theorem bf {X:Cx} (hu:X.A.units + 1 < cLine):Le X (Yk X.K):=Vj.or (Rx hu)
theorem Ij {E:Hp} {ds:List PyData} {vs:List V} {i:Int} {d:PyData} (r:dU E ds vs) (e:ju ds i=some d):∃v,ju vs i=some v∧RZ E d v:=by
 unfold ju at e ⊢
 rw [bB r]
 cases h:Fg ds.length i with
 | none=>rw [h] at e; cases e
 | some j=>
  rw [h] at e
  exact kW r e
theorem bV {K:PySem.W.Frag}:oU K (Yk K) bD:=by
 intro Z Θ env C σ H x y dx dy res S bx jJ e Q q
 unfold bD at e
 cases h:Ry dx dy with
 | none=>rw [h] at e; cases e
 | some d=>
  rw [h] at e
  cases e
  unfold Ry at h
  split at h
  ·obtain ⟨a,vs,rfl,ha,r⟩:=bx.lst
   cases jJ.int
   obtain ⟨v,e1,r1⟩:=Ij r h
   exact .inl (.inl ⟨a,vs,_,v,rfl,rfl,cM.of ha,e1,q _ _ (bA.refl _ _) ⟨S,r1⟩⟩)
  ·obtain ⟨a,vs,rfl,ha,r⟩:=bx.tup
   cases jJ.int
   obtain ⟨v,e1,r1⟩:=Ij r h
   exact .inl (.inr (.inl ⟨a,vs,_,v,rfl,rfl,ig.of ha,e1,q _ _ (bA.refl _ _) ⟨S,r1⟩⟩))
  ·split at h
   ·rename_i z i hz
    cases bx.str
    cases jJ.int
    cases hc:ju z.cps.toList i with
    | none=>rw [hc] at h; cases h
    | some c=>
     rw [hc] at h
     cases h
     exact .inl (.inr (.inr ⟨z,i,c,rfl,rfl,d7 hz,hc,q _ _ (bA.refl _ _) (bh S rfl rfl)⟩))
   ·cases h
  ·split at h
   ·rename_i kvs e' hl
    cases h
    obtain ⟨a,r,rfl,g,hq⟩:=bx.get jJ hl
    rcases hq with ⟨v,rfl,d',e1,r1,g1⟩ | ⟨_,e1⟩
    ·cases e1
     exact .inr ⟨a,v,rfl,g1,q _ _ (bA.refl _ _) ⟨S,r1⟩⟩
    ·cases e1
   ·cases h
  ·cases h
end L2
namespace L2
open PySem PySem.Spec PyProof.Rows PySem.W
noncomputable def truD:PyData→Option Bool
 | .none=>some false
 | .bool b=>some b
 | .int i=>some (i != 0)
 | .str x=>if x.length≤LIM then some ((x.length:Int) != 0) else none
 | .list ds=>some (!ds.isEmpty)
 | .tuple ds=>some (!ds.isEmpty)
 | .dict kvs=>if (b7 cN kvs).isSome then some (!kvs.isEmpty) else none
noncomputable def fTru (f:FB):FT:=fun env C=>match f env C with
 | some (d,_,C')=>match truD d with
  | some b=>some (b,C')
  | none=>none
 | none=>none
noncomputable def fTst (f:FE):FT:=fun env C=>match f env C with
 | some (.im (.bool b),_,C')=>some (b,C')
 | _=>none
noncomputable def mY (f:FT):FT:=fun env C=>match f env C with
 | some (b,C')=>some (!b,C')
 | none=>none
noncomputable def iJ (f g:FT):FT:=fun env C=>match f env C with
 | some (true,C')=>g env C'
 | some (false,C')=>some (false,C')
 | none=>none
noncomputable def zX (f g:FT):FT:=fun env C=>match f env C with
 | some (true,C')=>some (true,C')
 | some (false,C')=>g env C'
 | none=>none
theorem VP {K:PySem.W.Frag} {Z Θ:List Addr} {env:En} {σ:St} {H:Hp} {x:V} {d:PyData} {b:Bool} (h:dX Z Θ env σ H d x) (e:truD d=some b):U9 K x H b:=by
 cases d with
 | none=>cases e; cases (show x=_ from h); rfl
 | bool c=>cases e; cases (show x=_ from h); rfl
 | int i=>cases e; cases (show x=_ from h); rfl
 | str z=>
  simp only [truD] at e
  split at e
  ·rename_i hz; cases e; cases (show x=_ from h); exact ⟨d7 hz,rfl⟩
  ·cases e
 | list ds=>
  cases e
  obtain ⟨a,vs,rfl,ha,r⟩:=h.lst
  refine .inl ⟨vs,cM.of ha,?_⟩
  have:=bB r
  cases ds <;> cases vs <;> first | rfl | cases this
 | tuple ds=>
  cases e
  obtain ⟨a,vs,rfl,ha,r⟩:=h.tup
  refine .inr (.inl ⟨vs,ig.of ha,?_⟩)
  have:=bB r
  cases ds <;> cases vs <;> first | rfl | cases this
 | dict kvs=>
  simp only [truD] at e
  split at e
  ·rename_i hs
   cases e
   obtain ⟨a,vs,rfl,da,r⟩:=h.dct
   rcases da with ⟨ks,h1,ha⟩ | ⟨ks,⟨ne,h2⟩,ha⟩
   ·refine .inr (.inr ⟨_,ha,?_⟩)
    have l1:=gM h1
    have l2:=qG r
    cases kvs <;> cases ks <;> cases vs <;> first | rfl | cases l1 | cases l2
   ·obtain ⟨ks',h1⟩:=Option.isSome_iff_exists.mp hs
    exact absurd (jd h1 h2) ne
  ·cases e
section
variable {X:Cx} {a b:Expr} {pos:Pos}
theorem ir {f:FB} (h:PE X a (lZ X.K f)) (he:∀whole,isTrue a X.env whole=(do let v ←whole; standAt a.pos; holding [v] (truthy v)):=by intro _; rfl):PT X a (mF X.K (fTru f)):=
 (Mf h he).weak fun σ H Q aO=>by
  obtain ⟨Z,Θ,env,C,b,C',S,hf,q⟩:=aO
  unfold fTru at hf
  split at hf
  ·rename_i d e1 C1 h1
   split at hf
   ·rename_i b' hb
    cases hf
    exact ⟨Z,Θ,env,C,d,e1,C',S,h1,fun v H' k f S' bo=>⟨b,VP bo hb,q H' k (S.go k S'.cell)⟩⟩
   ·cases hf
  ·cases hf
theorem Cy {K:PySem.W.Frag} {t:TE} {f:FE} (w:∀σ H Q,tE K f σ H Q→t σ H Q):∀σ H Q,mF K (fTst f) σ H Q→LQ t σ H Q:=by
 rintro σ H Q ⟨Z,Θ,env,C,b,C',S,hf,q⟩
 unfold fTst at hf
 split at hf
 ·rename_i b' e1 C1 h1
  cases hf
  refine w _ _ _ ⟨Z,Θ,env,C,.im (.bool b),e1,C',S,h1,fun v H' k f R=>?_⟩
  obtain ⟨S',r⟩:=R
  exact ⟨b,r,q H' k (S.go k S'.cell)⟩
 ·cases hf
theorem cj {o:CmpOp} {r:R2} {op:PyData→PyData→Option Vl} {fa fb:FB} (ho:iI X (compareOp o) r) (L:oU X.K r op) (ha:PE X a (lZ X.K fa)) (hb:PE X b (lZ X.K fb)) (hm:behindInMarks o b=false):
  PT X (.Compare a [o] [b] pos) (mF X.K (fTst (aF op fa fb))):=(QK ho ha hb hm).weak (Cy (qI L))
theorem pO {f:FT} (h:PT X a (mF X.K f)):PT X (.UnaryOp .Not a pos) (mF X.K (mY f)):=(Uv h).weak fun σ H Q aO=>by
 obtain ⟨Z,Θ,env,C,b,C',S,hf,q⟩:=aO
 unfold mY at hf
 split at hf
 ·rename_i b' C1 h1
  cases hf
  exact ⟨Z,Θ,env,C,b',C',S,h1,q⟩
 ·cases hf
theorem Ny {K:PySem.W.Frag} {f g:FT}:∀σ H Q,mF K (iJ f g) σ H Q→W7 (mF K f) (mF K g) σ H Q:=by
 rintro σ H Q ⟨Z,Θ,env,C,b,C',S,hf,q⟩
 unfold iJ at hf
 split at hf
 ·rename_i C1 h1
  exact ⟨Z,Θ,env,C,true,C1,S,h1,fun H1 k1 S1=>w6 ⟨Z,Θ,env,C1,b,C',S1,hf,fun H2 k2 S2=>q H2 (k1.trans k2) S2⟩⟩
 ·rename_i C1 h1
  cases hf
  exact ⟨Z,Θ,env,C,false,C',S,h1,fun H1 k1 S1=>w5 (q H1 k1 S1)⟩
 ·cases hf
theorem Rz {K:PySem.W.Frag} {f g:FT}:∀σ H Q,mF K (zX f g) σ H Q→tOr (mF K f) (mF K g) σ H Q:=by
 rintro σ H Q ⟨Z,Θ,env,C,b,C',S,hf,q⟩
 unfold zX at hf
 split at hf
 ·rename_i C1 h1
  cases hf
  exact ⟨Z,Θ,env,C,true,C',S,h1,fun H1 k1 S1=>w6 (q H1 k1 S1)⟩
 ·rename_i C1 h1
  exact ⟨Z,Θ,env,C,false,C1,S,h1,fun H1 k1 S1=>w5 ⟨Z,Θ,env,C1,b,C',S1,hf,fun H2 k2 S2=>q H2 (k1.trans k2) S2⟩⟩
 ·cases hf
variable {rest:List Expr}
theorem qL {f:FT} (h:PT X a (mF X.K f)):PW X (.BoolOp .And [a] pos) (mF X.K f):=pw_and1 h
theorem zY {f:FT} (h:PT X a (mF X.K f)):PW X (.BoolOp .Or [a] pos) (mF X.K f):=pw_or1 h
theorem lg {f g:FT} (h:PT X a (mF X.K f)) (hb:PW X (.BoolOp .And (b::rest) pos) (mF X.K g)):PW X (.BoolOp .And (a::b::rest) pos) (mF X.K (iJ f g)):=(pw_and h hb).weak Ny
theorem Ik {f g:FT} (h:PT X a (mF X.K f)) (hb:PW X (.BoolOp .Or (b::rest) pos) (mF X.K g)):PW X (.BoolOp .Or (a::b::rest) pos) (mF X.K (zX f g)):=(pw_or h hb).weak Rz
end
noncomputable def Gk (op op':PyData→PyData→Option Vl) (fa fb fc:FB):FE:=fun env C=>match fa env C with
 | some (x,e1,C1)=>match fb e1 C1 with
  | some (y,e2,C2)=>match op x y with
   | some (.im (.bool true))=>match fc e2 C2 with
    | some (z,e3,C3)=>match op' y z with
     | some (.im (.bool b))=>some (.im (.bool b),env,C3)
     | _=>none
    | none=>none
   | some (.im (.bool false))=>some (.im (.bool false),env,C2)
   | _=>none
  | none=>none
 | none=>none
theorem Nz {K:PySem.W.Frag} {r r':R2} {op op':PyData→PyData→Option Vl} (L:oU K r op) (L':oU K r' op') {fa fb fc:FB}:∀σ H Q,tE K (Gk op op' fa fb fc) σ H Q→LR r r' (lZ K fa) (lZ K fb) (lZ K fc) σ H Q:=by
 rintro σ H Q ⟨Z,Θ,env,C,res,env',C',S,hf,q⟩
 unfold Gk at hf
 split at hf
 ·rename_i x e1 C1 h1
  split at hf
  ·rename_i y e2 C2 h2
   refine ⟨Z,Θ,env,C,x,e1,C1,S,h1,fun v H1 k1 f1 S1 b1=>⟨Z,Θ,e1,C1,y,e2,C2,S1,h2,fun u H2 k2 f2 S2 b2=>?_⟩⟩
   split at hf
   ·rename_i h3
    split at hf
    ·rename_i z e3 C3 h4
     split at hf
     ·rename_i b h5
      cases hf
      refine L Z Θ e2 C2 σ H2 v u x y _ S2 (b1.go S1 k2 f2) b2 h3 _ fun w H3 k3 R=>⟨true,R.2,w6 ⟨Z,Θ,e2,C2,z,e3,C',R.1,h4,fun w2 H4 k4 f4 S4 b4=>?_⟩⟩
      refine L' Z Θ e3 C' σ H4 u w2 y z _ S4 ((b2.go S2 k3 (Fz.refl _)).go R.1 k4 f4) b4 h5 Q fun w3 H5 k5 R5=>?_
      have k:=(((k1.trans k2).trans k3).trans k4).trans k5
      exact q w3 H5 k (Fz.refl _) ⟨S.go k R5.1.cell,R5.2⟩
     ·cases hf
    ·cases hf
   ·rename_i h3
    cases hf
    refine L Z Θ e2 C' σ H2 v u x y _ S2 (b1.go S1 k2 f2) b2 h3 _ fun w H3 k3 R=>⟨false,R.2,w5 ?_⟩
    have k:=(k1.trans k2).trans k3
    exact q _ H3 k (Fz.refl _) ⟨S.go k R.1.cell,rfl⟩
   ·cases hf
  ·cases hf
 ·cases hf
section
variable {X:Cx} {a b c:Expr} {pos:Pos} {r r':R2} {o o':CmpOp} {op op':PyData→PyData→Option Vl} {fa fb fc:FB}
theorem NB (ho:iI X (compareOp o) r) (L:oU X.K r op) (ho':iI X (compareOp o') r') (L':oU X.K r' op') (ha:PE X a (lZ X.K fa)) (hb:PE X b (lZ X.K fb)) (hc:PE X c (lZ X.K fc))
  (hm:lastMarks [o,o'] [b,c]=false:=by with_unfolding_all rfl):PT X (.Compare a [o,o'] [b,c] pos) (mF X.K (fTst (Gk op op' fa fb fc))):=(Ma ho ho' ha hb hc hm).weak (Cy (Nz L L'))
end
noncomputable def qM (f g:FE):FE:=fun env C=>match f env C with
 | some (.im (.bool true),_,C')=>g env C'
 | some (.im (.bool false),_,C')=>some (.im (.bool false),env,C')
 | _=>none
noncomputable def Il (f:FE):FE:=fun env C=>match f env C with
 | some (.im (.bool b),_,C')=>some (.im (.bool (!b)),env,C')
 | _=>none
noncomputable def CG (c:FT) (f g:FE):FE:=fun env C=>match c env C with
 | some (true,C')=>f env C'
 | some (false,C')=>g env C'
 | none=>none
noncomputable def fNeg (f:FB):FE:=fun env C=>match f env C with
 | some (.int i,_,C')=>some (.im (.int (-i)),env,C')
 | _=>none
section
variable {X:Cx} {a b c:Expr} {pos:Pos} {rest:List Expr}
theorem zZ {o} {f:FE} (h:PE X a (tE X.K f)):PE X (.BoolOp o [a] pos) (tE X.K f):=Uw h
theorem vH {f g:FE} (ha:PE X a (tE X.K f)) (hb:PE X (.BoolOp .And (b::rest) pos) (tE X.K g)):PE X (.BoolOp .And (a::b::rest) pos) (tE X.K (qM f g)):=(Ux ha hb).weak fun σ H Q aO=>by
 obtain ⟨Z,Θ,env,C,r,env',C',S,hf,q⟩:=aO
 unfold qM at hf
 split at hf
 ·rename_i e1 C1 h1
  refine ⟨Z,Θ,env,C,_,e1,C1,S,h1,fun v H1 k1 f1 R1=>⟨true,R1.2,w6 ⟨Z,Θ,env,C1,r,env',C',S.go k1 R1.1.cell,hf,fun w H2 k2 f2 R2=>q w H2 (k1.trans k2) f2 (R2.from k1)⟩⟩⟩
 ·rename_i e1 C1 h1
  cases hf
  exact ⟨Z,Θ,env,C,_,e1,C',S,h1,fun v H1 k1 f1 R1=>⟨false,R1.2,w5 (q _ H1 k1 (Fz.refl _) ⟨S.go k1 R1.1.cell,rfl⟩)⟩⟩
 ·cases hf
theorem VR {f:FE} (ha:PE X a (tE X.K f)):PE X (.UnaryOp .Not a pos) (tE X.K (Il f)):=(Uy ha).weak fun σ H Q aO=>by
 obtain ⟨Z,Θ,env,C,r,env',C',S,hf,q⟩:=aO
 unfold Il at hf
 split at hf
 ·rename_i b e1 C1 h1
  cases hf
  exact ⟨Z,Θ,env,C,_,e1,C',S,h1,fun v H1 k1 f1 R1=>⟨b,R1.2,q _ H1 k1 (Fz.refl _) ⟨S.go k1 R1.1.cell,rfl⟩⟩⟩
 ·cases hf
theorem NK {t:FT} {f g:FE} (hc:PT X c (mF X.K t)) (ha:PE X a (tE X.K f)) (hb:PE X b (tE X.K g)):PE X (.IfExp c a b pos) (tE X.K (CG t f g)):=(Lk hc ha hb).weak fun σ H Q aO=>by
 obtain ⟨Z,Θ,env,C,r,env',C',S,hf,q⟩:=aO
 unfold CG at hf
 split at hf
 ·rename_i C1 h1
  exact ⟨Z,Θ,env,C,true,C1,S,h1,fun H1 k1 S1=>w6 ⟨Z,Θ,env,C1,r,env',C',S1,hf,fun w H2 k2 f2 R2=>q w H2 (k1.trans k2) f2 (R2.from k1)⟩⟩
 ·rename_i C1 h1
  exact ⟨Z,Θ,env,C,false,C1,S,h1,fun H1 k1 S1=>w5 ⟨Z,Θ,env,C1,r,env',C',S1,hf,fun w H2 k2 f2 R2=>q w H2 (k1.trans k2) f2 (R2.from k1)⟩⟩
 ·cases hf
end
noncomputable def qN (K:PySem.W.Frag) (E:Hp) (Θ:List Addr):Vl→V→Prop
 | .im d,v=>RZ E d v
 | .ow _,_=>False
 | .ce n,v=>∃a,v=.ref a∧Θ[n]?=some a
 | .sc ns,v=>∃a,v=.ref a∧cM K E a (ns.map V.int)
inductive iz (K:PySem.W.Frag) (E:Hp) (Θ:List Addr):List Vl→List V→Prop
 | nil:iz K E Θ [] []
 | cons {x:Vl} {v:V} {xs:List Vl} {vs:List V}:qN K E Θ x v→iz K E Θ xs vs→iz K E Θ (x::xs) (v::vs)
theorem qN.same {K:PySem.W.Frag} {E E':Hp} {Θ:List Addr} (s:aP E E') {x:Vl} {v:V} (h:qN K E Θ x v):qN K E' Θ x v:=by
 cases x with
 | im d=>exact RZ.same s h
 | ow d=>exact h
 | ce n=>exact h
 | sc ns=>obtain ⟨a,e,q⟩:=h; exact ⟨a,e,s.seq q⟩
theorem iz.same {K:PySem.W.Frag} {E E':Hp} {Θ:List Addr} (s:aP E E') {xs:List Vl} {vs:List V} (h:iz K E Θ xs vs):iz K E' Θ xs vs:=by
 induction h with
 | nil=>exact .nil
 | cons a _ ih=>exact .cons (a.same s) ih
inductive T9 (K:PySem.W.Frag) (f:FA) (σ:St) (H:Hp) (Q:List V→Hp→Prop):Prop
 | mk (Z Θ:List Addr) (env:En) (C:Ce) (xs:List Vl) (env':En) (C':Ce) (S:Sm K Z Θ env C σ H) (hf:f env C=some (xs,env',C')) (q:∀vs H',bA Θ H H'→Fz env env'→Sm K Z Θ env' C' σ H'→iz K (er (aK Z Θ env' σ) H') Θ xs vs→Q vs H'):T9 K f σ H Q
noncomputable def aNil:FA:=fun env C=>some ([],env,C)
noncomputable def aCons (f:FE) (g:FA):FA:=fun env C=>match f env C with
 | some (r,e1,C1)=>match g e1 C1 with
  | some (xs,e2,C2)=>some (still r::xs,e2,C2)
  | none=>none
 | none=>none
noncomputable def bNil:Qu:=fun env C=>some ([],env,C)
noncomputable def bCons (f:FB) (g:Qu):Qu:=fun env C=>match f env C with
 | some (d,e1,C1)=>match g e1 C1 with
  | some (ds,e2,C2)=>some (d::ds,e2,C2)
  | none=>none
 | none=>none
theorem Res.arg {K:PySem.W.Frag} {Z Θ:List Addr} {env:En} {C:Ce} {σ:St} {H H':Hp} {r:Vl} {v:V} (h:Res K Z Θ env C σ H H' r v):Sm K Z Θ env C σ H'∧qN K (er (aK Z Θ env σ) H') Θ (L2.still r) v:=by
 have g:=h.still
 cases r with
 | im d=>exact g
 | ow d=>exact g
 | ce n=>exact g
 | sc ns=>exact g
theorem Gi.same {E E' T T':Hp} (s:aP E E') (t:aP T T') {ds:List PyData} {vs:List V} (h:Gi E T ds vs):Gi E' T' ds vs:=by
 induction h with
 | nil=>exact .nil
 | cons a _ ih=>exact .cons (a.same s t) ih
section
variable {X:Cx} {e:Expr} {es:List Expr} {pos:Pos}
theorem aG:PA X [] (T9 X.K aNil):=gq.weak fun σ H Q aO=>by
 obtain ⟨Z,Θ,env,C,xs,env',C',S,hf,q⟩:=aO
 cases hf
 exact q [] H (bA.refl _ _) (Fz.refl _) S .nil
theorem aa {f:FE} {g:FA} (h:PE X e (tE X.K f)) (hr:PA X es (T9 X.K g)) (hs:starEach (e::es) X.env=(false,eval e X.env)::starEach es X.env:=by rfl):PA X (e::es) (T9 X.K (aCons f g)):=(cU h hr hs).weak fun σ H Q aO=>by
 obtain ⟨Z,Θ,env,C,xs,env',C',S,hf,q⟩:=aO
 unfold aCons at hf
 split at hf
 ·rename_i r e1 C1 h1
  split at hf
  ·rename_i ys e2 C2 h2
   cases hf
   refine ⟨Z,Θ,env,C,r,e1,C1,S,h1,fun v H1 k1 f1 R1=>?_⟩
   obtain ⟨S1,a1⟩:=R1.arg
   exact ⟨Z,Θ,e1,C1,ys,env',C',S1,h2,fun vs H2 k2 f2 S2 a2=>q _ H2 (k1.trans k2) (f1.trans f2) S2 (.cons (a1.same (Nm S1 k2 f2)) a2)⟩
  ·cases hf
 ·cases hf
theorem cz:PA X [] (Rt X.K bNil):=gq.weak fun σ H Q aO=>by
 obtain ⟨Z,Θ,env,C,xs,env',C',S,hf,q⟩:=aO
 cases hf
 exact q [] H (bA.refl _ _) (Fz.refl _) S .nil
theorem bG {f:FB} {g:Qu} (h:PE X e (lZ X.K f)) (hr:PA X es (Rt X.K g)) (hs:starEach (e::es) X.env=(false,eval e X.env)::starEach es X.env:=by rfl):PA X (e::es) (Rt X.K (bCons f g)):=(cU h hr hs).weak fun σ H Q aO=>by
 obtain ⟨Z,Θ,env,C,xs,env',C',S,hf,q⟩:=aO
 unfold bCons at hf
 split at hf
 ·rename_i d e1 C1 h1
  split at hf
  ·rename_i ys e2 C2 h2
   cases hf
   exact ⟨Z,Θ,env,C,d,e1,C1,S,h1,fun v H1 k1 f1 S1 b1=>⟨Z,Θ,e1,C1,ys,env',C',S1,h2,fun vs H2 k2 f2 S2 b2=>q _ H2 (k1.trans k2) (f1.trans f2) S2 (.cons (b1.go S1 k2 f2) b2)⟩⟩
  ·cases hf
 ·cases hf
end
noncomputable def allIm:List Vl→Option (List PyData)
 | []=>some []
 | .im d::r=>match allIm r with
  | some ds=>some (d::ds)
  | none=>none
 | _=>none
theorem vI {K:PySem.W.Frag} {E:Hp} {Θ:List Addr}:∀{xs:List Vl} {ds:List PyData} {vs:List V},allIm xs=some ds→iz K E Θ xs vs→dU E ds vs
 | [],ds,vs,h,a=>by cases h; cases a; rfl
 | .im d::r,ds,vs,h,a=>by
  unfold allIm at h
  split at h
  ·rename_i t ht
   cases h
   cases a with
   | cons a1 a2=>exact ⟨_,_,rfl,a1,vI ht a2⟩
  ·cases h
 | .ow _::r,ds,vs,h,a=>by cases h
 | .ce _::r,ds,vs,h,a=>by cases h
 | .sc _::r,ds,vs,h,a=>by cases h
noncomputable def fLst (g:FA):FE:=fun env C=>match g env C with
 | some (xs,e',C')=>match allIm xs with
  | some ds=>if ds.length≤LIM then some (.ow (.list ds),e',C') else none
  | none=>none
 | none=>none
noncomputable def fTup (g:FA):FE:=fun env C=>match g env C with
 | some (xs,e',C')=>match allIm xs with
  | some ds=>if ds.length≤LIM then some (.im (.tuple ds),e',C') else none
  | none=>none
 | none=>none
section
variable {X:Cx} {e:Expr} {es:List Expr} {pos:Pos}
theorem cV {g:FA} (h:PA X es (T9 X.K g)):PE X (.List es pos) (tE X.K (fLst g)):=(Vc h).weak fun σ H Q aO=>by
 obtain ⟨Z,Θ,env,C,r,env',C',S,hf,q⟩:=aO
 unfold fLst at hf
 split at hf
 ·rename_i xs e1 C1 h1
  split at hf
  ·rename_i ds hd
   split at hf
   ·rename_i hl
    cases hf
    refine ⟨Z,Θ,env,C,xs,env',C',S,h1,fun vs H1 k1 f1 S1 a1=>?_⟩
    have r:=vI hd a1
    exact ⟨by rw [bB r]; exact d7 hl,fun p hp=>q _ _ (k1.trans (bA.upd hp)) f1 ((dI S1 r hp).from k1)⟩
   ·cases hf
  ·cases hf
 ·cases hf
theorem pP {x1} {g:FA} (h:PA X es (T9 X.K g)):PE X (.Tuple es x1 pos) (tE X.K (fTup g)):=(EY h).weak fun σ H Q aO=>by
 obtain ⟨Z,Θ,env,C,r,env',C',S,hf,q⟩:=aO
 unfold fTup at hf
 split at hf
 ·rename_i xs e1 C1 h1
  split at hf
  ·rename_i ds hd
   split at hf
   ·rename_i hl
    cases hf
    refine ⟨Z,Θ,env,C,xs,env',C',S,h1,fun vs H1 k1 f1 S1 a1=>?_⟩
    have r:=vI hd a1
    exact ⟨by rw [bB r]; exact d7 hl,fun p hp=>q _ _ (k1.trans (bA.upd hp)) f1 ((uB S1 r hp).from k1)⟩
   ·cases hf
  ·cases hf
 ·cases hf
noncomputable def Gm:FE:=fun env C=>some (.ow (.dict []),env,C)
theorem NP:PE X (.Dict [] [] pos) (tE X.K Gm):=Mt.weak fun σ H Q aO=>by
 obtain ⟨Z,Θ,env,C,r,env',C',S,hf,q⟩:=aO
 cases hf
 exact fun p hp=>q _ _ (bA.upd hp) (Fz.refl _) (Rr (vs:=[]) S (fun _ z=>nomatch z) (.inl ⟨[],rfl,aH⟩) rfl hp)
end
noncomputable def Bm (K:PySem.W.Frag) (r:List V→Hp→VK→Prop) (op:List PyData→Option Vl):Prop:=
 ∀(Z Θ:List Addr) (env:En) (C:Ce) (σ:St) (H:Hp) (xs:List V) (ds:List PyData) (res:Vl),Sm K Z Θ env C σ H→Ia Z Θ env σ H ds xs→op ds=some res→
  ∀Q:VK,(∀v H',bA Θ H H'→Res K Z Θ env C σ H H' res v→Q v H')→r xs H Q
noncomputable def fFun (op:List PyData→Option Vl) (g:Qu):FE:=fun env C=>match g env C with
 | some (ds,e',C')=>match op ds with
  | some r=>some (r,rst r env e',C')
  | none=>none
 | none=>none
theorem CJ {K:PySem.W.Frag} {r:List V→Hp→VK→Prop} {op:List PyData→Option Vl} (L:Bm K r op) {g:Qu}:∀σ H Q,tE K (fFun op g) σ H Q→tCB r (Rt K g) σ H Q:=by
 rintro σ H Q ⟨Z,Θ,env,C,res,env',C',S,hf,q⟩
 unfold fFun at hf
 split at hf
 ·rename_i ds e1 C1 h1
  split at hf
  ·rename_i r0 h2
   cases hf
   refine ⟨Z,Θ,env,C,ds,e1,C',S,h1,fun vs H1 k1 f1 S1 b1=>L Z Θ e1 C' σ H1 vs ds res S1 b1 h2 Q fun z H2 k2 R=>?_⟩
   exact q z H2 (k1.trans k2) (f1.rst res) ((R.from k1).rst S (k1.trans k2))
  ·cases hf
 ·cases hf
section
variable {X:Cx} {x:Str} {p pos:Pos} {e:Expr} {es:List Expr} {g:Qu} {id T:String} {r:List V→Hp→VK→Prop} {op:List PyData→Option Vl}
theorem dF (hc:cJ X (.builtin id) r) (L:Bm X.K r op) (hg:Gl X x) (hm:X.mg x=none) (hv:bootBuiltins x=some (.builtin id)) (ha:PA X (e::es) (Rt X.K g)) (hn:x≠"__name__":=by decide) (hdb:(x==("__debug__":Str))=false:=by decide)
  (he:starEach (e::es) X.env=(false,eval e X.env)::starEach es X.env:=by rfl) (hpl:(backTo pos (starEach es X.env)).any (·.1)=false:=by rfl):PE X (.Call (.Name x p) (e::es) [] pos) (tE X.K (fFun op g)):=(qi hc hg hm hv ha hn hdb he hpl).weak (CJ L)
theorem mZ (hc:cJ X (.type T) r) (L:Bm X.K r op) (hg:Gl X x) (hm:X.mg x=none) (hv:bootBuiltins x=some (.type T)) (ha:PA X (e::es) (Rt X.K g)) (hn:x≠"__name__":=by decide) (hdb:(x==("__debug__":Str))=false:=by decide)
  (he:starEach (e::es) X.env=(false,eval e X.env)::starEach es X.env:=by rfl) (hpl:(backTo pos (starEach es X.env)).any (·.1)=false:=by rfl):PE X (.Call (.Name x p) (e::es) [] pos) (tE X.K (fFun op g)):=(JS hc hg hm hv ha hn hdb he hpl).weak (CJ L)
end
noncomputable abbrev FN:=List Vl→Ce→Option (Vl×Ce)
noncomputable def spT (K:PySem.W.Frag) (f:FN):Sp:=fun vs H Q _=>∃Z Θ C xs r C',Sm K Z Θ [] C [] H∧iz K (er (aK Z Θ [] []) H) Θ xs vs∧f xs C=some (r,C')∧
 ∀v H',bA Θ H H'→Res K Z Θ [] C' [] H H' r v→Q v H'
noncomputable def fCal (f:FN) (g:FA):FE:=fun env C=>match g env C with
 | some (xs,e',C1)=>match f xs C1 with
  | some (r,C2)=>some (r,rst r env e',C2)
  | none=>none
 | none=>none
theorem iC {P P':List Addr} {H:Hp} (h:∀a,a∈P ↔ a∈P'):er P H=er P' H:=by
 funext b
 unfold er
 by_cases hb:b∈P
 ·rw [if_pos hb,if_pos ((h b).mp hb)]
 ·rw [if_neg hb,if_neg (fun z=>hb ((h b).mpr z))]
theorem z6 {Z Θ:List Addr} {env:En} {σ:St} (a:Addr):a∈aK (Z++aV env σ) Θ [] [] ↔ a∈aK Z Θ env σ:=by
 simp only [aK,aV,List.mem_append,List.append_nil]
 constructor
 ·rintro ((h | h) | h)
  ·exact .inl h
  ·exact .inr (.inr h)
  ·exact .inr (.inl h)
 ·rintro (h | h | h)
  ·exact .inl (.inl h)
  ·exact .inr h
  ·exact .inl (.inr h)
section
variable {K:PySem.W.Frag} {Z Θ:List Addr} {env:En} {C C':Ce} {σ:St} {H H':Hp} {a:Addr}
theorem Sm.vJ (S:Sm K Z Θ env C σ H) (ha:H a=none) (k:bA Θ H H') (h':NT (H' a)) (c:dW Θ C' H'):Sm K (a::Z) Θ env C' σ H':=by
 have sm:aP (er (aK Z Θ env σ) H) (er (aK (a::Z) Θ env σ) H'):=fj k S.H9 fun b m=>by
  rcases List.mem_cons.mp m with rfl | m
  ·exact .inr ha
  ·exact .inl m
 refine ⟨S.len,List.nodup_cons.mpr ⟨fun m=>S.zQ a m ha,S.nd⟩,fun b m=>?_,fun i x e=>?_,c⟩
 ·rcases List.mem_cons.mp m with rfl | m
  ·exact h'
  ·obtain ⟨u,e,n⟩:=S.dom b m
   exact ⟨u,k.keep _ _ e fun z=>by
    have h:=S.nd
    rw [List.nodup_append] at h
    exact h.2.2 b m b (List.mem_append_left _ z) rfl,n⟩
 ·obtain ⟨v,e1,r⟩:=S.slot i x e
  refine ⟨v,e1,r.same sm fun d b ex ev o' ho=>k.keep _ _ ho ?_⟩
  subst ex ev
  exact (S.eU (b8.mpr ⟨i,d,e,e1⟩)).2
theorem Sm.bare (S:Sm K Z Θ env C σ H):Sm K (Z++aV env σ) Θ [] C [] H:=by
 refine ⟨rfl,?_,fun b m=>?_,fun i x e=>by simp at e,S.cell⟩
 ·have h:=S.nd
  show ((Z++aV env σ)++(Θ++[])).Nodup
  rw [List.append_nil,List.append_assoc]
  have p:(Z++(Θ++aV env σ)).Perm (Z++(aV env σ++Θ)):=List.Perm.append_left Z List.perm_append_comm
  exact p.nodup h
 ·rcases List.mem_append.mp m with m | m
  ·exact S.dom b m
  ·exact S.Zn b (List.mem_append_right _ (List.mem_append_right _ m))
theorem Res.back {r:Vl} {v:V} (S:Sm K Z Θ env C σ H) (k:bA Θ H H') (h:Res K (Z++aV env σ) Θ [] C' [] H H' r v):Res K Z Θ env C' σ H H' r v:=by
 have e1:er (aK (Z++aV env σ) Θ [] []) H'=er (aK Z Θ env σ) H':=iC z6
 cases r with
 | im d=>
  obtain ⟨S',r⟩:=h
  rw [e1] at r
  exact ⟨S.go k S'.cell,r⟩
 | ow d=>
  obtain ⟨a,rfl,hn,S',r⟩:=h
  have e2:er (aK (a::(Z++aV env σ)) Θ [] []) H'=er (aK (a::Z) Θ env σ) H':=iC fun b=>by
   show b∈a::aK (Z++aV env σ) Θ [] [] ↔ b∈a::aK Z Θ env σ
   rw [List.mem_cons,List.mem_cons,z6]
  rw [e2] at r
  exact ⟨a,rfl,hn,S.vJ hn k (S'.dom a List.mem_cons_self) S'.cell,r⟩
 | ce n=>exact ⟨S.go k h.1.cell,h.2⟩
 | sc ns=>
  obtain ⟨S',a,rfl,q⟩:=h
  rw [e1] at q
  exact ⟨S.go k S'.cell,a,rfl,q⟩
end
section
variable {X:Cx} {x:Str} {k:Nat} {ps:List Str} {p pos:Pos} {e:Expr} {es:List Expr} {f:FN} {g:FA}
theorem NQ {K:PySem.W.Frag}:∀σ H Q,tE K (fCal f g) σ H Q→Mh (spT K f) [] E0 (T9 K g) σ H Q:=by
 rintro σ H Q ⟨Z,Θ,env,C,res,env',C',S,hf,q⟩
 unfold fCal at hf
 split at hf
 ·rename_i xs e1 C1 h1
  split at hf
  ·rename_i r C2 h2
   cases hf
   refine ⟨Z,Θ,env,C,xs,e1,C1,S,h1,fun vs H1 k1 f1 S1 a1=>?_⟩
   show spT K f (vs++[]) H1 Q E0
   rw [List.append_nil]
   have e2:er (aK (Z++aV e1 σ) Θ [] []) H1=er (aK Z Θ e1 σ) H1:=iC z6
   rw [←e2] at a1
   exact ⟨Z++aV e1 σ,Θ,C1,xs,res,C',S1.bare,a1,h2,fun v H2 k2 R=>q v H2 (k1.trans k2) (f1.rst res) (((R.back S1 k2).from k1).rst S (k1.trans k2))⟩
  ·cases hf
 ·cases hf
theorem aY (F:jq X.prog X.w X.K X.mg X.base x k ps (spT X.K f)) (hr:gn k X.A) (hg:Gl X x) (ha:PA X (e::es) (T9 X.K g)) (hdb:(x==("__debug__":Str))=false:=by decide)
  (he:starEach (e::es) X.env=(false,eval e X.env)::starEach es X.env:=by rfl) (hpl:(backTo pos (starEach es X.env)).any (·.1)=false:=by rfl):PE X (.Call (.Name x p) (e::es) [] pos) (tE X.K (fCal f g)):=(XS F hr hg ha hdb he hpl).weak NQ
end
end L2
namespace L2
open PySem PySem.Spec PyProof.Rows PySem.W
theorem sG:∀{env:En} {σ:St},(∀(i j:Nat) (d e:PyData) (a:Addr),env[i]?=some (some (Vl.ow d))→σ[i]?=some (some (V.ref a))→env[j]?=some (some (Vl.ow e))→σ[j]?=some (some (V.ref a))→i=j)→(aV env σ).Nodup
 | [],σ,_=>by cases σ <;> exact List.nodup_nil
 | _::_,[],_=>List.nodup_nil
 | x::en,v::s,h=>by
  rw [aV,List.nodup_append]
  refine ⟨?_,sG fun i j d e a h1 h2 h3 h4=>?_,fun a ha b hb e=>?_⟩
  ·unfold own1
   split
   ·exact List.nodup_cons.mpr ⟨by simp,List.nodup_nil⟩
   ·exact List.nodup_nil
  ·have:=h (i + 1) (j + 1) d e a (by simpa using h1) (by simpa using h2) (by simpa using h3) (by simpa using h4)
   omega
  ·subst e
   unfold own1 at ha
   split at ha
   ·rw [List.mem_singleton] at ha
    subst ha
    obtain ⟨j,d,h1,h2⟩:=b8.mp hb
    have:=h 0 (j + 1) _ d a rfl rfl (by simpa using h1) (by simpa using h2)
    omega
   ·simp at ha
theorem get_set {α:Type} {l:List α} {i j:Nat} {x y:α} (h:(l.set i x)[j]?=some y):(j=i∧y=x∧i < l.length)∨(j≠i∧l[j]?=some y):=by
 by_cases e:i=j
 ·subst e
  rw [List.getElem?_set,if_pos rfl] at h
  split at h
  ·rename_i hl; cases h; exact .inl ⟨rfl,rfl,hl⟩
  ·cases h
 ·rw [List.getElem?_set_ne e] at h
  exact .inr ⟨fun z=>e z.symm,h⟩
theorem Im {α:Type} {l:List α} {i:Nat} {x:α} (h:i < l.length):(l.set i x)[i]?=some x:=by
 rw [List.getElem?_set,if_pos rfl,if_pos h]
theorem jy {env:En} {σ:St} {i:Nat} {x:Vl} {v:V} {a:Addr} (h:a∈aV (env.set i (some x)) (σ.set i (some v))):a∈aV env σ∨(∃d,x=.ow d)∧v=.ref a:=by
 obtain ⟨j,d,h1,h2⟩:=b8.mp h
 rcases get_set h1 with ⟨rfl,e,_⟩ | ⟨n,h1⟩
 ·rcases get_set h2 with ⟨_,e2,_⟩ | ⟨n,_⟩
  ·cases e; cases e2; exact .inr ⟨⟨d,rfl⟩,rfl⟩
  ·exact absurd rfl n
 ·rcases get_set h2 with ⟨e,_,_⟩ | ⟨_,h2⟩
  ·exact absurd e n
  ·exact .inl (b8.mpr ⟨j,d,h1,h2⟩)
section
variable {K:PySem.W.Frag} {Z Θ:List Addr} {env:En} {C:Ce} {σ:St} {H:Hp} {a:Addr} {i:Nat} {v:V}
theorem Sm.jr (S:Sm K Z Θ env C σ H):Z.Nodup∧Θ.Nodup∧(aV env σ).Nodup∧(∀b∈Z,b∉Θ):=by
 have h:=S.nd
 rw [List.nodup_append,List.nodup_append] at h
 obtain ⟨h1,⟨h2,h3,_⟩,h4⟩:=h
 exact ⟨h1,h2,h3,fun b m m'=>h4 b m b (List.mem_append_left _ m') rfl⟩
theorem V0 {Z Θ O:List Addr} (h1:Z.Nodup) (h2:Θ.Nodup) (h3:O.Nodup) (h4:∀b∈Z,b∉Θ) (h5:∀b∈O,b∉Z∧b∉Θ):(Z++(Θ++O)).Nodup:=by
 rw [List.nodup_append,List.nodup_append]
 refine ⟨h1,⟨h2,h3,fun b m c m' e=>?_⟩,fun b m c m' e=>?_⟩
 ·subst e; exact (h5 b m').2 m
 ·subst e
  rcases List.mem_append.mp m' with m' | m'
  ·exact h4 b m m'
  ·exact (h5 b m').1 m
theorem Sm.Gn (S:Sm K Z Θ env C σ H) {x:Vl} (hx:∀d,x≠.ow d) (r:Km K (er (aK Z Θ env σ) H) H Θ x v):Sm K Z Θ (env.set i (some x)) C (σ.set i (some v)) H:=by
 have sub:∀b,b∈aV (env.set i (some x)) (σ.set i (some v))→b∈aV env σ:=fun b m=>by
  rcases jy m with m | ⟨⟨d,e⟩,_⟩
  ·exact m
  ·exact absurd e (hx d)
 have jr:=S.jr
 have sm:aP (er (aK Z Θ env σ) H) (er (aK Z Θ (env.set i (some x)) (σ.set i (some v))) H):=jH fun b m=>by
  rcases List.mem_append.mp m with m | m
  ·exact List.mem_append_left _ m
  ·rcases List.mem_append.mp m with m | m
   ·exact List.mem_append_right _ (List.mem_append_left _ m)
   ·exact List.mem_append_right _ (List.mem_append_right _ (sub b m))
 refine ⟨by rw [List.length_set,List.length_set]; exact S.len,?_,S.dom,fun j y e=>?_,S.cell⟩
 ·refine V0 jr.1 jr.2.1 (sG fun p q d e b h1 h2 h3 h4=>?_) jr.2.2.2 fun b m=>S.eU (sub b m)
  rcases get_set h1 with ⟨rfl,e1,_⟩ | ⟨n1,h1⟩
  ·cases e1; exact absurd rfl (hx d)
  ·rcases get_set h3 with ⟨rfl,e1,_⟩ | ⟨n2,h3⟩
   ·cases e1; exact absurd rfl (hx e)
   ·rcases get_set h2 with ⟨e2,_,_⟩ | ⟨_,h2⟩
    ·exact absurd e2 n1
    ·rcases get_set h4 with ⟨e4,_,_⟩ | ⟨_,h4⟩
     ·exact absurd e4 n2
     ·exact qH jr.2.2.1 h1 h2 h3 h4
 ·rcases get_set e with ⟨rfl,e1,hl⟩ | ⟨n,e⟩
  ·cases e1
   exact ⟨v,Im (by rw [S.len]; exact hl),r.same sm fun d b ex _=>absurd ex (hx d)⟩
  ·obtain ⟨u,e1,r1⟩:=S.slot j y e
   exact ⟨u,by rw [List.getElem?_set_ne (Ne.symm n)]; exact e1,r1.same sm fun _ _ _ _ _ h=>h⟩
theorem Sm.Yl (S:Sm K (a::Z) Θ env C σ H) {d:PyData} (r:mV (er (aK (a::Z) Θ env σ) H) H a d):Sm K Z Θ (env.set i (some (.ow d))) C (σ.set i (some (.ref a))) H:=by
 have sub:∀b,b∈aV (env.set i (some (.ow d))) (σ.set i (some (.ref a)))→b∈aV env σ∨b=a:=fun b m=>by
  rcases jy m with m | ⟨_,e⟩
  ·exact .inl m
  ·cases e; exact .inr rfl
 have jr:=S.jr
 have Ym:=List.nodup_cons.mp jr.1
 have sm:aP (er (aK (a::Z) Θ env σ) H) (er (aK Z Θ (env.set i (some (.ow d))) (σ.set i (some (.ref a)))) H):=jH fun b m=>by
  rcases List.mem_append.mp m with m | m
  ·exact List.mem_append_left _ (List.mem_cons_of_mem _ m)
  ·rcases List.mem_append.mp m with m | m
   ·exact List.mem_append_right _ (List.mem_append_left _ m)
   ·rcases sub b m with m | rfl
    ·exact List.mem_append_right _ (List.mem_append_right _ m)
    ·exact List.mem_append_left _ List.mem_cons_self
 have Yn:a∉aV env σ:=fun m=>(S.eU m).1 List.mem_cons_self
 refine ⟨by rw [List.length_set,List.length_set]; exact S.len,?_,fun b m=>S.dom b (List.mem_cons_of_mem _ m),fun j y e=>?_,S.cell⟩
 ·refine V0 Ym.2 jr.2.1 (sG fun p q d1 e b h1 h2 h3 h4=>?_) (fun b m=>jr.2.2.2 b (List.mem_cons_of_mem _ m)) fun b m=>?_
  ·rcases get_set h1 with ⟨rfl,e1,_⟩ | ⟨n1,h1⟩
   ·rcases get_set h3 with ⟨e3,_,_⟩ | ⟨n2,h3⟩
    ·exact e3.symm
    ·rcases get_set h2 with ⟨_,e2,_⟩ | ⟨n,_⟩
     ·cases e2
      rcases get_set h4 with ⟨e4,_,_⟩ | ⟨_,h4⟩
      ·exact e4.symm
      ·exact absurd (b8.mpr ⟨q,e,h3,h4⟩) Yn
     ·exact absurd rfl n
   ·rcases get_set h2 with ⟨e2,_,_⟩ | ⟨_,h2'⟩
    ·exact absurd e2 n1
    ·have mp:=b8.mpr ⟨p,d1,h1,h2'⟩
     rcases get_set h3 with ⟨rfl,e3,_⟩ | ⟨n2,h3⟩
     ·rcases get_set h4 with ⟨_,e4,_⟩ | ⟨n,_⟩
      ·cases e4
       exact absurd mp Yn
      ·exact absurd rfl n
     ·rcases get_set h4 with ⟨e4,_,_⟩ | ⟨_,h4⟩
      ·exact absurd e4 n2
      ·exact qH jr.2.2.1 h1 h2' h3 h4
  ·rcases sub b m with m | rfl
   ·obtain ⟨p,q⟩:=S.eU m
    exact ⟨fun z=>p (List.mem_cons_of_mem _ z),q⟩
   ·exact ⟨Ym.1,jr.2.2.2 b List.mem_cons_self⟩
 ·rcases get_set e with ⟨rfl,e1,hl⟩ | ⟨n,e⟩
  ·cases e1
   exact ⟨_,Im (by rw [S.len]; exact hl),a,rfl,r.same sm fun _ h=>h⟩
  ·obtain ⟨u,e1,r1⟩:=S.slot j y e
   exact ⟨u,by rw [List.getElem?_set_ne (Ne.symm n)]; exact e1,r1.same sm fun _ _ _ _ _ h=>h⟩
theorem Res.set {H0:Hp} {r:Vl} (h:Res K Z Θ env C σ H0 H r v):Sm K Z Θ (env.set i (some r)) C (σ.set i (some v)) H:=by
 cases r with
 | im d=>exact h.1.Gn (fun _ e=>nomatch e) h.2
 | ow d=>obtain ⟨a,rfl,_,S,r⟩:=h; exact S.Yl r
 | ce n=>exact h.1.Gn (fun _ e=>nomatch e) h.2
 | sc ns=>exact h.1.Gn (fun _ e=>nomatch e) h.2
end
inductive Fl where
 | nx | rt (r:Vl) | bk | ct
noncomputable abbrev FS:=En→Ce→Option (Fl×En×Ce)
structure xG (Θ Θ':List Addr) (H:Hp):Prop where
 ex:∃Δ,Θ'=Θ++Δ∧∀a∈Δ,H a=none
theorem xG.refl (Θ:List Addr) (H:Hp):xG Θ Θ H:=⟨[],by rw [List.append_nil],fun _ m=>nomatch m⟩
structure iW (K:PySem.W.Frag) (Z Θ:List Addr) (env:En) (σ:St) (H:Hp) (Θ':List Addr) (env':En) (C':Ce) (σ':St) (H':Hp):Prop where
 th:xG Θ Θ' H
 kp:bA (Θ++aV env σ) H H'
 own:∀a∈aV env' σ',a∈aV env σ∨H a=none
 sm:Sm K Z Θ' env' C' σ' H'
noncomputable def Io (K:PySem.W.Frag) (Z Θ:List Addr) (C:Ce) (own:List Addr) (H H':Hp):Vl→V→Prop
 | .im d,v=>Sm K Z Θ [] C [] H'∧RZ (er (aK Z Θ [] []) H') d v
 | .ow d,v=>∃a,v=.ref a∧(a∈own∨H a=none)∧Sm K (a::Z) Θ [] C [] H'∧mV (er (aK (a::Z) Θ [] []) H') H' a d
 | .ce n,v=>Sm K Z Θ [] C [] H'∧∃a,v=.ref a∧Θ[n]?=some a
 | .sc ns,v=>Sm K Z Θ [] C [] H'∧∃a,v=.ref a∧cM K (er (aK Z Θ [] []) H') a (ns.map V.int)
structure RtP (K:PySem.W.Frag) (Z Θ:List Addr) (env:En) (σ:St) (H:Hp) (Θ':List Addr) (C':Ce) (r:Vl) (v:V) (H':Hp):Prop where
 th:xG Θ Θ' H
 kp:bA (Θ++aV env σ) H H'
 ok:Io K Z Θ' C' (aV env σ) H H' r v
noncomputable def RB (K:PySem.W.Frag) (Z Θ:List Addr) (env:En) (σ:St) (H:Hp) (env':En) (C':Ce) (D:Ends):Fl→Prop
 | .nx=>∀Θ' σ' H',iW K Z Θ env σ H Θ' env' C' σ' H'→D.nx σ' H'
 | .bk=>∀Θ' σ' H',iW K Z Θ env σ H Θ' env' C' σ' H'→D.bk σ' H'
 | .ct=>∀Θ' σ' H',iW K Z Θ env σ H Θ' env' C' σ' H'→D.ct σ' H'
 | .rt r=>∀Θ' v H',RtP K Z Θ env σ H Θ' C' r v H'→D.rt v H'
inductive tS (K:PySem.W.Frag) (f:FS) (D:Ends) (σ:St) (H:Hp):Prop
 | mk (Z Θ:List Addr) (env:En) (C:Ce) (fl:Fl) (env':En) (C':Ce) (S:Sm K Z Θ env C σ H) (hf:f env C=some (fl,env',C')) (q:RB K Z Θ env σ H env' C' D fl):tS K f D σ H
section
variable {K:PySem.W.Frag} {Z Θ Θ1 Θ2:List Addr} {env e1 e2:En} {C C1 C2:Ce} {σ σ1 σ2:St} {H H1 H2:Hp}
theorem xG.trans (h:xG Θ Θ1 H) (k:∀a,H a≠none→H1 a≠none) (g:xG Θ1 Θ2 H1):xG Θ Θ2 H:=by
 obtain ⟨Δ,e,n⟩:=h.ex
 obtain ⟨Δ',e',n'⟩:=g.ex
 refine ⟨Δ++Δ',by rw [e',e,List.append_assoc],fun a m=>?_⟩
 rcases List.mem_append.mp m with m | m
 ·exact n a m
 ·cases h:H a with
  | none=>rfl
  | some o=>exact absurd (n' a m) (k a (by rw [h]; exact Option.some_ne_none _))
theorem CN (th:xG Θ Θ1 H) (k1:bA (Θ++aV env σ) H H1) (ow:∀a∈aV e1 σ1,a∈aV env σ∨H a=none) (k2:bA (Θ1++aV e1 σ1) H1 H2):bA (Θ++aV env σ) H H2:=by
 refine ⟨fun a o e n=>k2.keep a o (k1.keep a o e n) fun m=>n ?_,fun a e=>k2.dom a (k1.dom a e)⟩
 have hn:H a≠none:=by rw [e]; exact Option.some_ne_none _
 rcases List.mem_append.mp m with m | m
 ·obtain ⟨Δ,e',n'⟩:=th.ex
  rw [e'] at m
  rcases List.mem_append.mp m with m | m
  ·exact List.mem_append_left _ m
  ·exact absurd (n' a m) hn
 ·rcases ow a m with m | m
  ·exact List.mem_append_right _ m
  ·exact absurd m hn
theorem iW.trans (p:iW K Z Θ env σ H Θ1 e1 C1 σ1 H1) (q:iW K Z Θ1 e1 σ1 H1 Θ2 e2 C2 σ2 H2):iW K Z Θ env σ H Θ2 e2 C2 σ2 H2 where
 th:=p.th.trans p.kp.dom q.th
 kp:=CN p.th p.kp p.own q.kp
 own:=fun a m=>by
  rcases q.own a m with m | m
  ·exact p.own a m
  ·exact .inr (p.kp.none m)
 sm:=q.sm
theorem iW.ret {r:Vl} {v:V} (p:iW K Z Θ env σ H Θ1 e1 C1 σ1 H1) (q:RtP K Z Θ1 e1 σ1 H1 Θ2 C2 r v H2):RtP K Z Θ env σ H Θ2 C2 r v H2 where
 th:=p.th.trans p.kp.dom q.th
 kp:=CN p.th p.kp p.own q.kp
 ok:=by
  have h:=q.ok
  cases r with
  | im d=>exact h
  | ow d=>
   obtain ⟨a,e,m,S,r⟩:=h
   refine ⟨a,e,?_,S,r⟩
   rcases m with m | m
   ·exact p.own a m
   ·exact .inr (p.kp.none m)
  | ce n=>exact h
  | sc ns=>exact h
theorem RB.trans {D:Ends} {fl:Fl} (p:iW K Z Θ env σ H Θ1 e1 C1 σ1 H1) (h:RB K Z Θ env σ H e2 C2 D fl):RB K Z Θ1 e1 σ1 H1 e2 C2 D fl:=by
 cases fl with
 | nx=>exact fun Θ' σ' H' q=>h Θ' σ' H' (p.trans q)
 | bk=>exact fun Θ' σ' H' q=>h Θ' σ' H' (p.trans q)
 | ct=>exact fun Θ' σ' H' q=>h Θ' σ' H' (p.trans q)
 | rt r=>exact fun Θ' v H' q=>h Θ' v H' (p.ret q)
theorem iM {O:List Addr} (k:bA Θ H H1):bA (Θ++O) H H1:=⟨fun a o e n=>k.keep a o e fun m=>n (List.mem_append_left _ m),k.dom⟩
theorem iW.Ep (k:bA Θ H H1) (f:Fz env e1) (S:Sm K Z Θ e1 C1 σ H1):iW K Z Θ env σ H Θ e1 C1 σ H1:=
 ⟨xG.refl _ _,iM k,fun a m=>.inl (f.own.subset m),S⟩
end
noncomputable def fNext:FS:=fun env C=>some (.nx,env,C)
noncomputable def fSeq (f g:FS):FS:=fun env C=>match f env C with
 | some (.nx,e1,C1)=>g e1 C1
 | r=>r
noncomputable def jt (c:FT) (f g:FS):FS:=fun env C=>match c env C with
 | some (true,C1)=>f env C1
 | some (false,C1)=>g env C1
 | none=>none
noncomputable def fRet (f:FE):FS:=fun env C=>match f env C with
 | some (r,e1,C1)=>some (.rt r,e1,C1)
 | none=>none
noncomputable def fRetV (i:Nat):FS:=fun env C=>match env[i]? with
 | some (some x)=>some (.rt x,env,C)
 | _=>none
noncomputable def fSet (i:Nat) (f:FE):FS:=fun env C=>match f env C with
 | some (r,e1,C1)=>some (.nx,e1.set i (some r),C1)
 | none=>none
section
variable {X:Cx} {st:Stmt} {rest:List Stmt} {pos:Pos}
theorem iW.same {K:PySem.W.Frag} {Z Θ:List Addr} {env:En} {C:Ce} {σ:St} {H:Hp} (S:Sm K Z Θ env C σ H):iW K Z Θ env σ H Θ env C σ H:=iW.Ep (bA.refl _ _) (Fz.refl _) S
theorem eV:ug X [] (tS X.K fNext):=QC.weak fun D σ H aO=>by
 obtain ⟨Z,Θ,env,C,fl,env',C',S,hf,q⟩:=aO
 cases hf
 exact q Θ σ H (iW.same S)
theorem aQ {f:FS} (h:PS X st (tS X.K f)):ug X [st] (tS X.K f):=QD h
theorem NZ {K:PySem.W.Frag} {f g:FS}:∀D σ H,tS K (fSeq f g) D σ H→Xb (tS K f) (tS K g) D σ H:=by
 rintro D σ H ⟨Z,Θ,env,C,fl,env',C',S,hf,q⟩
 unfold fSeq at hf
 split at hf
 ·rename_i e1 C1 h1
  exact ⟨Z,Θ,env,C,.nx,e1,C1,S,h1,fun Θ1 σ1 H1 p=>⟨Z,Θ1,e1,C1,fl,env',C',p.sm,hf,q.trans p⟩⟩
 ·rename_i hne
  refine ⟨Z,Θ,env,C,fl,env',C',S,hf,?_⟩
  cases fl with
  | nx=>exact absurd hf (hne _ _)
  | bk=>exact q
  | ct=>exact q
  | rt r=>exact q
theorem aD {f g:FS} (h:PS X st (tS X.K f)) (hr:ug X rest (tS X.K g)):ug X (st::rest) (tS X.K (fSeq f g)):=(Ln h hr).weak NZ
theorem je {c:Expr} {a b:List Stmt} {t:FT} {f g:FS} (hc:PT X c (mF X.K t)) (ha:ug X a (tS X.K f)) (hb:ug X b (tS X.K g)):PS X (.If c a b pos) (tS X.K (jt t f g)):=(Xd hc ha hb).weak fun D σ H aO=>by
 obtain ⟨Z,Θ,env,C,fl,env',C',S,hf,q⟩:=aO
 unfold jt at hf
 split at hf
 ·rename_i C1 h1
  exact ⟨Z,Θ,env,C,true,C1,S,h1,fun H1 k1 S1=>w6 ⟨Z,Θ,env,C1,fl,env',C',S1,hf,q.trans (iW.Ep k1 (Fz.refl _) S1)⟩⟩
 ·rename_i C1 h1
  exact ⟨Z,Θ,env,C,false,C1,S,h1,fun H1 k1 S1=>w5 ⟨Z,Θ,env,C1,fl,env',C',S1,hf,q.trans (iW.Ep k1 (Fz.refl _) S1)⟩⟩
 ·cases hf
theorem Sm.none {K:PySem.W.Frag} {Z Θ:List Addr} {env:En} {C:Ce} {σ:St} {H:Hp} (S:Sm K Z Θ env C σ H):Sm K Z Θ [] C [] H:=by
 have jr:=S.jr
 exact ⟨rfl,V0 jr.1 jr.2.1 List.nodup_nil jr.2.2.2 (fun _ m=>nomatch m),S.dom,fun i x e=>by simp at e,S.cell⟩
theorem m5 {Z Θ:List Addr} {env:En} {σ:St} {H:Hp}:aP (er (aK Z Θ env σ) H) (er (aK Z Θ [] []) H):=jH fun b m=>by
 rcases List.mem_append.mp m with m | m
 ·exact List.mem_append_left _ m
 ·rcases List.mem_append.mp m with m | m
  ·exact List.mem_append_right _ (List.mem_append_left _ m)
  ·nomatch m
theorem Res.ret {K:PySem.W.Frag} {Z Θ:List Addr} {env:En} {C:Ce} {σ:St} {H H':Hp} {O:List Addr} {r:Vl} {v:V} (h:Res K Z Θ env C σ H H' r v):Io K Z Θ C O H H' r v:=by
 cases r with
 | im d=>exact ⟨h.1.none,h.2.same m5⟩
 | ow d=>obtain ⟨a,e,n,S,r⟩:=h; exact ⟨a,e,.inr n,S.none,r.same m5 fun _ h=>h⟩
 | ce n=>exact ⟨h.1.none,h.2⟩
 | sc ns=>obtain ⟨S,a,e,q⟩:=h; exact ⟨S.none,a,e,m5.seq q⟩
theorem cF {e:Expr} {f:FE} (h:PE X e (tE X.K f)):PS X (.Return (some e) pos) (tS X.K (fRet f)):=(Lp h).weak fun D σ H aO=>by
 obtain ⟨Z,Θ,env,C,fl,env',C',S,hf,q⟩:=aO
 unfold fRet at hf
 split at hf
 ·rename_i r e1 C1 h1
  cases hf
  exact ⟨Z,Θ,env,C,r,env',C',S,h1,fun v H1 k f R=>q Θ v H1 ⟨xG.refl _ _,iM k,R.ret⟩⟩
 ·cases hf
theorem iQ {e:Expr} {i:Nat} (h:PE X e (rJ i)):PS X (.Return (some e) pos) (tS X.K (fRetV i)):=(Lp h).weak fun D σ H aO=>by
 obtain ⟨Z,Θ,env,C,fl,env',C',S,hf,q⟩:=aO
 unfold fRetV at hf
 split at hf
 ·rename_i x hx
  cases hf
  obtain ⟨v,e1,r⟩:=S.slot i x hx
  refine ⟨v,e1,q Θ v H ⟨xG.refl _ _,bA.refl _ _,?_⟩⟩
  cases x with
  | im d=>exact ⟨S.none,RZ.same m5 r⟩
  | ow d=>
   obtain ⟨a,rfl,r⟩:=r
   have m:a∈aV env σ:=b8.mpr ⟨i,d,hx,e1⟩
   have sm:aP (er (aK Z Θ env σ) H) (er (aK (a::Z) Θ [] []) H):=jH fun b mb=>by
    rcases List.mem_append.mp mb with mb | mb
    ·rcases List.mem_cons.mp mb with rfl | mb
     ·exact List.mem_append_right _ (List.mem_append_right _ m)
     ·exact List.mem_append_left _ mb
    ·rcases List.mem_append.mp mb with mb | mb
     ·exact List.mem_append_right _ (List.mem_append_left _ mb)
     ·nomatch mb
   have jr:=S.jr
   refine ⟨a,rfl,.inl m,⟨rfl,V0 (List.nodup_cons.mpr ⟨(S.eU m).1,jr.1⟩) jr.2.1 List.nodup_nil (fun b mb=>?_) (fun _ m=>nomatch m),fun b mb=>?_,fun i x e=>by simp at e,S.cell⟩,r.same sm fun _ h=>h⟩
   ·rcases List.mem_cons.mp mb with rfl | mb
    ·exact (S.eU m).2
    ·exact jr.2.2.2 b mb
   ·rcases List.mem_cons.mp mb with rfl | mb
    ·exact r.nt
    ·exact S.dom b mb
  | ce n=>exact ⟨S.none,r⟩
  | sc ns=>obtain ⟨a,e,q⟩:=r; exact ⟨S.none,a,e,m5.seq q⟩
 ·cases hf
theorem CP {K:PySem.W.Frag} {i:Nat} {t:TE} {f:FE} (w:∀σ H Q,tE K f σ H Q→t σ H Q):∀D σ H,tS K (fSet i f) D σ H→Ls t (uM i) D σ H:=by
 rintro D σ H ⟨Z,Θ,env,C,fl,env',C',S,hf,q⟩
 unfold fSet at hf
 split at hf
 ·rename_i r e1 C1 h1
  cases hf
  refine w _ _ _ ⟨Z,Θ,env,C,r,e1,C',S,h1,fun v H1 k f R=>q Θ _ H1 ⟨xG.refl _ _,iM k,fun a m=>?_,R.set⟩⟩
  rcases jy m with m | ⟨⟨d,e⟩,e2⟩
  ·exact .inl (f.own.subset m)
  ·subst e
   obtain ⟨b,e3,n,_⟩:=R
   rw [e2] at e3
   cases e3
   exact .inr n
 ·cases hf
theorem bR {i:Nat} {x:Str} {e:Expr} {f:FE} {pos':Pos} (hN:X.N.Nodup) (hi:X.N[i]?=some x) (hx:Loc X.env.scope x) (he:PE X e (tE X.K f)) (hs:swapsWith e (some (.Name x pos')) pos.line X.env=pure false:=by rfl) (hf:X.fn x=true∨X.env.scope.names.lookup x=some .local:=by first | exact .inl rfl | exact .inr rfl | assumption):
  PS X (.Assign [.Name x pos'] e pos) (tS X.K (fSet i f)):=(Lw hN hi hx he hs hf).weak (CP fun _ _ _ h=>h)
end
end L2
namespace L2
open PySem PySem.Spec PyProof.Rows PySem.W
noncomputable abbrev FG:=PyData→En→Option En
noncomputable abbrev V1:=List PyData→En→Option En
noncomputable def W2 (K:PySem.W.Frag) (g:TG) (fg:FG):Prop:=∀(Z Θ:List Addr) (env:En) (C:Ce) (σ:St) (H:Hp) (v:V) (d:PyData) (env':En),Sm K Z Θ env C σ H→RZ (er (aK Z Θ env σ) H) d v→fg d env=some env'→
 ∀Q:St→Hp→Prop,(∀σ',Sm K Z Θ env' C σ' H→(∀a∈aV env' σ',a∈aV env σ)→Q σ' H)→g v σ H Q
noncomputable def RC (K:PySem.W.Frag) (g:Lq) (fg:V1):Prop:=∀(Z Θ:List Addr) (env:En) (C:Ce) (σ:St) (H:Hp) (vs:List V) (ds:List PyData) (env':En),Sm K Z Θ env C σ H→dU (er (aK Z Θ env σ) H) ds vs→fg ds env=some env'→
 ∀Q:St→Hp→Prop,(∀σ',Sm K Z Θ env' C σ' H→(∀a∈aV env' σ',a∈aV env σ)→Q σ' H)→g vs σ H Q
noncomputable def gNm (i:Nat):FG:=fun d env=>some (env.set i (some (.im d)))
noncomputable def gsNil:V1:=fun ds env=>match ds with
 | []=>some env
 | _=>none
noncomputable def gsCons (g:FG) (u:V1):V1:=fun ds env=>match ds with
 | d::r=>match g d env with
  | some e1=>u r e1
  | none=>none
 | []=>none
noncomputable def gTp (n:Nat) (u:V1):FG:=fun d env=>match d with
 | .tuple ds=>if ds.length=n then u ds env else none
 | _=>none
theorem N5 {Z Θ:List Addr} {env e1:En} {σ σ1:St} {H:Hp} (h:∀a∈aV e1 σ1,a∈aV env σ):aP (er (aK Z Θ env σ) H) (er (aK Z Θ e1 σ1) H):=jH fun b m=>by
 rcases List.mem_append.mp m with m | m
 ·exact List.mem_append_left _ m
 ·rcases List.mem_append.mp m with m | m
  ·exact List.mem_append_right _ (List.mem_append_left _ m)
  ·exact List.mem_append_right _ (List.mem_append_right _ (h b m))
section
variable {K:PySem.W.Frag}
theorem fW {i:Nat}:W2 K (uM i) (gNm i):=by
 intro Z Θ env C σ H v d env' S r e Q q
 cases e
 refine q _ (S.Gn (fun _ z=>nomatch z) r) fun a m=>?_
 rcases jy m with m | ⟨⟨_,z⟩,_⟩
 ·exact m
 ·cases z
theorem Ip:RC K Uz gsNil:=by
 intro Z Θ env C σ H vs ds env' S r e Q q
 unfold gsNil at e
 split at e
 ·cases e
  exact ⟨r,q _ S fun _ m=>m⟩
 ·cases e
theorem qO {g:TG} {u:Lq} {fg:FG} {fu:V1} (h:W2 K g fg) (hu:RC K u fu):RC K (Lr g u) (gsCons fg fu):=by
 intro Z Θ env C σ H vs ds env' S r e Q q
 unfold gsCons at e
 split at e
 ·rename_i d r'
  obtain ⟨v,ws,rfl,r1,r2⟩:=r
  split at e
  ·rename_i e1 h1
   refine ⟨v,ws,rfl,h Z Θ env C σ H v d e1 S r1 h1 _ fun σ1 S1 o1=>?_⟩
   exact hu Z Θ e1 C σ1 H ws r' env' S1 (r2.same (N5 o1)) e Q fun σ2 S2 o2=>q σ2 S2 fun a m=>o1 a (o2 a m)
  ·cases e
 ·cases e
theorem N6 {n:Nat} {u:Lq} {fu:V1} (hu:RC K u fu):W2 K (UG K n u) (gTp n fu):=by
 intro Z Θ env C σ H v d env' S r e Q q
 unfold gTp at e
 split at e
 ·rename_i ds
  split at e
  ·rename_i hl
   obtain ⟨a,vs,rfl,ha,r⟩:=r
   exact ⟨a,vs,rfl,ig.of (bJ ha),(bB r).trans hl,hu Z Θ env C σ H vs ds env' S r e Q q⟩
  ·cases e
 ·cases e
end
noncomputable def fUnp (f:FE) (g:FG):FS:=fun env C=>match f env C with
 | some (r,e1,C1)=>match still r with
  | .im d=>match g d e1 with
   | some e2=>some (.nx,e2,C1)
   | none=>none
  | _=>none
 | none=>none
theorem Res.oX {K:PySem.W.Frag} {Z Θ:List Addr} {env:En} {C:Ce} {σ:St} {H H':Hp} {r:Vl} {v:V} {d:PyData} (h:Res K Z Θ env C σ H H' r v) (e:L2.still r=.im d):Sm K Z Θ env C σ H'∧RZ (er (aK Z Θ env σ) H') d v:=by
 have g:=h.still
 rw [e] at g
 exact g
section
variable {X:Cx} {pos:Pos}
theorem V2 {tg e:Expr} {f:FE} {g:TG} {fg:FG} (he:PE X e (tE X.K f)) (hg:PG X tg g) (L:W2 X.K g fg) (hs:swapsWithSole [tg] e pos.line X.env=pure false:=by rfl) (hw:swappedStores [tg] e X.env=pure none:=by rfl) (h1:(assignEach [tg] X.env).map (·.2)=[assign tg X.env]:=by rfl):
  PS X (.Assign [tg] e pos) (tS X.K (fUnp f fg)):=(Es he hg hs hw h1).weak fun D σ H aO=>by
 obtain ⟨Z,Θ,env,C,fl,env',C',S,hf,q⟩:=aO
 unfold fUnp at hf
 split at hf
 ·rename_i r e1 C1 h1
  split at hf
  ·rename_i d hd
   split at hf
   ·rename_i e2 h2
    cases hf
    refine ⟨Z,Θ,env,C,r,e1,C',S,h1,fun v H1 k f R=>?_⟩
    obtain ⟨S1,r1⟩:=R.oX hd
    exact L Z Θ e1 C' σ H1 v d env' S1 r1 h2 D.nx fun σ' S' o=>q Θ σ' H1 ⟨xG.refl _ _,iM k,fun a m=>.inl (f.own.subset (o a m)),S'⟩
   ·cases hf
  ·cases hf
 ·cases hf
end
inductive jf (K:PySem.W.Frag) (E H:Hp) (Θ:List Addr):List Addr→List Vl→List V→Prop
 | nil:jf K E H Θ [] [] []
 | cons {as:List Addr} {x:Vl} {v:V} {xs:List Vl} {vs:List V}:qN K E Θ x v→jf K E H Θ as xs vs→jf K E H Θ as (x::xs) (v::vs)
 | own {as:List Addr} {a:Addr} {d:PyData} {xs:List Vl} {vs:List V}:mV E H a d→jf K E H Θ as xs vs→jf K E H Θ (as++[a]) (.ow d::xs) (.ref a::vs)
theorem jf.same {K:PySem.W.Frag} {E E' H:Hp} {Θ as:List Addr} {xs:List Vl} {vs:List V} (s:aP E E') (h:jf K E H Θ as xs vs):jf K E' H Θ as xs vs:=by
 induction h with
 | nil=>exact .nil
 | cons a _ ih=>exact .cons (a.same s) ih
 | own r _ ih=>exact .own (r.same s fun _ h=>h) ih
theorem jf.heap {K:PySem.W.Frag} {E H H':Hp} {Θ as:List Addr} {xs:List Vl} {vs:List V} (s:aP H H') (h:jf K E H Θ as xs vs):jf K E H' Θ as xs vs:=by
 induction h with
 | nil=>exact .nil
 | cons a _ ih=>exact .cons a ih
 | own r _ ih=>exact .own (r.same (aP.refl _) fun o ho=>s _ _ ho) ih
inductive Ua (K:PySem.W.Frag) (f:FA) (σ:St) (H:Hp) (Q:List V→Hp→Prop):Prop
 | mk (Z Θ:List Addr) (env:En) (C:Ce) (xs:List Vl) (env':En) (C':Ce) (S:Sm K Z Θ env C σ H) (hf:f env C=some (xs,env',C')) (q:∀vs as H',bA Θ H H'→Fz env env'→(∀a∈as,H a=none)→Sm K (as++Z) Θ env' C' σ H'→jf K (er (aK (as++Z) Θ env' σ) H') H' Θ as xs vs→Q vs H'):Ua K f σ H Q
noncomputable def oCons (f:FE) (g:FA):FA:=fun env C=>match f env C with
 | some (r,e1,C1)=>match g e1 C1 with
  | some (xs,e2,C2)=>some (r::xs,e2,C2)
  | none=>none
 | none=>none
section
variable {K:PySem.W.Frag} {Z Z' Θ:List Addr} {env:En} {C:Ce} {σ:St} {H:Hp}
theorem bz {a:Addr}:a∈aK Z Θ env σ ↔ a∈Z∨a∈Θ∨a∈aV env σ:=by rw [List.mem_append,List.mem_append]
theorem Sm.perm (S:Sm K Z Θ env C σ H) (p:Z.Perm Z'):Sm K Z' Θ env C σ H:=by
 have e:er (aK Z Θ env σ) H=er (aK Z' Θ env σ) H:=iC fun a=>by rw [bz,bz,p.mem_iff]
 refine ⟨S.len,(List.Perm.append_right _ p).nodup S.nd,fun a m=>S.dom a (p.mem_iff.mpr m),fun i x h=>?_,S.cell⟩
 rw [←e]
 exact S.slot i x h
end
section
variable {X:Cx} {e:Expr} {es:List Expr} {pos:Pos}
theorem lq:PA X [] (Ua X.K aNil):=gq.weak fun σ H Q aO=>by
 obtain ⟨Z,Θ,env,C,xs,env',C',S,hf,q⟩:=aO
 cases hf
 exact q [] [] H (bA.refl _ _) (Fz.refl _) (fun _ m=>nomatch m) S .nil
theorem cA {f:FE} {g:FA} (h:PE X e (tE X.K f)) (hr:PA X es (Ua X.K g)) (hs:starEach (e::es) X.env=(false,eval e X.env)::starEach es X.env:=by rfl):PA X (e::es) (Ua X.K (oCons f g)):=(cU h hr hs).weak fun σ H Q aO=>by
 obtain ⟨Z,Θ,env,C,xs,env',C',S,hf,q⟩:=aO
 unfold oCons at hf
 split at hf
 ·rename_i r e1 C1 h1
  split at hf
  ·rename_i ys e2 C2 h2
   cases hf
   refine ⟨Z,Θ,env,C,r,e1,C1,S,h1,fun v H1 k1 f1 R1=>?_⟩
   have plain:∀{x:Vl},Sm X.K Z Θ e1 C1 σ H1→qN X.K (er (aK Z Θ e1 σ) H1) Θ x v→r=x→Ua X.K g σ H1 fun xs H2=>Q (v::xs) H2:=fun {x} S1 a1 ex=>by
    subst ex
    refine ⟨Z,Θ,e1,C1,ys,env',C',S1,h2,fun vs as H2 k2 f2 n2 S2 a2=>q _ as H2 (k1.trans k2) (f1.trans f2) (fun a m=>k1.none (n2 a m)) S2 (.cons (a1.same (fj k2 S1.H9 fun a m=>?_)) a2)⟩
    rcases List.mem_append.mp m with m | m
    ·rcases List.mem_append.mp m with m | m
     ·exact .inr (n2 a m)
     ·exact .inl (List.mem_append_left _ m)
    ·exact .inl (f2.sub (Z:=Z) a (List.mem_append_right _ m))
   cases r with
   | im d=>exact plain (x:=.im d) R1.1 R1.2 rfl
   | ce n=>exact plain (x:=.ce n) R1.1 R1.2 rfl
   | sc ns=>exact plain (x:=.sc ns) R1.1 R1.2 rfl
   | ow d=>
    obtain ⟨a,rfl,hn,S1,r1⟩:=R1
    refine ⟨a::Z,Θ,e1,C1,ys,env',C',S1,h2,fun vs as H2 k2 f2 n2 S2 a2=>?_⟩
    have ez:as++a::Z=(as++[a])++Z:=by rw [List.append_assoc]; rfl
    rw [ez] at S2 a2
    have na:a∉Θ:=fun m=>(S1.jr.2.2.2 a List.mem_cons_self) m
    refine q _ (as++[a]) H2 (k1.trans k2) (f1.trans f2) (fun b m=>?_) S2 (.own (r1.same (fj k2 S1.H9 fun b m=>?_) fun o ho=>k2.keep _ _ ho na) a2)
    ·rcases List.mem_append.mp m with m | m
     ·exact k1.none (n2 b m)
     ·rw [List.mem_singleton.mp m]; exact hn
    ·rcases List.mem_append.mp m with m | m
     ·rcases List.mem_append.mp m with m | m
      ·rcases List.mem_append.mp m with m | m
       ·exact .inr (n2 b m)
       ·rw [List.mem_singleton.mp m]; exact .inl List.mem_cons_self
      ·exact .inl (List.mem_append_left _ (List.mem_cons_of_mem _ m))
     ·exact .inl (f2.sub (Z:=a::Z) b (List.mem_append_right _ m))
  ·cases hf
 ·cases hf
end
noncomputable def setM {α:Type}:List Nat→List α→List (Option α)→List (Option α)
 | i::is,x::xs,e=>setM is xs (e.set i (some x))
 | _,_,e=>e
theorem z7 {K:PySem.W.Frag} {Z Θ:List Addr} {C:Ce} {H:Hp} {E:Hp}:∀{as:List Addr} {xs:List Vl} {vs:List V},jf K E H Θ as xs vs→∀{is:List Nat} {env:En} {σ:St},is.length=xs.length→aP E (er (aK (as++Z) Θ env σ) H)→Sm K (as++Z) Θ env C σ H→
  Sm K Z Θ (setM is xs env) C (setM is vs σ) H∧∀a∈aV (setM is xs env) (setM is vs σ),a∈aV env σ∨a∈as:=by
 intro as xs vs h
 induction h with
 | nil=>
  intro is env σ hl _ S
  cases is with
  | nil=>exact ⟨S,fun a m=>.inl m⟩
  | cons _ _=>cases hl
 | @cons as x v xs vs a1 _ ih=>
  intro is env σ hl sm S
  cases is with
  | nil=>cases hl
  | cons i is=>
   have hx:∀d,x≠.ow d:=fun d z=>by subst z; exact a1
   have sl:Km K (er (aK (as++Z) Θ env σ) H) H Θ x v:=by
    have a2:=a1.same sm
    cases x with
    | im d=>exact a2
    | ow d=>exact absurd rfl (hx d)
    | ce n=>exact a2
    | sc ns=>exact a2
   have S1:Sm K (as++Z) Θ (env.set i (some x)) C (σ.set i (some v)) H:=S.Gn hx sl
   have o1:∀b∈aV (env.set i (some x)) (σ.set i (some v)),b∈aV env σ:=fun b m=>by
    rcases jy m with m | ⟨⟨d,z⟩,_⟩
    ·exact m
    ·exact absurd z (hx d)
   obtain ⟨S2,o2⟩:=ih (is:=is) (by simpa using hl) (sm.trans (N5 o1)) S1
   refine ⟨S2,fun b m=>?_⟩
   rcases o2 b m with m | m
   ·exact .inl (o1 b m)
   ·exact .inr m
 | @own as a d xs vs r _ ih=>
  intro is env σ hl sm S
  cases is with
  | nil=>cases hl
  | cons i is=>
   have pm:((as++[a])++Z).Perm (a::(as++Z)):=by
    rw [List.append_assoc]
    exact List.perm_middle
   have S0:=S.perm pm
   have ee:er (aK ((as++[a])++Z) Θ env σ) H=er (aK (a::(as++Z)) Θ env σ) H:=iC fun b=>by rw [bz,bz,pm.mem_iff]
   rw [ee] at sm
   have S1:Sm K (as++Z) Θ (env.set i (some (.ow d))) C (σ.set i (some (.ref a))) H:=S0.Yl (r.same sm fun _ h=>h)
   have o1:∀b∈aV (env.set i (some (.ow d))) (σ.set i (some (.ref a))),b∈aV env σ∨b=a:=fun b m=>by
    rcases jy m with m | ⟨_,z⟩
    ·exact .inl m
    ·cases z; exact .inr rfl
   obtain ⟨S2,o2⟩:=ih (is:=is) (by simpa using hl) (sm.trans (jH fun b m=>by
    rcases List.mem_append.mp m with m | m
    ·exact List.mem_append_left _ (List.mem_cons_of_mem _ m)
    ·rcases List.mem_append.mp m with m | m
     ·exact List.mem_append_right _ (List.mem_append_left _ m)
     ·rcases o1 b m with m | rfl
      ·exact List.mem_append_right _ (List.mem_append_right _ m)
      ·exact List.mem_append_left _ List.mem_cons_self)) S1
   refine ⟨S2,fun b m=>?_⟩
   rcases o2 b m with m | m
   ·rcases o1 b m with m | rfl
    ·exact .inl m
    ·exact .inr (List.mem_append_right _ (List.mem_singleton.mpr rfl))
   ·exact .inr (List.mem_append_left _ m)
theorem uC {K:PySem.W.Frag} {E H:Hp} {Θ as:List Addr} {xs:List Vl} {vs:List V} (h:jf K E H Θ as xs vs):vs.length=xs.length:=by
 induction h with
 | nil=>rfl
 | cons _ _ ih=>rw [List.length_cons,List.length_cons,ih]
 | own _ _ ih=>rw [List.length_cons,List.length_cons,ih]
noncomputable def fPar (is:List Nat) (g:FA):FS:=fun env C=>match g env C with
 | some (xs,e1,C1)=>if is.length=xs.length∧xs.length≤LIM then some (.nx,setM is xs e1,C1) else none
 | none=>none
noncomputable def gsM (is:List Nat):Lq:=match is with
 | []=>Uz
 | i::r=>Lr (uM i) (gsM r)
theorem Ir:∀{is:List Nat} {vs:List V} {σ:St} {H:Hp} {Q:St→Hp→Prop},is.length=vs.length→Q (setM is vs σ) H→gsM is vs σ H Q
 | [],[],σ,H,Q,_,q=>⟨rfl,q⟩
 | i::is,v::vs,σ,H,Q,h,q=>⟨v,vs,rfl,Ir (by simpa using h) q⟩
 | [],_::_,_,_,_,h,_=>by cases h
 | _::_,[],_,_,_,h,_=>by cases h
section
variable {X:Cx} {pos:Pos}
theorem sH {i j:Nat} {x y:Str} {a b:Expr} {g:FA} {px py pt:Pos} {kt k2 Et} (hc:X.calm=true) (hN:X.N.Nodup) (hi:X.N[i]?=some x) (hj:X.N[j]?=some y) (hij:i≠j)
  (hx:X.env.scope.names.lookup x=some .local) (hy:X.env.scope.names.lookup y=some .local) (ha:PA X [a,b] (Ua X.K g))
  (hw:swappedStores [.Tuple [.Name x px,.Name y py] kt pt] (.Tuple [a,b] k2 Et) X.env=pure (some [x,y]))
  (hs:swapsWithSole [.Tuple [.Name x px,.Name y py] kt pt] (.Tuple [a,b] k2 Et) pos.line X.env=pure false:=by rfl):
  PS X (.Assign [.Tuple [.Name x px,.Name y py] kt pt] (.Tuple [a,b] k2 Et) pos) (tS X.K (fPar [i,j] g)):=(UL hc hN hi hj hij hx hy ha hw hs).weak fun D σ H aO=>by
 obtain ⟨Z,Θ,env,C,fl,env',C',S,hf,q⟩:=aO
 unfold fPar at hf
 split at hf
 ·rename_i xs e1 C1 h1
  split at hf
  ·rename_i hl
   cases hf
   refine ⟨Z,Θ,env,C,xs,e1,C',S,h1,fun vs as H1 k1 f1 n1 S1 a1=>?_⟩
   have l2:=uC a1
   obtain ⟨S2,o2⟩:=z7 a1 hl.1 (aP.refl _) S1
   have e2:∃v w,vs=[v,w]:=by
    have:vs.length=2:=by rw [l2,←hl.1]; rfl
    match vs,this with
    | [v,w],_=>exact ⟨v,w,rfl⟩
   obtain ⟨v,w,rfl⟩:=e2
   refine ⟨v,w,rfl,q Θ _ H1 ⟨xG.refl _ _,iM k1,fun b m=>?_,S2⟩⟩
   rcases o2 b m with m | m
   ·exact .inl (f1.own.subset m)
   ·exact .inr (n1 b m)
  ·cases hf
 ·cases hf
theorem Iu {tg:Expr} {es:List Expr} {g:FA} {is:List Nat} {n:Nat} {x1 pt} (ha:PA X es (Ua X.K g)) (hg:PG X tg (UG X.K n (gsM is))) (hn:n=is.length:=by rfl)
  (hs:swapsWithSole [tg] (.Tuple es x1 pt) pos.line X.env=pure false:=by rfl) (hw:swappedStores [tg] (.Tuple es x1 pt) X.env=pure none:=by rfl) (h1:(assignEach [tg] X.env).map (·.2)=[assign tg X.env]:=by rfl):
  PS X (.Assign [tg] (.Tuple es x1 pt) pos) (tS X.K (fPar is g)):=(Es (EY ha) hg hs hw h1).weak fun D σ H aO=>by
 obtain ⟨Z,Θ,env,C,fl,env',C',S,hf,q⟩:=aO
 unfold fPar at hf
 split at hf
 ·rename_i xs e1 C1 h1
  split at hf
  ·rename_i hl
   cases hf
   refine ⟨Z,Θ,env,C,xs,e1,C',S,h1,fun vs as H1 k1 f1 n1 S1 a1=>⟨by rw [uC a1]; exact d7 hl.2,fun p hp=>?_⟩⟩
   have l2:=uC a1
   refine ⟨p,vs,rfl,ig.of aH,by rw [l2,hn,hl.1],Ir (by rw [hl.1,l2]) ?_⟩
   have kp:bA Θ H1 (upd H1 p (.tup vs)):=bA.upd hp
   have S1':=S1.vq (aP.upd (o:=.tup vs) hp)
   have a1':jf X.K (er (aK (as++Z) Θ e1 σ) H1) (upd H1 p (.tup vs)) Θ as xs vs:=a1.heap fun b o ho=>by rw [aJ (aZ ho hp)]; exact ho
   obtain ⟨S2,o2⟩:=z7 a1' hl.1 (fj kp S1.H9 fun b m=>.inl m) S1'
   refine q Θ _ _ ⟨xG.refl _ _,iM (k1.trans kp),fun b m=>?_,S2⟩
   rcases o2 b m with m | m
   ·exact .inl (f1.own.subset m)
   ·exact .inr (n1 b m)
  ·cases hf
 ·cases hf
end
end L2
namespace L2
open PySem PySem.Spec PyProof.Rows PySem.W
theorem vK:∀{env:En} {σ:St} {i:Nat} {d d':PyData},env[i]?=some (some (.ow d))→aV (env.set i (some (.ow d'))) σ=aV env σ
 | [],σ,i,d,d',h=>by simp at h
 | x::e,[],i,d,d',h=>by cases i <;> rfl
 | x::e,v::s,0,d,d',h=>by
  simp at h
  subst h
  show own1 (some (.ow d')) v++aV e s=own1 (some (.ow d)) v++aV e s
  rcases v with _ | v
  ·rfl
  ·cases v <;> rfl
 | x::e,v::s,i + 1,d,d',h=>by
  show own1 x v++aV (e.set i (some (.ow d'))) s=own1 x v++aV e s
  rw [vK (by simpa using h)]
section
variable {K:PySem.W.Frag} {Z Θ:List Addr} {env:En} {C:Ce} {σ:St} {H:Hp} {a:Addr} {i:Nat} {d d':PyData} {o:HO}
theorem z8 {P:List Addr} (h:a∈P):er P (upd H a o)=er P H:=by
 funext b
 unfold er
 by_cases hb:b=a
 ·subst hb; rw [if_pos h,if_pos h]
 ·rw [aJ hb]
theorem Sm.write (S:Sm K Z Θ env C σ H) (e1:env[i]?=some (some (.ow d))) (e2:σ[i]?=some (some (.ref a))) (r:mV (er (aK Z Θ env σ) H) (upd H a o) a d'):iW K Z Θ env σ H Θ (env.set i (some (.ow d'))) C σ (upd H a o):=by
 have m:a∈aV env σ:=b8.mpr ⟨i,d,e1,e2⟩
 have no:=S.eU m
 have eo:aV (env.set i (some (.ow d'))) σ=aV env σ:=vK e1
 have mp:a∈aK Z Θ env σ:=List.mem_append_right _ (List.mem_append_right _ m)
 have ep:aK Z Θ (env.set i (some (.ow d'))) σ=aK Z Θ env σ:=by show _++(_++_)=_; rw [eo]
 refine ⟨xG.refl _ _,⟨fun b u hb n=>?_,fun b hb=>?_⟩,fun b mb=>.inl (by rw [eo] at mb; exact mb),⟨by rw [List.length_set]; exact S.len,by rw [ep]; exact S.nd,fun b mb=>?_,fun j y ej=>?_,⟨S.cell.len,fun n b ns h1 h2=>?_⟩⟩⟩
 ·rw [aJ (fun z=>n (List.mem_append_right _ (by rw [z]; exact m)))]
  exact hb
 ·by_cases z:b=a
  ·subst z; rw [aH]; exact Option.some_ne_none _
  ·rw [aJ z]; exact hb
 ·rw [aJ (fun z=>no.1 (by rw [←z]; exact mb))]
  exact S.dom b mb
 ·rw [ep,z8 mp]
  rcases get_set ej with ⟨rfl,ex,hl⟩ | ⟨n,ej⟩
  ·cases ex
   exact ⟨_,e2,a,rfl,r⟩
  ·obtain ⟨v,e3,r3⟩:=S.slot j y ej
   refine ⟨v,e3,r3.same (aP.refl _) fun d2 b ex ev u hu=>?_⟩
   subst ex ev
   rw [aJ]
   ·exact hu
   ·intro z
    subst z
    exact n (qH S.jr.2.2.1 ej e3 e1 e2)
 ·rw [aJ (fun z=>no.2 (by rw [←z]; exact List.mem_of_getElem? h1))]
  exact S.cell.at_ n b ns h1 h2
end
noncomputable def jz:Option (Option Vl)→Bool
 | some (some (.ow (.list _)))=>true
 | _=>false
noncomputable def mj (i:Nat) (f:FE):FS:=fun env C=>if jz env[i]? then match f env C with
  | some (r,e1,C1)=>match still r,e1[i]? with
   | .im d,some (some (.ow (.list ds)))=>if ds.length < LIM then some (.nx,e1.set i (some (.ow (.list (ds++[d])))),C1) else none
   | _,_=>none
  | none=>none
 else none
theorem CQ {x:Option (Option Vl)} (h:jz x=true):∃ds,x=some (some (.ow (.list ds))):=by
 unfold jz at h
 split at h
 ·exact ⟨_,rfl⟩
 ·cases h
section
variable {X:Cx} {pos:Pos}
theorem sI {i:Nat} {o e:Expr} {f:FE} {apos cpos:Pos} (ho:PE X o (rJ i)) (he:PE X e (tE X.K f))
  (hs0:swapsWith (.Call (.Attribute o "append" apos) [e] [] cpos) none pos.line X.env=pure false:=by rfl)
  (hbase:attributeBase o "append" X.env (eval o X.env)=eval o X.env:=by rfl)
  (hfew:((backTo cpos (starEach [e] X.env)).all (fun x=>!x.1)&&(backToKw cpos (keywordEach [] X.env)).all (fun x=>x.1.isSome)
   &&decide (([e]:List Expr).length + ([]:List Keyword).length + (if ([]:List Keyword).isEmpty then 0 else 1) < 30))=true:=by rfl)
  (hline:(apos.endLine==cpos.line)=true:=by rfl) (hs:starEach [e] X.env=(false,eval e X.env)::starEach [] X.env:=by rfl) (hplain:(backTo cpos (starEach [] X.env)).any (·.1)=false:=by rfl):
  PS X (.Expr (.Call (.Attribute o "append" apos) [e] [] cpos) pos) (tS X.K (mj i f)):=
 (zc (Bv PySem.F.plainAttrs_list PySem.F.slot_list_append PySem.F.type_list_append (Mq.r rN) ho (cU he gq hs) hbase hfew hline hs hplain) hs0).weak fun D σ H aO=>by
  obtain ⟨Z,Θ,env,C,fl,env',C',S,hf,q⟩:=aO
  unfold mj at hf
  split at hf
  ·rename_i h0
   obtain ⟨ds0,h0⟩:=CQ h0
   obtain ⟨v0,Lf,a,rfl,WY,ha0,r0⟩:=S.slot i _ h0
   split at hf
   ·rename_i r e1 C1 h1
    split at hf
    ·rename_i d ds hd hi
     split at hf
     ·rename_i hl
      cases hf
      refine ⟨_,Lf,.inl ⟨rfl,WY,cM.of ha0⟩,Z,Θ,env,C,r,e1,C',S,h1,fun v H1 k f R=>?_⟩
      obtain ⟨S1,r1⟩:=R.oX hd
      obtain ⟨v1,ev1,a1,ea1,vs,ha1,r2⟩:=S1.slot i _ hi
      subst ea1
      rw [Lf] at ev1
      cases ev1
      refine ⟨a,vs,v,rfl,rfl,ha1,by rw [bB r2,sizeLine_eq]; unfold LIM at hl; omega,?_⟩
      have w:iW X.K Z Θ e1 σ H1 Θ (e1.set i (some (.ow (.list (ds++[d]))))) C' σ (upd H1 a (.lst (vs++[v]))):=S1.write hi Lf ⟨_,aH,kY r2 ⟨v,[],rfl,r1,rfl⟩⟩
      exact q Θ σ _ ((iW.Ep k f S1).trans w)
     ·cases hf
    ·cases hf
   ·cases hf
  ·cases hf
noncomputable def oN {κ:Type} [DecidableEq κ] (f:PyData→Option κ) (k:κ) (dk d:PyData) (kvs:List (PyData×PyData)):List (PyData×PyData):=
 if (kvs.any fun p=>decide (f p.1=some k))=true then kvs.map (fun p=>if f p.1=some k then (p.1,d) else p) else kvs++[(dk,d)]
noncomputable def putD (kvs:List (PyData×PyData)) (dk d:PyData):Option (List (PyData×PyData)):=match cN dk with
 | some k=>if (b7 cN kvs).isSome then some (oN cN k dk d kvs) else none
 | none=>match jx dk with
  | some ks=>if (b7 jx kvs).isSome then some (oN jx ks dk d kvs) else none
  | none=>none
theorem Iv {κ:Type} [DecidableEq κ] {f:PyData→Option κ} {k:κ} {E:Hp}:∀{kvs:List (PyData×PyData)} {ks:List κ} {vs:List V},b7 f kvs=some ks→pL E kvs vs→(kvs.any fun p=>decide (f p.1=some k))=((ks.zip vs).any fun kv=>decide (kv.1=k))
 | [],ks,vs,h,r=>by
  cases h
  cases (show vs=[] from r)
  rfl
 | (p,d)::kvs,ks,vs,h,r=>by
  unfold b7 at h
  split at h
  ·rename_i k' t h1 h2
   cases h
   obtain ⟨v,w,rfl,q,s⟩:=r
   show (decide (f p=some k) || _)=(decide (k'=k) || _)
   rw [Iv h2 s,h1]
   congr 1
   rw [Bool.eq_iff_iff,decide_eq_true_iff,decide_eq_true_iff]
   exact ⟨fun e=>Option.some.inj e,fun e=>by rw [e]⟩
  ·cases h
theorem Iw {κ:Type} [DecidableEq κ] {f:PyData→Option κ} {k:κ} {E:Hp} {d:PyData} {v:V} (hv:RZ E d v):∀{kvs:List (PyData×PyData)} {ks:List κ} {vs:List V},b7 f kvs=some ks→pL E kvs vs→
  ∃vs',b7 f (kvs.map fun p=>if f p.1=some k then (p.1,d) else p)=some ks∧pL E (kvs.map fun p=>if f p.1=some k then (p.1,d) else p) vs'∧ks.zip vs'=(ks.zip vs).map fun kv=>if kv.1=k then (kv.1,v) else kv
 | [],ks,vs,h,r=>by
  cases h
  exact ⟨[],rfl,rfl,rfl⟩
 | (p,e)::kvs,ks,vs,h,r=>by
  unfold b7 at h
  split at h
  ·rename_i k' t h1 h2
   cases h
   obtain ⟨u,w,rfl,q,s⟩:=r
   obtain ⟨vs',g1,g2,g3⟩:=Iw (k:=k) hv h2 s
   have h1':f p=some k':=h1
   by_cases ek:k'=k
   ·subst ek
    refine ⟨v::vs',?_,?_,?_⟩
    ·rw [List.map_cons]
     show b7 f ((if f p=some k' then (p,d) else (p,e))::_)=_
     rw [if_pos h1']
     unfold b7
     rw [g1]
     simp only [h1']
    ·rw [List.map_cons]
     show pL E ((if f p=some k' then (p,d) else (p,e))::_) _
     rw [if_pos h1']
     exact ⟨v,vs',rfl,hv,g2⟩
    ·show (k',v)::t.zip vs'=(if k'=k' then (k',v) else (k',u))::_
     rw [if_pos rfl,g3]
     rfl
   ·have ne:¬f p=some k:=fun z=>ek (Option.some.inj (h1'.symm.trans z))
    refine ⟨u::vs',?_,?_,?_⟩
    ·rw [List.map_cons]
     show b7 f ((if f p=some k then (p,d) else (p,e))::_)=_
     rw [if_neg ne]
     unfold b7
     rw [g1]
     simp only [h1']
    ·rw [List.map_cons]
     show pL E ((if f p=some k then (p,d) else (p,e))::_) _
     rw [if_neg ne]
     exact ⟨u,vs',rfl,q,g2⟩
    ·show (k',u)::t.zip vs'=(if k'=k then (k',v) else (k',u))::_
     rw [if_neg ek,g3]
     rfl
  ·cases h
theorem CT {κ:Type} {f:PyData→Option κ} {k:κ} {E:Hp} {dk d:PyData} {v:V} (hk:f dk=some k) (hv:RZ E d v):∀{kvs:List (PyData×PyData)} {ks:List κ} {vs:List V},b7 f kvs=some ks→pL E kvs vs→
  b7 f (kvs++[(dk,d)])=some (ks++[k])∧pL E (kvs++[(dk,d)]) (vs++[v])∧(ks++[k]).zip (vs++[v])=ks.zip vs++[(k,v)]
 | [],ks,vs,h,r=>by
  cases h
  cases (show vs=[] from r)
  refine ⟨?_,⟨v,[],rfl,hv,rfl⟩,rfl⟩
  show b7 f [(dk,d)]=_
  unfold b7 b7
  simp only [hk]
  rfl
 | (p,e)::kvs,ks,vs,h,r=>by
  unfold b7 at h
  split at h
  ·rename_i k' t h1 h2
   cases h
   obtain ⟨u,w,rfl,q,s⟩:=r
   obtain ⟨g1,g2,g3⟩:=CT hk hv h2 s
   refine ⟨?_,⟨u,_,rfl,q,g2⟩,?_⟩
   ·show b7 f ((p,e)::(kvs++[(dk,d)]))=_
    unfold b7
    rw [g1]
    simp only [show f p=some k' from h1]
    rfl
   ·show (k',u)::(t++[k]).zip (w++[v])=_
    rw [g3]
    rfl
  ·cases h
theorem uD {κ:Type} [DecidableEq κ] {f:PyData→Option κ} {k:κ} {E:Hp} {dk d:PyData} {v:V} (hk:f dk=some k) (hv:RZ E d v) {kvs:List (PyData×PyData)} {ks:List κ} {vs:List V} (h:b7 f kvs=some ks) (r:pL E kvs vs):
  ∃ks' vs',b7 f (oN f k dk d kvs)=some ks'∧pL E (oN f k dk d kvs) vs'∧ks'.zip vs'=putK (ks.zip vs) k v:=by
 unfold oN putK
 rw [Iv h r]
 split
 ·obtain ⟨vs',g1,g2,g3⟩:=Iw (k:=k) hv h r
  exact ⟨ks,vs',g1,g2,g3⟩
 ·obtain ⟨g1,g2,g3⟩:=CT hk hv h r
  exact ⟨_,_,g1,g2,g3⟩
theorem set_dict (hu:X.A.units + 1 < cLine):zf X (fun o i v H Q=>∃a H',o=.ref a∧wZ H a i v H'∧Q H'):=by
 intro pins s σ H o i v ov iv u Q I ro ri rv h
 obtain ⟨a,H',rfl,g,q⟩:=h
 cases ro
 exact yo hu I g ri rv fun s' I'=>⟨H',I',q⟩
theorem Kq (hu:X.A.units + 1 < cLine):zf X (fun o i v H Q=>∃(a b:Addr) (ks:List Key),o=.ref a∧H a=some (.dK [])∧i=.ref b∧H b=some (.tup (ks.map kV))∧Q (upd H a (.dT [(ks,v)]))):=by
 intro pins s σ H o i v ov iv u Q I ro ri rv h
 obtain ⟨a,b,ks,rfl,ha,rfl,hb,q⟩:=h
 cases ro
 have hb':(upd H a (.dT [])) b=some (.tup (ks.map kV)):=by rw [aJ (Lh hb ha (fun z=>nomatch z))]; exact hb
 refine yo hu (I.Zo ha) (wZ.t (kvs:=[]) (k:=ks) (v:=v) aH hb' (by rw [sizeLine_eq]; decide)) ri rv fun s' I'=>⟨_,I',?_⟩
 rw [Hg]
 exact q
theorem zf.or {t t':QF} (h:zf X t) (h':zf X t'):zf X (fun o i v H Q=>t o i v H Q∨t' o i v H Q):=by
 intro pins s σ H o i v ov iv u Q I ro ri rv q
 rcases q with q | q
 ·exact h pins s σ H o i v ov iv u Q I ro ri rv q
 ·exact h' pins s σ H o i v ov iv u Q I ro ri rv q
theorem RG (hu:X.A.units + 1 < cLine):zf X (fun o i v H Q=>(Tv o i v H Q∨∃a H',o=.ref a∧wZ H a i v H'∧Q H')∨∃(a b:Addr) (ks:List Key),o=.ref a∧H a=some (.dK [])∧i=.ref b∧H b=some (.tup (ks.map kV))∧Q (upd H a (.dT [(ks,v)]))):=
 (set_list.or (set_dict hu)).or (Kq hu)
noncomputable def tU:Option (Option Vl)→Bool
 | some (some _)=>true
 | _=>false
theorem RJ {x:Option (Option Vl)} (h:tU x=true):∃y,x=some (some y):=by
 unfold tU at h
 split at h
 ·exact ⟨_,rfl⟩
 ·cases h
noncomputable def vL (i:Nat) (fk:FB) (fe:FE):FS:=fun env C=>match fe env C with
 | some (r,e1,C1)=>match still r with
  | .im d=>match fk e1 C1 with
   | some (dk,e2,C2)=>if tU e1[i]? then match e2[i]? with
    | some (some (.ow (.list ds)))=>match dk with
     | .int z=>match Fg ds.length z with
      | some j=>some (.nx,e2.set i (some (.ow (.list (ds.set j d)))),C2)
      | none=>none
     | _=>none
    | some (some (.ow (.dict kvs)))=>match putD kvs dk d with
     | some kvs'=>if kvs.length < LIM then some (.nx,e2.set i (some (.ow (.dict kvs'))),C2) else none
     | none=>none
    | some (some (.ce n))=>match dk with
     | .int z=>match d with
      | .int y=>match C2[n]? with
       | some ns=>match Fg ns.length z with
        | some j=>some (.nx,e2,C2.set n (ns.set j y))
        | none=>none
       | none=>none
      | _=>none
     | _=>none
    | _=>none
    else none
   | none=>none
  | _=>none
 | none=>none
theorem z9 {i:Nat} {o k e:Expr} {fk:FB} {fe:FE} {p:Pos} (hu:X.A.units + 1 < cLine) (ho:PE X o (rJ i)) (hk:PE X k (lZ X.K fk)) (he:PE X e (tE X.K fe))
  (ha:∀v,assign (.Subscript o k p) X.env v=(do
   let ov ←holding [v] (eval o X.env)
   let iv ←holding [v,ov] (eval k X.env)
   standAt p
   holding [v,ov,iv] (setItem ov iv v)
   release [v,ov,iv] []):=by intro _; rfl)
  (hs:swapsWithSole [.Subscript o k p] e pos.line X.env=pure false:=by rfl) (hw:swappedStores [.Subscript o k p] e X.env=pure none:=by rfl) (h1:(assignEach [.Subscript o k p] X.env).map (·.2)=[assign (.Subscript o k p) X.env]:=by rfl):
  PS X (.Assign [.Subscript o k p] e pos) (tS X.K (vL i fk fe)):=(Es he (UJ ho hk (RG hu) ha) hs hw h1).weak fun D σ H aO=>by
 obtain ⟨Z,Θ,env,C,fl,env',C',S,hf,q⟩:=aO
 unfold vL at hf
 split at hf
 ·rename_i r e1 C1 h1
  split at hf
  ·rename_i d hd
   split at hf
   case h_2=>cases hf
   rename_i dk e2 C2 h2
   refine ⟨Z,Θ,env,C,r,e1,C1,S,h1,fun v H1 k1 f1 R1=>?_⟩
   obtain ⟨S1,r1⟩:=R1.oX hd
   split at hf
   ·rename_i h3
    obtain ⟨y3,h3⟩:=RJ h3
    obtain ⟨u,eu,_⟩:=S1.slot i _ h3
    refine ⟨u,eu,Z,Θ,e1,C1,dk,e2,C2,S1,h2,fun w H2 k2 f2 S2 b2=>?_⟩
    have r2:RZ (er (aK Z Θ e2 σ) H2) d v:=r1.same (Nm S1 k2 f2)
    have kk:=k1.trans k2
    have ff:=f1.trans f2
    split at hf
    ·rename_i ds hi
     split at hf
     case h_2=>cases hf
     rename_i z
     split at hf
     ·rename_i j hj
      cases hf
      obtain ⟨u',Ub,a,ea,vs,ha,r3⟩:=S2.slot i _ hi
      subst ea
      rw [eu] at Ub
      cases Ub
      cases b2.int
      refine .inl (.inl ⟨a,vs,z,j,rfl,rfl,ha,by rw [bB r3]; exact hj,?_⟩)
      have wr:iW X.K Z Θ e2 σ H2 Θ (e2.set i (some (.ow (.list (ds.set j d))))) C' σ (upd H2 a (.lst (vs.set j v))):=S2.write hi eu ⟨_,aH,HY r2 j r3⟩
      exact q Θ σ _ ((iW.Ep kk ff S2).trans wr)
     ·cases hf
    ·rename_i kvs hi
     split at hf
     ·rename_i kvs' hp
      split at hf
      ·rename_i hl
       cases hf
       obtain ⟨u',Ub,a,ea,vs,da,r3⟩:=S2.slot i _ hi
       subst ea
       rw [eu] at Ub
       cases Ub
       unfold putD at hp
       split at hp
       ·rename_i k hk
        split at hp
        ·rename_i hs'
         cases hp
         have wk:w=kV k:=by
          cases dk <;> first | (cases hk; exact b2) | cases hk
         rcases da with ⟨ks,g1,ha⟩ | ⟨ks,⟨ne,g2⟩,ha⟩
         ·obtain ⟨ks',vs',g3,g4,g5⟩:=uD hk r2 g1 r3
          have hl':(ks.zip vs).length < sizeLine:=by
           rw [List.length_zip,sizeLine_eq,gM g1]
           unfold LIM at hl
           omega
          have dp:=wZ.k (k:=k) (v:=v) ha hl'
          rw [←wk] at dp
          refine .inl (.inr ⟨a,_,rfl,dp,?_⟩)
          have wr:iW X.K Z Θ e2 σ H2 Θ (e2.set i (some (.ow (.dict (oN cN k dk d kvs))))) C' σ (upd H2 a (.dK (putK (ks.zip vs) k v))):=S2.write hi eu ⟨vs',.inl ⟨ks',g3,by rw [g5]; exact aH⟩,g4⟩
          exact q Θ σ _ ((iW.Ep kk ff S2).trans wr)
         ·obtain ⟨aaz,g1⟩:=Option.isSome_iff_exists.mp hs'
          exact absurd (jd g1 g2) ne
        ·cases hp
       ·split at hp
        ·rename_i V3 hks
         split at hp
         ·rename_i hs'
          cases hp
          obtain ⟨b,hb,rfl⟩:∃b,H2 b=some (.tup (V3.map kV))∧w=.ref b:=by
           cases dk <;> first | cases hks | skip
           obtain ⟨b,ws,rfl,hb,rr⟩:=b2.tup
           rw [iU hks rr] at hb
           exact ⟨b,hb,rfl⟩
          have ne':∀kvs,oN jx V3 dk d kvs≠[]:=fun kvs z=>by
           unfold oN at z
           split at z
           ·rename_i hz
            cases kvs with
            | nil=>cases hz
            | cons _ _=>cases z
           ·cases kvs <;> cases z
          rcases da with ⟨ks,g1,ha⟩ | ⟨ks,⟨ne,g1⟩,ha⟩
          ·obtain ⟨aaz,g2⟩:=Option.isSome_iff_exists.mp hs'
           have e0:=jd g1 g2
           subst e0
           cases g1
           have e0:vs=[]:=r3
           subst e0
           obtain ⟨ks',vs',g3,g4,g5⟩:=uD (kvs:=[]) (vs:=[]) (ks:=[]) hks r2 rfl rfl
           refine .inr ⟨a,b,V3,rfl,ha,rfl,hb,?_⟩
           have wr:iW X.K Z Θ e2 σ H2 Θ (e2.set i (some (.ow (.dict (oN jx V3 dk d []))))) C' σ (upd H2 a (.dT [(V3,v)])):=S2.write hi eu ⟨vs',.inr ⟨ks',⟨ne' [],g3⟩,by rw [g5]; exact aH⟩,g4⟩
           exact q Θ σ _ ((iW.Ep kk ff S2).trans wr)
          ·obtain ⟨ks',vs',g3,g4,g5⟩:=uD hks r2 g1 r3
           have hl':(ks.zip vs).length < sizeLine:=by
            rw [List.length_zip,sizeLine_eq,gM g1]
            unfold LIM at hl
            omega
           refine .inl (.inr ⟨a,_,rfl,wZ.t ha hb hl',?_⟩)
           have wr:iW X.K Z Θ e2 σ H2 Θ (e2.set i (some (.ow (.dict (oN jx V3 dk d kvs))))) C' σ (upd H2 a (.dT (putK (ks.zip vs) V3 v))):=S2.write hi eu ⟨vs',.inr ⟨ks',⟨ne' kvs,g3⟩,by rw [g5]; exact aH⟩,g4⟩
           exact q Θ σ _ ((iW.Ep kk ff S2).trans wr)
         ·cases hp
        ·cases hp
      ·cases hf
     ·cases hf
    ·rename_i n hi
     split at hf
     case h_2=>cases hf
     rename_i z
     split at hf
     case h_2=>cases hf
     rename_i y
     split at hf
     ·rename_i ns hns
      split at hf
      ·rename_i j hj
       cases hf
       obtain ⟨u',Ub,a,ea,hth⟩:=S2.slot i _ hi
       subst ea
       rw [eu] at Ub
       cases Ub
       cases b2.int
       have ev:v=.int y:=r2
       subst ev
       have ha:=S2.cell.at_ n a ns hth hns
       refine .inl (.inl ⟨a,_,z,j,rfl,rfl,ha,by rw [List.length_map]; exact hj,?_⟩)
       have am:a∈Θ:=List.mem_of_getElem? hth
       have kc:bA Θ H2 (upd H2 a (.lst ((ns.map V.int).set j (.int y)))):=⟨fun b o hb nb=>by rw [aJ (fun zz=>nb (by rw [zz]; exact am))]; exact hb,fun b hb=>by
        by_cases zz:b=a
        ·subst zz; rw [aH]; exact Option.some_ne_none _
        ·rw [aJ zz]; exact hb⟩
       have cc:dW Θ (C2.set n (ns.set j y)) (upd H2 a (.lst ((ns.map V.int).set j (.int y)))):=by
        refine ⟨by rw [List.length_set]; exact S2.cell.len,fun m b ms h5 h6=>?_⟩
        rcases get_set h6 with ⟨rfl,e6,_⟩ | ⟨nm,h6⟩
        ·rw [hth] at h5
         cases h5
         cases e6
         rw [aH,List.map_set]
        ·rw [aJ]
         ·exact S2.cell.at_ m b ms h5 h6
         ·intro zz
          subst zz
          have nd:=S2.jr.2.1
          have l1:=(List.getElem?_eq_some_iff.mp h5)
          have l2:=(List.getElem?_eq_some_iff.mp hth)
          obtain ⟨l1,l1'⟩:=l1
          obtain ⟨l2,l2'⟩:=l2
          rcases Nat.lt_trichotomy m n with hlt | heq | hgt
          ·exact List.pairwise_iff_getElem.mp nd m n l1 l2 hlt (l1'.trans l2'.symm)
          ·exact nm heq
          ·exact List.pairwise_iff_getElem.mp nd n m l2 l1 hgt (l2'.trans l1'.symm)
       exact q Θ σ _ ((iW.Ep kk ff S2).trans (iW.Ep kc (Fz.refl _) (S2.go kc cc)))
      ·cases hf
     ·cases hf
    ·cases hf
   ·cases hf
  ·cases hf
 ·cases hf
end
end L2
namespace L2
open PySem PySem.Spec PyProof.Rows PySem.W
noncomputable def intsOf:List PyData→Option (List Int)
 | []=>some []
 | .int i::r=>match intsOf r with
  | some t=>some (i::t)
  | none=>none
 | _=>none
theorem vM {E:Hp}:∀{ds:List PyData} {ns:List Int} {vs:List V},intsOf ds=some ns→dU E ds vs→vs=ns.map V.int
 | [],ns,vs,h,r=>by cases h; exact r
 | .int i::ds,ns,vs,h,r=>by
  unfold intsOf at h
  split at h
  ·rename_i t ht
   cases h
   obtain ⟨u,w,rfl,q,s⟩:=r
   rw [vM ht s]
   have:u=.int i:=q
   rw [this]
   rfl
  ·cases h
 | .none::_,_,_,h,_=>by cases h
 | .bool _::_,_,_,h,_=>by cases h
 | .str _::_,_,_,h,_=>by cases h
 | .list _::_,_,_,h,_=>by cases h
 | .tuple _::_,_,_,h,_=>by cases h
 | .dict _::_,_,_,h,_=>by cases h
noncomputable def N7 (i:Nat) (f:FE):FS:=fun env C=>match f env C with
 | some (.ow (.list ds),e1,C1)=>match intsOf ds with
  | some ns=>some (.nx,e1.set i (some (.ce C1.length)),C1++[ns])
  | none=>none
 | _=>none
section
variable {X:Cx} {pos:Pos}
theorem N8 {K:PySem.W.Frag} {i:Nat} {f:FE}:∀D σ H,tS K (N7 i f) D σ H→Ls (tE K f) (uM i) D σ H:=by
 rintro D σ H ⟨Z,Θ,env,C,fl,env',C',S,hf,q⟩
 unfold N7 at hf
 split at hf
 ·rename_i ds e1 C1 h1
  split at hf
  ·rename_i ns hns
   cases hf
   refine ⟨Z,Θ,env,C,_,e1,C1,S,h1,fun v H1 k f R=>?_⟩
   obtain ⟨a,rfl,hn,S1,vs,ha,r⟩:=R
   have ev:=vM hns r
   subst ev
   have jr:=S1.jr
   have Ym:=List.nodup_cons.mp jr.1
   have cl:=S1.cell.len
   have c':dW (Θ++[a]) (C1++[ns]) H1:=by
    refine ⟨by rw [List.length_append,List.length_append,cl]; rfl,fun m b ms h5 h6=>?_⟩
    by_cases hm:m < Θ.length
    ·rw [List.getElem?_append_left hm] at h5
     rw [List.getElem?_append_left (by rw [cl]; exact hm)] at h6
     exact S1.cell.at_ m b ms h5 h6
    ·rw [List.getElem?_append_right (by omega)] at h5
     rw [List.getElem?_append_right (by omega)] at h6
     rw [cl] at h6
     cases hm0:m - Θ.length with
     | zero=>rw [hm0] at h5 h6; cases h5; cases h6; exact ha
     | succ j=>rw [hm0] at h5; simp at h5
   have o1:∀b∈aV (e1.set i (some (.ce C1.length))) (σ.set i (some (.ref a))),b∈aV e1 σ:=fun b m=>by
    rcases jy m with m | ⟨⟨_,z⟩,_⟩
    ·exact m
    ·cases z
   have S2:Sm K Z (Θ++[a]) e1 (C1++[ns]) σ H1:=by
    have mm:∀b,b∈aK Z (Θ++[a]) e1 σ ↔ b∈aK (a::Z) Θ e1 σ:=fun b=>by
     rw [bz,bz,List.mem_append,List.mem_singleton,List.mem_cons]
     constructor
     ·rintro (h | (h | h) | h)
      ·exact .inl (.inr h)
      ·exact .inr (.inl h)
      ·exact .inl (.inl h)
      ·exact .inr (.inr h)
     ·rintro ((h | h) | h | h)
      ·exact .inr (.inl (.inr h))
      ·exact .inl h
      ·exact .inr (.inl (.inl h))
      ·exact .inr (.inr h)
    refine ⟨S1.len,V0 Ym.2 ?_ jr.2.2.1 (fun b m=>?_) fun b m=>?_,fun b m=>S1.dom b (List.mem_cons_of_mem _ m),fun j x e=>?_,c'⟩
    ·rw [List.nodup_append]
     exact ⟨jr.2.1,List.nodup_cons.mpr ⟨by simp,List.nodup_nil⟩,fun b m c m' e=>by
      rw [List.mem_singleton] at m'
      subst e m'
      exact jr.2.2.2 b List.mem_cons_self m⟩
    ·intro m'
     rcases List.mem_append.mp m' with m' | m'
     ·exact jr.2.2.2 b (List.mem_cons_of_mem _ m) m'
     ·rw [List.mem_singleton.mp m'] at m
      exact Ym.1 m
    ·obtain ⟨p1,p2⟩:=S1.eU m
     refine ⟨fun z=>p1 (List.mem_cons_of_mem _ z),fun m'=>?_⟩
     rcases List.mem_append.mp m' with m' | m'
     ·exact p2 m'
     ·rw [List.mem_singleton.mp m'] at p1
      exact p1 List.mem_cons_self
    ·obtain ⟨v,e3,r3⟩:=S1.slot j x e
     rw [iC mm]
     refine ⟨v,e3,?_⟩
     cases x with
     | im d=>exact r3
     | ow d=>exact r3
     | ce n=>
      obtain ⟨b,e5,e6⟩:=r3
      exact ⟨b,e5,by rw [List.getElem?_append_left (List.getElem?_eq_some_iff.mp e6).1]; exact e6⟩
     | sc ns=>exact r3
   have S3:Sm K Z (Θ++[a]) (e1.set i (some (.ce C1.length))) (C1++[ns]) (σ.set i (some (.ref a))) H1:=
    S2.Gn (fun _ z=>nomatch z) ⟨a,rfl,by rw [cl,List.getElem?_append_right (Nat.le_refl _),Nat.sub_self]; rfl⟩
   exact q (Θ++[a]) _ H1 ⟨⟨[a],rfl,fun b m=>by rw [List.mem_singleton.mp m]; exact hn⟩,iM k,fun b m=>.inl (f.own.subset (o1 b m)),S3⟩
  ·cases hf
 ·cases hf
theorem V4 {i:Nat} {x:Str} {e:Expr} {f:FE} {pos':Pos} (hN:X.N.Nodup) (hi:X.N[i]?=some x) (hx:Loc X.env.scope x) (he:PE X e (tE X.K f)) (hs:swapsWith e (some (.Name x pos')) pos.line X.env=pure false:=by rfl) (hf:X.fn x=true∨X.env.scope.names.lookup x=some .local:=by first | exact .inl rfl | exact .inr rfl | assumption):
  PS X (.Assign [.Name x pos'] e pos) (tS X.K (N7 i f)):=(Lw hN hi hx he hs hf).weak N8
noncomputable def RK (i:Nat) (f:FB):FS:=fun env C=>match env[i]? with
 | some (some (.im (.int x)))=>match f env C with
  | some (.int y,_,C1)=>some (.nx,env.set i (some (.im (.int (x + y)))),C1)
  | _=>none
 | _=>none
theorem V5 {i:Nat} {x:Str} {e:Expr} {f:FB} {pos':Pos} (hN:X.N.Nodup) (hi:X.N[i]?=some x) (hx:Loc X.env.scope x) (he:PE X e (lZ X.K f)) (hf:X.fn x=true∨X.env.scope.names.lookup x=some .local:=by first | exact .inl rfl | exact .inr rfl | assumption):
  PS X (.AugAssign (.Name x pos') .Add e pos) (tS X.K (RK i f)):=(UT hN hi hx he UW hf).weak fun D σ H aO=>by
 obtain ⟨Z,Θ,env,C,fl,env',C',S,hf,q⟩:=aO
 unfold RK at hf
 split at hf
 ·rename_i z h0
  split at hf
  ·rename_i y e1 C1 h1
   cases hf
   obtain ⟨v,ev,r⟩:=S.slot i _ h0
   refine ⟨v,ev,Z,Θ,env,C,_,e1,C',S,h1,fun w H1 k f S1 b1=>⟨z,y,r,b1,?_⟩⟩
   have S2:=S.go k S1.cell
   refine q Θ _ H1 ⟨xG.refl _ _,iM k,fun a m=>?_,S2.Gn (fun _ z=>nomatch z) (rfl:RZ _ (.int (z + y)) _)⟩
   rcases jy m with m | ⟨⟨_,z⟩,_⟩
   ·exact .inl m
   ·cases z
  ·cases hf
 ·cases hf
end
noncomputable def cG (c:FT) (body:FS):Nat→FS
 | 0=>fun _ _=>none
 | n + 1=>fun env C=>match c env C with
  | some (false,C1)=>some (.nx,env,C1)
  | some (true,C1)=>match body env C1 with
   | some (.nx,e2,C2)=>cG c body n e2 C2
   | some (.ct,e2,C2)=>cG c body n e2 C2
   | some (.bk,e2,C2)=>some (.nx,e2,C2)
   | some (.rt r,e2,C2)=>some (.rt r,e2,C2)
   | none=>none
  | none=>none
noncomputable def yz:Nat:=100000
noncomputable def Oa (c:FT) (body:FS):FS:=cG c body yz
theorem Gp {K:PySem.W.Frag} {c:FT} {body:FS} {n:Nat}:∀D σ H,tS K (cG c body n) D σ H→Lx (mF K c) (tS K body) D σ H:=by
 rintro D σ H ⟨Z,Θ,env,C,fl,env',C',S,hf,q⟩
 refine ⟨fun m σ1 H1=>∃Θ1 e1 C1,iW K Z Θ env σ H Θ1 e1 C1 σ1 H1∧cG c body m e1 C1=some (fl,env',C'),⟨n,Θ,env,C,iW.same S,hf⟩,?_⟩
 rintro m σ1 H1 ⟨Θ1,e1,C1,p,hf⟩
 cases m with
 | zero=>cases hf
 | succ m=>
  unfold cG at hf
  split at hf
  ·rename_i C2 h1
   cases hf
   exact ⟨Z,Θ1,env',C1,false,C',p.sm,h1,fun H2 k2 S2=>w5 (q Θ1 σ1 H2 (p.trans (iW.Ep k2 (Fz.refl _) S2)))⟩
  ·rename_i C2 h1
   refine ⟨Z,Θ1,e1,C1,true,C2,p.sm,h1,fun H2 k2 S2=>w6 ⟨fun σ' H'=>∃Θ1 e1 C1,iW K Z Θ env σ H Θ1 e1 C1 σ' H'∧cG c body m e1 C1=some (fl,env',C'),fun σ' H' h=>⟨m,Nat.lt_succ_self m,h⟩,?_⟩⟩
   have p2:=p.trans (iW.Ep k2 (Fz.refl _) S2)
   split at hf
   ·rename_i e3 C3 h2
    exact ⟨Z,Θ1,e1,C2,.nx,e3,C3,S2,h2,fun Θ3 σ3 H3 p3=>⟨Θ3,e3,C3,p2.trans p3,hf⟩⟩
   ·rename_i e3 C3 h2
    exact ⟨Z,Θ1,e1,C2,.ct,e3,C3,S2,h2,fun Θ3 σ3 H3 p3=>⟨Θ3,e3,C3,p2.trans p3,hf⟩⟩
   ·rename_i e3 C3 h2
    cases hf
    exact ⟨Z,Θ1,e1,C2,.bk,env',C',S2,h2,fun Θ3 σ3 H3 p3=>q Θ3 σ3 H3 (p2.trans p3)⟩
   ·rename_i r e3 C3 h2
    cases hf
    exact ⟨Z,Θ1,e1,C2,.rt r,env',C',S2,h2,fun Θ3 v H3 p3=>q Θ3 v H3 (p2.ret p3)⟩
   ·cases hf
  ·cases hf
theorem m6 {X:Cx} {pos:Pos} {c:Expr} {body:List Stmt} {t:FT} {f:FS} (hp:PassesOwn (model X.prog X.w) X.A X.env X.xe) (hc:PT X c (mF X.K t)) (hb:ug X body (tS X.K f)):PS X (.While c body [] pos) (tS X.K (Oa t f)):=(Ly hp hc hb).weak Gp
noncomputable abbrev FI:=En→Ce→Option (List PyData×En×Ce)
noncomputable def xH (P T:List Addr) (H:Hp) (J:It) (its:List PyData):Prop:=∀(i:Nat) (H2:Hp) (P2:List Addr),aP (er P H) (er P2 H2)→aP (er T H) (er T H2)→(∀a∈P2,H2 a≠none)→
 (∀d,its[i]?=some d→J.go i H2∧∀x H3,J.Tq i H2 x H3→aP H2 H3∧RZ (er P2 H3) d x)∧(i=its.length→J.stop i H2)
inductive tI (K:PySem.W.Frag) (b:Bool) (f:FI) (σ:St) (H:Hp) (R:It→Hp→Prop):Prop
 | mk (Z Θ:List Addr) (env:En) (C:Ce) (its:List PyData) (env':En) (C':Ce) (S:Sm K Z Θ env C σ H) (hf:f env C=some (its,env',C')) (q:∀J H',bA Θ H H'→Fz env env'→Sm K Z Θ env' C' σ H'→xH (aK Z Θ env' σ) (if b then Θ else aK Z Θ env' σ) H' J its→R J H'):tI K b f σ H R
theorem PI.weak {X:Cx} {tg e:Expr} {t t':TI} (h:PI X tg e t) (w:∀σ H Q,t' σ H Q→t σ H Q):PI X tg e t':=fun pins s σ H Q I q=>h pins s σ H Q I (w σ H Q q)
theorem PI.or {X:Cx} {tg e:Expr} {t t':TI} (h:PI X tg e t) (h':PI X tg e t'):PI X tg e (fun σ H R=>t σ H R∨t' σ H R):=fun pins s σ H R I q=>q.elim (h pins s σ H R I) (h' pins s σ H R I)
section
variable {K:PySem.W.Frag} {P T:List Addr} {H:Hp} {a:Addr} {ds:List PyData} {vs:List V}
theorem Iz (ha:er T H a=some (.lst vs)) (r:dU (er P H) ds vs):xH P T H (Z5 K a) ds:=fun i H2 P2 s1 s2 n=>by
 have h2:cM K H2 a vs:=cM.of (bJ (s2 _ _ ha))
 refine ⟨fun d hd=>?_,fun hi=>⟨vs,h2,by rw [bB r,hi]; exact Nat.le_refl _⟩⟩
 obtain ⟨v,ev,rv⟩:=kW r hd
 refine ⟨⟨vs,v,h2,ev⟩,fun x H3 y=>?_⟩
 obtain ⟨rfl,y⟩:=y
 have:=y vs h2
 rw [ev] at this
 cases this
 exact ⟨aP.refl _,rv.same s1⟩
theorem Ob (ha:er P H a=some (.tup vs)) (r:dU (er P H) ds vs):xH P T H (Z6 K a) ds:=fun i H2 P2 s1 s2 n=>by
 have h2:ig K H2 a vs:=ig.of (bJ (s1 _ _ ha))
 refine ⟨fun d hd=>?_,fun hi=>⟨vs,h2,by rw [bB r,hi]; exact Nat.le_refl _⟩⟩
 obtain ⟨v,ev,rv⟩:=kW r hd
 refine ⟨⟨vs,v,h2,ev⟩,fun x H3 y=>?_⟩
 obtain ⟨rfl,y⟩:=y
 have:=y vs h2
 rw [ev] at this
 cases this
 exact ⟨aP.refl _,rv.same s1⟩
noncomputable def chars (z:Str):List PyData:=z.cps.toList.map fun c=>.str ⟨#[c]⟩
theorem V6 (z:Str):xH P T H (Its z) (chars z):=fun i H2 P2 s1 s2 n=>by
 refine ⟨fun d hd=>?_,fun hi=>?_⟩
 ·unfold chars at hd
  rw [List.getElem?_map] at hd
  cases hc:z.cps.toList[i]? with
  | none=>rw [hc] at hd; cases hd
  | some c=>
   rw [hc] at hd
   cases hd
   have hc':z.cps[i]?=some c:=by rw [←Array.getElem?_toList]; exact hc
   have hlt:i < z.cps.size:=by
    obtain ⟨h,_⟩:=Array.getElem?_eq_some_iff.mp hc'
    exact h
   refine ⟨hlt,fun x H3 y=>?_⟩
   obtain ⟨rfl,c',ec,rfl⟩:=y
   rw [hc'] at ec
   cases ec
   exact ⟨aP.refl _,rfl⟩
 ·show z.cps.size≤i
  rw [hi]
  unfold chars
  rw [List.length_map,Array.length_toList]
  exact Nat.le_refl _
noncomputable def gk (lo:Int) (n:Nat):List PyData:=(List.range n).map fun (k:Nat)=>.int (lo + (k:Int))
theorem CV (lo:Int) (n:Nat):xH P T H (Xe lo n) (gk lo n):=fun i H2 P2 s1 s2 nn=>by
 refine ⟨fun d hd=>?_,fun hi=>?_⟩
 ·unfold gk at hd
  rw [List.getElem?_map] at hd
  by_cases hlt:i < n
  ·rw [List.getElem?_range hlt] at hd
   cases hd
   refine ⟨hlt,fun x H3 y=>?_⟩
   obtain ⟨rfl,rfl⟩:=y
   exact ⟨aP.refl _,rfl⟩
  ·rw [List.getElem?_eq_none (by rw [List.length_range]; omega)] at hd
   cases hd
 ·show n≤i
  rw [hi]
  unfold gk
  rw [List.length_map,List.length_range]
  exact Nat.le_refl _
end
noncomputable def itD:PyData→Option (List PyData)
 | .list ds=>some ds
 | .tuple ds=>some ds
 | .str z=>some (chars z)
 | _=>none
noncomputable def iB (f:FB):FI:=fun env C=>match f env C with
 | some (d,e1,C1)=>match itD d with
  | some its=>some (its,e1,C1)
  | none=>none
 | none=>none
noncomputable def iV (f:FE):FI:=fun env C=>match f env C with
 | some (r,e1,C1)=>match still r with
  | .im d=>match itD d with
   | some its=>some (its,e1,C1)
   | none=>none
  | _=>none
 | none=>none
noncomputable def sJ (f:FB):FI:=fun env C=>match f env C with
 | some (.int j,_,C1)=>if -(2 ^ 62)≤j∧j < 2 ^ 62 then some (gk 0 j.toNat,env,C1) else none
 | _=>none
section
variable {X:Cx} {tg e:Expr}
theorem aaA {f:FE} (h:PE X e (tE X.K f)) (hgo:∀i u,letOwnedTupleGo tg i u=pure ():=by intro _ _; rfl):PI X tg e (tI X.K false (iV f)):=(((Hl h).or (LC h)).or (Vu h hgo)).weak fun σ H R aO=>by
 obtain ⟨Z,Θ,env,C,its,env',C',S,hf,q⟩:=aO
 unfold iV at hf
 split at hf
 ·rename_i r e1 C1 h1
  split at hf
  ·rename_i d hd
   split at hf
   ·rename_i ys hi
    cases hf
    cases d <;> first | cases hi | skip
    ·refine .inr ⟨Z,Θ,env,C,_,env',C',S,h1,fun v H1 k f R=>?_⟩
     obtain ⟨S1,b⟩:=R.oX hd
     exact ⟨_,b,q _ H1 k f S1 (V6 _)⟩
    ·refine .inl (.inl ⟨Z,Θ,env,C,_,env',C',S,h1,fun v H1 k f R=>?_⟩)
     obtain ⟨S1,a,vs,rfl,ha,r⟩:=R.oX hd
     exact ⟨a,rfl,⟨vs,cM.of (bJ ha)⟩,q _ H1 k f S1 (Iz ha r)⟩
    ·refine .inl (.inr ⟨Z,Θ,env,C,_,env',C',S,h1,fun v H1 k f R=>?_⟩)
     obtain ⟨S1,a,vs,rfl,ha,r⟩:=R.oX hd
     exact ⟨a,rfl,⟨vs,ig.of (bJ ha)⟩,q _ H1 k f S1 (Ob ha r)⟩
   ·cases hf
  ·cases hf
 ·cases hf
theorem d8 {b:Bool} {a:Expr} {f:FB} {p pos:Pos} (hg:Gl X "range") (hm:X.mg "range"=none) (ha:PE X a (lZ X.K f)) (hs:starEach [a] X.env=(false,eval a X.env)::starEach [] X.env:=by rfl) (hs':starEach [a] X.env=[(false,eval a X.env)]:=by rfl):PI X tg (.Call (.Name "range" p) [a] [] pos) (tI X.K b (sJ f)):=
 (JF hg hm (bG ha cz hs) hs').weak fun σ H R aO=>by
  obtain ⟨Z,Θ,env,C,its,env',C',S,hf,q⟩:=aO
  unfold sJ at hf
  split at hf
  ·rename_i j e1 C1 h1
   split at hf
   ·rename_i hj
    cases hf
    refine ⟨Z,Θ,env,C,[.int j],e1,C',S,by unfold bCons bNil; rw [h1],fun vs H1 k f S1 b1=>?_⟩
    cases b1 with
    | cons b1 b2=>
     cases b2
     exact ⟨j,by rw [show _=V.int j from b1],hj.1,hj.2,q _ H1 k (Fz.refl _) (S.go k S1.cell) (CV 0 j.toNat)⟩
   ·cases hf
  ·cases hf
end
noncomputable def jg (g:FG) (body:FS):List PyData→FS
 | []=>fun env C=>some (.nx,env,C)
 | d::r=>fun env C=>match g d env with
  | some e1=>match body e1 C with
   | some (.nx,e2,C2)=>jg g body r e2 C2
   | some (.ct,e2,C2)=>jg g body r e2 C2
   | some (.bk,e2,C2)=>some (.nx,e2,C2)
   | some (.rt v,e2,C2)=>some (.rt v,e2,C2)
   | none=>none
  | none=>none
noncomputable def jN (fi:FI) (g:FG) (body:FS):FS:=fun env C=>match fi env C with
 | some (its,e1,C1)=>jg g body its e1 C1
 | none=>none
theorem iW.er {K:PySem.W.Frag} {Z Θ Θ1:List Addr} {env e1:En} {C1:Ce} {σ σ1:St} {H H1:Hp} (p:iW K Z Θ env σ H Θ1 e1 C1 σ1 H1):aP (er (aK Z Θ env σ) H) (er (aK Z Θ1 e1 σ1) H1):=fun b o h=>by
 unfold L2.er at h ⊢
 split at h
 ·cases h
 ·rename_i n
  have hb:H b≠none:=by rw [h]; exact Option.some_ne_none _
  rw [if_neg]
  ·refine p.kp.keep b o h fun m=>n ?_
   rcases List.mem_append.mp m with m | m
   ·exact bz.mpr (.inr (.inl m))
   ·exact bz.mpr (.inr (.inr m))
  ·intro m
   rcases bz.mp m with m | m | m
   ·exact n (bz.mpr (.inl m))
   ·obtain ⟨Δ,e,hn⟩:=p.th.ex
    rw [e] at m
    rcases List.mem_append.mp m with m | m
    ·exact n (bz.mpr (.inr (.inl m)))
    ·exact hb (hn b m)
   ·rcases p.own b m with m | m
    ·exact n (bz.mpr (.inr (.inr m)))
    ·exact hb m
theorem RL {P P2:List Addr} {H H2:Hp} (s:aP (er P H) (er P2 H2)):aP (er P H) (er P H2):=fun b o h=>by
 have h2:=bJ (s b o h)
 unfold er at h ⊢
 split at h
 ·cases h
 ·rename_i n
  rw [if_neg n]
  exact h2
theorem Oc {K:PySem.W.Frag} {fi:FI} {g:TG} {fg:FG} {body:FS} (L:W2 K g fg):∀D σ H,tS K (jN fi fg body) D σ H→Xi (tI K false fi) g (tS K body) D σ H:=by
 rintro D σ H ⟨Z,Θ,env,C,fl,env',C',S,hf,q⟩
 unfold jN at hf
 split at hf
 ·rename_i its e1 C1 h1
  refine ⟨Z,Θ,env,C,its,e1,C1,S,h1,fun J H1 k1 f1 S1 it=>?_⟩
  have p1:=iW.Ep k1 f1 S1
  refine ⟨fun i m σ2 H2=>m=its.length - i∧i≤its.length∧∃Θ2 e2 C2,iW K Z Θ e1 σ H1 Θ2 e2 C2 σ2 H2∧jg fg body (its.drop i) e2 C2=some (fl,env',C'),⟨its.length,rfl,Nat.zero_le _,Θ,e1,C1,iW.same S1,hf⟩,?_⟩
  rintro i m σ2 H2 ⟨rfl,hi,Θ2,e2,C2,p2,hl⟩
  obtain ⟨V7,V8⟩:=it i H2 (aK Z Θ2 e2 σ2) p2.er (RL p2.er) p2.sm.zQ
  cases hd:its[i]? with
  | none=>
   have hi2:i=its.length:=by
    have:=List.getElem?_eq_none_iff.mp hd
    omega
   rw [hi2,List.drop_length] at hl
   cases hl
   exact .inl ⟨V8 hi2,q Θ2 σ2 H2 (p1.trans p2)⟩
  | some d=>
   have hlt:i < its.length:=(List.getElem?_eq_some_iff.mp hd).1
   have ed:its.drop i=d::its.drop (i + 1):=by
    rw [List.drop_eq_getElem_cons hlt]
    obtain ⟨_,e⟩:=List.getElem?_eq_some_iff.mp hd
    rw [e]
   rw [ed] at hl
   unfold jg at hl
   obtain ⟨go,yl⟩:=V7 d hd
   refine .inr ⟨go,fun σ' H'=>∃Θ2 e2 C2,iW K Z Θ e1 σ H1 Θ2 e2 C2 σ' H'∧jg fg body (its.drop (i + 1)) e2 C2=some (fl,env',C'),fun σ' H' h=>⟨its.length - (i + 1),by omega,rfl,hlt,h⟩,fun x H3 y=>?_⟩
   obtain ⟨s3,r3⟩:=yl x H3 y
   have S3:=p2.sm.vq s3
   have p3:=p2.trans (iW.Ep (bA.of s3) (Fz.refl _) S3)
   split at hl
   ·rename_i e4 h4
    refine L Z Θ2 e2 C2 σ2 H3 x d e4 S3 r3 h4 _ fun σ4 S4 o4=>?_
    have p4:iW K Z Θ e1 σ H1 Θ2 e4 C2 σ4 H3:=p3.trans ⟨xG.refl _ _,bA.refl _ _,fun a m=>.inl (o4 a m),S4⟩
    split at hl
    ·rename_i e5 C5 h5
     exact ⟨Z,Θ2,e4,C2,.nx,e5,C5,S4,h5,fun Θ5 σ5 H5 p5=>⟨Θ5,e5,C5,p4.trans p5,hl⟩⟩
    ·rename_i e5 C5 h5
     exact ⟨Z,Θ2,e4,C2,.ct,e5,C5,S4,h5,fun Θ5 σ5 H5 p5=>⟨Θ5,e5,C5,p4.trans p5,hl⟩⟩
    ·rename_i e5 C5 h5
     cases hl
     exact ⟨Z,Θ2,e4,C2,.bk,env',C',S4,h5,fun Θ5 σ5 H5 p5=>q Θ5 σ5 H5 (p1.trans (p4.trans p5))⟩
    ·rename_i r e5 C5 h5
     cases hl
     exact ⟨Z,Θ2,e4,C2,.rt r,env',C',S4,h5,fun Θ5 v H5 p5=>q Θ5 v H5 (p1.ret (p4.ret p5))⟩
    ·cases hl
   ·cases hl
 ·cases hf
theorem m7 {X:Cx} {pos:Pos} {tg iter:Expr} {body:List Stmt} {fi:FI} {g:TG} {fg:FG} {f:FS} (hp:PassesOwn (model X.prog X.w) X.A X.env X.xe) (hc:X.calm=true) (hi:PI X tg iter (tI X.K false fi)) (hg:PG X tg g) (L:W2 X.K g fg) (hb:ug X body (tS X.K f))
  (hs:∀x,foldedSetIterable iter X.env x=pure x:=by intro _; rfl):PS X (.For tg iter body [] pos) (tS X.K (jN fi fg f)):=(U0 hp hc hi hg hb hs).weak (Oc L)
end L2
namespace L2
open PySem PySem.Spec PyProof.Rows PySem.W
noncomputable def V9:oR→PyData→Option (List PyData)
 | .one,d=>some [d]
 | .many n,.tuple ds=>if ds.length=n then some ds else none
 | _,_=>none
noncomputable def frB (js:List Nat) (env:En):En:=js.map fun j=>((env[j]?).join).map still
noncomputable def jW (ds:List PyData):En:=ds.map fun d=>some (.im d)
noncomputable def fX (T:oR) (ft:FT) (fe:FE) (fs:En):List PyData→Ce→Option (List PyData×Ce)
 | [],C=>some ([],C)
 | d::r,C=>match V9 T d with
  | some ts=>match ft (jW ts++fs) C with
   | some (false,C1)=>fX T ft fe fs r C1
   | some (true,C1)=>match fe (jW ts++fs) C1 with
    | some (x,_,C2)=>match still x with
     | .im y=>match fX T ft fe fs r C2 with
      | some (ys,C3)=>some (y::ys,C3)
      | none=>none
     | _=>none
    | none=>none
   | none=>none
  | none=>none
noncomputable def oE (js:List Nat) (env:En):En:=env.mapIdx fun i x=>if i∈js then x.map still else x
noncomputable def fLC (fi:FI) (T:oR) (ft:FT) (fe:FE) (js:List Nat):FE:=fun env C=>match fi env C with
 | some (its,e1,C1)=>match fX T ft fe (frB js e1) its C1 with
  | some (ys,C2)=>if ys.length≤LIM then some (.ow (.list ys),if fM ys then e1 else oE js e1,C2) else none
  | none=>none
 | none=>none
theorem Uc:∀{a b:En},a.length=b.length→(∀(i:Nat) (x y:Option Vl),a[i]?=some x→b[i]?=some y→fz1 x y)→Fz a b
 | [],[],_,_=>trivial
 | x::r,y::t,hl,h=>⟨h 0 x y rfl rfl,Uc (by simpa using hl) fun i u v h1 h2=>h (i + 1) u v (by simpa using h1) (by simpa using h2)⟩
 | [],_::_,hl,_=>by cases hl
 | _::_,[],hl,_=>by cases hl
theorem m8 (js:List Nat) (env:En):Fz env (oE js env):=Uc (by unfold oE; rw [List.length_mapIdx]) fun i x y h1 h2=>by
 unfold oE at h2
 rw [List.getElem?_mapIdx,h1] at h2
 have h2:(if i∈js then Option.map still x else x)=y:=Option.some.inj h2
 rw [←h2]
 split
 ·cases x with
  | none=>exact .inl rfl
  | some x=>
   cases x with
   | ow d=>exact .inr ⟨d,rfl,rfl⟩
   | im d=>exact .inl rfl
   | ce n=>exact .inl rfl
   | sc ns=>exact .inl rfl
 ·exact .inl rfl
theorem Od {js:List Nat} {env:En} {k:Nat} {x:Vl} (h:(frB js env)[k]?=some (some x)):∃j:Nat,js[k]?=some j∧(oE js env)[j]?=some (some x)∧∀d,x≠.ow d:=by
 unfold frB at h
 rw [List.getElem?_map] at h
 cases hj:js[k]? with
 | none=>rw [hj] at h; cases h
 | some j=>
  rw [hj] at h
  have h':((env[j]?).join).map still=some x:=Option.some.inj h
  refine ⟨j,rfl,?_,?_⟩
  ·unfold oE
   rw [List.getElem?_mapIdx]
   cases hv:env[j]? with
   | none=>rw [hv] at h'; cases h'
   | some y=>
    rw [hv] at h'
    show some (if j∈js then Option.map still y else y)=_
    rw [if_pos (List.mem_of_getElem? hj)]
    exact congrArg some h'
  ·cases hv:(env[j]?).join with
   | none=>rw [hv] at h'; cases h'
   | some y=>
    rw [hv] at h'
    have e:still y=x:=Option.some.inj h'
    rw [←e]
    intro d z
    cases y <;> cases z
theorem lz:∀{env:En} {σ:St},(∀(i:Nat) (d:PyData),env[i]?≠some (some (.ow d)))→aV env σ=[]
 | [],σ,_=>by cases σ <;> rfl
 | _::_,[],_=>rfl
 | x::e,v::s,h=>by
  rw [aV,lz (env:=e) (σ:=s) fun i d z=>h (i + 1) d (by simpa using z)]
  have h0:=h 0
  simp at h0
  unfold own1
  split
  ·rename_i d a
   exact absurd rfl (h0 d)
  ·rfl
section
variable {K:PySem.W.Frag} {Z Θ:List Addr} {env:En} {C C2:Ce} {σ:St} {H H2:Hp} {D:Addr}
noncomputable abbrev lA (D:Addr) (Z:List Addr) (env:En) (σ:St):List Addr:=D::(Z++aV env σ)
theorem eO {js:List Nat} {a:Addr} {eB:En} {sB:St} (h:aV eB sB=[]):a∈aK (lA D Z env σ) Θ eB sB ↔ a=D∨a∈aK Z Θ env σ:=by
 rw [bz,bz,h,List.mem_cons,List.mem_append]
 constructor
 ·rintro ((h | h | h) | h | h)
  ·exact .inl h
  ·exact .inr (.inl h)
  ·exact .inr (.inr (.inr h))
  ·exact .inr (.inr (.inl h))
  ·nomatch h
 ·rintro (h | h | h | h)
  ·exact .inl (.inl h)
  ·exact .inl (.inr (.inl h))
  ·exact .inr (.inl h)
  ·exact .inl (.inr (.inr h))
theorem pQ {js:List Nat} {ts:List PyData}:∀(i:Nat) (d:PyData),(jW ts++frB js env)[i]?≠some (some (.ow d)):=fun i d z=>by
 by_cases hi:i < (jW ts).length
 ·rw [List.getElem?_append_left hi] at z
  unfold jW at z
  rw [List.getElem?_map] at z
  cases h:ts[i]? with
  | none=>rw [h] at z; cases z
  | some t=>rw [h] at z; cases z
 ·rw [List.getElem?_append_right (by omega)] at z
  obtain ⟨j,_,_,h⟩:=Od z
  exact h d rfl
theorem Sm.blk {js:List Nat} {ts:List PyData} {vs:List V} (S:Sm K Z Θ (oE js env) C σ H) (hD:H D=Option.none) (k:bA Θ H H2) (nt:NT (H2 D)) (c:dW Θ C2 H2) (r:dU (er (aK (lA D Z (oE js env) σ) Θ [] []) H2) ts vs):
  Sm K (lA D Z (oE js env) σ) Θ (jW ts++frB js env) C2 (vs.map some++frees js σ) H2:=by
 have no:=lz (env:=jW ts++frB js env) (σ:=vs.map some++frees js σ) pQ
 have jr:=S.jr
 have lv:=bB r
 have Zq:(jW ts).length=ts.length:=by unfold jW; rw [List.length_map]
 have ee:er (aK (lA D Z (oE js env) σ) Θ (jW ts++frB js env) (vs.map some++frees js σ)) H2=er (aK (lA D Z (oE js env) σ) Θ [] []) H2:=iC fun a=>by rw [eO (js:=js) no,eO (js:=js) rfl]
 have sm:aP (er (aK Z Θ (oE js env) σ) H) (er (aK (lA D Z (oE js env) σ) Θ [] []) H2):=fj k S.H9 fun b m=>by
  rcases (eO (js:=js) rfl).mp m with rfl | m
  ·exact .inr hD
  ·exact .inl m
 refine ⟨?_,?_,fun b m=>?_,fun i x e=>?_,c⟩
 ·rw [List.length_append,List.length_append,List.length_map,lv,Zq]
  unfold frees frB
  rw [List.length_map,List.length_map]
 ·show (lA D Z (oE js env) σ++(Θ++aV (jW ts++frB js env) (vs.map some++frees js σ))).Nodup
  rw [no]
  refine V0 (List.nodup_cons.mpr ⟨fun m=>?_,?_⟩) jr.2.1 List.nodup_nil (fun b m m'=>?_) (fun _ m=>nomatch m)
  ·rcases List.mem_append.mp m with m | m
   ·exact (S.dom D m).ne hD
   ·exact S.zQ D (bz.mpr (.inr (.inr m))) hD
  ·rw [List.nodup_append]
   exact ⟨jr.1,jr.2.2.1,fun b m c' m' e=>by subst e; exact (S.eU m').1 m⟩
  ·rcases List.mem_cons.mp m with rfl | m
   ·exact S.zQ b (bz.mpr (.inr (.inl m'))) hD
   ·rcases List.mem_append.mp m with m | m
    ·exact jr.2.2.2 b m m'
    ·exact (S.eU m).2 m'
 ·rcases List.mem_cons.mp m with rfl | m
  ·exact nt
  ·have:NT (H b)∧b∉Θ:=by
    rcases List.mem_append.mp m with m | m
    ·exact ⟨S.dom b m,jr.2.2.2 b m⟩
    ·exact ⟨S.Zn b (bz.mpr (.inr (.inr m))),(S.eU m).2⟩
   obtain ⟨⟨u,e,n⟩,nb⟩:=this
   exact ⟨u,k.keep _ _ e nb,n⟩
 ·rw [ee]
  by_cases hi:i < ts.length
  ·rw [List.getElem?_append_left (by rw [Zq]; exact hi)] at e
   unfold jW at e
   rw [List.getElem?_map] at e
   cases ht:ts[i]? with
   | none=>rw [ht] at e; cases e
   | some t=>
    rw [ht] at e
    cases e
    obtain ⟨v,ev,rv⟩:=kW r ht
    exact ⟨v,by rw [List.getElem?_append_left (by rw [List.length_map,lv]; exact hi),List.getElem?_map,ev]; rfl,rv⟩
  ·rw [List.getElem?_append_right (by rw [Zq]; omega),Zq] at e
   obtain ⟨j,hj,hx,nx⟩:=Od e
   obtain ⟨v,ev,rv⟩:=S.slot j x hx
   refine ⟨v,?_,rv.same sm fun d _ z=>absurd z (nx d)⟩
   rw [List.getElem?_append_right (by rw [List.length_map,lv]; omega),List.length_map,lv]
   unfold frees
   rw [List.getElem?_map,hj]
   show some ((σ[j]?).join)=_
   rw [ev]
   rfl
end
noncomputable def gO:FT:=fun _ C=>some (true,C)
theorem lB {X:Cx}:Hz X [] (mF X.K gO):=fun pins s σ H Q I aO=>by
 obtain ⟨Z,Θ,env,C,b,C',S,hf,q⟩:=aO
 cases hf
 exact Q9 pins s σ H Q I (q H (bA.refl _ _) S)
theorem Aa {X:Cx} {c:Expr} {f:FT} (h:PT X c (mF X.K f)):Hz X [c] (mF X.K f):=Ra h
theorem Oe {K:PySem.W.Frag} {T:oR} {E H:Hp} {d:PyData} {x:V} {ts:List PyData} (h:V9 T d=some ts) (r:RZ E d x) (s:aP E H):∃vs,TJ K T x H vs∧dU E ts vs:=by
 cases T with
 | one=>cases h; exact ⟨[x],rfl,x,[],rfl,r,rfl⟩
 | many n=>
  cases d <;> first | cases h | skip
  rename_i ds
  have h:(if ds.length=n then some ds else none)=some ts:=h
  split at h
  ·rename_i hl
   cases h
   obtain ⟨a,vs,rfl,ha,r⟩:=r
   exact ⟨vs,⟨a,rfl,ig.of (s _ _ ha),(bB r).trans hl⟩,r⟩
  ·cases h
theorem RM {K:PySem.W.Frag} {fi:FI} {T:oR} {ft:FT} {fe:FE} {js:List Nat}:∀σ H Q,tE K (fLC fi T ft fe js) σ H Q→tLC K (tI K true fi) T (fun _=>mF K ft) (fun _=>tE K fe) js σ H Q:=by
 rintro σ H Q ⟨Z,Θ,env,C,res,env',C',S,hf,q⟩
 unfold fLC at hf
 split at hf
 case h_2=>cases hf
 rename_i its e1 C1 h1
 split at hf
 case h_2=>cases hf
 rename_i ys C2 h2
 split at hf
 case isFalse=>cases hf
 rename_i hl
 cases hf
 refine ⟨Z,Θ,env,C,its,e1,C1,S,h1,fun J H1 k1 f1 S1 it D hD b=>?_⟩
 have Qv:=S1.fz (m8 js e1)
 have it':xH (aK Z Θ e1 σ) Θ H1 J its:=it
 let PB:=aK (lA D Z (oE js e1) σ) Θ [] []
 have CW:∀a,a∈PB ↔ a=D∨a∈aK Z Θ (oE js e1) σ:=fun a=>eO (js:=js) rfl
 have dPB:D∈PB:=(CW D).mpr (.inl rfl)
 refine ⟨fun i m H2=>m=its.length - i∧i≤its.length∧∃acc gm C2 ys',bA Θ H1 H2∧dW Θ C2 H2∧H2 D=some (.lst gm)∧dU (er PB H2) acc gm∧fX T ft fe (frB js e1) (its.drop i) C2=some (ys',C')∧acc++ys'=ys,
  ⟨its.length,rfl,Nat.zero_le _,[],[],C1,ys,bA.upd hD,⟨S1.cell.len,fun n b ns e2 e3=>?_⟩,aH,rfl,h2,rfl⟩,?_⟩
 ·have:=S1.cell.at_ n b ns e2 e3
  rw [aJ (aZ this hD)]
  exact this
 rintro i m H2 ⟨rfl,hi,acc,gm,Ci,ys',ki,ci,hDi,ri,hc,ea⟩
 have Yo:aP (er (aK Z Θ e1 σ) H1) (er PB H2):=fj ki S1.H9 fun b m=>by
  rcases (CW b).mp m with rfl | m
  ·exact .inr hD
  ·exact .inl ((m8 js e1).sub b m)
 have Yp:Sm K (lA D Z (oE js e1) σ) Θ (jW []++frB js e1) Ci (([]:List V).map some++frees js σ) H2:=Qv.blk hD ki ⟨_,hDi,fun _ z=>nomatch z⟩ ci (show dU _ [] [] from rfl)
 have Og:∀a∈PB,H2 a≠none:=fun a m=>by
  have:=Yp.zQ a ((eO (js:=js) (lz (env:=jW []++frB js e1) pQ)).mpr ((CW a).mp m))
  exact this
 obtain ⟨V7,V8⟩:=it' i H2 PB Yo (zR ki) Og
 cases hd:its[i]? with
 | none=>
  have hi2:i=its.length:=by
   have:=List.getElem?_eq_none_iff.mp hd
   omega
  rw [hi2,List.drop_length] at hc
  cases hc
  rw [List.append_nil] at ea
  subst ea
  refine .inl ⟨V8 hi2,q _ H2 (k1.trans ki) ?_ ?_⟩
  ·split
   ·exact f1
   ·exact f1.trans (m8 js e1)
  ·refine ⟨D,rfl,k1.none hD,?_⟩
   split
   ·rename_i hn
    have SD:=S1.vJ hD ki ⟨_,hDi,fun _ z=>nomatch z⟩ ci
    exact ⟨SD,gm,hDi,ri.xF (fun a vs e=>sr SD (bJ e)) hn⟩
   ·have SD:=Qv.vJ hD ki ⟨_,hDi,fun _ z=>nomatch z⟩ ci
    refine ⟨SD,gm,hDi,?_⟩
    have:er PB H2=er (aK (D::Z) Θ (oE js e1) σ) H2:=iC fun a=>by
     rw [CW]
     show _ ↔ a∈D::aK Z Θ (oE js e1) σ
     rw [List.mem_cons]
    rw [←this]
    exact ri
 | some d=>
  have hlt:i < its.length:=(List.getElem?_eq_some_iff.mp hd).1
  have ed:its.drop i=d::its.drop (i + 1):=by
   rw [List.drop_eq_getElem_cons hlt]
   obtain ⟨_,e⟩:=List.getElem?_eq_some_iff.mp hd
   rw [e]
  rw [ed] at hc
  unfold fX at hc
  obtain ⟨go,yl⟩:=V7 d hd
  refine .inr ⟨go,fun x H3 y=>?_⟩
  obtain ⟨s3,r3⟩:=yl x H3 y
  split at hc
  case h_2=>cases hc
  rename_i ts ht
  obtain ⟨vs,tv,rvs⟩:=Oe (K:=K) ht r3 (tR _ _)
  refine ⟨vs,tv,?_⟩
  have k3:bA Θ H1 H3:=ki.trans (bA.of s3)
  have Kr:H3 D=some (.lst gm):=s3 _ _ hDi
  have c3:dW Θ Ci H3:=⟨ci.len,fun n b ns e2 e3=>s3 _ _ (ci.at_ n b ns e2 e3)⟩
  have r3':dU (er PB H3) acc gm:=ri.same (qF s3)
  have SB:Sm K (lA D Z (oE js e1) σ) Θ (jW ts++frB js e1) Ci (vs.map some++frees js σ) H3:=Qv.blk hD k3 ⟨_,Kr,fun _ z=>nomatch z⟩ c3 rvs
  have ePB:∀Hx,er (aK (lA D Z (oE js e1) σ) Θ (jW ts++frB js e1) (vs.map some++frees js σ)) Hx=er PB Hx:=fun Hx=>iC fun a=>by rw [eO (js:=js) (lz pQ),CW]
  have xJ:D∉Θ:=fun m=>(S1.cell.dom D m).ne hD
  have stay:∀{Hx Hy:Hp},bA Θ Hx Hy→Hx D=some (.lst gm)→dU (er PB Hx) acc gm→Hy D=some (.lst gm)∧dU (er PB Hy) acc gm:=fun {Hx Hy} kk h1 h2=>
   ⟨kk.keep _ _ h1 xJ,h2.same (fj kk (fun a m=>(CW a).mpr (.inr (bz.mpr (.inr (.inl m))))) fun a m=>.inl m)⟩
  split at hc
  ·rename_i Ct Oh
   refine ⟨_,Θ,_,Ci,false,Ct,SB,Oh,fun H4 k4 S4=>w5 ⟨its.length - (i + 1),by omega,rfl,hlt,acc,gm,Ct,ys',k3.trans k4,S4.cell,(stay k4 Kr r3').1,(stay k4 Kr r3').2,hc,ea⟩⟩
  ·rename_i Ct Oh
   split at hc
   case h_2=>cases hc
   rename_i xr eB CB hfe
   split at hc
   case h_2=>cases hc
   rename_i yd Yq
   split at hc
   case h_2=>cases hc
   rename_i zs Cz hzs
   cases hc
   refine ⟨_,Θ,_,Ci,true,Ct,SB,Oh,fun H4 k4 S4=>w6 ⟨_,Θ,_,Ct,xr,eB,CB,S4,hfe,fun y H5 k5 f5 R5=>?_⟩⟩
   obtain ⟨S5,r5⟩:=R5.oX Yq
   obtain ⟨hD4,r4⟩:=stay k4 Kr r3'
   obtain ⟨Yr,Zr⟩:=stay k5 hD4 r4
   have noB:aV eB (vs.map some++frees js σ)=[]:=by
    have:=(Fz.own (σ:=vs.map some++frees js σ) f5)
    rw [lz pQ] at this
    exact List.sublist_nil.mp this
   have e5:er (aK (lA D Z (oE js e1) σ) Θ eB (vs.map some++frees js σ)) H5=er PB H5:=iC fun a=>by rw [eO (js:=js) noB,CW]
   rw [e5] at r5
   have la:=bB Zr
   have lt:acc.length < LIM∧True:=by
    have:=congrArg List.length ea
    rw [List.length_append,List.length_cons] at this
    exact ⟨by omega,trivial⟩
   refine ⟨gm,Yr,by rw [la,sizeLine_eq]; have:=lt.1; unfold LIM at this; omega,its.length - (i + 1),by omega,rfl,hlt,acc++[yd],gm++[y],CB,zs,?_,?_,aH,?_,hzs,by rw [←ea,List.append_assoc]; rfl⟩
   ·have kk:=(k3.trans k4).trans k5
    refine ⟨fun a o ha na=>?_,fun a ha=>?_⟩
    ·rw [aJ (aZ ha hD)]
     exact kk.keep _ _ ha na
    ·by_cases z:a=D
     ·subst z; rw [aH]; exact Option.some_ne_none _
     ·rw [aJ z]; exact kk.dom a ha
   ·refine ⟨S5.cell.len,fun n b ns e2 e3=>?_⟩
    rw [aJ]
    ·exact S5.cell.at_ n b ns e2 e3
    ·intro z
     subst z
     exact xJ (List.mem_of_getElem? e2)
   ·rw [z8 dPB]
    exact kY Zr ⟨y,[],rfl,r5,rfl⟩
  ·cases hc
section
variable {X:Cx} {NT NF:List Str} {js:List Nat} {elt tg iter:Expr} {ifs:List Expr} {T:oR} {fi:FI} {ft:FT} {fe:FE} {scope:Scope} {pos:Pos}
theorem tV (B:mL X NT NF js scope) (tk:um tg NT T) (hc:X.calm=true) (hi:PI X tg iter (tI X.K true fi))
  (hin:∀b,Hz (X.bk (NT++NF) scope b) ifs (mF X.K ft)∧PE (X.bk (NT++NF) scope b) elt (tE X.K fe))
  (hs:∀x,foldedSetIterable iter X.env x=pure x:=by intro _; rfl):PE X (.ListComp elt [⟨tg,iter,ifs,0⟩] scope pos) (tE X.K (fLC fi T ft fe js)):=(XR B tk hc hi hin hs).weak RM
end
end L2
namespace L2
open PySem PySem.Spec PyProof.Rows PySem.W
noncomputable def yC (n:Nat):Vl→Bool
 | .ce m=>decide (m < n)
 | _=>true
noncomputable def fN (k n:Nat) (body:FS):FN:=fun xs C=>if xs.length=k then match body (xs.map some++List.replicate (n - xs.length) none) C with
  | some (.rt r,_,C')=>if yC C.length r then some (r,C'.take C.length) else none
  | some (.nx,_,C')=>some (.im .none,C'.take C.length)
  | _=>none
 else none
section
variable {K:PySem.W.Frag} {Z Θ:List Addr} {C:Ce} {H:Hp} {xs:List Vl} {vs:List V}
theorem vN {E:Hp} (a:iz K E Θ xs vs):vs.length=xs.length:=by
 induction a with
 | nil=>rfl
 | cons _ _ ih=>rw [List.length_cons,List.length_cons,ih]
theorem RN {E:Hp} (a:iz K E Θ xs vs):∀{i:Nat} {x:Vl},xs[i]?=some x→∃v,vs[i]?=some v∧qN K E Θ x v:=by
 induction a with
 | nil=>intro i x e; simp at e
 | cons h _ ih=>
  intro i x e
  cases i with
  | zero=>simp at e; subst e; exact ⟨_,rfl,h⟩
  | succ i=>
   obtain ⟨v,e2,h2⟩:=ih (i:=i) (by simpa using e)
   exact ⟨v,by simpa using e2,h2⟩
theorem Sm.start {n:Nat} (S:Sm K Z Θ [] C [] H) (a:iz K (er (aK Z Θ [] []) H) Θ xs vs):Sm K Z Θ (xs.map some++List.replicate n Option.none) C (vs.map some++List.replicate n Option.none) H∧aV (xs.map some++List.replicate n Option.none) (vs.map some++List.replicate n Option.none)=[]:=by
 have lv:=vN a
 have at':∀{i:Nat} {x:Vl},(xs.map some++List.replicate n Option.none)[i]?=some (some x)→∃v,vs[i]?=some v∧qN K (er (aK Z Θ [] []) H) Θ x v∧i < vs.length:=fun {i x} e=>by
  by_cases hi:i < xs.length
  ·rw [List.getElem?_append_left (by rw [List.length_map]; exact hi),List.getElem?_map] at e
   cases hx:xs[i]? with
   | none=>rw [hx] at e; cases e
   | some y=>
    rw [hx] at e
    cases e
    obtain ⟨v,e1,h⟩:=RN a hx
    exact ⟨v,e1,h,by rw [lv]; exact hi⟩
  ·rw [List.getElem?_append_right (by rw [List.length_map]; omega)] at e
   have:=List.mem_of_getElem? e
   exact nomatch (List.eq_of_mem_replicate this)
 have no:aV (xs.map some++List.replicate n Option.none) (vs.map some++List.replicate n Option.none)=[]:=lz fun i d e=>by
  obtain ⟨v,_,h,_⟩:=at' e
  exact h
 refine ⟨⟨by simp [lv],?_,S.dom,fun i x e=>?_,S.cell⟩,no⟩
 ·show (Z++(Θ++aV _ _)).Nodup
  rw [no]
  exact S.nd
 ·obtain ⟨v,e1,h,hl⟩:=at' e
  refine ⟨v,by rw [List.getElem?_append_left (by rw [List.length_map]; exact hl),List.getElem?_map,e1]; rfl,?_⟩
  have ee:er (aK Z Θ (xs.map some++List.replicate n Option.none) (vs.map some++List.replicate n Option.none)) H=er (aK Z Θ [] []) H:=by
   show er (Z++(Θ++aV _ _)) H=_
   rw [no]
   rfl
  rw [ee]
  cases x with
  | im d=>exact h
  | ow d=>exact h.elim
  | ce m=>exact h
  | sc ns=>exact h
theorem Sm.cut {Δ:List Addr} (S:Sm K Z (Θ++Δ) [] C [] H):Sm K Z Θ [] (C.take Θ.length) [] H:=by
 have jr:=S.jr
 have cl:=S.cell.len
 rw [List.length_append] at cl
 refine ⟨rfl,V0 jr.1 (List.nodup_append.mp jr.2.1).1 List.nodup_nil (fun b m m'=>jr.2.2.2 b m (List.mem_append_left _ m')) (fun _ m=>nomatch m),S.dom,fun i x e=>by simp at e,⟨by rw [List.length_take]; omega,fun n a ns e1 e2=>?_⟩⟩
 have hn:n < Θ.length:=(List.getElem?_eq_some_iff.mp e1).1
 rw [List.getElem?_take,if_pos hn] at e2
 exact S.cell.at_ n a ns (by rw [List.getElem?_append_left hn]; exact e1) e2
theorem Io.cut {Θ':List Addr} {H':Hp} {C':Ce} {O:List Addr} {r:Vl} {v:V} (t:xG Θ Θ' H) (ok:yC Θ.length r=true) (no:O=[]) (h:Io K Z Θ' C' O H H' r v):Res K Z Θ [] (C'.take Θ.length) [] H H' r v:=by
 obtain ⟨Δ,rfl,hn⟩:=t.ex
 have sm:∀{Y:List Addr},aP (er (aK Y (Θ++Δ) [] []) H') (er (aK Y Θ [] []) H'):=fun {Y}=>jH fun a m=>by
  rcases bz.mp m with m | m | m
  ·exact bz.mpr (.inl m)
  ·exact bz.mpr (.inr (.inl (List.mem_append_left _ m)))
  ·nomatch m
 cases r with
 | im d=>exact ⟨h.1.cut,h.2.same sm⟩
 | ow d=>
  obtain ⟨a,e,m,S,r⟩:=h
  refine ⟨a,e,?_,S.cut,r.same sm fun _ h=>h⟩
  rcases m with m | m
  ·rw [no] at m; nomatch m
  ·exact m
 | ce n=>
  obtain ⟨S,a,e,e2⟩:=h
  refine ⟨S.cut,a,e,?_⟩
  rw [List.getElem?_append_left (of_decide_eq_true ok)] at e2
  exact e2
 | sc ns=>
  obtain ⟨S,a,e,q⟩:=h
  exact ⟨S.cut,a,e,sm.seq q⟩
end
section
variable {P:Program} {w:World} {K:PySem.W.Frag} {mg:Str→Option Value} {base:Heap}
theorem fY {x qual:Str} {st:Stmt} {f:Addr} {fd:FuncData} {N ps:List Str} {k:Nat} {body:FS} {k1 k2:Nat} (F:tM K x qual st f fd) (S:bT N ps (aC st))
  (hb:∀(cdv:Value) (A:Around) (outer:List Env) (s:Shared) (H:Hp) (E:XK),gn k (A.deeper (envOfC qual (aC st) s.heap.objs.size f cdv))→ug (Fd qu P w K mg base N qual (aC st) f cdv A outer s H E).QB (bH st) (tS K body))
  (e1:k1=ps.length:=by rfl) (e2:k2=N.length:=by rfl):dB P w K mg base qu (k + 1) f fd ps (spT K (fN k1 k2 body)):=by
 subst e1 e2
 refine F.ok S (fun vs H Q E h=>?_) (fun cdv A outer s H vs Q E hr h=>⟨_,hb cdv A outer s H E hr,?_⟩)
 ·obtain ⟨Z,Θ,C,xs,r,C',S0,a,hf,_⟩:=h
  unfold fN at hf
  split at hf
  ·rename_i hl; rw [vN a,hl]
  ·cases hf
 ·obtain ⟨Z,Θ,C,xs,r,C',S0,a,hf,q⟩:=h
  unfold fN at hf
  split at hf
  case isFalse=>cases hf
  rename_i hl
  have lv:=vN a
  obtain ⟨S1,no⟩:=S0.start (n:=N.length - vs.length) a
  rw [lv] at S1 no
  have hs:start N vs=vs.map some++List.replicate (N.length - xs.length) none:=by unfold start; rw [lv]
  rw [hs]
  have cl:=S0.cell.len
  split at hf
  ·rename_i r0 e' C1 hb'
   split at hf
   ·rename_i hok
    cases hf
    refine ⟨Z,Θ,_,C,.rt r,e',C1,S1,hb',fun Θ' v H' R=>?_⟩
    have kp:=R.kp
    rw [no,List.append_nil] at kp
    rw [cl] at q hok
    exact q v H' kp (R.ok.cut R.th hok no)
   ·cases hf
  ·rename_i e' C1 hb'
   cases hf
   refine ⟨Z,Θ,_,C,.nx,e',C1,S1,hb',fun Θ' σ' H' R=>?_⟩
   have kp:=R.kp
   rw [no,List.append_nil] at kp
   obtain ⟨Δ,e,hn⟩:=R.th.ex
   have S2:=R.sm.none
   rw [e] at S2
   rw [cl] at q
   exact q .non H' kp ⟨S2.cut,rfl⟩
  ·cases hf
theorem Wa {f:FN} {C':Ce} {H:Hp} {a:Addr} {ns:List Int} {E:XK} (hS:cM K H a (ns.map V.int)) (h:f [.sc ns] []=some (.im (.bool true),C')):spT K f [.ref a] H (fun v _=>v=.bl true) E:=by
 refine ⟨[],[],[],[.sc ns],_,C',⟨rfl,List.nodup_nil,(fun _ m=>nomatch m),fun i x e=>by simp at e,⟨rfl,fun n b ms e _=>by simp at e⟩⟩,.cons ⟨a,rfl,?_⟩ .nil,h,fun v H' _ R=>R.2⟩
 show cM K (er [] H) a _
 rw [vh]
 exact hS
end
noncomputable def tW (i:Nat):FE:=fun env C=>match env[i]? with
 | some (some (.sc ns))=>some (.im (.int ns.length),env,C)
 | _=>none
noncomputable def Oi (i:Nat) (f:FB):FE:=fun env C=>match env[i]? with
 | some (some (.sc ns))=>match f env C with
  | some (.int k,_,C1)=>match ju ns k with
   | some z=>some (.im (.int z),env,C1)
   | none=>none
  | _=>none
 | _=>none
section
variable {X:Cx} {o k:Expr} {i:Nat} {p pos:Pos}
theorem IK (ho:PE X o (rJ i)) (hg:Gl X "len") (hm:X.mg "len"=none) (hv:bootBuiltins "len"=some (.builtin "len"))
  (he:starEach [o] X.env=(false,eval o X.env)::starEach [] X.env:=by rfl) (hpl:(backTo pos (starEach [] X.env)).any (·.1)=false:=by rfl):PE X (.Call (.Name "len" p) [o] [] pos) (tE X.K (tW i)):=
 (qi qm hg hm hv (cU ho gq he) (by decide) (by decide) he hpl).weak fun σ H Q aO=>by
  obtain ⟨Z,Θ,env,C,r,env',C',S,hf,q⟩:=aO
  unfold tW at hf
  split at hf
  ·rename_i ns h0
   cases hf
   obtain ⟨v,ev,a,rfl,sq⟩:=S.slot i _ h0
   have:=q (.int ns.length) H (bA.refl _ _) (Fz.refl _) ⟨S,rfl⟩
   exact ⟨_,ev,a,_,rfl,.inl ((tR _ _).seq sq),by rw [List.length_map]; exact this⟩
  ·cases hf
theorem Wb {f:FB} (ho:PE X o (rJ i)) (hk:PE X k (lZ X.K f)) (hs:ux k):PE X (.Subscript o k pos) (tE X.K (Oi i f)):=(Ml zB ho hk hs).weak fun σ H Q aO=>by
 obtain ⟨Z,Θ,env,C,r,env',C',S,hf,q⟩:=aO
 unfold Oi at hf
 split at hf
 case h_2=>cases hf
 rename_i ns h0
 split at hf
 case h_2=>cases hf
 rename_i z e1 C1 h1
 split at hf
 case h_2=>cases hf
 rename_i y hy
 cases hf
 obtain ⟨v,ev,a,rfl,sq⟩:=S.slot i _ h0
 refine ⟨_,ev,Z,Θ,env,C,_,e1,C',S,h1,fun w H1 k1 f1 S1 b1=>?_⟩
 have S2:=S.go k1 S1.cell
 obtain ⟨v2,ev2,a2,ea2,sq2⟩:=S2.slot i _ h0
 rw [ev] at ev2
 cases ev2
 cases ea2
 refine ⟨a,_,z,.int y,rfl,b1,(tR _ _).seq sq2,?_,q _ H1 k1 (Fz.refl _) ⟨S2,rfl⟩⟩
 unfold ju at hy ⊢
 rw [List.length_map]
 cases hj:Fg ns.length z with
 | none=>rw [hj] at hy; cases hy
 | some j=>
  rw [hj] at hy
  show (ns.map V.int)[j]?=_
  rw [List.getElem?_map,show ns[j]?=some y from hy]
  rfl
end
end L2
namespace L2
open PySem PySem.Spec PyProof.Rows PySem.W
section
variable {K:PySem.W.Frag} {X:Cx}
theorem jA {Z Θ:List Addr} {env:En} {σ:St} {H:Hp} {d:PyData} {vs:List V} (h:Ia Z Θ env σ H [d] vs):∃v,vs=[v]∧dX Z Θ env σ H d v:=by
 cases h with
 | cons a b=>cases b; exact ⟨_,rfl,a⟩
theorem Ys {Z Θ:List Addr} {env:En} {σ:St} {H:Hp} {d e:PyData} {vs:List V} (h:Ia Z Θ env σ H [d,e] vs):∃v w,vs=[v,w]∧dX Z Θ env σ H d v∧dX Z Θ env σ H e w:=by
 cases h with
 | cons a b=>
  cases b with
  | cons b c=>cases c; exact ⟨_,_,rfl,a,b⟩
noncomputable def Oj:PyData→Option Nat
 | .list ds=>some ds.length
 | .tuple ds=>some ds.length
 | .str z=>if z.length≤LIM then some z.length else none
 | .dict kvs=>if (b7 cN kvs).isSome then some kvs.length else none
 | _=>none
noncomputable def ni:List PyData→Option Vl
 | [d]=>(Oj d).map fun n=>.im (.int n)
 | _=>none
noncomputable def Ud (K:PySem.W.Frag):List V→Hp→VK→Prop:=fun xs H Q=>((∃p ys,xs=[.ref p]∧(cM K H p ys∨ig K H p ys)∧Q (.int ys.length) H)∨∃z,xs=[.str z]∧z.length≤sizeLine∧Q (.int z.length) H)∨∃a kvs,xs=[V.ref a]∧H a=some (.dK kvs)∧Q (.int kvs.length) H
theorem j4:cJ X (.builtin "len") (Ud X.K):=(qm.or zG).or J1
theorem vO:Bm K (Ud K) ni:=by
 intro Z Θ env C σ H xs ds res S b e Q q
 unfold ni at e
 split at e
 case h_2=>cases e
 rename_i d
 obtain ⟨v,rfl,bb⟩:=jA b
 cases hn:Oj d with
 | none=>rw [hn] at e; cases e
 | some n=>
  rw [hn] at e
  cases e
  have fin:=q (.int n) H (bA.refl _ _) (bh S rfl rfl)
  cases d <;> first | cases hn | skip
  ·rename_i z
   simp only [Oj] at hn
   split at hn
   ·rename_i hl
    cases hn
    cases bb.str
    exact .inl (.inr ⟨z,rfl,d7 hl,fin⟩)
   ·cases hn
  ·obtain ⟨a,vs,rfl,ha,r⟩:=bb.lst
   exact .inl (.inl ⟨a,vs,rfl,.inl (cM.of ha),by rw [bB r]; exact fin⟩)
  ·obtain ⟨a,vs,rfl,ha,r⟩:=bb.tup
   exact .inl (.inl ⟨a,vs,rfl,.inr (ig.of ha),by rw [bB r]; exact fin⟩)
  ·rename_i kvs
   simp only [Oj] at hn
   split at hn
   ·rename_i hs
    cases hn
    obtain ⟨a,vs,rfl,da,r⟩:=bb.dct
    rcases da with ⟨ks,h1,ha⟩ | ⟨ks,⟨ne,h2⟩,ha⟩
    ·refine .inr ⟨a,_,rfl,ha,?_⟩
     rw [List.length_zip,gM h1,qG r,Nat.min_self]
     exact fin
    ·obtain ⟨ks',h1⟩:=Option.isSome_iff_exists.mp hs
     exact absurd (jd h1 h2) ne
   ·cases hn
noncomputable def CZ:List PyData→Option Vl
 | [.int i]=>some (.im (.int (if i < 0 then -i else i)))
 | _=>none
theorem Ol:Bm K (fun xs H Q=>∃i,xs=[.int i]∧Q (.int (if i < 0 then -i else i)) H) CZ:=by
 intro Z Θ env C σ H xs ds res S b e Q q
 unfold CZ at e
 split at e
 case h_2=>cases e
 cases e
 obtain ⟨v,rfl,bb⟩:=jA b
 cases bb.int
 exact ⟨_,rfl,q _ H (bA.refl _ _) (bh S rfl rfl)⟩
noncomputable def IV:List PyData→Option Vl
 | [.int i]=>some (.im (.int i))
 | [.bool k]=>some (.im (.int (if k then 1 else 0)))
 | _=>none
theorem Wc:Bm K (fun xs H Q=>(∃i,xs=[.int i]∧Q (.int i) H)∨∃k,xs=[.bl k]∧Q (.int (if k then 1 else 0)) H) IV:=by
 intro Z Θ env C σ H xs ds res S b e Q q
 unfold IV at e
 split at e
 case h_3=>cases e
 ·cases e
  obtain ⟨v,rfl,bb⟩:=jA b
  cases bb.int
  exact .inl ⟨_,rfl,q _ H (bA.refl _ _) (bh S rfl rfl)⟩
 ·cases e
  obtain ⟨v,rfl,bb⟩:=jA b
  cases (show v=.bl _ from bb)
  exact .inr ⟨_,rfl,q _ H (bA.refl _ _) (bh S rfl rfl)⟩
noncomputable def Ab:List PyData→Option Vl
 | [.int i,.int j]=>some (.im (.int (if j < i then j else i)))
 | _=>none
theorem RP:Bm K (fun xs H Q=>∃i j,xs=[.int i,.int j]∧Q (.int (if j < i then j else i)) H) Ab:=by
 intro Z Θ env C σ H xs ds res S b e Q q
 unfold Ab at e
 split at e
 case h_2=>cases e
 cases e
 obtain ⟨v,w,rfl,b1,b2⟩:=Ys b
 cases b1.int; cases b2.int
 exact ⟨_,_,rfl,q _ H (bA.refl _ _) (bh S rfl rfl)⟩
noncomputable def boolsOf:List PyData→Option (List Bool)
 | []=>some []
 | .bool b::r=>match boolsOf r with
  | some t=>some (b::t)
  | none=>none
 | _=>none
theorem yD {E:Hp}:∀{ds:List PyData} {ns:List Bool} {vs:List V},boolsOf ds=some ns→dU E ds vs→vs=ns.map V.bl
 | [],ns,vs,h,r=>by cases h; exact r
 | .bool i::ds,ns,vs,h,r=>by
  unfold boolsOf at h
  split at h
  ·rename_i t ht
   cases h
   obtain ⟨u,w,rfl,q,s⟩:=r
   rw [yD ht s]
   have:u=.bl i:=q
   rw [this]
   rfl
  ·cases h
 | .none::_,_,_,h,_=>by cases h
 | .int _::_,_,_,h,_=>by cases h
 | .str _::_,_,_,h,_=>by cases h
 | .list _::_,_,_,h,_=>by cases h
 | .tuple _::_,_,_,h,_=>by cases h
 | .dict _::_,_,_,h,_=>by cases h
noncomputable def Dc:List PyData→Option Vl
 | [.list ds]=>(boolsOf ds).map fun bs=>.im (.bool (bs.all id))
 | _=>none
theorem Wd:Bm K (fun xs H Q=>∃(p:Addr) (bs:List Bool),xs=[.ref p]∧cM K H p (bs.map V.bl)∧Q (.bl (bs.all id)) H) Dc:=by
 intro Z Θ env C σ H xs ds res S b e Q q
 unfold Dc at e
 split at e
 case h_2=>cases e
 rename_i ds
 cases hb:boolsOf ds with
 | none=>rw [hb] at e; cases e
 | some bs=>
  rw [hb] at e
  cases e
  obtain ⟨v,rfl,bb⟩:=jA b
  obtain ⟨a,vs,rfl,ha,r⟩:=bb.lst
  rw [yD hb r] at ha
  exact ⟨a,bs,rfl,cM.of ha,q _ H (bA.refl _ _) (bh S rfl rfl)⟩
noncomputable def gG:List PyData→Option Vl
 | [.list ds]=>some (.im (.tuple ds))
 | [.tuple ds]=>some (.im (.tuple ds))
 | _=>none
theorem vP:Bm K (fun xs H Q=>∃p ys,xs=[.ref p]∧((cM K H p ys∧∀l,H l=none→Q (.ref l) (upd H l (.tup ys)))∨(ig K H p ys∧Q (.ref p) H))) gG:=by
 intro Z Θ env C σ H xs ds res S b e Q q
 unfold gG at e
 split at e
 case h_3=>cases e
 ·cases e
  obtain ⟨v,rfl,bb⟩:=jA b
  obtain ⟨a,vs,rfl,ha,r⟩:=bb.lst
  exact ⟨a,vs,rfl,.inl ⟨cM.of ha,fun l hl=>q _ _ (bA.upd hl) (uB S r hl)⟩⟩
 ·cases e
  obtain ⟨v,rfl,bb⟩:=jA b
  obtain ⟨a,vs,rfl,ha,r⟩:=bb.tup
  exact ⟨a,vs,rfl,.inr ⟨ig.of ha,q _ H (bA.refl _ _) ⟨S,bb⟩⟩⟩
end
noncomputable def Gq (n:String):PyData→Option Bool
 | .none=>some false
 | .bool _=>some (n=="bool" || n=="int")
 | .int _=>some (n=="int")
 | .str _=>some (n=="str")
 | .list _=>some (n=="list")
 | .tuple _=>some (n=="tuple")
 | .dict _=>none
noncomputable def Om (n:String):Bool:=n=="bool" || n=="int" || n=="str" || n=="list" || n=="tuple"
theorem Gr {K:PySem.W.Frag} {n:String} {d:PyData} {b:Bool} (hn:Om n=true) (e:Gq n d=some b):PySem.W.kitOne K (X7 d) (.type n)=some b:=by
 unfold Om at hn
 simp only [Bool.or_eq_true,beq_iff_eq] at hn
 rcases hn with (((rfl | rfl) | rfl) | rfl) | rfl <;> cases d <;> cases e <;> rfl
theorem Dd {n:String} {d:PyData} {b:Bool} (e:Gq n d=some b):∀kvs,d≠.dict kvs:=fun kvs z=>by subst z; cases e
theorem dX.ty {K:PySem.W.Frag} {Z Θ:List Addr} {env:En} {σ:St} {H:Hp} {d:PyData} {v:V} (h:dX Z Θ env σ H d v) (hd:∀kvs,d≠.dict kvs):mH K H v (X7 d):=by
 cases d with
 | none=>exact RX.ty (d:=.none) h
 | bool b=>exact RX.ty (d:=.bool b) h
 | int i=>exact RX.ty (d:=.int i) h
 | str z=>exact RX.ty (d:=.str z) h
 | list ds=>
  obtain ⟨a,vs,rfl,ha,r⟩:=h.lst
  exact .lst ha
 | tuple ds=>
  obtain ⟨a,vs,rfl,ha,r⟩:=h.tup
  exact .tup ha
 | dict kvs=>exact absurd rfl (hd kvs)
end L2
namespace L2
open PySem PySem.Spec PyProof.Rows PySem.W
noncomputable def pR (n:String) (f:FB):FE:=fun env C=>match f env C with
 | some (d,_,C1)=>match Gq n d with
  | some b=>some (.im (.bool b),env,C1)
  | none=>none
 | none=>none
noncomputable def De (m n:String) (f:FB):FE:=fun env C=>match f env C with
 | some (d,_,C1)=>match Gq m d,Gq n d with
  | some p,some q=>some (.im (.bool (p || q)),env,C1)
  | _,_=>none
 | none=>none
section
variable {X:Cx} {a t t':Expr} {p pos tp:Pos} {x1:Nat}
theorem jh {n:String} {f:FB} (hn:Om n=true) (ha:PE X a (lZ X.K f)) (ht:PE X t (tC (.ty n))) (hg:Gl X "isinstance") (hm:X.mg "isinstance"=none) (hv:bootBuiltins "isinstance"=some (.builtin "isinstance"))
  (he:starEach [a,t] X.env=(false,eval a X.env)::starEach [t] X.env:=by rfl) (he2:starEach [t] X.env=(false,eval t X.env)::starEach [] X.env:=by rfl) (hpl:(backTo pos (starEach [t] X.env)).any (·.1)=false:=by rfl):
  PE X (.Call (.Name "isinstance" p) [a,t] [] pos) (tE X.K (pR n f)):=
 (qi BP hg hm hv (cU ha (cU ht gq he2) he) (by decide) (by decide) he hpl).weak fun σ H Q aO=>by
  obtain ⟨Z,Θ,env,C,r,env',C',S,hf,q⟩:=aO
  unfold pR at hf
  split at hf
  case h_2=>cases hf
  rename_i d e1 C1 h1
  split at hf
  case h_2=>cases hf
  rename_i b hb
  cases hf
  refine ⟨Z,Θ,env,C,d,e1,C',S,h1,fun v H1 k f S1 b1=>⟨v,n,X7 d,b,rfl,b1.ty (Dd hb),Gr hn hb,q _ H1 k (Fz.refl _) ⟨S.go k S1.cell,rfl⟩⟩⟩
theorem RQ {m n:String} {f:FB} (hm':Om m=true) (hn:Om n=true) (ha:PE X a (lZ X.K f)) (ht:PE X t (tC (.ty m))) (ht':PE X t' (tC (.ty n))) (hg:Gl X "isinstance") (hm:X.mg "isinstance"=none) (hv:bootBuiltins "isinstance"=some (.builtin "isinstance"))
  (he:starEach [a,.Tuple [t,t'] x1 tp] X.env=(false,eval a X.env)::starEach [.Tuple [t,t'] x1 tp] X.env:=by rfl) (he2:starEach [.Tuple [t,t'] x1 tp] X.env=(false,eval (.Tuple [t,t'] x1 tp) X.env)::starEach [] X.env:=by rfl)
  (h3:starEach [t,t'] X.env=(false,eval t X.env)::starEach [t'] X.env:=by rfl) (h4:starEach [t'] X.env=(false,eval t' X.env)::starEach [] X.env:=by rfl)
  (hpl:(backTo pos (starEach [.Tuple [t,t'] x1 tp] X.env)).any (·.1)=false:=by rfl):
  PE X (.Call (.Name "isinstance" p) [a,.Tuple [t,t'] x1 tp] [] pos) (tE X.K (De m n f)):=
 (qi zL hg hm hv (cU ha (cU (EY (cU ht (cU ht' gq h4) h3)) gq he2) he) (by decide) (by decide) he hpl).weak fun σ H Q aO=>by
  obtain ⟨Z,Θ,env,C,r,env',C',S,hf,q⟩:=aO
  unfold De at hf
  split at hf
  case h_2=>cases hf
  rename_i d e1 C1 h1
  split at hf
  case h_2=>cases hf
  rename_i b b' hb hb'
  cases hf
  refine ⟨Z,Θ,env,C,d,e1,C',S,h1,fun v H1 k f S1 b1=>⟨by show 2≤sizeLine; rw [sizeLine_eq]; decide,fun c hc=>?_⟩⟩
  have kc:bA Θ H1 (upd H1 c (.tup [.ty m,.ty n])):=bA.upd hc
  have s2:=S1.vq (aP.upd (o:=.tup [.ty m,.ty n]) hc)
  have b2:=b1.go S1 kc (Fz.refl _)
  refine ⟨v,c,m,n,X7 d,b,b',rfl,aH,b2.ty (Dd hb),Gr hm' hb,Gr hn hb',q _ _ (k.trans kc) (Fz.refl _) ⟨S.go (k.trans kc) s2.cell,rfl⟩⟩
end
noncomputable def ins {α:Type} (lt:α→α→Bool) (x:α):List α→List α
 | []=>[x]
 | y::r=>if lt y x then y::ins lt x r else x::y::r
noncomputable def nj {α:Type} (lt:α→α→Bool):List α→List α
 | []=>[]
 | x::r=>ins lt x (nj lt r)
section
variable {α:Type} {lt:α→α→Bool}
theorem vQ (x:α):∀l:List α,(ins lt x l).Perm (x::l)
 | []=>List.Perm.refl _
 | y::r=>by
  unfold ins
  split
  ·exact ((vQ x r).cons y).trans (List.Perm.swap x y r)
  ·exact List.Perm.refl _
theorem ji:∀l:List α,(nj lt l).Perm l
 | []=>List.Perm.refl _
 | x::r=>(vQ x _).trans ((ji r).cons x)
structure yE (lt:α→α→Bool) (P:α→Prop):Prop where
 X8:∀a b,P a→P b→lt a b=true→lt b a=false
 neg:∀a b c,P a→P b→P c→lt a c=true→lt a b=true∨lt b c=true
 tot:∀a b,P a→P b→lt a b=false→lt b a=false→a=b
theorem Oo {P:α→Prop} (O:yE lt P) {x:α} (hx:P x):∀{l:List α},(∀y∈l,P y)→l.Pairwise (fun a b=>lt b a=false)→(ins lt x l).Pairwise (fun a b=>lt b a=false)
 | [],_,_=>List.pairwise_cons.mpr ⟨fun _ m=>(nomatch m),List.Pairwise.nil⟩
 | y::r,hp,h=>by
  rw [List.pairwise_cons] at h
  have py:=hp y List.mem_cons_self
  unfold ins
  split
  ·rename_i hl
   rw [List.pairwise_cons]
   refine ⟨fun z m=>?_,Oo O hx (fun z m=>hp z (List.mem_cons_of_mem _ m)) h.2⟩
   rcases List.mem_cons.mp ((vQ x r).mem_iff.mp m) with rfl | m
   ·exact O.X8 _ _ py hx hl
   ·exact h.1 z m
  ·rename_i hl
   have hl:lt y x=false:=by simpa using hl
   rw [List.pairwise_cons,List.pairwise_cons]
   refine ⟨fun z m=>?_,h.1,h.2⟩
   rcases List.mem_cons.mp m with rfl | m
   ·exact hl
   ·have pz:=hp z (List.mem_cons_of_mem _ m)
    cases hz:lt z x with
    | false=>rfl
    | true=>
     rcases O.neg z y x pz py hx hz with h1 | h1
     ·rw [h.1 z m] at h1; cases h1
     ·rw [hl] at h1; cases h1
theorem Df {P:α→Prop} (O:yE lt P):∀{l:List α},(∀y∈l,P y)→(nj lt l).Pairwise (fun a b=>lt b a=false)
 | [],_=>List.Pairwise.nil
 | x::r,hp=>Oo O (hp x List.mem_cons_self) (fun y m=>hp y (List.mem_cons_of_mem _ ((ji r).mem_iff.mp m))) (Df O fun y m=>hp y (List.mem_cons_of_mem _ m))
theorem Oq {P:α→Prop} (O:yE lt P):∀{l m:List α},(∀y∈l,P y)→l.Perm m→l.Pairwise (fun a b=>lt b a=false)→m.Pairwise (fun a b=>lt b a=false)→l=m
 | [],m,_,p,_,_=>(List.nil_perm.mp p).symm
 | x::r,[],_,p,_,_=>absurd p.length_eq (by simp)
 | x::r,y::t,hp,p,h1,h2=>by
  have pm:∀z∈y::t,P z:=fun z m=>hp z (p.mem_iff.mpr m)
  rw [List.pairwise_cons] at h1 h2
  have e:x=y:=by
   have m1:x∈y::t:=p.mem_iff.mp List.mem_cons_self
   have m2:y∈x::r:=p.mem_iff.mpr List.mem_cons_self
   rcases List.mem_cons.mp m1 with e | m1
   ·exact e
   ·rcases List.mem_cons.mp m2 with e | m2
    ·exact e.symm
    ·exact O.tot x y (hp x List.mem_cons_self) (pm y List.mem_cons_self) (h2.1 x m1) (h1.1 y m2)
  subst e
  rw [Oq O (fun z m=>hp z (List.mem_cons_of_mem _ m)) ((List.perm_cons x).mp p) h1.2 h2.2]
theorem IW {P:α→Prop} (O:yE lt P) {l m:List α} (hp:∀y∈l,P y) (p:m.Perm l) (h:m.Pairwise (fun a b=>lt b a=false)):m=nj lt l:=
 Oq O (fun y hy=>hp y (p.mem_iff.mp hy)) (p.trans (ji l).symm) h (Df O hp)
end
noncomputable def ltI (i j:Int):Bool:=decide (i < j)
theorem aaE:yE ltI (fun _=>True):=⟨fun a b _ _ h=>by unfold ltI at *; simp at *; omega,fun a b c _ _ _ h=>by unfold ltI at *; simp at *; omega,fun a b _ _ h1 h2=>by unfold ltI at *; simp at *; omega⟩
theorem Yt:yE strLt (fun _=>True):=by
 refine ⟨fun a b _ _ h=>?_,fun a b c _ _ _ h=>?_,fun a b _ _ h1 h2=>?_⟩
 ·exact Rj (a:=.inr a) (b:=.inr b) h
 ·exact VB (a:=.inr a) (b:=.inr b) (c:=.inr c) rfl rfl h
 ·exact Sum.inr.inj (VD (a:=.inr a) (b:=.inr b) rfl h1 h2)
noncomputable def strsOf:List PyData→Option (List Str)
 | []=>some []
 | .str i::r=>match strsOf r with
  | some t=>some (i::t)
  | none=>none
 | _=>none
theorem vR {E:Hp}:∀{ds:List PyData} {ns:List Str} {vs:List V},strsOf ds=some ns→dU E ds vs→vs=ns.map V.str
 | [],ns,vs,h,r=>by cases h; exact r
 | .str i::ds,ns,vs,h,r=>by
  unfold strsOf at h
  split at h
  ·rename_i t ht
   cases h
   obtain ⟨u,w,rfl,q,s⟩:=r
   rw [vR ht s]
   have:u=.str i:=q
   rw [this]
   rfl
  ·cases h
 | .none::_,_,_,h,_=>by cases h
 | .bool _::_,_,_,h,_=>by cases h
 | .int _::_,_,_,h,_=>by cases h
 | .list _::_,_,_,h,_=>by cases h
 | .tuple _::_,_,_,h,_=>by cases h
 | .dict _::_,_,_,h,_=>by cases h
noncomputable def sO:PyData→Option (List Bool)
 | .tuple xs=>(keysOf xs).map fun ks=>ks.map dD
 | _=>none
noncomputable def sU:Key→PyData
 | .inl i=>.int i
 | .inr x=>.str x
noncomputable def tX:PyData→List Key
 | .tuple xs=>(keysOf xs).getD []
 | _=>[]
noncomputable def sV (ds:List PyData):List PyData:=(vd (ds.map tX)).map fun k=>.tuple (k.map sU)
noncomputable def Dg (ds:List PyData):Option (List PyData):=if ds.length < 64 then match intsOf ds with
  | some ns=>some ((nj ltI ns).map .int)
  | none=>match strsOf ds with
   | some zs=>some ((nj strLt zs).map .str)
   | none=>match ds with
    | []=>some []
    | d::_=>match sO d with
     | some (b::sh)=>if (ds.all fun e=>decide (sO e=some (b::sh))) then some (sV ds) else none
     | _=>none
 else none
noncomputable def qP:List PyData→Option Vl
 | [.list ds]=>(Dg ds).map fun l=>.ow (.list l)
 | _=>none
noncomputable def Gs (K:PySem.W.Frag):List V→Hp→VK→Prop:=fun xs H Q=>((∃(p:Addr) (ns:List Int),xs=[.ref p]∧cM K H p (ns.map V.int)∧ns.length < 64∧∀(l:Addr) (ns':List Int),H l=none→ns'.Perm ns→ns'.Pairwise (·≤·)→Q (.ref l) (upd H l (.lst (ns'.map V.int))))∨
 ∃(p:Addr) (ns:List Str),xs=[.ref p]∧cM K H p (ns.map V.str)∧ns.length < 64∧∀(l:Addr) (ns':List Str),H l=none→ns'.Perm ns→sortedS ns'=true→Q (.ref l) (upd H l (.lst (ns'.map V.str))))∨
 ∃(p:Addr) (rows:List Row) (b:Bool) (sh:List Bool),xs=[.ref p]∧cM K H p (rows.map fun r=>V.ref r.1)∧rows.length < 64∧(∀r∈rows,H r.1=some (.tup (r.2.map kV))∧r.2.map dD=b::sh)∧∀(l:Addr) (rows':List Row),H l=none→rows'.Perm rows→rows'.map (·.2)=vd (rows.map (·.2))→Q (.ref l) (upd H l (.lst (rows'.map fun r=>V.ref r.1)))
theorem Gu {X:Cx}:cJ X (.builtin "sorted") (Gs X.K):=(rQ.or rR).or qD
theorem sortI {ns ns':List Int} (p:ns'.Perm ns) (h:ns'.Pairwise (·≤·)):ns'=nj ltI ns:=IW aaE (fun _ _=>trivial) p (h.imp fun {a b} hab=>by unfold ltI; simp; exact hab)
theorem Ot:∀{x:Str} {r:List Str},risingS x r=true→(x::r).Pairwise (fun a b=>strLt b a=false)
 | x,[],_=>List.pairwise_cons.mpr ⟨fun _ m=>(nomatch m),List.Pairwise.nil⟩
 | x,y::r,h=>by
  unfold risingS at h
  rw [Bool.and_eq_true,Bool.not_eq_true'] at h
  have ih:=Ot h.2
  have hxy:strLt y x=false:=by
   have:=h.1
   unfold strLt
   rw [lt_meets]
   exact this
  rw [List.pairwise_cons]
  refine ⟨fun z m=>?_,ih⟩
  rcases List.mem_cons.mp m with rfl | m
  ·exact hxy
  ·rw [List.pairwise_cons] at ih
   cases hz:strLt z x with
   | false=>rfl
   | true=>
    rcases Yt.neg z y x trivial trivial trivial hz with h1 | h1
    ·rw [ih.1 z m] at h1; cases h1
    ·rw [hxy] at h1; cases h1
theorem Ou {ns ns':List Str} (p:ns'.Perm ns) (h:sortedS ns'=true):ns'=nj strLt ns:=IW Yt (fun _ _=>trivial) p (by
 cases ns' with
 | nil=>exact List.Pairwise.nil
 | cons x r=>exact Ot h)
theorem qQ:∀{xs:List PyData} {ks:List Key},keysOf xs=some ks→xs=ks.map sU
 | [],ks,h=>by cases h; rfl
 | x::xs,ks,h=>by
  unfold keysOf at h
  split at h
  ·rename_i k t h1 h2
   cases h
   rw [qQ h2]
   have:x=sU k:=by
    cases x <;> first | (cases h1; rfl) | cases h1
   rw [this]
   rfl
  ·cases h
theorem nq:∀ks:List Key,keysOf (ks.map sU)=some ks
 | []=>rfl
 | k::ks=>by
  show (match cN (sU k),keysOf (ks.map sU) with | some k,some t=>some (k::t) | _,_=>none)=_
  rw [nq ks]
  cases k <;> rfl
theorem Ks {ds:List PyData} {rows rows':List Row} (e:ds=rows.map (fun r=>.tuple (r.2.map sU))) (h:rows'.map (·.2)=vd (rows.map (·.2))):(rows'.map fun r=>PyData.tuple (r.2.map sU))=sV ds:=by
 have e1:ds.map tX=rows.map (·.2):=by
  rw [e,List.map_map]
  refine List.map_congr_left fun r _=>?_
  show (keysOf (r.2.map sU)).getD []=r.2
  rw [nq]
  rfl
 unfold sV
 rw [e1,←h,List.map_map]
 rfl
theorem yF {ds:List PyData} (h:∀d∈ds,(sO d).isSome=true):(sV ds).Perm ds:=by
 have:=(J9 (ds.map tX)).map fun k=>PyData.tuple (k.map sU)
 refine this.trans (List.Perm.of_eq ?_)
 rw [List.map_map]
 refine (List.map_congr_left fun d hd=>?_).trans (List.map_id ds)
 have hs:=h d hd
 cases d with
 | tuple xs=>
  show PyData.tuple (((keysOf xs).getD []).map sU)=.tuple xs
  cases hk:keysOf xs with
  | none=>
   have hs:((keysOf xs).map fun ks=>ks.map dD).isSome=true:=hs
   rw [hk] at hs
   cases hs
  | some ks=>rw [qQ hk]; rfl
 | _=>cases hs
theorem vU {E:Hp} {sh:List Bool}:∀{ds:List PyData} {vs:List V},(∀d∈ds,sO d=some sh)→dU E ds vs→∃rows:List Row,vs=rows.map (fun r=>V.ref r.1)∧ds=rows.map (fun r=>.tuple (r.2.map sU))∧∀r∈rows,E r.1=some (.tup (r.2.map kV))∧r.2.map dD=sh
 | [],vs,_,r=>⟨[],r,rfl,fun _ m=>(nomatch m)⟩
 | d::ds,vs,h,r=>by
  obtain ⟨u,w,rfl,q,s⟩:=r
  obtain ⟨rows,e1,e2,e3⟩:=vU (fun d m=>h d (List.mem_cons_of_mem _ m)) s
  have hd:=h d List.mem_cons_self
  cases d <;> first | cases hd | skip
  rename_i xs
  have hd:(keysOf xs).map (fun ks=>ks.map dD)=some sh:=hd
  cases hk:keysOf xs with
  | none=>rw [hk] at hd; cases hd
  | some ks=>
   rw [hk] at hd
   obtain ⟨a,vs',rfl,ha,rr⟩:=q
   rw [iU hk rr] at ha
   refine ⟨(a,ks)::rows,by rw [e1]; rfl,by rw [e2,qQ hk]; rfl,fun r m=>?_⟩
   rcases List.mem_cons.mp m with rfl | m
   ·exact ⟨ha,Option.some.inj hd⟩
   ·exact e3 r m
theorem nA {E:Hp}:∀{rows:List Row},(∀r∈rows,E r.1=some (.tup (r.2.map kV)))→dU E (rows.map fun r=>.tuple (r.2.map sU)) (rows.map fun r=>V.ref r.1)
 | [],_=>rfl
 | r::rows,h=>by
  refine ⟨_,_,rfl,⟨r.1,r.2.map kV,rfl,h r List.mem_cons_self,?_⟩,nA fun r m=>h r (List.mem_cons_of_mem _ m)⟩
  generalize r.2=ks
  induction ks with
  | nil=>rfl
  | cons k ks ih=>exact ⟨_,_,rfl,by cases k <;> rfl,ih⟩
theorem Dh:∀{ds:List PyData} {ns:List Int},intsOf ds=some ns→ds=ns.map .int
 | [],ns,h=>by cases h; rfl
 | .int i::ds,ns,h=>by
  unfold intsOf at h
  split at h
  ·rename_i t ht; cases h; rw [Dh ht]; rfl
  ·cases h
 | .none::_,_,h=>by cases h
 | .bool _::_,_,h=>by cases h
 | .str _::_,_,h=>by cases h
 | .list _::_,_,h=>by cases h
 | .tuple _::_,_,h=>by cases h
 | .dict _::_,_,h=>by cases h
theorem vV:∀{ds:List PyData} {ns:List Str},strsOf ds=some ns→ds=ns.map .str
 | [],ns,h=>by cases h; rfl
 | .str i::ds,ns,h=>by
  unfold strsOf at h
  split at h
  ·rename_i t ht; cases h; rw [vV ht]; rfl
  ·cases h
 | .none::_,_,h=>by cases h
 | .bool _::_,_,h=>by cases h
 | .int _::_,_,h=>by cases h
 | .list _::_,_,h=>by cases h
 | .tuple _::_,_,h=>by cases h
 | .dict _::_,_,h=>by cases h
theorem Ku {K:PySem.W.Frag}:Bm K (Gs K) qP:=by
 intro Z Θ env C σ H xs ds0 res S b e Q q
 unfold qP at e
 split at e
 case h_2=>cases e
 rename_i ds
 cases hs:Dg ds with
 | none=>rw [hs] at e; cases e
 | some l=>
  rw [hs] at e
  cases e
  obtain ⟨v,rfl,bb⟩:=jA b
  obtain ⟨a,vs,rfl,ha,r⟩:=bb.lst
  unfold Dg at hs
  split at hs
  case isFalse=>cases hs
  rename_i hl
  split at hs
  ·rename_i ns hns
   cases hs
   have ev:=vM hns r
   subst ev
   refine .inl (.inl ⟨a,ns,rfl,cM.of ha,by rw [Dh hns,List.length_map] at hl; exact hl,fun l ns' hn p hp=>?_⟩)
   rw [sortI p hp]
   exact q _ _ (bA.upd hn) (dI S (Nj _) hn)
  ·split at hs
   ·rename_i ns hns
    cases hs
    have ev:=vR hns r
    subst ev
    refine .inl (.inr ⟨a,ns,rfl,cM.of ha,by rw [vV hns,List.length_map] at hl; exact hl,fun l ns' hn p hp=>?_⟩)
    rw [Ou p hp]
    exact q _ _ (bA.upd hn) (dI S (Cq _) hn)
   ·split at hs
    ·cases hs
     cases (show vs=[] from r)
     exact .inl (.inl ⟨a,[],rfl,cM.of ha,by decide,fun l ns' hn p hp=>by
      rw [List.perm_nil.mp p]
      exact q _ _ (bA.upd hn) (dI S rfl hn)⟩)
    ·rename_i d0 dr hi1 hi2
     split at hs
     case h_2=>cases hs
     rename_i b0 sh hsh
     split at hs
     case isFalse=>cases hs
     rename_i hall
     cases hs
     have hall':∀d∈d0::dr,sO d=some (b0::sh):=fun d m=>of_decide_eq_true (List.all_eq_true.mp hall d m)
     obtain ⟨rows,e1,e2,e3⟩:=vU hall' r
     subst e1
     refine .inr ⟨a,rows,b0,sh,rfl,cM.of ha,?_,fun r m=>⟨bJ (e3 r m).1,(e3 r m).2⟩,fun l rows' hn p hp=>?_⟩
     ·have:=congrArg List.length e2
      rw [List.length_map] at this
      rw [←this]
      exact hl
     ·have es:(rows'.map fun r=>PyData.tuple (r.2.map sU))=sV (d0::dr):=Ks e2 hp
      rw [←es] at q
      exact q _ _ (bA.upd hn) (dI S (nA fun r m=>(e3 r (p.mem_iff.mp m)).1) hn)
noncomputable def qR (ds:List PyData):Option (List PyData):=if ds.length < 64 then match strsOf ds with
  | some ns=>some ((nj strLt (dedup ns)).map .str)
  | none=>none
 else none
section
variable {X:Cx} {l:Expr} {f:FB} {p1 p2 pos1 pos2:Pos}
end
end L2
namespace L2
open PySem PySem.Spec PyProof.Rows PySem.W
noncomputable def Ac:PyData→PyData→Option Vl
 | .str z,.list ds=>match strsOf ds with
  | some ys=>if (ys.map (·.length)).sum + ys.length * z.length≤LIM then some (.im (.str (Txt.join z ys))) else none
  | none=>none
 | _,_=>none
noncomputable def nC (f g:FB):FE:=aF Ac f g
theorem Ad {X:Cx} {o e:Expr} {f g:FB} {apos cpos:Pos} (ho:PE X o (lZ X.K f)) (he:PE X e (lZ X.K g))
  (hbase:attributeBase o "join" X.env (eval o X.env)=eval o X.env:=by rfl)
  (hfew:((backTo cpos (starEach [e] X.env)).all (fun x=>!x.1)&&(backToKw cpos (keywordEach [] X.env)).all (fun x=>x.1.isSome)
   &&decide (([e]:List Expr).length + ([]:List Keyword).length + (if ([]:List Keyword).isEmpty then 0 else 1) < 30))=true:=by rfl)
  (hline:(apos.endLine==cpos.line)=true:=by rfl) (hs:starEach [e] X.env=(false,eval e X.env)::starEach [] X.env:=by rfl) (hplain:(backTo cpos (starEach [] X.env)).any (·.1)=false:=by rfl):
  PE X (.Call (.Attribute o "join" apos) [e] [] cpos) (tE X.K (nC f g)):=
 (Bv PySem.F.plainAttrs_str PySem.F.slot_str_join PySem.F.type_str_join (Mq.r Rb) ho (cU he gq hs) hbase hfew hline hs hplain).weak fun σ H Q aO=>by
  obtain ⟨Z,Θ,env,C,r,env',C',S,hf,q⟩:=aO
  unfold nC aF at hf
  split at hf
  case h_2=>cases hf
  rename_i x e1 C1 h1
  split at hf
  case h_2=>cases hf
  rename_i y e2 C2 h2
  split at hf
  case h_2=>cases hf
  rename_i r0 h3
  cases hf
  refine ⟨Z,Θ,env,C,x,e1,C1,S,h1,fun v H1 k1 f1 S1 b1=>?_⟩
  unfold Ac at h3
  split at h3
  case h_2=>cases h3
  rename_i z ds
  split at h3
  case h_2=>cases h3
  rename_i ys hys
  split at h3
  case isFalse=>cases h3
  rename_i hl
  cases h3
  cases b1.str
  refine ⟨rfl,Z,Θ,e1,C1,_,e2,C',S1,h2,fun w H2 k2 f2 S2 b2=>?_⟩
  obtain ⟨a,vs,rfl,ha,rr⟩:=b2.lst
  rw [vR hys rr] at ha
  have kk:=k1.trans k2
  refine ⟨z,a,ys,rfl,rfl,cM.of ha,by unfold LIM at hl; omega,?_⟩
  exact q _ H2 kk ((f1.trans f2).rst _) (Res.rst S kk ⟨S2,rfl⟩)
noncomputable abbrev FO:=En→Ce→Option (Option Int×Ce)
inductive Yu (K:PySem.W.Frag) (f:FO) (σ:St) (H:Hp) (Q:Option Int→Hp→Prop):Prop
 | mk (Z Θ:List Addr) (env:En) (C:Ce) (o:Option Int) (C':Ce) (S:Sm K Z Θ env C σ H) (hf:f env C=some (o,C')) (q:∀H',bA Θ H H'→Sm K Z Θ env C' σ H'→Q o H'):Yu K f σ H Q
noncomputable def I9:FO:=fun _ C=>some (none,C)
noncomputable def tY (f:FB):FO:=fun env C=>match f env C with
 | some (.int i,_,C1)=>some (some i,C1)
 | _=>none
noncomputable def xK {α:Type} (xs:List α) (lo hi:Option Int):List α:=(xs.drop (HT.dY xs.length 0 lo)).take (HT.dY xs.length xs.length hi - HT.dY xs.length 0 lo)
noncomputable def Ov (lo hi:Option Int):PyData→Option Vl
 | .str z=>if z.length≤LIM then some (.im (.str (Txt.slice z lo hi))) else none
 | .list ds=>some (.ow (.list (xK ds lo hi)))
 | .tuple ds=>some (.im (.tuple (xK ds lo hi)))
 | _=>none
noncomputable def wX (f:FB) (lo hi:FO):FE:=fun env C=>match f env C with
 | some (d,e1,C1)=>match lo e1 C1 with
  | some (l,C2)=>match hi e1 C2 with
   | some (h,C3)=>match Ov l h d with
    | some r=>some (r,rst r env e1,C3)
    | none=>none
   | none=>none
  | none=>none
 | none=>none
theorem Ae {E:Hp} {ds:List PyData} {vs:List V} {lo hi:Option Int} (r:dU E ds vs):dU E (xK ds lo hi) (uQ vs lo hi):=by
 unfold xK uQ
 rw [bB r]
 exact Cm _ (Cp _ r)
section
variable {X:Cx} {e:Expr} {lo hi:Option Expr} {pos p2:Pos}
theorem PO.weak {o:Option Expr} {t t':TO} (h:PO X o t) (w:∀σ H Q,t' σ H Q→t σ H Q):PO X o t':=fun pins s σ H Q I q=>h pins s σ H Q I (w σ H Q q)
theorem Ja:PO X none (Yu X.K I9):=QT.weak fun σ H Q aO=>by
 obtain ⟨Z,Θ,env,C,o,C',S,hf,q⟩:=aO
 cases hf
 exact q H (bA.refl _ _) S
theorem lU {f:FB} (h:PE X e (lZ X.K f)):PO X (some e) (Yu X.K (tY f)):=(QV h).weak fun σ H Q aO=>by
 obtain ⟨Z,Θ,env,C,o,C',S,hf,q⟩:=aO
 unfold tY at hf
 split at hf
 ·rename_i i e1 C1 h1
  cases hf
  exact ⟨Z,Θ,env,C,_,e1,C',S,h1,fun v H1 k f S1 b1=>⟨i,b1,q H1 k (S.go k S1.cell)⟩⟩
 ·cases hf
theorem tZ {f:FB} {flo fhi:FO} (he:PE X e (lZ X.K f)) (hl:PO X lo (Yu X.K flo)) (hh:PO X hi (Yu X.K fhi)):PE X (.Subscript e (.Slice lo hi none p2) pos) (tE X.K (wX f flo fhi)):=(Mj ((Vv.or QZ).or Rk) he hl hh).weak fun σ H Q aO=>by
 obtain ⟨Z,Θ,env,C,r,env',C',S,hf,q⟩:=aO
 unfold wX at hf
 split at hf
 case h_2=>cases hf
 rename_i d e1 C1 h1
 split at hf
 case h_2=>cases hf
 rename_i l C2 h2
 split at hf
 case h_2=>cases hf
 rename_i h C3 h3
 split at hf
 case h_2=>cases hf
 rename_i r0 h4
 cases hf
 refine ⟨Z,Θ,env,C,d,e1,C1,S,h1,fun v H1 k1 f1 S1 b1=>⟨Z,Θ,e1,C1,l,C2,S1,h2,fun H2 k2 S2=>⟨Z,Θ,e1,C2,h,C',S2,h3,fun H3 k3 S3=>?_⟩⟩⟩
 have kk:=(k1.trans k2).trans k3
 have b3:=b1.go S1 (k2.trans k3) (Fz.refl _)
 have fin:∀{w:V} {H4:Hp},bA Θ H3 H4→Res X.K Z Θ e1 C' σ H3 H4 r w→Q w H4:=fun {w H4} k4 R=>q w H4 (kk.trans k4) (f1.rst _) ((R.from kk).rst S (kk.trans k4))
 cases d <;> first | cases h4 | skip
 ·rename_i z
  simp only [Ov] at h4
  split at h4
  ·rename_i hz
   cases h4
   cases b3.str
   exact .inl (.inl ⟨z,rfl,d7 hz,fin (bA.refl _ _) (bh S3 rfl rfl)⟩)
  ·cases h4
 ·obtain ⟨a,vs,rfl,ha,rr⟩:=b3.lst
  exact .inl (.inr ⟨a,vs,rfl,cM.of ha,fun p hp=>fin (bA.upd hp) (dI S3 (Ae rr) hp)⟩)
 ·rename_i ds
  have b3':=b3
  obtain ⟨a,vs,rfl,ha,rr⟩:=b3.tup
  refine .inr ⟨a,vs,rfl,ig.of ha,fun ec=>?_,fun p hp=>fin (bA.upd hp) (uB S3 (Ae rr) hp)⟩
  have rc:=Ae (lo:=l) (hi:=h) rr
  rw [ec] at rc
  refine fin (bA.refl _ _) ⟨S3,a,vs,rfl,sr S3 ha,rc⟩
end
noncomputable def t7 (T:oR) (ft:FT) (fk fv:FE) (fs:En):List PyData→List (PyData×PyData)→Ce→Option (List (PyData×PyData)×Ce)
 | [],acc,C=>some (acc,C)
 | d::r,acc,C=>match V9 T d with
  | some ts=>match ft (jW ts++fs) C with
   | some (false,C1)=>t7 T ft fk fv fs r acc C1
   | some (true,C1)=>match fk (jW ts++fs) C1 with
    | some (.im k,_,C2)=>match fv (jW ts++fs) C2 with
     | some (x,_,C3)=>match still x,cN k with
      | .im y,some kk=>if acc.length < LIM then t7 T ft fk fv fs r (oN cN kk k y acc) C3 else none
      | _,_=>none
     | none=>none
    | _=>none
   | none=>none
  | none=>none
noncomputable def Gv:List (PyData×PyData)→Bool
 | []=>true
 | p::r=>xF p.2&&Gv r
noncomputable def Yv (fi:FI) (T:oR) (ft:FT) (fk fv:FE) (js:List Nat):FE:=fun env C=>match fi env C with
 | some (its,e1,C1)=>match t7 T ft fk fv (frB js e1) its [] C1 with
  | some (kvs,C2)=>some (.ow (.dict kvs),if Gv kvs then e1 else oE js e1,C2)
  | none=>none
 | none=>none
theorem pL.xF {H H':Hp} (t:∀a vs,H a=some (.tup vs)→H' a=some (.tup vs)):∀{ds:List (PyData×PyData)} {vs:List V},Gv ds=true→pL H ds vs→pL H' ds vs
 | [],_,_,h=>h
 | (k,d)::ds,vs,n,h=>by
  obtain ⟨v,r,e,q,w⟩:=h
  have n':L2.xF d=true∧Gv ds=true:=by rw [Gv,Bool.and_eq_true] at n; exact n
  exact ⟨v,r,e,RZ.xF t n'.1 q,pL.xF t n'.2 w⟩
theorem RT {K:PySem.W.Frag} {fi:FI} {T:oR} {ft:FT} {fk fv:FE} {js:List Nat}:∀σ H Q,tE K (Yv fi T ft fk fv js) σ H Q→tDC K (tI K true fi) T (fun _=>mF K ft) (fun _=>tE K fk) (fun _=>tE K fv) js σ H Q:=by
 rintro σ H Q ⟨Z,Θ,env,C,res,env',C',S,hf,q⟩
 unfold Yv at hf
 split at hf
 case h_2=>cases hf
 rename_i its e1 C1 h1
 split at hf
 case h_2=>cases hf
 rename_i kvs C2 h2
 cases hf
 refine ⟨Z,Θ,env,C,its,e1,C1,S,h1,fun J H1 k1 f1 S1 it D hD b=>?_⟩
 have Qv:=S1.fz (m8 js e1)
 have it':xH (aK Z Θ e1 σ) Θ H1 J its:=it
 let PB:=aK (lA D Z (oE js e1) σ) Θ [] []
 have CW:∀a,a∈PB ↔ a=D∨a∈aK Z Θ (oE js e1) σ:=fun a=>eO (js:=js) rfl
 have dPB:D∈PB:=(CW D).mpr (.inl rfl)
 refine ⟨fun i m H2=>m=its.length - i∧i≤its.length∧∃acc ks gm C2,bA Θ H1 H2∧dW Θ C2 H2∧b7 cN acc=some ks∧H2 D=some (.dK (ks.zip gm))∧pL (er PB H2) acc gm∧t7 T ft fk fv (frB js e1) (its.drop i) acc C2=some (kvs,C'),
  ⟨its.length,rfl,Nat.zero_le _,[],[],[],C1,bA.upd hD,⟨S1.cell.len,fun n b ns e2 e3=>?_⟩,rfl,aH,rfl,h2⟩,?_⟩
 ·have:=S1.cell.at_ n b ns e2 e3
  rw [aJ (aZ this hD)]
  exact this
 rintro i m H2 ⟨rfl,hi,acc,ks,gm,Ci,ki,ci,hks,hDi,ri,hc⟩
 have Yo:aP (er (aK Z Θ e1 σ) H1) (er PB H2):=fj ki S1.H9 fun b m=>by
  rcases (CW b).mp m with rfl | m
  ·exact .inr hD
  ·exact .inl ((m8 js e1).sub b m)
 have Yp:Sm K (lA D Z (oE js e1) σ) Θ (jW []++frB js e1) Ci (([]:List V).map some++frees js σ) H2:=Qv.blk hD ki ⟨_,hDi,fun _ z=>nomatch z⟩ ci (show dU _ [] [] from rfl)
 have Og:∀a∈PB,H2 a≠none:=fun a m=>by
  have:=Yp.zQ a ((eO (js:=js) (lz (env:=jW []++frB js e1) pQ)).mpr ((CW a).mp m))
  exact this
 obtain ⟨V7,V8⟩:=it' i H2 PB Yo (zR ki) Og
 cases hd:its[i]? with
 | none=>
  have hi2:i=its.length:=by
   have:=List.getElem?_eq_none_iff.mp hd
   omega
  rw [hi2,List.drop_length] at hc
  cases hc
  refine .inl ⟨V8 hi2,q _ H2 (k1.trans ki) ?_ ?_⟩
  ·split
   ·exact f1
   ·exact f1.trans (m8 js e1)
  ·refine ⟨D,rfl,k1.none hD,?_⟩
   split
   ·rename_i hn
    have SD:=S1.vJ hD ki ⟨_,hDi,fun _ z=>nomatch z⟩ ci
    exact ⟨SD,gm,.inl ⟨ks,hks,hDi⟩,ri.xF (fun a vs e=>sr SD (bJ e)) hn⟩
   ·have SD:=Qv.vJ hD ki ⟨_,hDi,fun _ z=>nomatch z⟩ ci
    refine ⟨SD,gm,.inl ⟨ks,hks,hDi⟩,?_⟩
    have:er PB H2=er (aK (D::Z) Θ (oE js e1) σ) H2:=iC fun a=>by
     rw [CW]
     show _ ↔ a∈D::aK Z Θ (oE js e1) σ
     rw [List.mem_cons]
    rw [←this]
    exact ri
 | some d=>
  have hlt:i < its.length:=(List.getElem?_eq_some_iff.mp hd).1
  have ed:its.drop i=d::its.drop (i + 1):=by
   rw [List.drop_eq_getElem_cons hlt]
   obtain ⟨_,e⟩:=List.getElem?_eq_some_iff.mp hd
   rw [e]
  rw [ed] at hc
  unfold t7 at hc
  obtain ⟨go,yl⟩:=V7 d hd
  refine .inr ⟨go,fun x H3 y=>?_⟩
  obtain ⟨s3,r3⟩:=yl x H3 y
  split at hc
  case h_2=>cases hc
  rename_i ts ht
  obtain ⟨vs,tv,rvs⟩:=Oe (K:=K) ht r3 (tR _ _)
  refine ⟨vs,tv,?_⟩
  have k3:bA Θ H1 H3:=ki.trans (bA.of s3)
  have Kr:H3 D=some (.dK (ks.zip gm)):=s3 _ _ hDi
  have c3:dW Θ Ci H3:=⟨ci.len,fun n b ns e2 e3=>s3 _ _ (ci.at_ n b ns e2 e3)⟩
  have r3':pL (er PB H3) acc gm:=ri.same (qF s3)
  have SB:Sm K (lA D Z (oE js e1) σ) Θ (jW ts++frB js e1) Ci (vs.map some++frees js σ) H3:=Qv.blk hD k3 ⟨_,Kr,fun _ z=>nomatch z⟩ c3 rvs
  have xJ:D∉Θ:=fun m=>(S1.cell.dom D m).ne hD
  have stay:∀{Hx Hy:Hp},bA Θ Hx Hy→Hx D=some (.dK (ks.zip gm))→pL (er PB Hx) acc gm→Hy D=some (.dK (ks.zip gm))∧pL (er PB Hy) acc gm:=fun {Hx Hy} kk h1 h2=>
   ⟨kk.keep _ _ h1 xJ,h2.same (fj kk (fun a m=>(CW a).mpr (.inr (bz.mpr (.inr (.inl m))))) fun a m=>.inl m)⟩
  have ePB:∀{eB:En} (Hx:Hp),Fz (jW ts++frB js e1) eB→er (aK (lA D Z (oE js e1) σ) Θ eB (vs.map some++frees js σ)) Hx=er PB Hx:=fun {eB} Hx fz=>iC fun a=>by
   have noB:aV eB (vs.map some++frees js σ)=[]:=by
    have:=(Fz.own (σ:=vs.map some++frees js σ) fz)
    rw [lz pQ] at this
    exact List.sublist_nil.mp this
   rw [eO (js:=js) noB,CW]
  split at hc
  ·rename_i Ct Oh
   refine ⟨_,Θ,_,Ci,false,Ct,SB,Oh,fun H4 k4 S4=>w5 ⟨its.length - (i + 1),by omega,rfl,hlt,acc,ks,gm,Ct,k3.trans k4,S4.cell,hks,(stay k4 Kr r3').1,(stay k4 Kr r3').2,hc⟩⟩
  ·rename_i Ct Oh
   split at hc
   case h_2=>cases hc
   rename_i kd eK CK hfk
   split at hc
   case h_2=>cases hc
   rename_i xr eB CB hfv
   split at hc
   case h_2=>cases hc
   rename_i yd kk Yq hkd
   split at hc
   case isFalse=>cases hc
   rename_i hlm
   refine ⟨_,Θ,_,Ci,true,Ct,SB,Oh,fun H4 k4 S4=>w6 ⟨_,Θ,_,Ct,_,eK,CK,S4,hfk,fun y H5 k5 f5 R5=>?_⟩⟩
   have S5:=S4.go k5 R5.1.cell
   refine ⟨_,Θ,_,CK,xr,eB,CB,S5,hfv,fun z H6 k6 f6 R6=>?_⟩
   obtain ⟨S6,r6⟩:=R6.oX Yq
   obtain ⟨hD4,r4⟩:=stay k4 Kr r3'
   obtain ⟨Yr,Zr⟩:=stay k5 hD4 r4
   obtain ⟨hD6,r6'⟩:=stay k6 Yr Zr
   rw [ePB H6 f6] at r6
   have yk:y=kV kk:=Nv hkd R5.2
   obtain ⟨ks',vs',g3,g4,g5⟩:=uD hkd r6 hks r6'
   refine ⟨ks.zip gm,kk,hD6,yk,?_,its.length - (i + 1),by omega,rfl,hlt,oN cN kk kd yd acc,ks',vs',CB,?_,?_,g3,by rw [g5]; exact aH,?_,hc⟩
   ·rw [List.length_zip,sizeLine_eq,gM hks]
    unfold LIM at hlm
    omega
   ·have kk':=((k3.trans k4).trans k5).trans k6
    refine ⟨fun a o ha na=>?_,fun a ha=>?_⟩
    ·rw [aJ (aZ ha hD)]
     exact kk'.keep _ _ ha na
    ·by_cases z:a=D
     ·subst z; rw [aH]; exact Option.some_ne_none _
     ·rw [aJ z]; exact kk'.dom a ha
   ·refine ⟨S6.cell.len,fun n b ns e2 e3=>?_⟩
    rw [aJ]
    ·exact S6.cell.at_ n b ns e2 e3
    ·intro z
     subst z
     exact xJ (List.mem_of_getElem? e2)
   ·rw [z8 dPB]
    exact g4
  ·cases hc
section
variable {X:Cx} {NT NF:List Str} {js:List Nat} {kx vx tg iter:Expr} {ifs:List Expr} {T:oR} {fi:FI} {ft:FT} {fk fv:FE} {scope:Scope} {pos:Pos}
theorem Ow {i:Nat} {y:Str} {pos' spos:Pos} (B:mL X NT NF js scope) (tk:um tg NT T) (hc:X.calm=true) (hu:X.A.units + 1 < cLine) (hi:PI X tg iter (tI X.K true fi))
  (hin:∀b,Hz (X.bk (NT++NF) scope b) ifs (mF X.K ft)∧PE (X.bk (NT++NF) scope b) kx (tE X.K fk)∧PE (X.bk (NT++NF) scope b) vx (tE X.K fv))
  (hsw:swapsWith (.DictComp kx vx [⟨tg,iter,ifs,0⟩] scope pos) (some (.Name y pos')) spos.line X.env=pure true) (hN:X.N.Nodup) (hI:X.N[i]?=some y) (hy:X.env.scope.names.lookup y=some .local)
  (hs:∀x,foldedSetIterable iter X.env x=pure x:=by intro _; rfl):PS X (.Assign [.Name y pos'] (.DictComp kx vx [⟨tg,iter,ifs,0⟩] scope pos) spos) (tS X.K (fSet i (Yv fi T ft fk fv js))):=(MK B tk hc hu hi hin hsw hN hI hy hs).weak (CP RT)
end
end L2
namespace L2
open PySem PySem.Spec PyProof.Rows PySem.W
section
variable {X:Cx}
theorem Af (hc:X.calm=true):cJ X (.type "list") (fun xs H Q=>∃(d:Addr) (kvs:List (Key×V)),xs=[.ref d]∧H d=some (.dK kvs)∧∀l,H l=none→Q (.ref l) (upd H l (.lst (kvs.map fun kv=>kV kv.1)))):=by
 intro pins s σ H xs us Q I r h
 obtain ⟨d,kvs,rfl,hd,q⟩:=h
 obtain ⟨u,rfl,ru⟩:=vals1 r
 cases ru
 obtain ⟨z,lo,vs,rel,dd⟩:=I.hok d _ hd
 obtain ⟨ep,da⟩:=dd.dictAt
 have lv:vs.length=kvs.length:=(Paired.length rel).symm
 refine kdl_call (kdl_dict (knd:=bY X.prog X.w) (ep:=ep) lo) (I.ok.hd hc) da (by rw [lv]; exact z) fun h' tk acc' c' kp e hacc=>?_
 have hl:Vals (kvs.map fun kv=>kV kv.1) acc'.toList:=by
  have h2:acc'.toList.length=vs.length:=by rw [Array.length_toList]; exact hacc.1
  have h3:∀i v,acc'.toList[i]?=some v→∃k x,vs[i]?=some (k,x)∧(bY X.prog X.w).is k v=true:=fun i v e=>hacc.2 i v (by rw [←Array.getElem?_toList]; exact e)
  clear e hacc dd da
  generalize acc'.toList=us at h2 h3
  clear hd q z lv
  induction rel generalizing us with
  | nil=>
   cases us with
   | nil=>exact .nil
   | cons _ _=>cases h2
  | @cons p w ps ws hp _ ih=>
   cases us with
   | nil=>cases h2
   | cons u us=>
    refine .cons ?_ (ih us (by simpa using h2) fun i v e=>by simpa using h3 (i + 1) v (by simpa using e))
    obtain ⟨k,x,e1,e2⟩:=h3 0 u rfl
    simp at e1
    have ek:k=p.1:=by rw [hp.1,e1]
    subst ek
    rcases bZ e2 with ⟨i,t,e3,e4⟩ | ⟨y,t,e3,e4⟩
    ·show RelV (kV p.1) u
     rw [e3,e4]; exact ⟨t,rfl⟩
    ·show RelV (kV p.1) u
     rw [e3,e4]; exact ⟨t,rfl⟩
 refine ⟨.ref s.heap.objs.size,_,I.laid (t':=tk) kp (Nat.le_refl _) (show bL X.prog X.w _ h' _ (.lst (kvs.map fun kv=>kV kv.1)) from ⟨by rw [List.length_map]; exact z,acc'.toList,c',hl,by simpa using e⟩),rfl,q _ (I.hok.fresh (Nat.le_refl _))⟩
noncomputable def uE:List PyData→Option Vl
 | [.list ds]=>some (.ow (.list ds))
 | [.tuple ds]=>some (.ow (.list ds))
 | [.dict kvs]=>if (b7 cN kvs).isSome then some (.ow (.list (kvs.map (·.1)))) else none
 | _=>none
noncomputable def Ox (K:PySem.W.Frag):List V→Hp→VK→Prop:=fun xs H Q=>(∃p ys,xs=[.ref p]∧(cM K H p ys∨ig K H p ys)∧∀l,H l=none→Q (.ref l) (upd H l (.lst ys)))∨∃(d:Addr) (kvs:List (Key×V)),xs=[.ref d]∧H d=some (.dK kvs)∧∀l,H l=none→Q (.ref l) (upd H l (.lst (kvs.map fun kv=>kV kv.1)))
theorem Gw (hc:X.calm=true):cJ X (.type "list") (Ox X.K):=zH.or (Af hc)
theorem Di {E:Hp}:∀{kvs:List (PyData×PyData)} {ks:List Key} {vs:List V},b7 cN kvs=some ks→ks.length=vs.length→dU E (kvs.map (·.1)) ((ks.zip vs).map fun kv=>kV kv.1)
 | [],ks,vs,h,_=>by cases h; rfl
 | (p,d)::kvs,ks,vs,h,hl=>by
  unfold b7 at h
  split at h
  ·rename_i k t h1 h2
   cases h
   cases vs with
   | nil=>cases hl
   | cons v vs=>
    refine ⟨_,_,rfl,?_,Di h2 (by simpa using hl)⟩
    cases p <;> first | (cases h1; rfl) | cases h1
  ·cases h
theorem Oz {K:PySem.W.Frag}:Bm K (Ox K) uE:=by
 intro Z Θ env C σ H xs ds res S b e Q q
 unfold uE at e
 split at e
 case h_4=>cases e
 ·cases e
  obtain ⟨v,rfl,bb⟩:=jA b
  obtain ⟨a,vs,rfl,ha,r⟩:=bb.lst
  exact .inl ⟨a,vs,rfl,.inl (cM.of ha),fun l hl=>q _ _ (bA.upd hl) (dI S r hl)⟩
 ·cases e
  obtain ⟨v,rfl,bb⟩:=jA b
  obtain ⟨a,vs,rfl,ha,r⟩:=bb.tup
  exact .inl ⟨a,vs,rfl,.inr (ig.of ha),fun l hl=>q _ _ (bA.upd hl) (dI S r hl)⟩
 ·split at e
  case isFalse=>cases e
  rename_i kvs hs
  cases e
  obtain ⟨v,rfl,bb⟩:=jA b
  obtain ⟨a,vs,rfl,da,r⟩:=bb.dct
  rcases da with ⟨ks,h1,ha⟩ | ⟨ks,⟨ne,h2⟩,ha⟩
  ·exact .inr ⟨a,_,rfl,ha,fun l hl=>q _ _ (bA.upd hl) (dI S (Di h1 (by rw [gM h1,qG r])) hl)⟩
  ·obtain ⟨ks',h1⟩:=Option.isSome_iff_exists.mp hs
   exact absurd (jd h1 h2) ne
noncomputable def Ag:List PyData→Option Vl
 | [.dict []]=>none
 | [.dict ((k,v)::r)]=>match sO k with
  | some (b::sh)=>if r.length < 63∧(((k,v)::r).all fun p=>decide (sO p.1=some (b::sh)))=true then some (.ow (.list (sV (((k,v)::r).map (·.1))))) else none
  | _=>none
 | _=>none
theorem yG {sh:List Bool}:∀{kvs:List (PyData×PyData)} {ks:List (List Key)},b7 jx kvs=some ks→(∀p∈kvs,sO p.1=some sh)→kvs.map (·.1)=ks.map (fun k=>.tuple (k.map sU))∧∀k∈ks,k.map dD=sh
 | [],ks,h,_=>by cases h; exact ⟨rfl,fun _ m=>(nomatch m)⟩
 | (p,d)::kvs,ks,h,hs=>by
  unfold b7 at h
  split at h
  ·rename_i k t h1 h2
   cases h
   obtain ⟨g1,g2⟩:=yG h2 fun q m=>hs q (List.mem_cons_of_mem _ m)
   have hp:=hs (p,d) List.mem_cons_self
   obtain ⟨xs,rfl,hx⟩:∃xs,p=.tuple xs∧keysOf xs=some k:=by
    have h1':jx p=some k:=h1
    cases p with
    | tuple xs=>exact ⟨xs,rfl,h1'⟩
    | _=>cases h1'
   have hp:(keysOf xs).map (fun ks=>ks.map dD)=some sh:=hp
   rw [hx] at hp
   refine ⟨by rw [List.map_cons,g1,qQ hx]; rfl,fun k' m=>?_⟩
   rcases List.mem_cons.mp m with rfl | m
   ·exact Option.some.inj hp
   ·exact g2 k' m
  ·cases h
theorem OD {K:PySem.W.Frag}:Bm K (fun xs H Q=>∃(d:Addr) (kvs:List (List Key×V)) (b:Bool) (sh:List Bool),xs=[.ref d]∧H d=some (.dT kvs)∧kvs.length < 64∧(∀kv∈kvs,kv.1.map dD=b::sh)∧
  ∀(l:Addr) (rows:List Row),H l=none→(rows.map (·.2)).Perm (kvs.map (·.1))→rows.map (·.2)=vd (kvs.map (·.1))→(∀r∈rows,H r.1=some (.tup (r.2.map kV)))→Q (.ref l) (upd H l (.lst (rows.map fun r=>V.ref r.1)))) Ag:=by
 intro Z Θ env C σ H xs ds res S b e Q q
 unfold Ag at e
 split at e
 ·cases e
 ·rename_i k0 v0 r0
  split at e
  case h_2=>cases e
  rename_i b0 sh hsh
  split at e
  case isFalse=>cases e
  rename_i hall
  cases e
  have hall':∀p∈(k0,v0)::r0,sO p.1=some (b0::sh):=fun d m=>of_decide_eq_true (List.all_eq_true.mp hall.2 d m)
  obtain ⟨v,rfl,bb⟩:=jA b
  obtain ⟨a,vs,rfl,da,r⟩:=bb.dct
  rcases da with ⟨ks,h1,ha⟩ | ⟨ks,⟨ne,h2⟩,ha⟩
  ·exfalso
   unfold b7 at h1
   split at h1
   ·rename_i k' t g1 g2
    have g1:cN k0=some k':=g1
    cases k0 <;> first | cases g1 | skip
    all_goals cases hsh
   ·cases h1
  ·obtain ⟨e1,e2⟩:=yG h2 hall'
   have lk:=gM h2
   have lr:=qG r
   have ez:(ks.zip vs).map (·.1)=ks:=by
    rw [List.map_fst_zip]
    rw [lk,lr]
    exact Nat.le_refl _
   refine ⟨a,ks.zip vs,b0,sh,rfl,ha,?_,fun kv m=>e2 kv.1 (List.of_mem_zip (a:=kv.1) (b:=kv.2) m).1,fun l rows hn p hp hr=>?_⟩
   ·rw [List.length_zip,lk,lr,List.length_cons]
    omega
   ·rw [ez] at hp
    have ek:(((k0,v0)::r0).map (·.1)).map tX=ks:=by
     rw [e1,List.map_map]
     refine (List.map_congr_left fun k _=>?_).trans (List.map_id ks)
     show (keysOf (k.map sU)).getD []=k
     rw [nq]
     rfl
    have es:(rows.map fun r=>PyData.tuple (r.2.map sU))=sV (((k0,v0)::r0).map (·.1)):=by
     unfold sV
     rw [ek,←hp,List.map_map]
     rfl
    rw [←es] at q
    exact q _ _ (bA.upd hn) (dI S (nA fun r m=>sr S (hr r m)) hn)
 ·cases e
theorem OJ {K:PySem.W.Frag} {r r':List V→Hp→VK→Prop} {op op':List PyData→Option Vl} (h:Bm K r op) (h':Bm K r' op'):Bm K (fun xs H Q=>r xs H Q∨r' xs H Q) (fun ds=>match op ds with | some z=>some z | none=>op' ds):=by
 intro Z Θ env C σ H xs ds res S b e Q q
 cases h1:op ds with
 | some z=>
  simp only [h1] at e
  cases e
  exact .inl (h Z Θ env C σ H xs ds _ S b h1 Q q)
 | none=>
  simp only [h1] at e
  exact .inr (h' Z Θ env C σ H xs ds res S b e Q q)
end
noncomputable def qT:List PyData→List PyData→List PyData
 | x::xs,y::ys=>.tuple [x,y]::qT xs ys
 | _,_=>[]
theorem Jb:∀{xs ys:List PyData} {i:Nat} {d:PyData},(qT xs ys)[i]?=some d→∃x y,xs[i]?=some x∧ys[i]?=some y∧d=.tuple [x,y]
 | [],_,i,d,h=>by simp [qT] at h
 | _::_,[],i,d,h=>by simp [qT] at h
 | x::xs,y::ys,0,d,h=>by
  simp [qT] at h
  exact ⟨x,y,rfl,rfl,h.symm⟩
 | x::xs,y::ys,i + 1,d,h=>by
  obtain ⟨a,b,h1,h2,h3⟩:=Jb (i:=i) (by simpa [qT] using h)
  exact ⟨a,b,by simpa using h1,by simpa using h2,h3⟩
theorem Dj:∀{xs ys:List PyData},(qT xs ys).length=min xs.length ys.length
 | [],_=>by simp [qT]
 | _::_,[]=>by simp [qT]
 | x::xs,y::ys=>by simp [qT,Dj,Nat.succ_min_succ]
theorem We {K:PySem.W.Frag} {P T:List Addr} {H:Hp} {a b:Addr} {ds es:List PyData} {vs ws:List V} (ha:er T H a=some (.lst vs)) (hb:er T H b=some (.lst ws)) (r1:dU (er P H) ds vs) (r2:dU (er P H) es ws):xH P T H (Itz K a b) (qT ds es):=fun i H2 P2 s1 s2 n=>by
 have h2:cM K H2 a vs:=cM.of (bJ (s2 _ _ ha))
 have h3:cM K H2 b ws:=cM.of (bJ (s2 _ _ hb))
 refine ⟨fun d hd=>?_,fun hi=>⟨vs,ws,h2,h3,by rw [hi,Dj,bB r1,bB r2]⟩⟩
 obtain ⟨x,y,e1,e2,rfl⟩:=Jb hd
 obtain ⟨v,ev,rv⟩:=kW r1 e1
 obtain ⟨w,ew,rw'⟩:=kW r2 e2
 refine ⟨⟨vs,ws,h2,h3,?_⟩,fun z H3 yl=>?_⟩
 ·have l1:=(List.getElem?_eq_some_iff.mp ev).1
  have l2:=(List.getElem?_eq_some_iff.mp ew).1
  omega
 ·obtain ⟨p,v',w',hp,rfl,rfl,hh⟩:=yl
  obtain ⟨g1,g2⟩:=hh vs ws h2 h3
  rw [ev] at g1
  rw [ew] at g2
  cases g1
  cases g2
  have sp:aP H2 (upd H2 p (.tup [v,w])):=aP.upd hp
  refine ⟨sp,p,[v,w],rfl,?_,v,[w],rfl,rv.same (s1.trans (qF sp)),w,[],rfl,rw'.same (s1.trans (qF sp)),rfl⟩
  unfold er
  rw [if_neg (fun m=>n p m hp),aH]
noncomputable def Zt (f:Qu):FI:=fun env C=>match f env C with
 | some ([.list xs,.list ys],e1,C1)=>some (qT xs ys,e1,C1)
 | _=>none
theorem Wf {X:Cx} {es:List Expr} {k:Nat} {ps:Pos} {x y:Expr} {f:Qu} {p pos:Pos} (hg:Gl X "zip") (hm:X.mg "zip"=none) (ha:PA X [x,y] (Rt X.K f)) (hs:starEach [x,y] X.env=[(false,eval x X.env),(false,eval y X.env)]:=by rfl) (hs2:starEach [y] X.env=[(false,eval y X.env)]:=by rfl):
  PI X (.Tuple es k ps) (.Call (.Name "zip" p) [x,y] [] pos) (tI X.K true (Zt f)):=(Vz hg hm ha hs hs2).weak fun σ H R aO=>by
 obtain ⟨Z,Θ,env,C,its,env',C',S,hf,q⟩:=aO
 unfold Zt at hf
 split at hf
 case h_2=>cases hf
 rename_i xs ys e1 C1 h1
 cases hf
 refine ⟨Z,Θ,env,C,_,env',C',S,h1,fun vs H1 k f S1 b1=>?_⟩
 cases b1 with
 | cons b1 b2=>
  cases b2 with
  | cons b2 b3=>
   cases b3
   obtain ⟨a,vs1,rfl,ha,r1⟩:=b1
   obtain ⟨b,vs2,rfl,hb,r2⟩:=b2
   exact ⟨a,b,vs1,vs2,rfl,cM.of (bJ ha),cM.of (bJ hb),q _ H1 k f S1 (We ha hb r1 r2)⟩
end L2
namespace L2
open PySem PySem.Spec PyProof.Rows PySem.W
section
variable {X:Cx} {tg e:Expr}
noncomputable def itD2:PyData→Option (List PyData)
 | .list ds=>some ds
 | .tuple ds=>some ds
 | _=>none
noncomputable def iB2 (f:FB):FI:=fun env C=>match f env C with
 | some (d,e1,C1)=>match itD2 d with
  | some its=>some (its,e1,C1)
  | none=>none
 | none=>none
noncomputable def iV2 (f:FE):FI:=fun env C=>match f env C with
 | some (r,e1,C1)=>match still r with
  | .im d=>match itD2 d with
   | some its=>some (its,e1,C1)
   | none=>none
  | _=>none
 | none=>none
theorem Jc {f:FB} (h:PE X e (lZ X.K f)):PI X tg e (tI X.K true (iB2 f)):=((Hl h).or (LC h)).weak fun σ H R aO=>by
 obtain ⟨Z,Θ,env,C,its,env',C',S,hf,q⟩:=aO
 unfold iB2 at hf
 split at hf
 ·rename_i d e1 C1 h1
  split at hf
  ·rename_i ys hi
   cases hf
   cases d <;> first | cases hi | skip
   ·refine .inl ⟨Z,Θ,env,C,_,env',C',S,h1,fun v H1 k f S1 b=>?_⟩
    obtain ⟨a,vs,rfl,ha,r⟩:=b
    exact ⟨a,rfl,⟨vs,cM.of (bJ ha)⟩,q _ H1 k f S1 (Iz ha r)⟩
   ·refine .inr ⟨Z,Θ,env,C,_,env',C',S,h1,fun v H1 k f S1 b=>?_⟩
    obtain ⟨a,vs,rfl,ha,r⟩:=b
    exact ⟨a,rfl,⟨vs,ig.of (bJ ha)⟩,q _ H1 k f S1 (Ob ha r)⟩
  ·cases hf
 ·cases hf
theorem vW (hc:X.calm=true):cJ X (.builtin "sorted") (fun xs H Q=>∃d:Addr,xs=[.ref d]∧H d=some (.dK [])∧∀l,H l=none→Q (.ref l) (upd H l (.lst []))):=by
 intro pins s σ H xs us Q I r h
 obtain ⟨d,rfl,hd,q⟩:=h
 refine cR (lO hc pins s σ (upd H d (.dT [])) [.ref d] us (fun v H'=>∃l,v=.ref l∧H l=none∧H'=upd (upd H d (.dT [])) l (.lst [])) (I.Zo hd) r ⟨d,[],true,[],rfl,aH,by decide,(fun _ m=>nomatch m),fun l rows hl p _ _=>?_⟩) fun u s' ⟨v,H',I',rv,l,ev,hl,eH⟩=>?_
 ·have:rows=[]:=by
   cases rows with
   | nil=>rfl
   | cons _ _=>exact absurd p.length_eq (by simp)
  subst this
  refine ⟨l,rfl,?_,rfl⟩
  by_cases z:l=d
  ·subst z; rw [aH] at hl; cases hl
  ·rw [aJ z] at hl; exact hl
 ·subst ev eH
  have nd:d≠l:=aZ hd hl
  have e:upd (upd H d (.dT [])) l (.lst [])=upd (upd H l (.lst [])) d (.dT []):=by
   funext b
   by_cases h1:b=l
   ·subst h1; rw [aH,aJ (Ne.symm nd),aH]
   ·rw [aJ h1]
    by_cases h2:b=d
    ·subst h2; rw [aH,aH]
    ·rw [aJ h2,aJ h2,aJ h1]
  rw [e] at I'
  exact ⟨.ref l,_,I'.reT (by rw [aJ nd]; exact hd),rv,q l hl⟩
noncomputable def Ah:List PyData→Option Vl
 | [.dict []]=>some (.ow (.list []))
 | _=>none
theorem O1 {K:PySem.W.Frag}:Bm K (fun xs H Q=>∃d:Addr,xs=[.ref d]∧H d=some (.dK [])∧∀l,H l=none→Q (.ref l) (upd H l (.lst []))) Ah:=by
 intro Z Θ env C σ H xs ds res S b e Q q
 unfold Ah at e
 split at e
 case h_2=>cases e
 cases e
 obtain ⟨v,rfl,bb⟩:=jA b
 obtain ⟨a,vs,rfl,da,r⟩:=bb.dct
 rcases da with ⟨ks,h1,ha⟩ | ⟨ks,⟨ne,_⟩,_⟩
 ·cases h1
  exact ⟨a,rfl,ha,fun l hl=>q _ _ (bA.upd hl) (dI S rfl hl)⟩
 ·exact absurd rfl ne
noncomputable def uF (ds:List PyData):Option Vl:=match qP ds with
 | some z=>some z
 | none=>match Ag ds with
  | some z=>some z
  | none=>Ah ds
noncomputable abbrev O2 (K:PySem.W.Frag):List V→Hp→VK→Prop:=fun xs H Q=>Gs K xs H Q∨((∃(d:Addr) (kvs:List (List Key×V)) (b:Bool) (sh:List Bool),xs=[.ref d]∧H d=some (.dT kvs)∧kvs.length < 64∧(∀kv∈kvs,kv.1.map dD=b::sh)∧
  ∀(l:Addr) (rows:List Row),H l=none→(rows.map (·.2)).Perm (kvs.map (·.1))→rows.map (·.2)=vd (kvs.map (·.1))→(∀r∈rows,H r.1=some (.tup (r.2.map kV)))→Q (.ref l) (upd H l (.lst (rows.map fun r=>V.ref r.1))))∨∃d:Addr,xs=[.ref d]∧H d=some (.dK [])∧∀l,H l=none→Q (.ref l) (upd H l (.lst [])))
theorem Gx (hc:X.calm=true):cJ X (.builtin "sorted") (O2 X.K):=Gu.or ((lO hc).or (vW hc))
theorem O3 {K:PySem.W.Frag}:Bm K (O2 K) uF:=OJ Ku (OJ OD O1)
end
noncomputable def O4:FN:=fun _ _=>none
theorem RV {P:Program} {w:World} {K:PySem.W.Frag} {mg:Str→Option Value} {base:Heap} {f:Addr} {fd:FuncData} {ps:List Str}:dB P w K mg base qu 0 f fd ps (spT K O4):=by
 have no:∀vs H Q E,¬spT K O4 vs H Q E:=fun vs H Q E ⟨_,_,_,_,_,_,_,_,h,_⟩=>nomatch h
 exact ⟨fun _ _ _ _ h=>(no _ _ _ _ h).elim,fun _ _ _ _ _ _ _ _ _ _ _ _ _ h=>(no _ _ _ _ h).elim⟩
end L2
namespace L2
open PySem PySem.Spec PyProof.Rows PySem.W
noncomputable def vX (i:Nat) (f:FB):FE:=fun env C=>match env[i]? with
 | some (some (.ce n))=>match f env C with
  | some (.int k,_,C1)=>match C1[n]? with
   | some ns=>match ju ns k with
    | some z=>some (.im (.int z),env,C1)
    | none=>none
   | none=>none
  | _=>none
 | _=>none
theorem pU {X:Cx} {o k:Expr} {i:Nat} {pos:Pos} {f:FB} (ho:PE X o (rJ i)) (hk:PE X k (lZ X.K f)) (hs:ux k):PE X (.Subscript o k pos) (tE X.K (vX i f)):=(Ml zB ho hk hs).weak fun σ H Q aO=>by
 obtain ⟨Z,Θ,env,C,r,env',C',S,hf,q⟩:=aO
 unfold vX at hf
 split at hf
 case h_2=>cases hf
 rename_i n h0
 split at hf
 case h_2=>cases hf
 rename_i z e1 C1 h1
 split at hf
 case h_2=>cases hf
 rename_i ns hns
 split at hf
 case h_2=>cases hf
 rename_i y hy
 cases hf
 obtain ⟨v,ev,a,rfl,hth⟩:=S.slot i _ h0
 refine ⟨_,ev,Z,Θ,env,C,_,e1,C',S,h1,fun w H1 k1 f1 S1 b1=>?_⟩
 have S2:=S.go k1 S1.cell
 have ha:=S1.cell.at_ n a ns hth hns
 refine ⟨a,_,z,.int y,rfl,b1,cM.of ha,?_,q _ H1 k1 (Fz.refl _) ⟨S2,rfl⟩⟩
 unfold ju at hy ⊢
 rw [List.length_map]
 cases hj:Fg ns.length z with
 | none=>rw [hj] at hy; cases hy
 | some j=>
  rw [hj] at hy
  show (ns.map V.int)[j]?=_
  rw [List.getElem?_map,show ns[j]?=some y from hy]
  rfl
end L2
namespace L2
open PySem PySem.Spec PyProof.Rows PySem.W
noncomputable def Bx (C:Ce) (b:Nat) (n:Int):Prop:=∃x y z:Int,C[b]?=some [x,y,z]∧0≤x∧0≤y∧y≤3000000000∧0≤z∧z≤n
theorem Bx.mono {C:Ce} {b:Nat} {n m:Int} (h:Bx C b n) (hm:n≤m):Bx C b m:=by
 obtain ⟨x,y,z,h1,h2,h3,h4,h5,h6⟩:=h
 exact ⟨x,y,z,h1,h2,h3,h4,h5,by omega⟩
theorem O5 {C:Ce} {b:Nat} {l l':List Int} (h:C[b]?=some l):(C.set b l')[b]?=some l':=by
 rw [List.getElem?_set,if_pos rfl,if_pos (List.getElem?_eq_some_iff.mp h).1]
theorem Dk {C C':Ce} (h:C'.length=C.length):C'.take C.length=C':=List.take_of_length_le (by omega)
theorem mul_eq {i j:Int} (h:(-18446744073709551616 < i∧i < 18446744073709551616)∨(-18446744073709551616 < j∧j < 18446744073709551616)):fV (.int i) (.int j)=some (.im (.int (i * j))):=by
 unfold fV
 exact if_pos h
theorem mod_eq {i j:Int} (h:0 < j):fB (.int i) (.int j)=some (.im (.int (i % j))):=by
 unfold fB
 exact if_pos h
theorem fdiv_eq {i j:Int} (h:0 < j) (h1:j < 1073741824):mX (.int i) (.int j)=some (.im (.int (i / j))):=by
 unfold mX
 exact if_pos ⟨h,h1⟩
theorem Dl {g:FG} {body:FS} (I:Nat→En→Ce→Prop):∀{its:List PyData} {env:En} {C:Ce} {k:Nat},I k env C→
  (∀i d env C,its[i]?=some d→I (k + i) env C→∃e1 fl env' C',g d env=some e1∧body e1 C=some (fl,env',C')∧(fl=.nx∨fl=.ct)∧I (k + i + 1) env' C')→
  ∃env' C',jg g body its env C=some (.nx,env',C')∧I (k + its.length) env' C'
 | [],env,C,k,h,_=>⟨env,C,rfl,h⟩
 | d::r,env,C,k,h,st=>by
  obtain ⟨e1,fl,aaF,C1,h1,h2,h3,h4⟩:=st 0 d env C rfl h
  obtain ⟨aaG,C2,h5,h6⟩:=Dl I (its:=r) (env:=aaF) (C:=C1) (k:=k + 1) h4 fun i d' env C hd hi=>by
   have:=st (i + 1) d' env C (by simpa using hd) (by rw [show k + (i + 1)=k + 1 + i by omega]; exact hi)
   rw [show k + (i + 1) + 1=k + 1 + i + 1 by omega] at this
   exact this
  refine ⟨aaG,C2,?_,by rw [List.length_cons,show k + (r.length + 1)=k + 1 + r.length by omega]; exact h6⟩
  unfold jg
  rw [h1]
  simp only
  rw [h2]
  rcases h3 with rfl | rfl <;> exact h5
theorem gw {g:FG} {body:FS} (I:Nat→En→Ce→Prop) {its:List PyData} {env:En} {C:Ce} (h:I 0 env C)
  (st:∀i d env C,its[i]?=some d→I i env C→∃e1 fl env' C',g d env=some e1∧body e1 C=some (fl,env',C')∧(fl=.nx∨fl=.ct)∧I (i + 1) env' C'):
  ∃env' C',jg g body its env C=some (.nx,env',C')∧I its.length env' C':=by
 have:=Dl I (k:=0) h fun i d env C hd hi=>by
  rw [Nat.zero_add] at hi ⊢
  exact st i d env C hd hi
 rw [Nat.zero_add] at this
 exact this
theorem qU (lo:Int) (n:Nat):(gk lo n).length=n:=by unfold gk; rw [List.length_map,List.length_range]
theorem lC {lo:Int} {n i:Nat} {d:PyData} (h:(gk lo n)[i]?=some d):d=.int (lo + i)∧i < n:=by
 unfold gk at h
 rw [List.getElem?_map] at h
 by_cases hi:i < n
 ·rw [List.getElem?_range hi] at h
  exact ⟨(Option.some.inj h).symm,hi⟩
 ·rw [List.getElem?_eq_none (by rw [List.length_range]; omega)] at h
  cases h
theorem yH {T:oR} {fe:FE} {fs:En} (I:Nat→Ce→Prop) (R:Nat→PyData→Prop):∀{its:List PyData} {C:Ce} {k:Nat},I k C→(∀i d C,its[i]?=some d→I (k + i) C→∃ts x e C' y,V9 T d=some ts∧fe (jW ts++fs) C=some (x,e,C')∧still x=.im y∧R (k + i) y∧I (k + i + 1) C')→
  ∃ys C',fX T gO fe fs its C=some (ys,C')∧I (k + its.length) C'∧ys.length=its.length∧∀i y,ys[i]?=some y→R (k + i) y
 | [],C,k,h,_=>⟨[],C,rfl,h,rfl,fun i y e=>by simp at e⟩
 | d::r,C,k,h,st=>by
  obtain ⟨ts,x,e,C1,y,h1,h2,h3,h4,h5⟩:=st 0 d C rfl h
  obtain ⟨ys,C2,h6,h7,h8,h9⟩:=yH I R (its:=r) (C:=C1) (k:=k + 1) h5 fun i d' C hd hi=>by
   have:=st (i + 1) d' C (by simpa using hd) (by rw [show k + (i + 1)=k + 1 + i by omega]; exact hi)
   rw [show k + (i + 1) + 1=k + 1 + i + 1 by omega,show k + (i + 1)=k + 1 + i by omega] at this
   exact this
  refine ⟨y::ys,C2,?_,by rw [List.length_cons,show k + (r.length + 1)=k + 1 + r.length by omega]; exact h7,by simp [h8],fun i z hz=>?_⟩
  ·unfold fX
   simp only [h1,gO,h2,h3]
   rw [h6]
  ·cases i with
   | zero=>simp at hz; subst hz; exact h4
   | succ i=>
    have:=h9 i z (by simpa using hz)
    rw [show k + (i + 1)=k + 1 + i by omega]
    exact this
theorem O6 {α:Type} {xs:List α} {k:Int} (h0:0≤k) (h1:k < xs.length):∃x,ju xs k=some x∧xs[k.toNat]?=some x:=by
 have hk:k.toNat < xs.length:=by omega
 refine ⟨xs[k.toNat],?_,List.getElem?_eq_getElem hk⟩
 unfold ju Fg
 rw [if_pos h0,if_pos h1]
 exact List.getElem?_eq_getElem hk
end L2
namespace L2
open PySem PySem.Spec PyProof.Rows PySem.W
noncomputable def azB (z:Str):Bool:=z.cps.toList.all fun c=>decide (97≤c)&&decide (c≤122)
noncomputable def nameB (z:Str):Bool:=decide (1≤z.length)&&decide (z.length≤8)&&azB z
noncomputable abbrev abc:Str:=Str.ofString "abcdefghijklmnopqrstuvwxyz"
theorem Wg {r:Int} (r0:0≤r) (r1:r < 26):ju abc.cps.toList r=some (97 + r.toNat):=by
 have h:∀k:Nat,k < 26→ju abc.cps.toList (k:Int)=some (97 + k):=by decide +kernel
 have:=h r.toNat (by omega)
 rwa [Int.toNat_of_nonneg r0] at this
theorem vY:∀(l:List Nat) (a:Array Nat),((l.map fun c=>(⟨#[c]⟩:Str)).foldl (fun acc p=>acc++(Str.ofString "").cps++p.cps) a).toList=a.toList++l
 | [],a=>by simp
 | c::r,a=>by
  simp only [List.map_cons,List.foldl_cons]
  rw [vY r]
  have e:(Str.ofString "").cps=#[]:=by decide +kernel
  rw [e]
  simp
theorem vZ:∀(l:List Nat),(Txt.join (Str.ofString "") (l.map fun c=>(⟨#[c]⟩:Str))).cps.toList=l
 | []=>by decide +kernel
 | c::r=>by
  show (((r.map fun c=>(⟨#[c]⟩:Str))).foldl (fun acc p=>acc++(Str.ofString "").cps++p.cps) #[c]).toList=c::r
  rw [vY r]
  rfl
theorem Jd:∀ys:List Nat,(ys.map ((fun x:Str=>x.length) ∘ fun c=>(⟨#[c]⟩:Str))).sum=ys.length
 | []=>rfl
 | c::r=>by
  rw [List.map_cons,List.sum_cons,Jd r,List.length_cons]
  show 1 + r.length=r.length + 1
  omega
theorem RW {z:Str} {l u:Option Int} {c:Nat} (hc:c∈(Txt.slice z l u).cps.toList):c∈z.cps.toList:=by
 unfold Txt.slice at hc
 split at hc
 ·exact hc
 ·have hc':c∈((Builtin.Str.strSliceIndices l u 1 z.length).filterMap (z.cps[·]?)):=by simpa using hc
  obtain ⟨i,_,e⟩:=List.mem_filterMap.mp hc'
  have:=Array.mem_of_getElem? e
  simpa using this
noncomputable def Names (zs:List Str):Prop:=zs.Nodup∧∀z∈zs,nameB z=true
theorem Dm (z:Str) (zs:List Str):inD (.str z) (zs.map .str)=decide (z∈zs):=by
 unfold inD
 rw [Bool.eq_iff_iff,List.any_map]
 simp [List.any_eq_true,Mm,toV]
end L2
namespace L2
open PySem PySem.Spec PyProof.Rows PySem.W
noncomputable def Asc (z:Str):Prop:=∀c∈z.cps.toList,c < 128
noncomputable def Je (n:Nat) (z:Str):Prop:=Asc z∧z.length≤n
theorem Je.mono {n m:Nat} {z:Str} (h:Je n z) (hm:n≤m):Je m z:=⟨h.1,Nat.le_trans h.2 hm⟩
theorem Je.line {n:Nat} {z:Str} (h:Je n z) (hn:n≤100000:=by omega):z.length≤sizeLine:=Rc (m:=100000) (Nat.le_trans h.2 hn)
theorem Je.slice {n:Nat} {z:Str} (h:Je n z) (l u:Option Int):Je n (Txt.slice z l u):=by
 refine ⟨fun c hc=>?_,Nat.le_trans (Txt.slice_le z l u) h.2⟩
 unfold Txt.slice at hc
 split at hc
 ·exact h.1 c hc
 ·have hc':c∈((Builtin.Str.strSliceIndices l u 1 z.length).filterMap (z.cps[·]?)):=by simpa using hc
  obtain ⟨i,_,e⟩:=List.mem_filterMap.mp hc'
  refine h.1 c ?_
  have:=Array.mem_of_getElem? e
  simpa using this
theorem Je.add {n m:Nat} {x y:Str} (h:Je n x) (g:Je m y):Je (n + m) (x++y):=by
 have e:(x++y).cps=x.cps++y.cps:=rfl
 refine ⟨fun c hc=>?_,?_⟩
 ·rw [e] at hc
  have:c∈x.cps.toList∨c∈y.cps.toList:=by simpa using hc
  exact this.elim (h.1 c) (g.1 c)
 ·show (x++y).cps.size≤_
  rw [e,Array.size_append]
  exact Nat.add_le_add h.2 g.2
theorem Je.name {z:Str} (h:nameB z=true):Je 8 z:=by
 unfold nameB azB at h
 simp only [Bool.and_eq_true,decide_eq_true_eq,List.all_eq_true] at h
 exact ⟨fun c hc=>by have:=h.2 c hc; omega,h.1.2⟩
noncomputable def bO (zs:List Str) (ps:List (Str×Str)):Prop:=∀(i:Nat) (x:Str×Str),ps[i]?=some x→zs[i]?=some x.1∧(x.2=Str.ofString ""∨∃j,j < i∧zs[j]?=some x.2)
theorem bO.snoc {zs:List Str} {ps:List (Str×Str)} {a b:Str} (h:bO zs ps) (ha:zs[ps.length]?=some a) (hb:b=Str.ofString ""∨∃j,j < ps.length∧zs[j]?=some b):bO zs (ps++[(a,b)]):=by
 intro i x e
 by_cases hi:i < ps.length
 ·rw [List.getElem?_append_left hi] at e
  exact h i x e
 ·rw [List.getElem?_append_right (by omega)] at e
  by_cases h0:i - ps.length=0
  ·rw [h0] at e
   cases e
   have:i=ps.length:=by omega
   subst this
   exact ⟨ha,hb⟩
  ·rw [List.getElem?_eq_none (by simp; omega)] at e
   cases e
noncomputable def cO (ps:List (Str×Str)) (z:Str):Option Str:=(ps.find? fun p=>decide (p.1=z)).map (·.2)
inductive Over (f:Str→Option Str):Str→List Str→Prop
 | stop {z:Str}:f z=none→Over f z []
 | step {z y:Str} {r:List Str}:f z=some y→Over f y r→Over f z (z::r)
structure Shw (e B:Nat) (d:PyData):Prop where
 aaJ:d.showable=true
 deep:d.depth≤e
 len:d.shown.length≤B
theorem Shw.mono {e e' B B':Nat} {d:PyData} (h:Shw e B d) (he:e≤e') (hB:B≤B'):Shw e' B' d:=⟨h.aaJ,Nat.le_trans h.deep he,Nat.le_trans h.len hB⟩
noncomputable abbrev nD:=Int×Str×Int×Str×Int×Int
noncomputable abbrev cL:=Int×Str×Str×Str×Int×Int×Int
noncomputable abbrev Dp:=Int×Str
noncomputable abbrev Jf:=Str×Int×List Dp
noncomputable def oY (r:nD):PyData:=.tuple [.int r.1,.str r.2.1,.int r.2.2.1,.str r.2.2.2.1,.int r.2.2.2.2.1,.int r.2.2.2.2.2]
noncomputable def cH (r:cL):PyData:=.tuple [.int r.1,.str r.2.1,.str r.2.2.1,.str r.2.2.2.1,.int r.2.2.2.2.1,.int r.2.2.2.2.2.1,.int r.2.2.2.2.2.2]
noncomputable def Jg (s:Dp):PyData:=.tuple [.int s.1,.str s.2]
noncomputable def Wh (ss:List Dp):PyData:=.tuple (ss.map Jg)
noncomputable def Dq (r:Jf):PyData:=.tuple [.str r.1,.int r.2.1,Wh r.2.2]
noncomputable def oZ (p:Str×Str):PyData:=.tuple [.str p.1,.str p.2]
structure eX where
 ps:List (Str×Str)
 t8:List nD
 leaves:List cL
 rules:List Jf
noncomputable def cP (h:eX):PyData:=.tuple [.tuple (h.ps.map oZ),.tuple (h.t8.map oY),.tuple (h.leaves.map cH),.tuple (h.rules.map Dq)]
structure Wi (zs own:List Str) (r:nD):Prop where
 num:0≤r.1∧r.1≤2000
 who:r.2.1∈zs
 rank:1≤r.2.2.1∧r.2.2.1≤9
 part:r.2.2.2.1∈own
 days:0≤r.2.2.2.2.1∧r.2.2.2.2.1≤r.2.2.2.2.2∧r.2.2.2.2.2≤99999
structure Ai (zs own:List Str) (r:cL):Prop where
 num:0≤r.1∧r.1≤2000
 giver:r.2.1∈zs
 taker:r.2.2.1∈zs
 ne:r.2.1≠r.2.2.1
 part:r.2.2.2.1∈own
 days:0≤r.2.2.2.2.1∧r.2.2.2.2.1≤r.2.2.2.2.2.1∧r.2.2.2.2.2.1≤99999
 most:0≤r.2.2.2.2.2.2∧r.2.2.2.2.2.2≤1000000000
noncomputable def Wj (own:List Str) (s:Dp):Prop:=1≤s.1∧s.1≤9∧(s.2=Str.ofString ""∨s.2∈own)
structure Wk (own:List Str) (r:Jf):Prop where
 part:r.1∈own
 sum:0≤r.2.1∧r.2.1≤1000000000
 many:r.2.2.length≤6
 acR:∀s∈r.2.2,Wj own s
structure fZ (zs:List Str) (ps:List (Str×Str)) (h:eX):Prop where
 parts:h.ps.Perm ps
 p8:ps.length≤8
 r20:h.t8.length≤20
 R0:h.leaves.length≤16
 u10:h.rules.length≤10
 t8:∀r∈h.t8,Wi zs (ps.map (·.1)) r
 rup:(h.t8.map (·.1)).Pairwise (· < ·)
 leaves:∀r∈h.leaves,Ai zs (ps.map (·.1)) r
 lnd:(h.leaves.map (·.1)).Nodup
 rules:∀r∈h.rules,Wk (ps.map (·.1)) r
 unlike:(h.rules.map fun r=>(r.1,r.2.1)).Nodup
theorem qW {α β:Type} {f:α→β}:∀{l:List α} {m:List β},m.Perm (l.map f)→∃l':List α,l'.Perm l∧m=l'.map f:=fun {l m} p=>by
 generalize e:l.map f=k at p
 induction p generalizing l with
 | nil=>
  cases l with
  | nil=>exact ⟨[],List.Perm.refl _,rfl⟩
  | cons _ _=>cases e
 | @cons x m k _ ih=>
  cases l with
  | nil=>cases e
  | cons a l=>
   rw [List.map_cons,List.cons.injEq] at e
   obtain ⟨l',p',rfl⟩:=ih e.2
   exact ⟨a::l',p'.cons a,by rw [List.map_cons,e.1]⟩
 | swap x y m=>
  cases l with
  | nil=>cases e
  | cons a l=>
   cases l with
   | nil=>cases e
   | cons b l=>
    rw [List.map_cons,List.map_cons,List.cons.injEq,List.cons.injEq] at e
    obtain ⟨e1,e2,e3⟩:=e
    exact ⟨b::a::l,List.Perm.swap a b l,by rw [List.map_cons,List.map_cons,e1,e2,e3]⟩
 | trans _ _ ih1 ih2=>
  obtain ⟨l2,p2,e2⟩:=ih2 e
  obtain ⟨l1,p1,e1⟩:=ih1 e2.symm
  exact ⟨l1,p1.trans p2,e1⟩
end L2
namespace L2
open PySem PySem.Spec PyProof.Rows PySem.W
theorem Gy (x:Str×Str) (ps:List (Str×Str)) (z:Str):cO (x::ps) z=if x.1=z then some x.2 else cO ps z:=by
 unfold cO
 rw [List.find?_cons]
 by_cases h:x.1=z
 ·rw [decide_eq_true h,if_pos h]
  rfl
 ·rw [decide_eq_false h,if_neg h]
theorem cQ:∀{ps:List (Str×Str)} {z w:Str},(ps.map (·.1)).Nodup→(cO ps z=some w ↔ (z,w)∈ps)
 | [],z,w,_=>by simp [cO]
 | x::ps,z,w,h=>by
  rw [List.map_cons,List.nodup_cons] at h
  rw [Gy]
  by_cases hz:x.1=z
  ·rw [if_pos hz,List.mem_cons]
   constructor
   ·intro e
    left
    rw [←hz,←Option.some.inj e]
   ·rintro (e | e)
    ·rw [←e]
    ·exact absurd (List.mem_map.mpr ⟨(z,w),e,hz.symm⟩) h.1
  ·rw [if_neg hz,cQ h.2,List.mem_cons]
   constructor
   ·exact .inr
   ·rintro (e | e)
    ·exact absurd (by rw [←e]) hz
    ·exact e
theorem Gz {ps ps':List (Str×Str)} (p:ps'.Perm ps) (h:(ps.map (·.1)).Nodup) (z:Str):cO ps' z=cO ps z:=by
 have h':(ps'.map (·.1)).Nodup:=(p.map (·.1)).nodup_iff.mpr h
 cases e:cO ps z with
 | some w=>exact (cQ h').mpr (p.mem_iff.mpr ((cQ h).mp e))
 | none=>
  cases e':cO ps' z with
  | none=>rfl
  | some w=>
   have:=(cQ h).mpr (p.mem_iff.mp ((cQ h').mp e'))
   rw [e] at this
   cases this
theorem pW {zs:List Str} {ps:List (Str×Str)} (h:bO zs ps):ps.map (·.1)=zs.take ps.length:=by
 apply List.ext_getElem?
 intro i
 rw [List.getElem?_map,List.getElem?_take]
 cases e:ps[i]? with
 | none=>
  rw [if_neg (by have:=List.getElem?_eq_none_iff.mp e; omega)]
  rfl
 | some x=>
  rw [if_pos (List.getElem?_eq_some_iff.mp e).1,(h i x e).1]
  rfl
theorem fD {zs:List Str} {ps:List (Str×Str)} (hN:Names zs) (h:bO zs ps):(ps.map (·.1)).Nodup:=by
 rw [pW h]
 exact hN.1.sublist (List.take_sublist _ _)
theorem Aj:nameB (Str.ofString "")=false:=by decide +kernel
theorem GC {zs:List Str} {ps:List (Str×Str)} (hN:Names zs) (h:bO zs ps) {z:Str} (hz:z∈ps.map (·.1)):nameB z=true:=by
 rw [pW h] at hz
 exact hN.2 z (List.mem_of_mem_take hz)
theorem wg {zs:List Str} {ps:List (Str×Str)} (hN:Names zs) (h:bO zs ps):cO ps (Str.ofString "")=none:=by
 cases e:cO ps (Str.ofString "") with
 | none=>rfl
 | some w=>
  have:=(cQ (fD hN h)).mp e
  have:=GC hN h (List.mem_map.mpr ⟨_,this,rfl⟩)
  rw [Aj] at this
  cases this
noncomputable def R3 (f:Str→Option Str):Nat→Str→List Str
 | 0,_=>[]
 | n + 1,z=>match f z with
  | none=>[]
  | some y=>z::R3 f n y
noncomputable def up (ps:List (Str×Str)) (z:Str):List Str:=R3 (cO ps) (ps.length + 1) z
theorem wj {f:Str→Option Str} {z:Str} (h:f z=none):∀n,R3 f n z=[]
 | 0=>rfl
 | n + 1=>by unfold R3; rw [h]
theorem Dr {f:Str→Option Str} {z y:Str} (h:f z=some y) (n:Nat):R3 f (n + 1) z=z::R3 f n y:=by
 rw [R3,h]
theorem Jh {f:Str→Option Str}:∀n z,(R3 f n z).length≤n
 | 0,_=>Nat.le_refl 0
 | n + 1,z=>by
  cases h:f z with
  | none=>rw [wj h]; exact Nat.zero_le _
  | some y=>
   rw [Dr h,List.length_cons]
   exact Nat.succ_le_succ (Jh n y)
theorem Ji {zs:List Str} {ps:List (Str×Str)} (hN:Names zs) (hP:bO zs ps):∀(n i:Nat),i < n→∀x,ps[i]?=some x→Over (cO ps) x.1 (R3 (cO ps) n x.1)
 | 0,_,h,_,_=>absurd h (Nat.not_lt_zero _)
 | n + 1,i,h,x,hx=>by
  have e:cO ps x.1=some x.2:=(cQ (fD hN hP)).mpr (List.mem_of_getElem? hx)
  rw [Dr e]
  refine .step e ?_
  rcases (hP i x hx).2 with h2 | ⟨j,hj,h2⟩
  ·rw [h2,wj (wg hN hP)]
   exact .stop (wg hN hP)
  ·have hi:=(List.getElem?_eq_some_iff.mp hx).1
   have hjl:j < ps.length:=by omega
   have g:=hP j ps[j] (List.getElem?_eq_getElem hjl)
   have e2:ps[j].1=x.2:=by
    have:=g.1
    rw [h2] at this
    exact (Option.some.inj this).symm
   rw [←e2]
   exact Ji hN hP n j (by omega) ps[j] (List.getElem?_eq_getElem hjl)
theorem qX {zs:List Str} {ps:List (Str×Str)} (hN:Names zs) (hP:bO zs ps) (z:Str):Over (cO ps) z (up ps z):=by
 unfold up
 cases e:cO ps z with
 | none=>
  rw [wj e]
  exact .stop e
 | some w=>
  obtain ⟨i,hi,hx⟩:=List.getElem_of_mem ((cQ (fD hN hP)).mp e)
  have:=Ji hN hP (ps.length + 1) i (by omega) _ (List.getElem?_eq_getElem hi)
  rw [hx] at this
  exact this
theorem Over.det {f:Str→Option Str}:∀{z:Str} {a b:List Str},Over f z a→Over f z b→a=b
 | _,_,_,.stop _,.stop _=>rfl
 | _,_,_,.stop h,.step g _=>by rw [h] at g; cases g
 | _,_,_,.step h _,.stop g=>by rw [h] at g; cases g
 | _,_,_,.step h r,.step g s=>by
  rw [h] at g
  cases g
  rw [Over.det r s]
theorem R4 {zs:List Str} {ps:List (Str×Str)} (hN:Names zs) (hP:bO zs ps) {z w:Str} (h:cO ps z=some w):up ps z=z::up ps w:=(qX hN hP z).det (.step h (qX hN hP w))
theorem GD (ps:List (Str×Str)) (z:Str):(up ps z).length≤ps.length + 1:=Jh _ _
noncomputable def cD (l:List (Str×PyData)):List (PyData×PyData):=l.map fun p=>(.str p.1,p.2)
theorem qY:∀l:List (Str×PyData),b7 cN (cD l)=some (l.map fun p=>.inr p.1)
 | []=>rfl
 | p::l=>by
  rw [show cD (p::l)=(.str p.1,p.2)::cD l from rfl]
  unfold b7
  rw [qY l]
  simp only [cN]
  rfl
theorem Ak (x z:Str):(cN (.str x)=some (.inr z)) ↔ x=z:=by
 simp [cN]
theorem yI (z:Str):∀l:List (Str×PyData),lQ cN (.inr z) (cD l)=(l.find? fun p=>decide (p.1=z)).map (·.2)
 | []=>rfl
 | p::l=>by
  show (if cN (.str p.1)=some (.inr z) then some p.2 else lQ cN (.inr z) (cD l))=_
  rw [List.find?_cons]
  by_cases h:p.1=z
  ·rw [if_pos ((Ak _ _).mpr h),decide_eq_true h]
   rfl
  ·rw [if_neg (fun e=>h ((Ak _ _).mp e)),decide_eq_false h,yI z l]
theorem yJ (l:List (Str×PyData)) (z:Str):lR (cD l) (.str z)=some ((l.find? fun p=>decide (p.1=z)).map (·.2)):=by
 show (if (b7 cN (cD l)).isSome then some (lQ cN (.inr z) (cD l)) else none)=_
 rw [qY,yI]
 rfl
theorem Ds {l:List (Str×PyData)} {z:Str} {d:PyData} (h:z∉l.map (·.1)):oN cN (.inr z) (.str z) d (cD l)=cD (l++[(z,d)]):=by
 unfold oN
 rw [if_neg,cD,cD,List.map_append]
 ·rfl
 ·rw [Bool.not_eq_true,List.any_eq_false]
  intro p hp
  obtain ⟨q,hq,rfl⟩:=List.mem_map.mp hp
  have:¬(cN (.str q.1)=some (.inr z)):=fun e=>h (List.mem_map.mpr ⟨q,hq,(Ak _ _).mp e⟩)
  simpa using this
theorem Dt {l:List (Str×PyData)} {z:Str} {d:PyData} (h:z∉l.map (·.1)):putD (cD l) (.str z) d=some (cD (l++[(z,d)])):=by
 show (if (b7 cN (cD l)).isSome then some (oN cN (.inr z) (.str z) d (cD l)) else none)=_
 rw [qY,Ds h]
 rfl
theorem O7 {α:Type} (ps:List (Str×Str)) (g:Str×Str→α) (z:Str):((ps.map fun p=>(p.1,g p)).find? fun p=>decide (p.1=z)).map (·.2)=(ps.find? fun p=>decide (p.1=z)).map g:=by
 rw [List.find?_map,Option.map_map]
 rfl
theorem eY {α:Type} {T:oR} {ft:FT} {fe:FE} {fs:En} {C:Ce} (D:α→PyData) (p:α→Bool) (g:α→PyData):∀{l:List α},(∀a∈l,∃ts,V9 T (D a)=some ts∧ft (jW ts++fs) C=some (p a,C)∧(p a=true→∃x e,fe (jW ts++fs) C=some (x,e,C)∧still x=.im (g a)))→
  fX T ft fe fs (l.map D) C=some ((l.filter p).map g,C)
 | [],_=>rfl
 | d::r,h=>by
  obtain ⟨ts,h1,h2,h3⟩:=h d List.mem_cons_self
  have ih:=eY D p g (l:=r) fun d m=>h d (List.mem_cons_of_mem _ m)
  rw [List.map_cons]
  unfold fX
  simp only [h1]
  rw [h2]
  cases hp:p d with
  | true=>
   obtain ⟨x,e,h4,h5⟩:=h3 hp
   simp only [h4,h5,ih,List.filter_cons,hp,if_true,List.map_cons]
  | false=>
   simp only [ih,List.filter_cons,hp]
   rfl
end L2
namespace L2
open PySem PySem.Spec PyProof.Rows PySem.W
section
variable {prog:Program} {w:World} {A:Around} {E:Value→Shared→Prop} {R:Result→Shared→Prop} {s:Shared}
theorem Kv {Q:Value→Shared→Prop} (h:Q (.ref s.heap.objs.size) { s with heap:=s.heap.push (uq w) }):wpAny (model prog w) A (newSet (.type "set")) Q E s:=by
 unfold newSet setsByText
 obtain ⟨h0,g0,d0,t0,o0⟩:=s
 refine wpAny_bind (wpAny_bind (wpAny_askSetting (wpAny_pure ?_)))
 dsimp only
 simp only [newObj]
 exact wpAny_bind (wpAny_alloc (wpAny_pure h))
theorem Kw {elt target iter:Expr} {ifs:List Expr} {rest:List Comprehension} {scope:Scope} {pos:Pos} {it acc:Value} {env:Env} (h0:codeAny (model prog w) A (.compLoop (.SetComp elt (⟨target,iter,ifs,0⟩::rest) scope pos) 0 it acc env) R s)
  (h:wpAny (model prog w) A (pyIter it) (fun it' s'=>codeAny (model prog w) A (.compLoop (.SetComp elt (⟨target,iter,ifs,0⟩::rest) scope pos) 0 it' acc env) R s') (notedBy (model prog w) A env fun x s'=>R (.error x) s') s):
  codeAny (model prog w) A (.compStart (.SetComp elt (⟨target,iter,ifs,0⟩::rest) scope pos) 0 it acc env) R s:=by
 refine codeAny_of_tree (show wpAny _ A ((compStart (.SetComp elt (⟨target,iter,ifs,0⟩::rest) scope pos) 0 it acc env).onRaise (fun x=>do noteFrame x env; standAt theWindowsPlace)) _ _ s from wpAny_notedAt ?_)
 unfold compStart
 refine (show wpAny _ A (ask >>= _) _ _ s from wpAny_bind (wpAny_askSetting (wpAny_ite ?_)))
 split
 ·first
   | exact wpAny_bind (wpAny_pure (wpAny_pure ⟨rfl,h0⟩))
   | exact wpAny_pure ⟨rfl,h0⟩
 ·first
   | exact wpAny_bind (wpAny_rule (wpAny_bind (wpAny_standAt (wpAny_bind (wpAny_mono h (fun it' s' h'=>wpAny_pure ⟨rfl,h'⟩) fun _ _ x=>x)))))
   | exact wpAny_bind (wpAny_rule (show wpAny _ _ (standAt iter.pos >>= _) _ _ s from wpAny_bind (wpAny_standAt (wpAny_bind (wpAny_mono h (fun it' s' h'=>wpAny_pure ⟨rfl,h'⟩) fun _ _ x=>x)))))
variable {T:Type} [DecidableEq T] {knd:PySem.KeyKind prog w T}
theorem Du {a:Addr} {k:T} {key:Value} {ks:List T} {Q:Value→Shared→Prop} (hk:knd.is k key=true) (hsc:key.scannable=true) (hS:pJ knd s.heap a ks) (room:ks.length + 1 < scanBound)
  (h:∀h',Heap.SameBut a s.heap h'→pJ knd h' a (kO ks k)→Q .none { s with heap:=h',toks:=s.toks + 1 }):wpAny (model prog w) A (call (.builtin "set.add") [.ref a,key]) Q E s:=by
 refine wpAny_call_entry F.slot_set_add hS.ty F.entry_set_add ?_ (F.args_set_add_2 _ _)
 unfold Builtin.«set.add» Builtin.Frozenset.oneOther
 simp only [List.isEmpty_nil,bind_assoc]
 unfold Builtin.Frozenset.addrOf setAdd
 refine wpAny_bind (wpAny_pure ?_)
 try dsimp only
 refine wpAny_bind (wpAny_pure ?_)
 try dsimp only
 refine wpAny_bind (wpAny_holding (wpAny_bind (knd.pyHash hk ?_)))
 refine Rm (knd:=knd) (s:={ s with toks:=s.toks + 1 }) hk hsc hS room fun _ h' hsb hS'=>?_
 exact (show wpAny _ _ (ret Value.none) _ _ _ from wpAny_pure ⟨_,rfl,h h' hsb hS'⟩)
end
theorem Al {env:Env} (elt gens scope pos):eval (.SetComp elt gens scope pos) env=comprehension (.SetComp elt gens scope pos) scope env (firstIterPos gens pos) (newSet (.type "set")) (firstAsync gens) (firstIter gens env):=rfl
section
variable {P:Program} {w:World} {T0:Type} [DecidableEq T0] (knd:PySem.KeyKind P w T0) (mk:T0→V)
noncomputable abbrev SO (a:Addr) (ks:List T0):HO:=.ext fun h=>pJ knd h a ks
noncomputable def O8 (D:Addr) (te:TE):TM:=fun σ H Q=>te σ H fun y H1=>∃ks k,H1 D=some (SO knd D ks)∧y=mk k∧ks.length + 1 < scanBound∧Q (upd H1 D (SO knd D (kO ks k)))
theorem Ue {H:Hp} {h:Heap} {a:Addr} {ks:List T0} (x:pJ knd h a ks):bL P w H h a (SO knd a ks):=
 ⟨x,let ⟨o,_,_,_,e,_⟩:=x; ⟨o,e⟩,fun _ _ y e=>y.at e⟩
noncomputable def tSC (K:PySem.W.Frag) (wi:TI) (T:oR) (ts:Bk→TT) (te:Bk→TE) (js:List Nat):TE:=fun σ H Q=>wi σ H fun J H1=>∀D,H1 D=none→∀b,Fv K T (ts b) (O8 knd mk D (te b)) (frees js σ) J (upd H1 D (SO knd D [])) (Q (.ref D))
end
section
variable {X:Cx} {T0:Type} [DecidableEq T0] {knd:PySem.KeyKind X.prog X.w T0} {mk:T0→V} {NT NF:List Str} {js:List Nat} {elt tg iter:Expr} {ifs:List Expr} {T:oR} {wi:TI} {ts:Bk→TT} {te:Bk→TE} {scope:Scope} {pos:Pos}
theorem Wl {D:Addr} {t:TE} (hk:∀k v,RelV (mk k) v→knd.is k v=true∧v.scannable=true) (he:PE X elt t):PM X (do let v ←eval elt X.env; standAt elt.pos; let _ ←call (.builtin "set.add") [.ref D,v]) (O8 knd mk D t):=by
 intro pins s σ H Q I h
 refine wpAny_bind (cR (he pins s σ H _ I h) fun v s1 aO=>?_)
 obtain ⟨y,H1,I1,r1,ks,k,hD,ey,hz,q⟩:=aO
 subst ey
 obtain ⟨hS,_,_⟩:=I1.hok D _ hD
 obtain ⟨k1,k2⟩:=hk _ _ r1
 refine wpAny_bind (wpAny_standAt (wpAny_bind (Du k1 k2 hS hz fun h' same hS'=>?_)))
 refine wpAny_pure ⟨_,?_,q⟩
 exact kI I1 (by rw [hD]; exact True.intro) same (let ⟨o,_,_,_,e,_⟩:=hS'; ⟨o,e⟩) (Ue knd hS')
theorem Wm {pins:List (Addr×Obj)} {σ:St} {s2:Shared} {H2:Hp} {cl:List (Str×Addr)} {it:Addr} {fp:List Addr} {tn:Nat→Heap→Prop} {J:It} {Q:Hp→Prop} {RR:Value→Addr→Result→Shared→Prop} {E:Value→Shared→Prop}
  (hk:∀k v,RelV (mk k) v→knd.is k v=true∧v.scannable=true) (B:mL X NT NF js scope) (tk:um tg NT T) (hc:X.calm=true)
  (hin:∀b,Hz (X.bk (NT++NF) scope b) ifs (ts b)∧PE (X.bk (NT++NF) scope b) elt (te b))
  (q2:∀n c,cl.lookup n=some c→X.env.cells.lookup n=some c) (q3:∀y∈scope.names,y.2=.free→∃c,cl.lookup y.1=some c)
  (I2:Inv X pins σ H2 s2) (TT:Turn X.prog X.w X.K tg J fp it tn) (st2:tn 0 s2.heap) (f2:∀b∈fp,jo X pins H2 b)
  (q:∀b,Fv X.K T (ts b) (O8 knd mk s2.heap.objs.size (te b)) (frees js σ) J (upd H2 s2.heap.objs.size (SO knd s2.heap.objs.size [])) Q)
  (hR:∀C H' s' m,Inv X pins σ H' s'→jo X pins H' C→s'.heap.Ns C m→Q H'→RR (.ref s2.heap.objs.size) C (.ok .next) s'):
  wpAny (model X.prog X.w) X.A (newSet (.type "set")) (fun acc s₃=>wpAny (model X.prog X.w) X.A (newFunctionEnv scope X.env.globals cl [] X.env.qual none .none (some X.env)) (fun cenv s₄=>
   codeAny (model X.prog X.w) X.A (.compStart (.SetComp elt [⟨tg,iter,ifs,0⟩] scope pos) 0 (.ref it) acc { cenv with scope:=relabel scope X.env }) (RR acc cenv.locals) s₄) E s₃) E s2:=by
 refine Kv ?_
 have hD:H2 s2.heap.objs.size=none:=I2.hok.fresh (Nat.le_refl _)
 have I3:Inv X pins σ (upd H2 s2.heap.objs.size (SO knd s2.heap.objs.size [])) { s2 with heap:=s2.heap.push (uq X.w) }:=
  I2.laid (t':=s2.toks) (fun b o e=>Heap.get?_push_of_some _ e) (Nat.le_refl _) (Ue knd (VG (Heap.get?_push_size _ rfl)))
 have hsz:(s2.heap.push (uq X.w)).objs.size=s2.heap.objs.size + 1:=Heap.size_push ..
 refine wpAny_newFunctionEnv B.cell (by intro y hy; simp at hy) (fun h₁ hns₁ hsb₁=>?_) B.kind
 have Qt:∀b∈fp,b < s2.heap.objs.size:=fun b hb=>by
  obtain ⟨o,e,_⟩:=TT.obj 0 _ st2 b hb
  exact Heap.lt_size e
 have f3:∀b∈fp,jo X pins (upd H2 s2.heap.objs.size (SO knd s2.heap.objs.size [])) b:=fun b hb=>⟨by rw [aJ (Nat.ne_of_lt (Qt b hb))]; exact (f2 b hb).1,(f2 b hb).2⟩
 have keep:∀b o,(s2.heap.push (uq X.w)).get? b=some o→h₁.get? b=some o:=fun b o e=>hsb₁.extBut b o (Nat.ne_of_lt (Heap.lt_size e)) (Heap.get?_push_of_some _ e)
 have TQ:∀b∈fp,b < (s2.heap.push (uq X.w)).objs.size:=fun b hb=>by have:=Qt b hb; rw [hsz]; exact Nat.lt_succ_of_lt this
 have I4:=I3.blk (s1:={ s2 with heap:=h₁,toks:=s2.toks + ([]:List (Str×Value)).length }) B q2 q3 f3 TQ hns₁ keep rfl I2.bare
 have TV:tn 0 h₁:=TT.keep 0 _ _ st2 fun b _ o e=>keep b o (Heap.get?_push_of_some _ e)
 obtain ⟨i1,i2⟩:=hin ⟨cl,(s2.heap.push (uq X.w)).objs.size,{ s2 with heap:=s2.heap.push (uq X.w) },upd H2 s2.heap.objs.size (SO knd s2.heap.objs.size []),fp⟩
 have loop:codeAny (model X.prog X.w) X.A (.compLoop (.SetComp elt [⟨tg,iter,ifs,0⟩] scope pos) 0 (.ref it) (.ref s2.heap.objs.size) (compEnvC scope cl (s2.heap.push (uq X.w)).objs.size X.env))
   (RR (.ref s2.heap.objs.size) (s2.heap.push (uq X.w)).objs.size) { s2 with heap:=h₁,toks:=s2.toks + ([]:List (Str×Value)).length }:=by
  refine uY (X:=X.blk (NT++NF) scope cl (s2.heap.push (uq X.w)).objs.size { s2 with heap:=s2.heap.push (uq X.w) } (upd H2 s2.heap.objs.size (SO knd s2.heap.objs.size [])) fp)
   (T:=T) (fs:=frees js σ) (done:=Q) rfl (J3 elt tg iter ifs scope pos _ _ _) rfl rfl rfl tk rfl B.nd hc (fun x hx=>lookup_relabel_local (B.tg x hx)) i1 (Wl (X:=X.bk (NT++NF) scope _) (knd:=knd) hk i2) TT (fun b hb=>?_) I4 TV (q _) fun H' s' σ' J' qd=>?_
  ·exact ⟨(f3 b hb).1,Nat.ne_of_lt (TQ b hb),fun hb2=>by
    rcases List.mem_cons.mp (I3.rH b hb2) with z | z
    ·exact (f3 b hb).2.1 z
    ·exact (f3 b hb).2.2.1 z,.inl hb,fun x c e=>(f3 b hb).2.2.2.2.1 x c (q2 x c e),fun p hp=>(nomatch (show p∈([]:List (Addr×Obj)) from hp))⟩
  ·obtain ⟨m,hn,_⟩:=J'.loc
   exact hR _ H' s' m (I3.Mw f3 J') (I3.zj (Nat.le_refl _) J'.free) hn qd
 exact Kw loop (TT.self _ 0 _ _ _ TV loop)
theorem Yw (hk:∀k v,RelV (mk k) v→knd.is k v=true∧v.scannable=true) (B:mL X NT NF js scope) (tk:um tg NT T) (hc:X.calm=true) (hi:PI X tg iter wi)
  (hin:∀b,Hz (X.bk (NT++NF) scope b) ifs (ts b)∧PE (X.bk (NT++NF) scope b) elt (te b))
  (hs:∀x,foldedSetIterable iter X.env x=pure x:=by intro _; rfl):PE X (.SetComp elt [⟨tg,iter,ifs,0⟩] scope pos) (tSC knd mk X.K wi T ts te js):=by
 intro pins s σ H Q I h
 obtain ⟨cl,hclos,q2,q3⟩:=pG (env:=X.env) (scope:=scope) fun y hy e=>I.ok.has y.1 (B.free y hy e)
 rw [Al]
 refine wpAny_comprehension_free (use:=none) rfl hs hclos B.kind B.names (cR (hi pins s σ H _ I h) fun v s1 h1=>cR h1 fun itv s2 aO=>?_)
 obtain ⟨it,fp,tn,J,H2,e,I2,TT,st2,f2,q⟩:=aO
 subst e
 refine Wm (Q:=fun H'=>Q (.ref s2.heap.objs.size) H') (RR:=fun acc C=>compPost (model X.prog X.w) X.A X.xe none (EP X pins σ Q) acc C) hk B tk hc hin q2 q3 I2 TT st2 f2 (q _ (I2.hok.fresh (Nat.le_refl _))) fun C H' s' m I' fC hn qd=>?_
 refine ⟨m,hn,fun h' sb=>⟨.ref s2.heap.objs.size,H',?_,rfl,qd⟩⟩
 exact I'.turned (t':=s'.toks) (fun b o hb e=>(sb.2 b hb).trans e) fC.1 fC.2.1 fC.2.2.2.1 fC.2.2.2.2.1 fC.2.2.2.2.2
end
noncomputable def O9 {P:Program} {w:World} (t:TE):TE:=fun σ H Q=>t σ H fun x H2=>∃D ks,x=.ref D∧H2 D=some (SO (PySem.strKind P w) D ks)∧ks.length < 64∧∀(D':Addr) (ns':List Str),H2 D'=none→ns'.Perm ks→sortedS ns'=true→Q (.ref D') (upd H2 D' (.lst (ns'.map V.str)))
theorem Pa {X:Cx} {e:Expr} {t:TE} {p1 pos1:Pos} (hc:X.calm=true) (hl:PE X e t) (g1:Gl X "sorted") (m1:X.mg "sorted"=none)
  (he:starEach [e] X.env=(false,eval e X.env)::starEach [] X.env:=by rfl) (hpl:(backTo pos1 (starEach [] X.env)).any (·.1)=false:=by rfl):PE X (.Call (.Name "sorted" p1) [e] [] pos1) (O9 (P:=X.prog) (w:=X.w) t):=by
 intro pins s σ H Q I h
 refine wpAny_Call_Name_kw (kj I g1 m1 (u:=.builtin "sorted") rfl (PyProof.Rows.callWith_builtin1 ?_ he hpl))
 rw [he]
 show wpAny _ _ (spliced ((false,eval e X.env)::backTo pos1 (starEach [] X.env))) _ _ s
 refine Calls.spliced_cons (cR (hl pins s σ H _ I h) fun v s1 ⟨y,H1,I1,r1,D,ks,ey,hD,h64,q⟩=>Calls.spliced_nil ?_)
 subst ey
 cases r1
 obtain ⟨⟨o,es,ep,t,ho,ex,hd,⟨ks',ek,pk⟩,hb,hf,tb⟩,_,_⟩:=I1.hok D _ hD
 obtain ⟨e1,e2⟩:=Ni ek
 have few:es.size < 64:=by
  rw [←Array.length_toList,ek.len,pk.length_eq]
  omega
 refine Gh (Ok:=fun out=>∃ns',StrsAre out ns'∧ns'.Perm ks∧sortedS ns'=true) (I1.ok.hd hc) ⟨o,ho,ex,hd,hf,tb⟩ few (fun us pm B s2 a n P E' ho' hp=>?_) fun D h' d tk c out ok ge kk gD=>?_
 ·have hS:StrsAre us (us.map strOf):=strsAre_map us fun v hv=>e2 v (pm.mem_iff.mp hv)
  refine list_sort_treeK strKind_oneLt ho' hS.keysOf (fun v1 v2 rest e=>keyKind_strs (by rw [←e]; exact hS)) (by rw [pm.length_eq,List.length_map,Array.length_toList]; exact few) fun st hp1 hp2=>?_
  obtain ⟨ss',b1,b2,b3⟩:=sorted_out_str hS hp1 hp2
  exact hp _ ⟨ss',b1,b2.trans ((pm.map strOf).trans (by rw [e1]; exact pk)),b3⟩
 ·obtain ⟨ns',a1,a2,a3⟩:=ok
  have hz:ns'.length≤sizeLine:=by
   rw [a2.length_eq,sizeLine_eq]
   omega
  exact ⟨.ref D,_,(I1.laid (o:=.lst (ns'.map V.str)) (t':=tk) kk ge ⟨by rw [List.length_map]; exact hz,out.toList,c,rP a1,by simpa [seqObj] using gD⟩).drew d,rfl,q D ns' (I1.hok.fresh ge) a2 a3⟩
end L2
namespace L2
open PySem PySem.Spec PyProof.Rows PySem.W
noncomputable def Yx (fi:FI) (T:oR) (ft:FT) (fe:FE) (js:List Nat):FE:=fun env C=>match fi env C with
 | some (its,e1,C1)=>match fX T ft fe (frB js e1) its C1 with
  | some (ys,C2)=>match qR ys with
   | some l=>some (.ow (.list l),env,C2)
   | none=>none
  | none=>none
 | none=>none
theorem R7 {P:Program} {w:World} {K:PySem.W.Frag} {fi:FI} {T:oR} {ft:FT} {fe:FE} {js:List Nat}:∀σ H Q,tE K (Yx fi T ft fe js) σ H Q→O9 (P:=P) (w:=w) (tSC (PySem.strKind P w) V.str K (tI K true fi) T (fun _=>mF K ft) (fun _=>tE K fe) js) σ H Q:=by
 rintro σ H Q ⟨Z,Θ,env,C,res,env',C',S,hf,q⟩
 unfold Yx at hf
 split at hf
 case h_2=>cases hf
 rename_i its e1 C1 h1
 split at hf
 case h_2=>cases hf
 rename_i ys C2 h2
 split at hf
 case h_2=>cases hf
 rename_i l hs
 cases hf
 unfold qR at hs
 split at hs
 case isFalse=>cases hs
 rename_i hl
 split at hs
 case h_2=>cases hs
 rename_i ns hns
 cases hs
 have hys:=vV hns
 subst hys
 rw [List.length_map] at hl
 refine ⟨Z,Θ,env,C,its,e1,C1,S,h1,fun J H1 k1 f1 S1 it D hD b=>?_⟩
 have Qv:=S1.fz (m8 js e1)
 have it':xH (aK Z Θ e1 σ) Θ H1 J its:=it
 let PB:=aK (lA D Z (oE js e1) σ) Θ [] []
 have CW:∀a,a∈PB ↔ a=D∨a∈aK Z Θ (oE js e1) σ:=fun a=>eO (js:=js) rfl
 refine ⟨fun i m H2=>m=its.length - i∧i≤its.length∧∃(acc rest:List Str) (C2:Ce),bA Θ H1 H2∧dW Θ C2 H2∧H2 D=some (SO (PySem.strKind P w) D (dedup acc))∧fX T ft fe (frB js e1) (its.drop i) C2=some (rest.map .str,C')∧acc++rest=ns,
  ⟨its.length,rfl,Nat.zero_le _,[],ns,C1,bA.upd hD,⟨S1.cell.len,fun n b ns e2 e3=>?_⟩,aH,h2,rfl⟩,?_⟩
 ·have:=S1.cell.at_ n b ns e2 e3
  rw [aJ (aZ this hD)]
  exact this
 rintro i m H2 ⟨rfl,hi,acc,rest,Ci,ki,ci,hDi,hc,ea⟩
 have Yo:aP (er (aK Z Θ e1 σ) H1) (er PB H2):=fj ki S1.H9 fun b m=>by
  rcases (CW b).mp m with rfl | m
  ·exact .inr hD
  ·exact .inl ((m8 js e1).sub b m)
 have Yp:Sm K (lA D Z (oE js e1) σ) Θ (jW []++frB js e1) Ci (([]:List V).map some++frees js σ) H2:=Qv.blk hD ki ⟨_,hDi,fun _ z=>nomatch z⟩ ci (show dU _ [] [] from rfl)
 have Og:∀a∈PB,H2 a≠none:=fun a m=>by
  have:=Yp.zQ a ((eO (js:=js) (lz (env:=jW []++frB js e1) pQ)).mpr ((CW a).mp m))
  exact this
 obtain ⟨V7,V8⟩:=it' i H2 PB Yo (zR ki) Og
 have few:acc.length + rest.length < 64:=by
  rw [←List.length_append,ea]
  exact hl
 have adN:=Kc acc
 cases hd:its[i]? with
 | none=>
  have hi2:i=its.length:=by
   have:=List.getElem?_eq_none_iff.mp hd
   omega
  rw [hi2,List.drop_length] at hc
  have hr:rest=[]:=by
   cases rest with
   | nil=>rfl
   | cons x r=>cases hc
  subst hr
  cases hc
  rw [List.append_nil] at ea
  subst ea
  refine .inl ⟨V8 hi2,D,dedup acc,rfl,hDi,by omega,fun D' ns' hn p hp=>?_⟩
  have kk:=k1.trans ki
  rw [Ou p hp]
  exact q _ _ (kk.trans (bA.upd hn)) (Fz.refl _) ((dI (S.go kk ci) (Cq _) hn).from kk)
 | some d=>
  have hlt:i < its.length:=(List.getElem?_eq_some_iff.mp hd).1
  have ed:its.drop i=d::its.drop (i + 1):=by
   rw [List.drop_eq_getElem_cons hlt]
   obtain ⟨_,e⟩:=List.getElem?_eq_some_iff.mp hd
   rw [e]
  rw [ed] at hc
  unfold fX at hc
  obtain ⟨go,yl⟩:=V7 d hd
  refine .inr ⟨go,fun x H3 y=>?_⟩
  obtain ⟨s3,r3⟩:=yl x H3 y
  split at hc
  case h_2=>cases hc
  rename_i ts ht
  obtain ⟨vs,tv,rvs⟩:=Oe (K:=K) ht r3 (tR _ _)
  refine ⟨vs,tv,?_⟩
  have k3:bA Θ H1 H3:=ki.trans (bA.of s3)
  have Kr:H3 D=some (SO (PySem.strKind P w) D (dedup acc)):=s3 _ _ hDi
  have c3:dW Θ Ci H3:=⟨ci.len,fun n b ns e2 e3=>s3 _ _ (ci.at_ n b ns e2 e3)⟩
  have SB:Sm K (lA D Z (oE js e1) σ) Θ (jW ts++frB js e1) Ci (vs.map some++frees js σ) H3:=Qv.blk hD k3 ⟨_,Kr,fun _ z=>nomatch z⟩ c3 rvs
  have xJ:D∉Θ:=fun m=>(S1.cell.dom D m).ne hD
  split at hc
  ·rename_i Ct Oh
   refine ⟨_,Θ,_,Ci,false,Ct,SB,Oh,fun H4 k4 S4=>w5 ⟨its.length - (i + 1),by omega,rfl,hlt,acc,rest,Ct,k3.trans k4,S4.cell,k4.keep _ _ Kr xJ,hc,ea⟩⟩
  ·rename_i Ct Oh
   split at hc
   case h_2=>cases hc
   rename_i xr eB CB hfe
   split at hc
   case h_2=>cases hc
   rename_i yd Yq
   split at hc
   case h_2=>cases hc
   rename_i zs Cz hzs
   cases rest with
   | nil=>cases hc
   | cons z rest=>
    have hc':yd::zs=PyData.str z::rest.map .str∧Cz=C':=by
     injection hc with hc
     injection hc with hc1 hc2
     exact ⟨hc1,hc2⟩
    obtain ⟨hc1,hc2⟩:=hc'
    injection hc1 with hc1 hc3
    subst hc1 hc2 hc3
    refine ⟨_,Θ,_,Ci,true,Ct,SB,Oh,fun H4 k4 S4=>w6 ⟨_,Θ,_,Ct,xr,eB,CB,S4,hfe,fun y H5 k5 f5 R5=>?_⟩⟩
    obtain ⟨S5,r5⟩:=R5.oX Yq
    have Yr:=k5.keep _ _ (k4.keep _ _ Kr xJ) xJ
    rw [List.length_cons] at few
    refine ⟨dedup acc,z,Yr,r5,by unfold scanBound; omega,its.length - (i + 1),by omega,rfl,hlt,acc++[z],rest,CB,?_,?_,by rw [Gb]; exact aH,hzs,by rw [←ea,List.append_assoc]; rfl⟩
    ·have kk:=(k3.trans k4).trans k5
     refine ⟨fun a o ha na=>?_,fun a ha=>?_⟩
     ·rw [aJ (aZ ha hD)]
      exact kk.keep _ _ ha na
     ·by_cases z:a=D
      ·subst z; rw [aH]; exact Option.some_ne_none _
      ·rw [aJ z]; exact kk.dom a ha
    ·refine ⟨S5.cell.len,fun n b ns e2 e3=>?_⟩
     rw [aJ]
     ·exact S5.cell.at_ n b ns e2 e3
     ·intro z
      subst z
      exact xJ (List.mem_of_getElem? e2)
  ·cases hc
theorem Yy {X:Cx} {NT NF:List Str} {js:List Nat} {elt tg iter:Expr} {ifs:List Expr} {T:oR} {fi:FI} {ft:FT} {fe:FE} {scope:Scope} {pos p1 pos1:Pos} (B:mL X NT NF js scope) (tk:um tg NT T) (hc:X.calm=true) (g1:Gl X "sorted") (m1:X.mg "sorted"=none) (hi:PI X tg iter (tI X.K true fi))
  (hin:∀b,Hz (X.bk (NT++NF) scope b) ifs (mF X.K ft)∧PE (X.bk (NT++NF) scope b) elt (tE X.K fe))
  (hs:∀x,foldedSetIterable iter X.env x=pure x:=by intro _; rfl)
  (he:starEach [.SetComp elt [⟨tg,iter,ifs,0⟩] scope pos] X.env=(false,eval (.SetComp elt [⟨tg,iter,ifs,0⟩] scope pos) X.env)::starEach [] X.env:=by rfl) (hpl:(backTo pos1 (starEach [] X.env)).any (·.1)=false:=by rfl):
  PE X (.Call (.Name "sorted" p1) [.SetComp elt [⟨tg,iter,ifs,0⟩] scope pos] [] pos1) (tE X.K (Yx fi T ft fe js)):=
 (Pa hc (Yw (knd:=PySem.strKind X.prog X.w) (mk:=V.str) (fun k v r=>by obtain ⟨t,rfl⟩:=r; exact ⟨PySem.strKind_is _ _ _ _,rfl⟩) B tk hc hi hin hs) g1 m1 he hpl).weak R7
end L2
namespace L2
open PySem PySem.Spec PyProof.Rows PySem.W
section
variable {X:Cx} {tg:Expr}
noncomputable def Pb (f g:FB):FI:=fun env C=>match bCons f (bCons g bNil) env C with
 | some ([.int i,.int j],_,C1)=>if -(2 ^ 62)≤i∧i < 2 ^ 62∧-(2 ^ 62)≤j∧j < 2 ^ 62 then some (gk i (j - i).toNat,env,C1) else none
 | _=>none
theorem Ky {bb:Bool} {a b:Expr} {f g:FB} {p pos:Pos} (hg:Gl X "range") (hm:X.mg "range"=none) (ha:PA X [a,b] (Rt X.K (bCons f (bCons g bNil)))) (hs:starEach [a,b] X.env=[(false,eval a X.env),(false,eval b X.env)]:=by rfl) (hs2:starEach [b] X.env=[(false,eval b X.env)]:=by rfl):PI X tg (.Call (.Name "range" p) [a,b] [] pos) (tI X.K bb (Pb f g)):=
 (JG hg hm ha hs hs2).weak fun σ H R aO=>by
  obtain ⟨Z,Θ,env,C,its,env',C',S,hf,q⟩:=aO
  unfold Pb at hf
  split at hf
  ·rename_i i j e1 C1 h1
   split at hf
   ·rename_i hj
    cases hf
    refine ⟨Z,Θ,env,C,[.int i,.int j],e1,C',S,h1,fun vs H1 k f S1 b1=>?_⟩
    cases b1 with
    | cons b1 b2=>
     cases b2 with
     | cons b2 b3=>
      cases b3
      exact ⟨i,j,by rw [show _=V.int i from b1,show _=V.int j from b2],hj,q _ H1 k (Fz.refl _) (S.go k S1.cell) (CV i (j - i).toNat)⟩
   ·cases hf
  ·cases hf
end
end L2
namespace L2
open PySem PySem.Spec PyProof.Rows PySem.W
theorem a_t0 {α:Type} (x:α) (r:List α):ju (x::r) 0=some x:=fO (j:=0) rfl
theorem a_t1 {α:Type} (a x:α) (r:List α):ju (a::x::r) 1=some x:=fO (j:=1) rfl
theorem a_t2 {α:Type} (a b x:α) (r:List α):ju (a::b::x::r) 2=some x:=fO (j:=2) rfl
theorem a_t3 {α:Type} (a b c x:α) (r:List α):ju (a::b::c::x::r) 3=some x:=fO (j:=3) rfl
theorem a_t4 {α:Type} (a b c d x:α) (r:List α):ju (a::b::c::d::x::r) 4=some x:=fO (j:=4) rfl
theorem a_t5 {α:Type} (a b c d e x:α) (r:List α):ju (a::b::c::d::e::x::r) 5=some x:=fO (j:=5) rfl
theorem a_t6 {α:Type} (a b c d e f x:α) (r:List α):ju (a::b::c::d::e::f::x::r) 6=some x:=fO (j:=6) rfl
theorem e_bin (op:PyData→PyData→Option Vl) (fa fb:FB) (env:En) (C:Ce):aF op fa fb env C=(fa env C).bind fun p=>(fb p.2.1 p.2.2).bind fun q=>(op p.1 q.1).bind fun r=>some (r,rst r env q.2.1,q.2.2):=by
 unfold aF
 rcases h:fa env C with _ | ⟨x,e1,C1⟩
 ·rfl
 ·rcases h2:fb e1 C1 with _ | ⟨y,e2,C2⟩
  ·simp only [Option.bind_some,h2]; rfl
  ·simp only [Option.bind_some,h2]
   cases op x y <;> rfl
theorem e_dat (f:FE) (env:En) (C:Ce):au f env C=(f env C).bind fun p=>(dat p.1).map fun d=>(d,p.2.1,p.2.2):=by
 unfold au
 rcases h:f env C with _ | ⟨x,e1,C1⟩ <;> rfl
theorem e_bv (i:Nat) (env:En) (C:Ce):aA i env C=(env[i]?).bind fun o=>o.bind fun x=>(dat x).map fun d=>(d,env,C):=by
 unfold aA
 rcases env[i]? with _ | (_ | x) <;> rfl
theorem e_and (f g:FT) (env:En) (C:Ce):iJ f g env C=(f env C).bind fun p=>if p.1 then g env p.2 else some (false,p.2):=by
 unfold iJ
 rcases h:f env C with _ | ⟨_ | _,D⟩ <;> rfl
theorem e_or (f g:FT) (env:En) (C:Ce):zX f g env C=(f env C).bind fun p=>if p.1 then some (true,p.2) else g env p.2:=by
 unfold zX
 rcases h:f env C with _ | ⟨_ | _,D⟩ <;> rfl
theorem e_not (f:FT) (env:En) (C:Ce):mY f env C=(f env C).map fun p=>(!p.1,p.2):=by
 unfold mY
 rcases h:f env C with _ | ⟨b,D⟩ <;> rfl
theorem e_if (c:FT) (f g:FS) (env:En) (C:Ce):jt c f g env C=(c env C).bind fun p=>if p.1 then f env p.2 else g env p.2:=by
 unfold jt
 rcases h:c env C with _ | ⟨_ | _,D⟩ <;> rfl
theorem e_ifv (c:FT) (f g:FE) (env:En) (C:Ce):CG c f g env C=(c env C).bind fun p=>if p.1 then f env p.2 else g env p.2:=by
 unfold CG
 rcases h:c env C with _ | ⟨_ | _,D⟩ <;> rfl
theorem Ug (op op':PyData→PyData→Option Vl) (fa fb fc:FB) {env e1 e2 e3:En} {C C1 C2:Ce} {x y z:PyData} {a b:Bool} (h1:fa env C=some (x,e1,C1)) (h2:fb e1 C1=some (y,e2,C2)) (h3:op x y=some (.im (.bool a))) (h4:fc e2 C2=some (z,e3,C2)) (h5:op' y z=some (.im (.bool b))):Gk op op' fa fb fc env C=some (.im (.bool (a&&b)),env,C2):=by
 unfold Gk
 simp only [h1,h2,h3]
 cases a with
 | false=>rfl
 | true=>simp only [h4,h5]; rfl
theorem r_ow (d:PyData) (e f:En):rst (.ow d) e f=f:=rfl
theorem r_bool (b:Bool) (e f:En):rst (.im (.bool b)) e f=e:=rfl
theorem r_int (i:Int) (e f:En):rst (.im (.int i)) e f=e:=rfl
theorem r_str (z:Str) (e f:En):rst (.im (.str z)) e f=e:=rfl
theorem r_tl (l r:List PyData) (e f:En):rst (.im (.tuple (.list l::r))) e f=f:=rfl
theorem add_int (i j:Int):bu (.int i) (.int j)=some (.im (.int (i + j))):=rfl
theorem sub_int (i j:Int):oV (.int i) (.int j)=some (.im (.int (i - j))):=rfl
theorem le_int (i j:Int):ur (.int i) (.int j)=some (.im (.bool (decide (i≤j)))):=rfl
theorem lt_int (i j:Int):vA (.int i) (.int j)=some (.im (.bool (decide (i < j)))):=rfl
theorem ge_int (i j:Int):Rv (.int i) (.int j)=some (.im (.bool (decide (j≤i)))):=rfl
theorem gt_int (i j:Int):Nq (.int i) (.int j)=some (.im (.bool (decide (j < i)))):=rfl
theorem eq_int (i j:Int):kZ (.int i) (.int j)=some (.im (.bool (i==j))):=rfl
theorem eq_bool (a b:Bool):kZ (.bool a) (.bool b)=some (.im (.bool (a==b))):=rfl
theorem ne_bool (a b:Bool):pM (.bool a) (.bool b)=some (.im (.bool (!(a==b)))):=rfl
theorem ne_int (i j:Int):pM (.int i) (.int j)=some (.im (.bool (!(i==j)))):=rfl
theorem len_l (ds:List PyData):ni [.list ds]=some (.im (.int ds.length)):=rfl
theorem len_t (ds:List PyData):ni [.tuple ds]=some (.im (.int ds.length)):=rfl
theorem ix_t (ds:List PyData) (i:Int):bD (.tuple ds) (.int i)=(ju ds i).map .im:=rfl
theorem ix_l (ds:List PyData) (i:Int):bD (.list ds) (.int i)=(ju ds i).map .im:=rfl
theorem add_l {xs ys:List PyData} (h:xs.length + ys.length≤1000000):bu (.list xs) (.list ys)=some (.ow (.list (xs++ys))):=if_pos h
theorem Yz {xs ys:List PyData} (h:xs.length + ys.length≤1000000):bu (.tuple xs) (.tuple ys)=some (.im (.tuple (xs++ys))):=by
 unfold bu
 cases xs with
 | nil=>rfl
 | cons x xs=>exact if_pos h
theorem o6 {ds:List PyData} {i:Nat} {d:PyData} (h:ds[i]?=some d):bD (.tuple ds) (.int i)=some (.im d):=by
 simp only [bD,Ry,fO h,Option.map_some]
theorem h_ix0 (h:eX):bD (cP h) (.int 0)=some (.im (.tuple (h.ps.map oZ))):=o6 (i:=0) rfl
theorem h_ix1 (h:eX):bD (cP h) (.int 1)=some (.im (.tuple (h.t8.map oY))):=o6 (i:=1) rfl
theorem h_ix2 (h:eX):bD (cP h) (.int 2)=some (.im (.tuple (h.leaves.map cH))):=o6 (i:=2) rfl
theorem h_ix3 (h:eX):bD (cP h) (.int 3)=some (.im (.tuple (h.rules.map Dq))):=o6 (i:=3) rfl
theorem k_ix0 (r:nD):bD (oY r) (.int 0)=some (.im (.int r.1)):=o6 (i:=0) rfl
theorem k_ix1 (r:nD):bD (oY r) (.int 1)=some (.im (.str r.2.1)):=o6 (i:=1) rfl
theorem k_ix2 (r:nD):bD (oY r) (.int 2)=some (.im (.int r.2.2.1)):=o6 (i:=2) rfl
theorem k_ix3 (r:nD):bD (oY r) (.int 3)=some (.im (.str r.2.2.2.1)):=o6 (i:=3) rfl
theorem k_ix4 (r:nD):bD (oY r) (.int 4)=some (.im (.int r.2.2.2.2.1)):=o6 (i:=4) rfl
theorem k_ix5 (r:nD):bD (oY r) (.int 5)=some (.im (.int r.2.2.2.2.2)):=o6 (i:=5) rfl
theorem wu {α:Type} {m:Int} (h0:-1000000≤m) (h1:m≤1000000) (a b:α):(if -(2 ^ 62)≤m∧m < 2 ^ 62 then a else b)=a:=if_pos (by omega)
theorem cI {k n:Nat} {body:FS} {xs:List Vl} {C C1:Ce} {r:Vl} (en:En) (hk:xs.length=k) (he:xs.map some++List.replicate (n - xs.length) none=en) (h:(body en C).map (fun p=>(p.1,p.2.2))=some (.rt r,C1)) (hr:yC C.length r=true) (hC:C1.length=C.length):fN k n body xs C=some (r,C1):=by
 unfold fN
 rw [if_pos hk,he]
 cases hb:body en C with
 | none=>rw [hb] at h; cases h
 | some p=>
  rw [hb] at h
  obtain ⟨fl,e1,C2⟩:=p
  have h:(fl,C2)=(Fl.rt r,C1):=Option.some.inj h
  injection h with h1 h2
  subst h1 h2
  simp only [hr,if_true,Dk hC]
end L2
namespace L2
open PySem PySem.Spec PyProof.Rows PySem.W
theorem letters (k:Int) (h0:0≤k) (h1:k < 26):Ry (.str abc) (.int k)=some (.str ⟨#[97 + k.toNat]⟩):=by
 have e:=Wg h0 h1
 have hl:abc.length≤LIM:=by decide +kernel
 simp only [Ry]
 rw [if_pos hl,e]
 rfl
theorem wz:∀zs:List Str,strsOf (zs.map PyData.str)=some zs
 | []=>rfl
 | z::zs=>by
  show (match strsOf (zs.map PyData.str) with | some t=>some (z::t) | none=>none)=_
  rw [wz zs]
theorem noLs_strs:∀zs:List Str,fM (zs.map PyData.str)=true
 | []=>rfl
 | z::zs=>by
  show (true&&fM (zs.map PyData.str))=true
  rw [noLs_strs zs]
  rfl
theorem pX:∀cs:List Nat,fM (cs.map fun c=>PyData.str ⟨#[c]⟩)=true
 | []=>rfl
 | c::cs=>by
  show (true&&fM (cs.map fun c=>PyData.str ⟨#[c]⟩))=true
  rw [pX cs]
  rfl
theorem qZ:∀cs:List Nat,strsOf (cs.map fun c=>PyData.str ⟨#[c]⟩)=some (cs.map fun c=>(⟨#[c]⟩:Str))
 | []=>rfl
 | c::cs=>by
  show (match strsOf (cs.map fun c=>PyData.str ⟨#[c]⟩) with | some t=>some (_::t) | none=>none)=_
  rw [qZ cs]
  rfl
theorem Kz:(Str.ofString "").length=0:=by decide +kernel
noncomputable abbrev hEn (b:Nat) (zs:List Str) (ps:List (Str×Str)) (own:List Str) (rk:List nD) (lv:List cL) (ru:List (PyData×PyData)) (v7 v8 v9 v10 v11 iY Lg Pg Er yK Bo Am:Option Vl):En:=
 [some (.ce b),some (.im (.list (zs.map .str))),some (.ow (.list (ps.map oZ))),some (.ow (.list (own.map .str))),some (.ow (.list (rk.map oY))),some (.ow (.list (lv.map cH))),some (.ow (.dict ru)),v7,v8,v9,v10,v11,iY,Lg,Pg,Er,yK,Bo,Am]
theorem rst_same (r:Vl) (e:En):rst r e e=e:=by
 cases r <;> simp [rst]
theorem yL:∀ss:List Dp,fM (ss.map Jg)=true
 | []=>rfl
 | s::ss=>by
  show (true&&fM (ss.map Jg))=true
  rw [yL ss]
  rfl
theorem yM:∀rs:List Jf,fM (rs.map Dq)=true
 | []=>rfl
 | r::rs=>by
  show ((true&&(true&&(fM (r.2.2.map Jg)&&true)))&&fM (rs.map Dq))=true
  rw [yM rs,yL]
  rfl
theorem Ph {k n:Nat} {body:FS} {xs:List Vl} {en e1:En} {C C1:Ce} {r:Vl} (hk:xs.length=k) (he:xs.map some++List.replicate (n - xs.length) none=en) (h:body en C=some (.rt r,e1,C1)) (hr:yC C.length r=true) (hC:C1.length=C.length):fN k n body xs C=some (r,C1):=by
 unfold fN
 rw [if_pos hk,he,h]
 simp only [hr,if_true,Dk hC]
theorem yN:∀zs:List Str,(zs.map PyData.str).all fU=true
 | []=>rfl
 | z::zs=>by
  rw [List.map_cons,List.all_cons,yN zs]
  rfl
theorem in_strs (z:Str) (zs:List Str):pN (.str z) (.list (zs.map .str))=some (.im (.bool (decide (z∈zs)))):=by
 have:inB (.str z) (.list (zs.map .str))=some (inD (.str z) (zs.map .str)):=if_pos (by rw [yN]; rfl)
 unfold pN
 rw [this,Dm]
 rfl
theorem eq_strs (x z:Str):kZ (.str x) (.str z)=some (.im (.bool (decide (x=z)))):=by
 have:(x==z)=decide (x=z):=by rw [Bool.eq_iff_iff]; simp
 show some (Vl.im (.bool (x==z)))=_
 rw [this]
theorem ne_strs (x z:Str):pM (.str x) (.str z)=some (.im (.bool (!decide (x=z)))):=by
 have:(x==z)=decide (x=z):=by rw [Bool.eq_iff_iff]; simp
 show some (Vl.im (.bool (!(x==z))))=_
 rw [this]
noncomputable def bF (q:List (Str×Str)):List (Str×PyData):=q.map fun p=>(p.1,.str p.2)
theorem Dv:∀q,Gv (cD (bF q))=true
 | []=>rfl
 | x::q=>by
  show (true&&Gv (cD (bF q)))=true
  rw [Dv q]
  rfl
theorem q9 (q:List (Str×Str)) (z:Str):lR (cD (bF q)) (.str z)=some ((cO q z).map .str):=by
 rw [yJ]
 unfold bF cO
 rw [O7,Option.map_map]
 rfl
theorem noLs_ints:∀l:List Int,fM (l.map PyData.int)=true
 | []=>rfl
 | x::l=>by
  show (true&&fM (l.map PyData.int))=true
  rw [noLs_ints l]
  rfl
theorem GF:∀(n:Nat),Dc [.list (List.replicate n (.bool true))]=some (.im (.bool true))∧fM (List.replicate n (.bool true))=true:=by
 intro n
 have h:boolsOf (List.replicate n (.bool true))=some (List.replicate n true)∧fM (List.replicate n (.bool true))=true:=by
  induction n with
  | zero=>exact ⟨rfl,rfl⟩
  | succ n ih=>
   rw [List.replicate_succ,List.replicate_succ]
   refine ⟨?_,?_⟩
   ·unfold boolsOf
    rw [ih.1]
   ·show (true&&fM (List.replicate n (.bool true)))=true
    rw [ih.2]
    rfl
 refine ⟨?_,h.2⟩
 unfold Dc
 simp only [h.1,Option.map_some]
 congr 3
 rw [List.all_eq_true]
 intro b hb
 exact (List.mem_replicate.mp hb).2
theorem rm {zs:List Str} {k:Int} (h0:0≤k) (h1:k < zs.length):∃z,z∈zs∧zs[k.toNat]?=some z∧ju (zs.map PyData.str) k=some (.str z):=by
 obtain ⟨x,e1,e2⟩:=O6 (xs:=zs.map PyData.str) h0 (by rw [List.length_map]; exact h1)
 rw [List.getElem?_map] at e2
 cases hz:zs[k.toNat]? with
 | none=>rw [hz] at e2; cases e2
 | some z=>
  rw [hz] at e2
  cases e2
  exact ⟨z,List.mem_of_getElem? hz,rfl,e1⟩
theorem Wn {α:Type} {f:α→PyData} {l:List α} {i:Nat} {d:PyData} (h:(l.map f)[i]?=some d):∃x,l[i]?=some x∧d=f x:=by
 rw [List.getElem?_map] at h
 cases hx:l[i]? with
 | none=>rw [hx] at h; cases h
 | some x=>rw [hx] at h; exact ⟨x,rfl,(Option.some.inj h).symm⟩
noncomputable def Bf (L:Nat) (C:Ce) (b k:Nat):Prop:=C.length=L∧∃x y z:Int,C[b]?=some [x,y,z]∧0≤x∧0≤y∧y≤3000000000∧0≤z∧z + k≤900000
theorem Bf.mono {L:Nat} {C:Ce} {b k j:Nat} (h:Bf L C b k) (hj:j≤k):Bf L C b j:=by
 obtain ⟨l,x,y,z,h1,h2,h3,h4,h5,h6⟩:=h
 exact ⟨l,x,y,z,h1,h2,h3,h4,h5,by omega⟩
theorem Bf.dec {L:Nat} {C:Ce} {b k:Nat} (h:Bf L C b (k + 1)):Bf L C b k:=h.mono (Nat.le_succ k)
theorem Bf.eq {L:Nat} {C C':Ce} {b b' k k':Nat} (h:Bf L C b k) (h':Bf L C' b' k'):C'.length=C.length:=h'.1.trans h.1.symm
inductive HE (b:Nat) (zs:List Str) (ps:List (Str×Str)) (own:List Str) (rk:List nD) (lv:List cL) (ru:List (PyData×PyData)):En→Prop
 | mk (v7 v8 v9 v10 v11 iY Lg Pg Er yK Bo Am:Option Vl):HE b zs ps own rk lv ru (hEn b zs ps own rk lv ru v7 v8 v9 v10 v11 iY Lg Pg Er yK Bo Am)
theorem Jj (a c:Nat) {n i:Nat} (h:i < n):a + c * (n - i)=a + c * (n - (i + 1)) + c:=by
 rw [show n - i=(n - (i + 1)) + 1 by omega,Nat.mul_add,Nat.mul_one,Nat.add_assoc]
theorem Wo (a:Nat) {n i:Nat} (h:i < n):a + (n - i)=a + (n - (i + 1)) + 1:=by omega
theorem hide {P:Prop} (h:∀G:Prop,(P→G)→G):P:=h P id
end L2
namespace L2
open PySem PySem.Spec PyProof.Rows PySem.W
section
variable {prog:Program} {w:World} {A:Around} {E:Value→Shared→Prop} {s:Shared}
end
section
variable {prog:Program} {w:World} {A:Around} {E:Value→Shared→Prop} {s:Shared} {z TI TO i1 i2 l1 l2:Addr} {f1 f2:List Addr} {n:Nat} {P1 P2:Nat→Value→Prop} {S1 S2:Nat→Heap→Prop}
end
end L2
namespace L2
open PySem PySem.Spec PyProof.Rows PySem.W
end L2
namespace L2
open PySem PySem.Spec PyProof.Rows PySem.W
section
variable {X:Cx}
end
end L2
namespace L2
open PySem PySem.Spec PyProof.Rows PySem.W
noncomputable def Jk (fk:FB) (fv:FE):FE:=fun env C=>match fk env C with
 | some (dk,e1,C1)=>match fv e1 C1 with
  | some (r,e2,C2)=>match cN dk with
   | some _=>match still r with
    | .im d=>some (.ow (.dict [(dk,d)]),e2,C2)
    | _=>none
   | none=>none
  | none=>none
 | none=>none
theorem Pj {X:Cx} {k v:Expr} {pos:Pos} {fk:FB} {fv:FE} (hk:PE X k (lZ X.K fk)) (hv:PE X v (tE X.K fv)):PE X (.Dict [some k] [v] pos) (tE X.K (Jk fk fv)):=
 (Q6 (Mu hk hv Q5) rfl rfl (fun z=>nomatch z) (Nat.le_of_ble_eq_true rfl)).weak fun σ H Q aO=>by
 obtain ⟨Z,Θ,env,C,r,env',C',S,hf,q⟩:=aO
 unfold Jk at hf
 split at hf
 case h_2=>cases hf
 rename_i dk e1 C1 h1
 split at hf
 case h_2=>cases hf
 rename_i rv e2 C2 h2
 split at hf
 case h_2=>cases hf
 rename_i kk hkk
 split at hf
 case h_2=>cases hf
 rename_i d hs
 cases hf
 intro p hp
 refine ⟨p::Z,Θ,env,C,dk,e1,C1,S.push hp _ (fun _ z=>nomatch z),h1,fun x H1 k1 f1 S1 bx=>?_⟩
 refine ⟨p::Z,Θ,e1,C1,rv,env',C',S1,h2,fun y H2 k2 f2 r2=>?_⟩
 have R:=r2.still
 rw [hs] at R
 obtain ⟨S2,rz⟩:=R
 have ex:x=kV kk:=by
  cases dk <;> first | (cases hkk; exact bx) | cases hkk
 have MP:bA Θ H H2:=((bA.upd hp).trans k1).trans k2
 have np:p∉Θ:=fun m=>by
  have:=(List.nodup_cons.mp S2.nd).1
  exact this (List.mem_append_right _ (List.mem_append_left _ m))
 have e2p:H2 p=some (.dK []):=(k1.trans k2).keep _ _ aH np
 refine ⟨e2p,[(kk,y)],by rw [ex]; rfl,Nat.le_of_ble_eq_true rfl,?_⟩
 have kf:bA Θ H (upd H2 p (.dK [(kk,y)])):=⟨fun a o ha na=>by
  rw [aJ (aZ ha hp)]
  exact MP.keep _ _ ha na,fun a ha=>by
  by_cases z:a=p
  ·exact absurd (z ▸ hp) ha
  ·rw [aJ z]
   exact MP.2 a ha⟩
 have c2:dW Θ C' (upd H2 p (.dK [(kk,y)])):=⟨S2.cell.len,fun n b ns h3 h4=>by
  have:=S2.cell.at_ n b ns h3 h4
  rw [aJ (show b≠p from fun z=>np (by rw [←z]; exact List.mem_of_getElem? h3))]
  exact this⟩
 refine q _ _ kf (f1.trans f2) ⟨p,rfl,hp,(S.fz (f1.trans f2)).vJ hp kf ⟨_,aH,fun _ z=>nomatch z⟩ c2,[y],.inl ⟨[kk],?_,aH⟩,y,[],rfl,?_,rfl⟩
 ·unfold b7
  rw [hkk]
  rfl
 ·refine rz.same fun a u e=>?_
  unfold er at e ⊢
  split at e
  ·cases e
  ·rename_i n
   rw [if_neg n,aJ (show a≠p from fun z=>n (by rw [z]; exact List.mem_cons_self))]
   exact e
noncomputable def R8 (i:Nat) (f:FB):FS:=fun env C=>if jz env[i]? then match f env C with
  | some (.list ys,e1,C1)=>match e1[i]? with
   | some (some (.ow (.list ds)))=>if ds.length + ys.length≤LIM then some (.nx,e1.set i (some (.ow (.list (ds++ys)))),C1) else none
   | _=>none
  | _=>none
 else none
theorem Wq {X:Cx} {pos:Pos} {i:Nat} {o e:Expr} {f:FB} {apos cpos:Pos} (ho:PE X o (rJ i)) (he:PE X e (lZ X.K f))
  (hs0:swapsWith (.Call (.Attribute o "extend" apos) [e] [] cpos) none pos.line X.env=pure false:=by rfl)
  (hbase:attributeBase o "extend" X.env (eval o X.env)=eval o X.env:=by rfl)
  (hfew:((backTo cpos (starEach [e] X.env)).all (fun x=>!x.1)&&(backToKw cpos (keywordEach [] X.env)).all (fun x=>x.1.isSome)
   &&decide (([e]:List Expr).length + ([]:List Keyword).length + (if ([]:List Keyword).isEmpty then 0 else 1) < 30))=true:=by rfl)
  (hline:(apos.endLine==cpos.line)=true:=by rfl) (hs:starEach [e] X.env=(false,eval e X.env)::starEach [] X.env:=by rfl) (hplain:(backTo cpos (starEach [] X.env)).any (·.1)=false:=by rfl):
  PS X (.Expr (.Call (.Attribute o "extend" apos) [e] [] cpos) pos) (tS X.K (R8 i f)):=
 (zc (Bv PySem.F.plainAttrs_list PySem.F.slot_list_extend PySem.F.type_list_extend (Mq.r JW) ho (cU he gq hs) hbase hfew hline hs hplain) hs0).weak fun D σ H aO=>by
  obtain ⟨Z,Θ,env,C,fl,env',C',S,hf,q⟩:=aO
  unfold R8 at hf
  split at hf
  ·rename_i h0
   obtain ⟨ds0,h0⟩:=CQ h0
   obtain ⟨v0,Lf,a,rfl,WY,ha0,r0⟩:=S.slot i _ h0
   split at hf
   ·rename_i ys e1 C1 h1
    split at hf
    ·rename_i ds hi
     split at hf
     ·rename_i hl
      cases hf
      refine ⟨_,Lf,.inl ⟨rfl,WY,cM.of ha0⟩,Z,Θ,env,C,.list ys,e1,C',S,h1,fun v H1 k f S1 bo=>?_⟩
      obtain ⟨b,ws,rfl,hb,r1⟩:=bo
      obtain ⟨v1,ev1,a1,ea1,vs,ha1,r2⟩:=S1.slot i _ hi
      subst ea1
      rw [Lf] at ev1
      cases ev1
      refine ⟨a,b,vs,ws,rfl,rfl,ha1,bJ hb,by rw [bB r2,bB r1,sizeLine_eq]; unfold LIM at hl; omega,?_⟩
      have w:iW X.K Z Θ e1 σ H1 Θ (e1.set i (some (.ow (.list (ds++ys))))) C' σ (upd H1 a (.lst (vs++ws))):=S1.write hi Lf ⟨_,aH,kY r2 r1⟩
      exact q Θ σ _ ((iW.Ep k f S1).trans w)
     ·cases hf
    ·cases hf
   ·cases hf
  ·cases hf
end L2
namespace L2
open PySem PySem.Spec PyProof.Rows PySem.W
section
variable {prog:Program} {w:World} {A:Around} {E:Value→Shared→Prop} {s:Shared} {R:Result→Shared→Prop} {I S:Addr} {fp wr:List Addr} {n:Nat} {Pv:Nat→Value→Prop} {St:Nat→Heap→Prop} {bt:Nat→Nat→Bool} {HK:Heap→Prop}
theorem R9 (W:Walks prog w A.in1 I fp wr n Pv St) (cmp:∀(i j:Nat) (vi vj:Value) (s:Shared) (Q:Value→Shared→Prop) (E:Value→Shared→Prop),HK s.heap→Pv i vi→Pv j vj→Q (.bool (bt i j)) s→wpAny (model prog w) A.in1 (richCompare .Lt vi vj) Q E s)
  (hk:∀h h',HK h→(∀b o,b∉wr→b≠S→h.get? b=some o→h'.get? b=some o)→HK h') (out:S∉fp):∀(m j:Nat) (s:Shared) (vb:Value) (c:Nat),n - (j + 1)=m→j + 1≤n→St (j + 1) s.heap→HK s.heap→Pv (argBest bt j) vb→s.heap.get? S=some (Yc vb c)→
  (∀v h' tk,Pv (argBest bt (n - 1)) v→(∀b o,b∉wr→b≠S→s.heap.get? b=some o→h'.get? b=some o)→R (.ok (.ret v)) { s with heap:=h',toks:=tk })→codeAny (model prog w) A (.builtin "min.loop" ⟨[.ref I,.none,.ref S],[]⟩) R s:=by
 have Sd:S∉wr:=fun z=>out (W.sub _ z)
 have nm:(toString "min"++toString ".loop":String)="min.loop":=by decide
 intro m
 induction m with
 | zero=>
  intro j s vb c hm hj st kp pb hS hR
  have last:j + 1=n:=by omega
  refine codeAny_builtin PySem.F.entry_min_loop ?_; rw [Around.under_plainId PySem.F.plain_min_loop _]
  show wpAny _ A.in1 (seqItems? (.ref S) >>= _) _ _ s; refine wpAny_bind (wpAny_seqItems hS rfl ?_)
  show wpAny _ A.in1 (tryCatch (pyNext (.ref I)) _ >>= _) _ _ s; refine wpAny_bind (wpAny_tryCatch (W.done s _ _ (last ▸ st) fun h' tk kk=>?_))
  have g:=kk S _ Sd hS
  show wpAny _ A.in1 (updateSeq S (fun _=>#[]) >>= _) _ _ _; refine wpAny_bind (wpAny_updateSeq g rfl (wpAny_bind (wpAny_letGo (wpAny_pure ?_))))
  exact hR vb _ tk (by rw [←last]; exact pb) fun b o hb hbS e=>(Heap.get?_update_other _ _ (Ne.symm hbS)).trans (kk b o hb e)
 | succ m ih=>
  intro j s vb c hm hj st kp pb hS hR
  have lt:j + 1 < n:=by omega
  refine codeAny_builtin PySem.F.entry_min_loop ?_; rw [Around.under_plainId PySem.F.plain_min_loop _]
  show wpAny _ A.in1 (seqItems? (.ref S) >>= _) _ _ s; refine wpAny_bind (wpAny_seqItems hS rfl ?_)
  show wpAny _ A.in1 (tryCatch (pyNext (.ref I)) _ >>= _) _ _ s; refine wpAny_bind (wpAny_tryCatch (W.item (j + 1) s _ _ lt st fun v h' tk pv st' kk=>?_))
  have g:=kk S _ Sd hS
  have YB:HK h':=hk _ _ kp fun b o hb _ e=>kk b o hb e
  show wpAny _ A.in1 (tryCatch (holding [v,v] (richCompare .Lt v vb >>= _)) _ >>= _) _ _ _; refine wpAny_bind (wpAny_tryCatch (wpAny_holding (wpAny_bind (cmp (j + 1) (argBest bt j) v vb _ _ _ YB pv pb ?_))))
  refine wpAny_bind (wpAny_holding (wpAny_truthy_bool (wpAny_bind (wpAny_letGo (wpAny_pure ?_)))))
  cases hb:bt (j + 1) (argBest bt j) with
  | true=>
   simp only [if_true]
   refine wpAny_bind (wpAny_updateSeq g rfl (wpAny_bind (wpAny_letGo ?_))); rw [nm]
   refine wpAny_pure ⟨plainId_quiet PySem.F.plain_min_loop _,ih (j + 1) _ v _ (by omega) lt (W.frame _ _ _ st' fun b hbf o e=>(Heap.get?_update_other _ _ fun z:S=b=>out (z ▸ hbf)).trans e) (hk _ _ YB fun b o _ hbS e=>(Heap.get?_update_other _ _ (Ne.symm hbS)).trans e) (by simp only [argBest,hb,if_true]; exact pv) (Heap.get?_update_self _ g rfl) fun v' h2 tk2 YC MP=>?_⟩
   exact hR v' h2 tk2 YC fun b o hb' hbS e=>MP b o hb' hbS ((Heap.get?_update_other _ _ (Ne.symm hbS)).trans (kk b o hb' e))
  | false=>
   simp only [Bool.false_eq_true,if_false]
   refine wpAny_bind (wpAny_letGo ?_); rw [nm]
   refine wpAny_pure ⟨plainId_quiet PySem.F.plain_min_loop _,ih (j + 1) _ vb c (by omega) lt st' YB (by simp only [argBest,hb,Bool.false_eq_true,if_false]; exact pb) g fun v' h2 tk2 YC MP=>?_⟩
   exact hR v' h2 tk2 YC fun b o hb' hbS e=>MP b o hb' hbS (kk b o hb' e)
theorem Sg (W:Walks prog w A.in1 I fp wr n Pv St) (cmp:∀(i j:Nat) (vi vj:Value) (s:Shared) (Q:Value→Shared→Prop) (E:Value→Shared→Prop),HK s.heap→Pv i vi→Pv j vj→Q (.bool (bt i j)) s→wpAny (model prog w) A.in1 (richCompare .Lt vi vj) Q E s)
  (hk:∀h h',HK h→(∀b o,b∉wr→b≠S→h.get? b=some o→h'.get? b=some o)→HK h') (out:S∉fp) (pos:0 < n) {c:Nat} (st:St 0 s.heap) (kp:HK s.heap) (hS:s.heap.get? S=some { cls:=.type "list",dict:=none,data:=.seq #[] c,slots:=#[] })
  (hR:∀v h' tk,Pv (argBest bt (n - 1)) v→(∀b o,b∉wr→b≠S→s.heap.get? b=some o→h'.get? b=some o)→R (.ok (.ret v)) { s with heap:=h',toks:=tk }):codeAny (model prog w) A (.builtin "min.loop" ⟨[.ref I,.none,.ref S],[]⟩) R s:=by
 have Sd:S∉wr:=fun z=>out (W.sub _ z)
 have nm:(toString "min"++toString ".loop":String)="min.loop":=by decide
 refine codeAny_builtin PySem.F.entry_min_loop ?_; rw [Around.under_plainId PySem.F.plain_min_loop _]
 show wpAny _ A.in1 (seqItems? (.ref S) >>= _) _ _ s; refine wpAny_bind (wpAny_seqItems hS rfl ?_)
 show wpAny _ A.in1 (tryCatch (pyNext (.ref I)) _ >>= _) _ _ s; refine wpAny_bind (wpAny_tryCatch (W.item 0 s _ _ pos st fun v h' tk pv st' kk=>?_))
 have g:=kk S _ Sd hS
 have YB:HK h':=hk _ _ kp fun b o hb _ e=>kk b o hb e
 show wpAny _ A.in1 (updateSeq S (fun _=>#[v,v]) >>= _) _ _ _; refine wpAny_bind (wpAny_updateSeq g rfl ?_); rw [nm]
 refine wpAny_pure ⟨plainId_quiet PySem.F.plain_min_loop _,R9 W cmp hk out _ 0 _ v _ rfl pos (W.frame _ _ _ st' fun b hbf o e=>(Heap.get?_update_other _ _ fun z:S=b=>out (z ▸ hbf)).trans e) (hk _ _ YB fun b o _ hbS e=>(Heap.get?_update_other _ _ (Ne.symm hbS)).trans e) pv (Heap.get?_update_self _ g rfl) fun v' h2 tk2 YC MP=>?_⟩
 exact hR v' h2 tk2 YC fun b o hb' hbS e=>MP b o hb' hbS ((Heap.get?_update_other _ _ (Ne.symm hbS)).trans (kk b o hb' e))
theorem Sh {l:Addr} {items:Array Value} {Q:Value→Shared→Prop} (hh:A.handled=none) (hl:s.heap.IsList l items) (pos:0 < items.size)
  (cmp:∀(i j:Nat) (vi vj:Value) (s':Shared) (Q:Value→Shared→Prop) (E:Value→Shared→Prop),(∀b o,s.heap.get? b=some o→s'.heap.get? b=some o)→items[i]?=some vi→items[j]?=some vj→Q (.bool (bt i j)) s'→wpAny (model prog w) A.in1 (richCompare .Lt vi vj) Q E s')
  (h:∀(v:Value) (h':Heap) (tk:Nat),items[argBest bt (items.size - 1)]?=some v→(∀b o,s.heap.get? b=some o→h'.get? b=some o)→Q v { s with heap:=h',toks:=tk }):wpAny (model prog w) A (call (.builtin "min") [.ref l]) Q E s:=by
 have nm:(toString "min"++toString ".loop":String)="min.loop":=by decide
 have ltl:l < s.heap.objs.size:=by obtain ⟨o,ho,_⟩:=hl; exact Heap.lt_size ho
 refine zP PySem.F.kind_min PySem.F.plain_min PySem.F.entry_min (PySem.F.args_min1 _) ?_
 show wpAny _ A.in1 (Builtin.Builtins.bindParams "min" ["key","default"] 0 ⟨[],[]⟩ >>= _) _ _ s
 refine wpAny_bind (wpAny_of_eq (show Builtin.Builtins.bindParams "min" ["key","default"] 0 ⟨[],[]⟩=pure [none,none] from rfl) ?_); refine wpAny_bind (wpAny_pure ?_)
 refine wpAny_bind (wpAny_pyIter_list hl (wpAny_bind (wpAny_newObj_type ?_)))
 rw [nm]
 have TX:(s.heap.push { cls:=.type "list_iterator",data:=.fields #[.ref l,.int 0 0] }).objs.size=s.heap.objs.size + 1:=Heap.size_push ..
 have W:=Walks.list (prog:=prog) (w:=w) (A:=A.in1) (by simp [hh]) s.heap.objs.size l (Nat.ne_of_lt ltl) items
 refine wpAny_pure ⟨plainId_quiet PySem.F.plain_min_loop _,?_⟩
 show codeAny (model prog w) A (.builtin "min.loop" ⟨[.ref s.heap.objs.size,.none,.ref (s.heap.push { cls:=.type "list_iterator",data:=.fields #[.ref l,.int 0 0] }).objs.size],[]⟩) _ { s with heap:=(s.heap.push { cls:=.type "list_iterator",data:=.fields #[.ref l,.int 0 0] }).push { cls:=.type "list",data:=.seq #[] } }
 have ol:∀b o,s.heap.get? b=some o→b∉[s.heap.objs.size]:=fun b o e=>by
  simp only [List.mem_cons,List.not_mem_nil,or_false]
  exact Nat.ne_of_lt (Heap.lt_size e)
 have ol2:∀b o,s.heap.get? b=some o→b≠(s.heap.push { cls:=.type "list_iterator",data:=.fields #[.ref l,.int 0 0] }).objs.size:=fun b o e=>by
  rw [TX]
  exact Nat.ne_of_lt (Nat.lt_succ_of_lt (Heap.lt_size e))
 refine Sg (HK:=fun h=>∀b o,s.heap.get? b=some o→h.get? b=some o) W cmp (fun h h' k kk b o e=>kk b o (ol b o e) (ol2 b o e) (k b o e)) ?_ pos ⟨⟨_,Heap.get?_push_of_some _ (Heap.get?_push_size _ rfl),rfl,rfl⟩,(hl.push _).push _⟩ (fun b o e=>Heap.get?_push_of_some _ (Heap.get?_push_of_some _ e)) (Heap.get?_push_size _ rfl) fun v h' tk hv kk=>?_
 ·rw [TX]
  simp only [List.mem_cons,List.not_mem_nil,or_false,not_or]
  exact ⟨Nat.ne_of_gt (Nat.lt_succ_self _),Nat.ne_of_gt (Nat.lt_succ_of_lt ltl)⟩
 ·exact h v h' tk hv fun b o e=>kk b o (ol b o e) (ol2 b o e) (Heap.get?_push_of_some _ (Heap.get?_push_of_some _ e))
end
section
variable {X:Cx}
theorem xM (hc:X.calm=true) (hu:X.A.units + 1 < cLine):cJ X (.builtin "min") (fun xs H Q=>∃(p:Addr) (rows:List Row) (sh:List Bool),xs=[.ref p]∧cM X.K H p (rows.map fun r=>V.ref r.1)∧0 < rows.length∧(∀r∈rows,H r.1=some (.tup (r.2.map kV))∧r.2.map dD=sh)∧
  ∀r,rows[argBest (fP rows) (rows.length - 1)]?=some r→Q (.ref r.1) H):=by
 intro pins s σ H xs us Q I r h
 obtain ⟨p,rows,sh,rfl,hp,pos,ha,q⟩:=h
 obtain ⟨u,rfl,ru⟩:=vals1 r
 cases ru
 obtain ⟨its,r',pl,hz⟩:=I.list hp
 have ei:its=rows.map fun r=>Value.ref r.1:=by
  clear pos ha q pl hz hp
  induction rows generalizing its with
  | nil=>cases r'; rfl
  | cons a rows ih=>
   cases r' with
   | cons h t=>
    cases h
    rw [ih _ t]
    rfl
 subst ei
 have tu:∀r∈rows,TupAt s.heap r∧r.2.map dD=sh:=fun r hr=>by
  obtain ⟨_,its,v,t⟩:=(show bL X.prog X.w H s.heap r.1 (.tup (r.2.map kV)) from I.hok r.1 _ (ha r hr).1)
  exact ⟨⟨its,v,t⟩,(ha r hr).2⟩
 refine Sh (bt:=fP rows) (I.ok.hd hc) pl.isList (by simpa using pos) (fun i j vi vj s' Q E k hi hj q=>?_) fun v h' tk hv k=>?_
 ·have hi':(rows.map fun r=>Value.ref r.1)[i]?=some vi:=by simpa using hi
  have hj':(rows.map fun r=>Value.ref r.1)[j]?=some vj:=by simpa using hj
  rw [List.getElem?_map] at hi' hj'
  cases ri:rows[i]? with
  | none=>rw [ri] at hi'; cases hi'
  | some a=>
   cases rj:rows[j]? with
   | none=>rw [rj] at hj'; cases hj'
   | some b=>
    rw [ri] at hi'
    rw [rj] at hj'
    cases hi'
    cases hj'
    obtain ⟨⟨its,v,t⟩,sa⟩:=tu a (List.mem_of_getElem? ri)
    obtain ⟨⟨its2,v2,t2⟩,sb⟩:=tu b (List.mem_of_getElem? rj)
    have ta:=(TupAt.keep (r:=a) ⟨its,v,t⟩ k)
    have tb:=(TupAt.keep (r:=b) ⟨its2,v2,t2⟩ k)
    obtain ⟨its,v,t⟩:=ta
    obtain ⟨its2,v2,t2⟩:=tb
    refine u9 t t2 (by simpa using v) (by simpa using v2) (sa.trans sb.symm) hu ?_
    have e:fP rows i j=gr a.2 b.2:=by
     unfold fP qz
     simp [ri,rj]
    rw [←e]
    exact q
 ·have hv':(rows.map fun r=>Value.ref r.1)[argBest (fP rows) (rows.length - 1)]?=some v:=by simpa using hv
  rw [List.getElem?_map] at hv'
  cases rv:rows[argBest (fP rows) (rows.length - 1)]? with
  | none=>rw [rv] at hv'; cases hv'
  | some a=>
   rw [rv] at hv'
   cases hv'
   exact ⟨.ref a.1,H,I.kept (t':=tk) k,rfl,q a rv⟩
end
end L2
namespace L2
open PySem PySem.Spec PyProof.Rows PySem.W
noncomputable def Ite (K:PySem.W.Frag) (a:Addr):It:=⟨fun i H=>∃xs,cM K H a xs∧i < xs.length,
 fun i H v H'=>∃p x,H p=none∧v=.ref p∧H'=upd H p (.tup [.int i,x])∧∀xs,cM K H a xs→xs[i]?=some x,
 fun i H=>∃xs,cM K H a xs∧i=xs.length⟩
theorem KC {P:Program} {w:World} {K:PySem.W.Frag} {es:List Expr} {k:Nat} {ps:Pos} {a z j:Addr} (hzj:z≠j):
  Turn P w K (.Tuple es k ps) (Ite K a) [z,j] z (fun i h=>(∃old,IsEnum h z j i old)∧h.IsListIter j a i) where
 mem:=by simp
 obj:=fun i h st c hc=>by
  obtain ⟨⟨_,h1⟩,⟨o4,e4,_,d4⟩⟩:=st
  simp only [List.mem_cons,List.not_mem_nil,or_false] at hc
  rcases hc with rfl | rfl
  ·exact ⟨_,h1,fun v q=>by cases q⟩
  ·exact ⟨_,e4,fun v q=>by rw [d4] at q; cases q⟩
 keep:=fun i h h' st kk=>by
  obtain ⟨⟨old,h1⟩,⟨o4,e4,r4⟩⟩:=st
  exact ⟨⟨old,kk z (by simp) _ h1⟩,⟨o4,kk j (by simp) _ e4,r4⟩⟩
 item:=by
  intro X hP hw hK hc i pins s σ H E I hf st hg
  subst hP hw hK
  obtain ⟨xs,ha,hi⟩:=hg
  obtain ⟨its,r1,p1,_⟩:=I.list ha
  obtain ⟨⟨old,s1⟩,s2⟩:=st
  have ex:xs[i]?=some (xs.getD i .non):=by simp [List.getD,hi]
  obtain ⟨u,hu,q1⟩:=r1.get ex
  have hx:its.toArray[i]?=some u:=by simpa using hu
  refine wpAny_pyNext_enum_item s1 s2 p1.isList hx hzj fun h' a1 a2 a3 a4 kk=>⟨_,rfl,wpAny_letOwnedTupleGo_enum a1 fun h2 z2 m2=>?_⟩
  have ltz:z < s.heap.objs.size:=Heap.lt_size s1
  have XX:H s.heap.objs.size=none:=I.hok.fresh (Nat.le_refl _)
  have kT:h2.get? s.heap.objs.size=some { cls:=.type "tuple",data:=.seq #[.int i s.toks,u] }:=m2.extBut _ _ (Nat.ne_of_gt ltz) a3
  refine ⟨.ref s.heap.objs.size,upd H s.heap.objs.size (.tup [.int i,xs.getD i .non]),Inv.qx (s:=s) (h':=h2) (t':=s.toks + 1) (ch:=[z,j]) I (fun c o hc e=>?_) hf (aP.upd XX) (fun c o e n=>?_) (fun c v e=>?_),rfl,⟨_,_,XX,rfl,rfl,fun xs' h1=>?_⟩,⟨⟨_,z2⟩,a2.extBut m2.extBut (Ne.symm hzj)⟩,fun c hc=>?_⟩
  ·simp only [List.mem_cons,List.not_mem_nil,or_false,not_or] at hc
   exact m2.extBut _ _ hc.1 (kk c o hc.1 hc.2 e)
  ·rw [aJ (Nat.ne_of_lt (Heap.lt_size e))]
   exact n
  ·by_cases X3:c=s.heap.objs.size
   ·subst X3
    rw [aH] at e
    cases e
    exact .inr ⟨by show 2≤sizeLine; decide,[.int i s.toks,u],.cons ⟨_,rfl⟩ (.cons q1 .nil),_,kT,rfl,_,rfl⟩
   ·rw [aJ X3] at e
    exact .inl e
  ·rw [I.qe h1 ha]
   exact ex
  ·rw [aJ]
   ·exact (hf c hc).1
   ·simp only [List.mem_cons,List.not_mem_nil,or_false] at hc
    obtain ⟨o4,e4,_⟩:=s2
    rcases hc with rfl | rfl
    ·exact Nat.ne_of_lt ltz
    ·exact Nat.ne_of_lt (Heap.lt_size e4)
 done:=by
  intro X hP hw hK hc i pins s σ H E I hf st hg
  subst hP hw hK
  obtain ⟨xs,ha,hi⟩:=hg
  obtain ⟨its,r1,p1,_⟩:=I.list ha
  obtain ⟨⟨old,s1⟩,s2⟩:=st
  have l1:=r1.length
  refine wpAny_pyNext_enum_end (I.ok.hd hc) s1 s2 p1.isList (by simp; omega) fun h' kk=>⟨rfl,I.qx (t':=s.toks) (ch:=[z,j]) (fun c o hc e=>?_) hf (aP.refl H) (fun _ _ _ n=>n) fun _ _ e=>.inl e⟩
  simp only [List.mem_cons,List.not_mem_nil,or_false,not_or] at hc
  exact kk _ _ hc.2 e
 self:=fun _ _ _ _ _ st h=>by
  obtain ⟨⟨_,h1⟩,_⟩:=st
  exact wpAny_pyIter_enum h1 h
noncomputable def aaL (K:PySem.W.Frag) (t:TA):TI:=fun σ H R=>t σ H fun vs H1=>∃a xs,vs=[.ref a]∧cM K H1 a xs∧R (Ite K a) H1
theorem Wr {X:Cx} {es:List Expr} {k:Nat} {ps:Pos} {x:Expr} {t:TA} {p pos:Pos} (hg:Gl X "enumerate") (hm:X.mg "enumerate"=none) (ha:PA X [x] t) (hs:starEach [x] X.env=[(false,eval x X.env)]:=by rfl) (hs2:starEach ([]:List Expr) X.env=[]:=by rfl):
  PI X (.Tuple es k ps) (.Call (.Name "enumerate" p) [x] [] pos) (aaL X.K t):=by
 intro pins s σ H R I h
 refine Call_ (kj I hg hm PyProof.Rows.boot_enumerate (PyProof.Rows.callWith_type1 (cR (ha pos pins s σ H _ I h) fun us s1 aO=>?_) (by rw [hs,hs2]) (by rw [hs2]; rfl)))
 obtain ⟨vs,H1,I1,r1,a,xs,e,h1,q⟩:=aO
 subst e
 obtain ⟨u,rfl,r⟩:=vals1 r1
 cases r
 obtain ⟨its,v1,p1,_⟩:=I1.list h1
 refine call_enumerate_list p1.isList fun h' g1 g2 _ kk=>wpAny_pyIter_enum g1 ?_
 have I2:Inv X pins σ H1 { s1 with heap:=h' }:=I1.kept (t':=s1.toks) kk
 refine ⟨s1.heap.objs.size + 1,[s1.heap.objs.size + 1,s1.heap.objs.size],_,_,H1,rfl,I2,KC (Nat.succ_ne_self _),⟨⟨_,g1⟩,g2⟩,fun c hc=>?_,q⟩
 refine I1.zj ?_ (I1.hok.fresh ?_)
 all_goals
  simp only [List.mem_cons,List.not_mem_nil,or_false] at hc
  rcases hc with rfl | rfl <;> omega
noncomputable def wA (ds:List PyData):List PyData:=ds.zipIdx.map fun p=>.tuple [.int (p.2:Nat),p.1]
theorem Dw {ds:List PyData} {i:Nat} {d:PyData} (h:(wA ds)[i]?=some d):∃x,ds[i]?=some x∧d=.tuple [.int i,x]:=by
 unfold wA at h
 rw [List.getElem?_map,List.getElem?_zipIdx] at h
 cases hx:ds[i]? with
 | none=>rw [hx] at h; cases h
 | some x=>
  rw [hx] at h
  refine ⟨x,rfl,?_⟩
  have:=Option.some.inj h
  rw [←this,Nat.zero_add]
theorem yO (ds:List PyData):(wA ds).length=ds.length:=by
 unfold wA
 rw [List.length_map,List.length_zipIdx]
theorem Sq {K:PySem.W.Frag} {P:List Addr} {H:Hp} {a:Addr} {ds:List PyData} {vs:List V} (ha:er P H a=some (.lst vs)) (r:dU (er P H) ds vs):xH P P H (Ite K a) (wA ds):=fun i H2 P2 s1 s2 n=>by
 have h2:cM K H2 a vs:=cM.of (bJ (s1 _ _ ha))
 have l1:=bB r
 refine ⟨fun d hd=>?_,fun hi=>⟨vs,h2,by rw [hi,yO]; exact l1.symm⟩⟩
 obtain ⟨x,e1,rfl⟩:=Dw hd
 obtain ⟨v,ev,rv⟩:=kW r e1
 refine ⟨⟨vs,h2,(List.getElem?_eq_some_iff.mp ev).1⟩,fun y H3 yl=>?_⟩
 obtain ⟨p,v',hp,rfl,rfl,hh⟩:=yl
 have g1:=hh vs h2
 rw [ev] at g1
 cases g1
 have sp:aP H2 (upd H2 p (.tup [.int i,v])):=aP.upd hp
 refine ⟨sp,p,[.int i,v],rfl,?_,.int i,[v],rfl,rfl,v,[],rfl,rv.same (s1.trans (qF sp)),rfl⟩
 unfold er
 rw [if_neg (fun m=>n p m hp),aH]
noncomputable def Zu (f:FE):FI:=fun env C=>match f env C with
 | some (r,e1,C1)=>match still r with
  | .im (.list ds)=>some (wA ds,e1,C1)
  | _=>none
 | none=>none
theorem Ss {X:Cx} {es:List Expr} {k:Nat} {ps:Pos} {x:Expr} {f:FE} {p pos:Pos} (hg:Gl X "enumerate") (hm:X.mg "enumerate"=none) (ha:PE X x (tE X.K f)) (hs:starEach [x] X.env=(false,eval x X.env)::starEach [] X.env:=by rfl) (hs1:starEach [x] X.env=[(false,eval x X.env)]:=by rfl) (hs2:starEach ([]:List Expr) X.env=[]:=by rfl):
  PI X (.Tuple es k ps) (.Call (.Name "enumerate" p) [x] [] pos) (tI X.K false (Zu f)):=(Wr hg hm (cU ha gq hs) hs1 hs2).weak fun σ H R aO=>by
 obtain ⟨Z,Θ,env,C,its,env',C',S,hf,q⟩:=aO
 unfold Zu at hf
 split at hf
 case h_2=>cases hf
 rename_i r e1 C1 h1
 split at hf
 case h_2=>cases hf
 rename_i ds hd
 cases hf
 refine ⟨Z,Θ,env,C,_,env',C',S,h1,fun v H1 k f R=>?_⟩
 obtain ⟨S1,a,vs,rfl,ha,r⟩:=R.oX hd
 exact ⟨a,vs,rfl,cM.of (bJ ha),q _ H1 k f S1 (Sq ha r)⟩
end L2
namespace L2
open PySem PySem.Spec PyProof.Rows PySem.W
theorem KD {P:Program} {w:World} {k:Key} {u:Value} (h:(bY P w).is k u=true):RelV (kV k) u:=by
 rcases bZ h with ⟨i,t,rfl,rfl⟩ | ⟨x,t,rfl,rfl⟩ <;> exact ⟨t,rfl⟩
section
variable {prog:Program} {w:World} {A:Around} {E:Value→Shared→Prop} {s:Shared} {r d:Addr} {kvs:List (Key×Value)} {ep:Nat} {b c:Bool} {Q:Value→Shared→Prop}
noncomputable def gP (as:List Addr) (fG:List (Key×Key)):List Row:=as.zipWith (fun a p=>(a,[p.1,p.2])) fG
theorem sW {fG:List (Key×Key)} (hh:A.handled=none) (hv:s.heap.IsItemsView r d) (hm:s.heap.DictAt (bY prog w) d kvs ep) (h64:fG.length < 64) (hne:0 < fG.length) (hk:kvs.map (·.1)=fG.map (·.1)) (hx:Vals (fG.map fun p=>kV p.2) (kvs.map (·.2))) (hty:∀p∈fG,dD p.1=b∧dD p.2=c)
  (h:∀(as:List Addr) (p:List Nat) (D:Addr) (h':Heap) (n tk:Nat),as.length=fG.length→as.Pairwise (· < ·)→(∀a∈as,s.heap.objs.size≤a∧a≠D)→(∀r∈gP as fG,TupAt h' r)→p.Perm (List.range (gP as fG).length)→p=uo ((gP as fG).map (·.2))→s.heap.objs.size≤D→(∀b o,s.heap.get? b=some o→h'.get? b=some o)→
   h'.get? D=some (seqObj "list" ((p.map fun i=>(gP as fG).getD i (0,[])).map fun r=>Value.ref r.1).toArray n)→Q (.ref D) { s with heap:=h',toks:=tk }):
  wpAny (model prog w) A (call (.builtin "sorted") [.ref r]) Q E s:=by
 have hlk:kvs.length=fG.length:=by have:=congrArg List.length hk; simpa using this
 refine Calls.call_function_entry kind_sorted plain_sorted entry_sorted (args_sorted1 _) ?_
 unfold Builtin.«sorted»
 refine wpAny_bind (m:=checkCount "sorted" 1 1 _) (wpAny_pure (wpAny_bind (kdx_collect (A:=A.in1) (by simp [hh]) hv hm (by rw [sizeLine_eq]; omega) fun h1 tk as kk hlen G=>?_)))
 have hla:as.length=fG.length:=by omega
 have hlr:(gP as fG).length=fG.length:=by unfold gP; rw [List.length_zipWith]; omega
 have tu:∀r∈gP as fG,TupAt h1 r∧r.2.map dD=b::[c]:=fun r hr=>by
  obtain ⟨j,hj,rfl⟩:=List.getElem_of_mem hr
  rw [hlr] at hj
  have ea:as[j]?=some as[j]:=List.getElem?_eq_getElem (by omega)
  have ek:fG[j]?=some fG[j]:=List.getElem?_eq_getElem hj
  obtain ⟨key,k,x,e1,e2,e3⟩:=G.pairs j _ ea
  have er:(gP as fG)[j]'(by omega)=(as[j],[fG[j].1,fG[j].2]):=by simp [gP]
  rw [er]
  have kk1:k=fG[j].1:=by
   have:=congrArg (·[j]?) hk
   simp only [List.getElem?_map,e1,ek,Option.map_some] at this
   exact Option.some.inj this
  have kx:RelV (kV fG[j].2) x:=by
   have q1:(fG.map fun p=>kV p.2)[j]?=some (kV fG[j].2):=by rw [List.getElem?_map,ek]; rfl
   obtain ⟨u,g1,g2⟩:=hx.get q1
   rw [List.getElem?_map,e1] at g1
   cases g1
   exact g2
  refine ⟨⟨[key,x],.cons (kk1 ▸ KD e2) (.cons kx .nil),_,e3,rfl,_,rfl⟩,?_⟩
  have:=hty fG[j] (List.getElem_mem hj)
  show [dD fG[j].1,dD fG[j].2]=_
  rw [this.1,this.2]
 have eu:as.map Value.ref=(gP as fG).map fun r=>Value.ref r.1:=by
  refine List.ext_getElem (by rw [List.length_map,List.length_map]; omega) fun i h1 h2=>?_
  rw [List.getElem_map,List.getElem_map]
  simp [gP]
 rw [eu]
 have hsz:s.heap.objs.size≤h1.objs.size:=by
  have m:as[0]'(by omega)∈as:=List.getElem_mem _
  exact Nat.le_of_lt (Nat.lt_trans (G.above _ m) (G.there m))
 generalize hR:gP as fG=rows at *
 refine wpAny_bind (wpAny_newList ?_ (by rw [List.length_map,sizeLine_eq]; omega))
 have hoL:(h1.push (seqObj "list" (rows.map fun r=>Value.ref r.1).toArray 0)).get? h1.objs.size=some (seqObj "list" (rows.map fun r=>Value.ref r.1).toArray 0):=Heap.get?_push_size _ rfl
 have up:∀s':Shared,Kp h1.objs.size (h1.push (seqObj "list" (rows.map fun r=>Value.ref r.1).toArray 0)) s'.heap→∀b o,h1.get? b=some o→s'.heap.get? b=some o:=fun s' k b o e=>k b o (Nat.ne_of_lt (Heap.lt_size e)) (Heap.get?_push_of_some _ e)
 refine wpAny_bind (wpAny_holding (wpAny_call_entry slot_list_sort ⟨_,hoL,rfl⟩ entry_list_sort (u5 (κ:=tuples' true) (lt:=fP rows) (Rl:=fun p=>p=uo (rows.map (·.2))) (vs:=rows.map fun r=>Value.ref r.1) (s:={ s with heap:=h1.push (seqObj "list" (rows.map fun r=>Value.ref r.1).toArray 0),toks:=tk }) hoL (by rw [List.length_map]; omega) (fun h2=>rW (by rw [List.length_map]) h2) (fun h2=>pI (by rw [List.length_map]) h2)
  (fun h2 s' k Q' q'=>rT (fun r hr=>⟨(tu r hr).1.keep (up s' k),(tu r hr).2⟩) (by rw [List.length_map] at h2; omega) Q' q') (fun h2 s' k i j hi hj C q'=>vf (sh:=b::[c]) (fun r hr=>⟨(tu r hr).1.keep (up s' k),(tu r hr).2⟩) (by simpa using hi) (by simpa using hj) C q') fun p h' n hp hrl k e=>⟨_,rfl,?_⟩) (args_list_sort _)))
 rw [List.length_map] at hp
 rw [rU hp] at e
 have kh:=up { s with heap:=h' } k
 subst hR
 exact wpAny_pure ⟨_,rfl,h as p h1.objs.size h' n tk hla G.rise (fun a ha=>⟨Nat.le_of_lt (G.above a ha),Nat.ne_of_lt (G.there ha)⟩) (fun r hr=>(tu r hr).1.keep kh) hp hrl hsz (fun b o e=>kh b o (kk b o e)) e⟩
end
noncomputable def layR (H:Hp) (rows:List Row):Hp:=fun a=>match rows.find? (fun r=>decide (r.1=a)) with
 | some r=>some (.tup (r.2.map kV))
 | none=>H a
theorem Pk {H:Hp} {rows:List Row} {a:Addr} (h:∀r∈rows,r.1≠a):layR H rows a=H a:=by
 unfold layR
 rw [List.find?_eq_none.mpr fun r hr=>by rw [decide_eq_false (h r hr)]; exact Bool.false_ne_true]
theorem Jl {H:Hp}:∀{rows:List Row},(rows.map (·.1)).Nodup→∀r∈rows,layR H rows r.1=some (.tup (r.2.map kV))
 | q::rows,nd,r,hr=>by
  rw [List.map_cons,List.nodup_cons] at nd
  unfold layR
  rcases List.mem_cons.mp hr with rfl | hr
  ·rw [List.find?_cons_of_pos (by simp)]
  ·have ne:¬decide (q.1=r.1)=true:=fun e=>nd.1 (List.mem_map.mpr ⟨r,hr,(of_decide_eq_true e).symm⟩)
   rw [List.find?_cons_of_neg (p:=fun r1:Row=>decide (r1.1=r.1)) ne]
   exact Jl nd.2 r hr
theorem KH {H:Hp} {rows:List Row} {a:Addr} {u:HO} (h:layR H rows a=some u):H a=some u∨∃r∈rows,r.1=a∧u=.tup (r.2.map kV):=by
 unfold layR at h
 cases hf:rows.find? (fun r=>decide (r.1=a)) with
 | none=>rw [hf] at h; exact .inl h
 | some r=>
  rw [hf] at h
  exact .inr ⟨r,List.mem_of_find?_eq_some hf,of_decide_eq_true (List.find?_some (p:=fun r:Row=>decide (r.1=a)) hf),(Option.some.inj h).symm⟩
theorem Dy:∀{fG:List (Key×Key)} {vs:List (Key×Value)},KV (fG.map fun p=>(p.1,kV p.2)) vs→vs.map (·.1)=fG.map (·.1)∧Vals (fG.map fun p=>kV p.2) (vs.map (·.2))
 | [],vs,h=>by cases h; exact ⟨rfl,.nil⟩
 | p::fG,vs,h=>by
  cases h with
  | cons h t=>
   obtain ⟨a,b⟩:=Dy t
   exact ⟨by rw [List.map_cons,List.map_cons,a,←h.1],.cons h.2 b⟩
noncomputable def Su (td:TE):TE:=fun σ H Q=>td σ H fun x H1=>∃(d:Addr) (fG:List (Key×Key)) (b c:Bool),x=.ref d∧H1 d=some (.dK (fG.map fun p=>(p.1,kV p.2)))∧fG.length < 64∧0 < fG.length∧(∀p∈fG,dD p.1=b∧dD p.2=c)∧
 ∀(l:Addr) (rows:List Row) (H2:Hp),aP H1 H2→H1 l=none→H2 l=some (.lst (rows.map fun r=>V.ref r.1))→rows.map (·.2)=vd (fG.map fun p=>[p.1,p.2])→(∀r∈rows,H2 r.1=some (.tup (r.2.map kV)))→Q (.ref l) H2
theorem KJ {X:Cx} {o:Expr} {td:TE} {p1 apos cpos pos1:Pos} (hc:X.calm=true) (ho:PE X o td) (g1:Gl X "sorted") (m1:X.mg "sorted"=none)
  (he:starEach [.Call (.Attribute o "items" apos) [] [] cpos] X.env=(false,eval (.Call (.Attribute o "items" apos) [] [] cpos) X.env)::starEach [] X.env:=by rfl) (hpl:(backTo pos1 (starEach [] X.env)).any (·.1)=false:=by rfl)
  (hbase:attributeBase o "items" X.env (eval o X.env)=eval o X.env:=by rfl) (hline:(apos.endLine==cpos.line)=true:=by rfl):
  PE X (.Call (.Name "sorted" p1) [.Call (.Attribute o "items" apos) [] [] cpos] [] pos1) (Su td):=by
 intro pins s σ H Q I h
 refine wpAny_Call_Name_kw (kj I g1 m1 (u:=.builtin "sorted") rfl ?_)
 refine PyProof.Rows.callWith_builtin1 ?_ he hpl
 rw [he]
 show wpAny _ _ (spliced ((false,eval (.Call (.Attribute o "items" apos) [] [] cpos) X.env)::backTo pos1 (starEach [] X.env))) _ _ s
 refine Calls.spliced_cons (wpAny_Call_method (T:="dict") (id:="dict.items") hbase rfl hline PySem.F.plainAttrs_dict PySem.F.slot_dict_items PySem.F.type_dict_items (cR (ho pins s σ H _ I h) fun u s1 aO=>?_))
 obtain ⟨x,H1,I1,rx,d,fG,b,c,ex,hd,h64,hne,hty,q⟩:=aO
 subst ex
 obtain rfl:u=Value.ref d:=rx
 obtain ⟨z,lo,vs,rel,dd⟩:=Hu I1.hok hd
 obtain ⟨hk,hx⟩:=Dy rel
 refine ⟨dd.typeIs,dd.mapOf.noDict,?_⟩
 show wpAny _ _ (callWith cpos (.builtin "dict.items") [.ref d] [] []) _ _ s1
 refine method_meetsIn PySem.F.slot_dict_items PySem.F.entry_dict_items rfl (PyProof.Rows.evalArgs_none ⟨rfl,dd.typeIs,PySem.F.args_dict_items_1 _,_,meets_dict_items (bY X.prog X.w) d lo,⟨vs,dd⟩,Calls.spliced_nil ?_⟩)
 obtain ⟨od,es,ep,hod,hdr⟩:=dd
 have sz:(s1.heap.push { cls:=.type "dict_items",data:=.fields #[.ref d] }).objs.size=s1.heap.objs.size + 1:=Heap.size_push ..
 refine sW (I1.ok.hd hc) (d:=d) ⟨_,Heap.get?_push_size _ rfl,rfl,rfl⟩ (ep:=ep) ⟨od,es,Heap.get?_push_of_some _ hod,hdr⟩ h64 hne hk hx hty fun as p D h' n tk hla hup hfr tu hp hrl hD kk e=>?_
 have nda:as.Nodup:=hup.imp fun h=>Nat.ne_of_lt h
 obtain ⟨rows,hR⟩:∃rows,rows=gP as fG:=⟨_,rfl⟩
 rw [←hR] at tu hp hrl e
 have r1:rows.map (·.1)=as:=by
  rw [hR]
  refine List.ext_getElem (by simp [gP,hla]) fun i h1 h2=>?_
  simp [gP]
 have r2:rows.map (·.2)=fG.map fun p=>[p.1,p.2]:=by
  rw [hR]
  refine List.ext_getElem (by simp [gP,hla]) fun i h1 h2=>?_
  simp [gP]
 have ra:∀r∈rows,s1.heap.objs.size≤r.1∧r.1≠D:=fun r hr=>by
  have m:r.1∈as:=by rw [←r1]; exact List.mem_map.mpr ⟨r,hr,rfl⟩
  have:=hfr _ m
  rw [sz] at this
  exact ⟨by omega,this.2⟩
 rw [sz] at hD
 have hnD:H1 D=none:=I1.hok.fresh (by omega)
 have old:∀a,a < s1.heap.objs.size→upd (layR H1 rows) D (.lst ((p.map fun i=>rows.getD i (0,[])).map fun r=>V.ref r.1)) a=H1 a:=fun a ha=>by
  rw [aJ (show a≠D by omega),Pk fun r hr z=>by have:=(ra r hr).1; rw [z] at this; omega]
 have hin:∀r∈rows,upd (layR H1 rows) D (.lst ((p.map fun i=>rows.getD i (0,[])).map fun r=>V.ref r.1)) r.1=some (.tup (r.2.map kV)):=fun r hr=>by
  rw [aJ (ra r hr).2]
  exact Jl (by rw [r1]; exact nda) r hr
 have sm:aP H1 (upd (layR H1 rows) D (.lst ((p.map fun i=>rows.getD i (0,[])).map fun r=>V.ref r.1))):=fun a u ha=>by
  have lt:a < s1.heap.objs.size:=by
   rcases Nat.lt_or_ge a s1.heap.objs.size with h | h
   ·exact h
   ·rw [I1.hok.fresh h] at ha; cases ha
  rw [old a lt]
  exact ha
 refine ⟨.ref D,_,Inv.qx (s:=s1) (h':=h') (t':=tk) (ch:=[]) I1 (fun a o _ q=>kk a o (Heap.get?_push_of_some _ q)) (fun _ m=>nomatch m) sm (fun a o q n=>by rw [old a (Heap.lt_size q)]; exact n) (fun a u ha=>?_),rfl,q D (p.map fun i=>rows.getD i (0,[])) _ sm hnD aH ((zM hp hrl).trans (by rw [r2])) fun r hr=>hin r ((n6 hp).mem_iff.mp hr)⟩
 by_cases hz:a=D
 ·subst hz
  rw [aH] at ha
  cases ha
  refine .inr ⟨?_,_,n,oh _,by simpa [seqObj] using e⟩
  rw [List.length_map,List.length_map,hp.length_eq,List.length_range,sizeLine_eq]
  have:=congrArg List.length r2
  rw [List.length_map,List.length_map] at this
  omega
 ·rw [aJ hz] at ha
  rcases KH ha with h | ⟨r,hr,rfl,rfl⟩
  ·exact .inl h
  ·obtain ⟨its,v,t⟩:=tu r hr
   refine .inr ⟨?_,its,v,t⟩
   have m:r.2∈fG.map fun p=>[p.1,p.2]:=by rw [←r2]; exact List.mem_map.mpr ⟨r,hr,rfl⟩
   obtain ⟨pp,_,e2⟩:=List.mem_map.mp m
   rw [←e2,sizeLine_eq]
   show 2≤_
   omega
end L2
namespace L2
open PySem PySem.Spec PyProof.Rows PySem.W
noncomputable def Pn:List (PyData×PyData)→Option (List (Key×Key))
 | []=>some []
 | p::r=>(cN p.1).bind fun k=>(cN p.2).bind fun v=>(Pn r).map fun t=>(k,v)::t
theorem Dz {E:Hp}:∀{kvs:List (PyData×PyData)} {fG:List (Key×Key)} {ks:List Key} {vs:List V},Pn kvs=some fG→b7 cN kvs=some ks→pL E kvs vs→ks.zip vs=fG.map (fun p=>(p.1,kV p.2))∧kvs.map (fun p=>PyData.tuple [p.1,p.2])=fG.map (fun p=>.tuple [sU p.1,sU p.2])
 | [],fG,ks,vs,h,h1,_=>by cases h; cases h1; exact ⟨rfl,rfl⟩
 | p::r,fG,ks,vs,h,h1,h2=>by
  obtain ⟨k,e1,h⟩:=Option.bind_eq_some_iff.mp h
  obtain ⟨v,e2,h⟩:=Option.bind_eq_some_iff.mp h
  obtain ⟨t,e3,h⟩:=Option.map_eq_some_iff.mp h
  subst h
  unfold b7 at h1
  rw [e1] at h1
  cases ha:b7 cN r with
  | none=>rw [ha] at h1; cases h1
  | some t1=>
   rw [ha] at h1
   cases h1
   obtain ⟨u,w,rfl,q,h2⟩:=h2
   obtain ⟨a,b⟩:=Dz e3 ha h2
   obtain ⟨p1,p2⟩:=p
   have hv:u=kV v:=Nv e2 q
   have d1:p1=sU k:=by cases p1 <;> first | (cases e1; rfl) | cases e1
   have d2:p2=sU v:=by cases p2 <;> first | (cases e2; rfl) | cases e2
   refine ⟨?_,?_⟩
   ·rw [List.zip_cons_cons,List.map_cons,a,hv]
   ·rw [List.map_cons,List.map_cons,b,d1,d2]
noncomputable def GJ (kvs:List (PyData×PyData)):Option (List PyData):=(Pn kvs).bind fun fG=>fG.head?.bind fun p=>if fG.length < 64∧∀q∈fG,dD q.1=dD p.1∧dD q.2=dD p.2 then some (sV (kvs.map fun p=>.tuple [p.1,p.2])) else none
noncomputable def Pq:PyData→Option (List (PyData×PyData))
 | .dict kvs=>some kvs
 | _=>none
theorem Pr {d:PyData} {kvs:List (PyData×PyData)} (h:Pq d=some kvs):d=.dict kvs:=by
 cases d <;> first | (cases h; rfl) | cases h
noncomputable def An (f:FB):FE:=fun env C=>(f env C).bind fun p=>(Pq p.1).bind fun kvs=>(GJ kvs).map fun l=>(.ow (.list l),env,p.2.2)
theorem KN {X:Cx} {o:Expr} {f:FB} {p1 apos cpos pos1:Pos} (hc:X.calm=true) (ho:PE X o (lZ X.K f)) (g1:Gl X "sorted") (m1:X.mg "sorted"=none)
  (he:starEach [.Call (.Attribute o "items" apos) [] [] cpos] X.env=(false,eval (.Call (.Attribute o "items" apos) [] [] cpos) X.env)::starEach [] X.env:=by rfl) (hpl:(backTo pos1 (starEach [] X.env)).any (·.1)=false:=by rfl)
  (hbase:attributeBase o "items" X.env (eval o X.env)=eval o X.env:=by rfl) (hline:(apos.endLine==cpos.line)=true:=by rfl):
  PE X (.Call (.Name "sorted" p1) [.Call (.Attribute o "items" apos) [] [] cpos] [] pos1) (tE X.K (An f)):=(KJ hc ho g1 m1 he hpl hbase hline).weak fun σ H Q aO=>by
 obtain ⟨Z,Θ,env,C,r,env',C',S,hf,q⟩:=aO
 refine hide fun GG gg=>?_
 obtain ⟨⟨d,e1,C1⟩,h1,hf⟩:=Option.bind_eq_some_iff.mp hf
 obtain ⟨kvs,hd,hf⟩:=Option.bind_eq_some_iff.mp hf
 obtain ⟨l,hl,hf⟩:=Option.map_eq_some_iff.mp hf
 obtain ⟨fG,hk,hl⟩:=Option.bind_eq_some_iff.mp hl
 obtain ⟨p,hp,hl⟩:=Option.bind_eq_some_iff.mp hl
 split at hl
 case isFalse=>cases hl
 rename_i hall
 cases hl
 cases hf
 cases Pr hd
 have pos:0 < fG.length:=by
  cases fG with
  | nil=>cases hp
  | cons _ _=>exact Nat.succ_pos _
 refine gg ⟨Z,Θ,env,C,.dict kvs,e1,C1,S,h1,fun v H1 k f S1 b1=>?_⟩
 refine hide fun G2 g2=>?_
 obtain ⟨a,vs,rfl,da,rr⟩:=b1.dct
 rcases da with ⟨ks,a1,a2⟩ | ⟨ks,⟨ne,a1⟩,a2⟩
 ·obtain ⟨e2,e3⟩:=Dz hk a1 rr
  rw [e2] at a2
  refine g2 ⟨a,fG,dD p.1,dD p.2,rfl,a2,hall.1,pos,hall.2,fun l rows H2 sm hn hl hr hin=>?_⟩
  have kp:bA Θ H H2:=k.trans (bA.of sm)
  have SD:=S.vJ (k.none hn) kp ⟨_,hl,fun _ z=>nomatch z⟩ ⟨S1.cell.len,fun n b ns e2 e3=>sm _ _ (S1.cell.at_ n b ns e2 e3)⟩
  have es:(rows.map fun r=>PyData.tuple (r.2.map sU))=sV (kvs.map fun p=>.tuple [p.1,p.2]):=by
   unfold sV
   rw [e3,List.map_map]
   have:(fG.map (tX ∘ fun p=>PyData.tuple [sU p.1,sU p.2]))=fG.map fun p=>[p.1,p.2]:=by
    refine List.map_congr_left fun q _=>?_
    show (keysOf ([q.1,q.2].map sU)).getD []=[q.1,q.2]
    rw [nq]
    rfl
   rw [this,←hr,List.map_map]
   rfl
  refine q _ H2 kp (Fz.refl _) ⟨l,rfl,k.none hn,SD,_,hl,?_⟩
  rw [←es]
  exact nA fun r m=>sr SD (hin r m)
 ·exfalso
  cases kvs with
  | nil=>exact ne rfl
  | cons q r=>
   obtain ⟨k',e1,_⟩:=Option.bind_eq_some_iff.mp hk
   unfold b7 at a1
   split at a1
   ·rename_i g1 _
    exact Nx e1 g1
   ·cases a1
end L2
namespace L2
open PySem PySem.Spec PyProof.Rows PySem.W
noncomputable def DG (ks:List (List Key)):Nat:=argBest (fun i j=>gr (ks.getD i (ks.headD [])) (ks.getD j (ks.headD []))) (ks.length - 1)
theorem GK (rows:List Row):argBest (fP rows) (rows.length - 1)=DG (rows.map (·.2)):=by
 have e:fP rows=fun i j=>gr ((rows.map (·.2)).getD i ((rows.map (·.2)).headD [])) ((rows.map (·.2)).getD j ((rows.map (·.2)).headD [])):=by
  funext i j
  rw [fP,qC,qC]
 unfold DG
 rw [e,List.length_map]
noncomputable def GP (ds:List PyData):Option Vl:=ds.head?.bind fun d0=>(sO d0).bind fun sh=>if ∀d∈ds,sO d=some sh then (ds[DG (ds.map tX)]?).map .im else none
noncomputable def Ao:List PyData→Option Vl
 | [.list ds]=>GP ds
 | _=>none
theorem Sv {K:PySem.W.Frag}:Bm K (fun xs H Q=>∃(p:Addr) (rows:List Row) (sh:List Bool),xs=[.ref p]∧cM K H p (rows.map fun r=>V.ref r.1)∧0 < rows.length∧(∀r∈rows,H r.1=some (.tup (r.2.map kV))∧r.2.map dD=sh)∧
  ∀r,rows[argBest (fP rows) (rows.length - 1)]?=some r→Q (.ref r.1) H) Ao:=by
 intro Z Θ env C σ H xs ds res S b e Q q
 refine hide fun GG gg=>?_
 unfold Ao at e
 split at e
 case h_2=>cases e
 rename_i ds
 obtain ⟨d0,h0,e⟩:=Option.bind_eq_some_iff.mp e
 obtain ⟨sh,_,e⟩:=Option.bind_eq_some_iff.mp e
 split at e
 case isFalse=>cases e
 rename_i hall
 obtain ⟨d,hd,rfl⟩:=Option.map_eq_some_iff.mp e
 obtain ⟨v,rfl,bb⟩:=jA b
 obtain ⟨a,vs,rfl,ha,r⟩:=bb.lst
 obtain ⟨rows,rfl,e2,e3⟩:=vU hall r
 have ek:ds.map tX=rows.map (·.2):=by
  rw [e2,List.map_map]
  refine List.map_congr_left fun r _=>?_
  show (keysOf (r.2.map sU)).getD []=r.2
  rw [nq]
  rfl
 rw [ek,←GK] at hd
 refine gg ⟨a,rows,sh,rfl,cM.of ha,?_,fun r m=>⟨bJ (e3 r m).1,(e3 r m).2⟩,fun r hr=>?_⟩
 ·cases rows with
  | nil=>rw [e2] at h0; cases h0
  | cons _ _=>exact Nat.succ_pos _
 ·have m:=List.mem_of_getElem? hr
  have hd':d=.tuple (r.2.map sU):=by
   rw [e2,List.getElem?_map,hr] at hd
   exact (Option.some.inj hd).symm
  obtain ⟨u,t,e4,q4,_⟩:=nA (E:=er (aK Z Θ env σ) H) (rows:=[r]) fun x hx=>by rw [List.mem_singleton.mp hx]; exact (e3 r m).1
  cases e4
  refine q _ H (bA.refl _ _) ⟨S,?_⟩
  rw [hd']
  exact q4
end L2
namespace L2
open PySem PySem.Spec PyProof.Rows PySem.W
end L2
namespace L2
open PySem PySem.Spec PyProof.Rows PySem.W
noncomputable def Bl (L:Nat) (C:Ce) (b k:Nat):Prop:=C.length=L∧∃x y z:Int,C[b]?=some [x,y,z]∧0≤x∧0≤z∧z + k≤900000
theorem Bl.mono {L:Nat} {C:Ce} {b k j:Nat} (h:Bl L C b k) (hj:j≤k):Bl L C b j:=by
 obtain ⟨l,x,y,z,h1,h2,h5,h6⟩:=h
 exact ⟨l,x,y,z,h1,h2,h5,by omega⟩
theorem Bl.dec {L:Nat} {C:Ce} {b k:Nat} (h:Bl L C b (k + 1)):Bl L C b k:=h.mono (Nat.le_succ k)
theorem Bl.eq {L:Nat} {C C':Ce} {b b' k k':Nat} (h:Bl L C b k) (h':Bl L C' b' k'):C'.length=C.length:=h'.1.trans h.1.symm
theorem Ws (C:Ce) {x y:Int} (h0:0≤x):Bl (C.length + 1) (C++[[x,y,0]]) C.length 800000:=by
 refine ⟨by simp,x,y,0,?_,h0,Int.le_refl _,by omega⟩
 rw [List.getElem?_append_right (Nat.le_refl _),Nat.sub_self]
 rfl
end L2
namespace L2
open PySem PySem.Spec PyProof.Rows PySem.W
theorem wB {n s u f i j:Int} (hu:s * u % n=1) (n0:0 < n) (hi:0≤i) (hj:0≤j) (hi':i < n) (hj':j < n) (e:(f + s * i) % n=(f + s * j) % n):i=j:=by
 have h1:(f + s * i - (f + s * j)) % n=0:=Int.emod_eq_emod_iff_emod_sub_eq_zero.mp e
 obtain ⟨d,hd⟩:=Int.dvd_of_emod_eq_zero h1
 have hq:s * u=n * (s * u / n) + 1:=by
  have:=Int.mul_ediv_add_emod (s * u) n
  rw [hu] at this
  exact this.symm
 generalize s * u / n=q at hq
 have key:i - j=n * (u * d - q * (i - j)):=by grind
 have h2:(i - j) % n=0:=Int.emod_eq_zero_of_dvd ⟨_,key⟩
 have h3:i % n=j % n:=Int.emod_eq_emod_iff_emod_sub_eq_zero.mpr h2
 rw [Int.emod_eq_of_lt hi hi',Int.emod_eq_of_lt hj hj'] at h3
 exact h3
noncomputable def DK (s:Int):Prop:=(0 < s∧s≤675)∧(∃u,s * u % 676=1)∧∃u,s * u % 26=1
theorem step_at {k:Int} (h0:0≤k) (h1:k < 6):∃s,ju [PyData.int 1,.int 3,.int 5,.int 7,.int 25,.int 675] k=some (.int s)∧DK s:=by
 have hk:k=0∨k=1∨k=2∨k=3∨k=4∨k=5:=by omega
 rcases hk with rfl | rfl | rfl | rfl | rfl | rfl
 ·exact ⟨1,rfl,by decide,⟨1,by decide⟩,⟨1,by decide⟩⟩
 ·exact ⟨3,rfl,by decide,⟨451,by decide⟩,⟨9,by decide⟩⟩
 ·exact ⟨5,rfl,by decide,⟨541,by decide⟩,⟨21,by decide⟩⟩
 ·exact ⟨7,rfl,by decide,⟨483,by decide⟩,⟨15,by decide⟩⟩
 ·exact ⟨25,rfl,by decide,⟨649,by decide⟩,⟨25,by decide⟩⟩
 ·exact ⟨675,rfl,by decide,⟨675,by decide⟩,⟨25,by decide⟩⟩
theorem Aq {z:Str} {l:List Nat} (e:z.cps.toList=l) (h1:1≤l.length) (h2:l.length≤8) (h3:∀c∈l,97≤c∧c≤122):nameB z=true:=by
 have e2:z.length=l.length:=by rw [←e]; show z.cps.size=_; simp
 unfold nameB azB
 rw [e,e2]
 simp only [Bool.and_eq_true,decide_eq_true_eq,List.all_eq_true]
 exact ⟨⟨h1,h2⟩,h3⟩
theorem iD {α:Type} {f:Nat→α} {n:Nat} (h:∀i j,i < n→j < n→f i=f j→i=j):((List.range n).map f).Nodup:=by
 rw [List.nodup_iff_pairwise_ne,List.pairwise_map]
 refine List.Pairwise.imp_of_mem (R:=(· < ·)) (fun {a b} ha hb hab e=>?_) List.pairwise_lt_range
 have:=h a b (List.mem_range.mp ha) (List.mem_range.mp hb) e
 omega
noncomputable def n1 (f s:Int) (k:Nat):Str:=⟨#[97 + ((f + s * k) % 26).toNat]⟩
theorem Pu {f s:Int} {n:Nat} (hs:DK s) (hn:n≤26):Names ((List.range n).map (n1 f s)):=by
 refine ⟨iD fun i j hi hj e=>?_,fun z hz=>?_⟩
 ·obtain ⟨_,_,u,hu⟩:=hs
  have e1:97 + ((f + s * i) % 26).toNat=97 + ((f + s * j) % 26).toNat:=by
   have:=congrArg (fun z:Str=>z.cps.toList) e
   simpa [n1] using this
  have a1:0≤(f + s * i) % 26:=Int.emod_nonneg _ (by decide)
  have a2:0≤(f + s * j) % 26:=Int.emod_nonneg _ (by decide)
  have:=wB (n:=26) (f:=f) (i:=i) (j:=j) hu (by decide) (by omega) (by omega) (by omega) (by omega) (by omega)
  omega
 ·obtain ⟨k,_,rfl⟩:=List.mem_map.mp hz
  have a1:0≤(f + s * k) % 26:=Int.emod_nonneg _ (by decide)
  have a2:(f + s * k) % 26 < 26:=Int.emod_lt_of_pos _ (by decide)
  refine Aq (l:=[97 + ((f + s * k) % 26).toNat]) rfl (Nat.le_refl _) (by show 1≤8; decide) fun c hc=>?_
  rw [List.mem_singleton.mp hc]
  omega
noncomputable def v2 (f s:Int) (k:Nat):Int:=(f + s * k) % 676
noncomputable def two (v:Int):Str:=(⟨#[97 + (v / 26).toNat]⟩:Str)++(⟨#[97 + (v % 26).toNat]⟩:Str)
noncomputable def n2 (hd tl:Str) (f s:Int) (q:Nat→Int) (k:Nat):Str:=hd++two (v2 f s k)++Txt.slice tl none (some (q k))
theorem DN (hd tl:Str) (f s:Int) (q:Nat→Int) (k:Nat):(n2 hd tl f s q k).cps.toList=hd.cps.toList++([97 + (v2 f s k / 26).toNat,97 + (v2 f s k % 26).toNat]++(Txt.slice tl none (some (q k))).cps.toList):=by
 show ((hd.cps++(#[97 + (v2 f s k / 26).toNat]++#[97 + (v2 f s k % 26).toNat]))++(Txt.slice tl none (some (q k))).cps).toList=_
 simp
theorem Px {hd tl:Str} {f s:Int} {q:Nat→Int} {n:Nat} (hs:DK s) (hn:n≤36) (hh:hd.length≤3) (ht:tl.length≤3) (ch:∀c∈hd.cps.toList,97≤c∧c≤122) (ct:∀c∈tl.cps.toList,97≤c∧c≤122):Names ((List.range n).map (n2 hd tl f s q)):=by
 have b:∀k:Nat,0≤v2 f s k∧v2 f s k < 676:=fun k=>⟨Int.emod_nonneg _ (by decide),Int.emod_lt_of_pos _ (by decide)⟩
 refine ⟨iD fun i j hi hj e=>?_,fun z hz=>?_⟩
 ·obtain ⟨_,⟨u,hu⟩,_⟩:=hs
  have e1:=congrArg (fun z:Str=>z.cps.toList) e
  simp only [DN] at e1
  have e2:=List.append_cancel_left e1
  rw [List.cons_append,List.cons_append,List.nil_append,List.cons_append,List.cons_append,List.nil_append] at e2
  injection e2 with e3 e4
  injection e4 with e5 _
  have b1:=b i
  have b2:=b j
  have ev:v2 f s i=v2 f s j:=by omega
  have:=wB (n:=676) (f:=f) (i:=i) (j:=j) hu (by decide) (by omega) (by omega) (by omega) (by omega) ev
  omega
 ·obtain ⟨k,_,rfl⟩:=List.mem_map.mp hz
  have bk:=b k
  have l1:hd.cps.toList.length=hd.length:=by show _=hd.cps.size; simp
  have l2:(Txt.slice tl none (some (q k))).cps.toList.length=(Txt.slice tl none (some (q k))).length:=by show _=(Txt.slice tl none (some (q k))).cps.size; simp
  have l3:=PyProof.Txt.length_slice_le tl none (some (q k))
  refine Aq (DN hd tl f s q k) (by rw [List.length_append,List.length_append]; show 1≤_ + (2 + _); omega) (by rw [List.length_append,List.length_append,l1,l2]; show _ + (2 + _)≤8; omega) fun c hc=>?_
  rcases List.mem_append.mp hc with hc | hc
  ·exact ch c hc
  ·rcases List.mem_append.mp hc with hc | hc
   ·simp only [List.mem_cons,List.not_mem_nil,or_false] at hc
    rcases hc with rfl | rfl <;> omega
   ·exact ct c (RW hc)
noncomputable def gQ (f:Int):List Nat:=(List.range 8).map fun (k:Nat)=>97 + ((f + 5 * (k:Int)) % 26).toNat
noncomputable def sl (z:Str) (n k:Nat):Str:=Txt.slice z (some (k:Int)) (some ((k:Int) + (n:Int)))
noncomputable def sb (z:Str) (n:Nat):List Str:=(List.range (8 - n)).map (sl z (n + 1))
noncomputable def subs (z:Str) (m:Nat):List Str:=(List.range m).flatMap (sb z)
theorem wC {z:Str} {n k:Nat} (hz:z.length=8) (h:k + n≤8):(sl z n k).cps.toList=(z.cps.toList.drop k).take n:=by
 have:=eq_of_beq (slice_closesL (x:=z) (i:=(k:Int)) (j:=(k:Int) + (n:Int)) (by omega) (by omega) (by omega))
 unfold sl
 rw [this]
 show ((z.cps.toList.drop (k:Int).toNat).take ((k:Int) + (n:Int) - (k:Int)).toNat)=_
 rw [show ((k:Int) + (n:Int) - (k:Int)).toNat=n by omega,Int.toNat_natCast]
theorem Jm {f:Int} {k:Nat} (h:k < 8):(gQ f)[k]?=some (97 + ((f + 5 * (k:Int)) % 26).toNat):=by
 unfold gQ
 rw [List.getElem?_map,List.getElem?_range h]
 rfl
theorem Sw (f:Int):∀c∈gQ f,97≤c∧c≤122:=fun c hc=>by
 obtain ⟨k,_,rfl⟩:=List.mem_map.mp hc
 have a1:0≤(f + 5 * (k:Int)) % 26:=Int.emod_nonneg _ (by decide)
 have a2:(f + 5 * (k:Int)) % 26 < 26:=Int.emod_lt_of_pos _ (by decide)
 omega
theorem GQ {z:Str} {f:Int} (hz:z.cps.toList=gQ f) {n:Nat} {x:Str} (hx:x∈sb z n):∃k,k < 8 - n∧x=sl z (n + 1) k∧x.cps.toList=((gQ f).drop k).take (n + 1)∧x.cps.toList.length=n + 1:=by
 obtain ⟨k,hk,rfl⟩:=List.mem_map.mp hx
 have hk:=List.mem_range.mp hk
 have hl:z.length=8:=by
  have:=congrArg List.length hz
  rw [show z.cps.toList.length=z.length by show _=z.cps.size; simp] at this
  rw [this]
  simp [gQ]
 have e:=wC (z:=z) (n:=n + 1) (k:=k) hl (by omega)
 rw [hz] at e
 refine ⟨k,hk,rfl,e,?_⟩
 rw [e,List.length_take,List.length_drop,show (gQ f).length=8 by simp [gQ]]
 omega
theorem GR {z:Str} {f:Int} (hz:z.cps.toList=gQ f):Names (subs z 8):=by
 refine ⟨?_,fun x hx=>?_⟩
 ·unfold subs
  rw [List.nodup_iff_pairwise_ne,List.pairwise_flatMap]
  refine ⟨fun n hn=>?_,?_⟩
  ·have hn:=List.mem_range.mp hn
   rw [←List.nodup_iff_pairwise_ne]
   refine iD fun i j hi hj e=>?_
   have hl:z.length=8:=by
    have:=congrArg List.length hz
    rw [show z.cps.toList.length=z.length by show _=z.cps.size; simp] at this
    rw [this]
    simp [gQ]
   have e1:=congrArg (fun z:Str=>z.cps.toList[0]?) e
   simp only [wC (z:=z) (n:=n + 1) (k:=i) hl (by omega),wC (z:=z) (n:=n + 1) (k:=j) hl (by omega),hz] at e1
   rw [List.getElem?_take_of_lt (Nat.succ_pos n),List.getElem?_take_of_lt (Nat.succ_pos n),List.getElem?_drop,List.getElem?_drop,Nat.add_zero,Nat.add_zero,Jm (by omega),Jm (by omega)] at e1
   have e2:=Option.some.inj e1
   have a1:0≤(f + 5 * (i:Int)) % 26:=Int.emod_nonneg _ (by decide)
   have a2:0≤(f + 5 * (j:Int)) % 26:=Int.emod_nonneg _ (by decide)
   have:=wB (n:=26) (s:=5) (u:=21) (f:=f) (i:=i) (j:=j) (by decide) (by decide) (by omega) (by omega) (by omega) (by omega) (by omega)
   omega
  ·refine List.Pairwise.imp (R:=(· < ·)) (fun {a b} hab x hx y hy e=>?_) List.pairwise_lt_range
   obtain ⟨_,_,_,_,l1⟩:=GQ hz hx
   obtain ⟨_,_,_,_,l2⟩:=GQ hz hy
   rw [e] at l1
   omega
 ·obtain ⟨n,hn,hx⟩:=List.mem_flatMap.mp hx
  have hn:=List.mem_range.mp hn
  obtain ⟨k,hk,_,e,hl⟩:=GQ hz hx
  refine Aq rfl (by omega) (by omega) fun c hc=>?_
  rw [e] at hc
  exact Sw f c (List.mem_of_mem_drop (List.mem_of_mem_take hc))
theorem DP (z:Str):(subs z 8).length=36:=by
 unfold subs sb
 simp only [List.length_flatMap,List.length_map,List.length_range]
 rfl
end L2
namespace L2
section
variable {β:Type} [DecidableEq β] {ws:List (Int×β×β)} {s:β}
inductive KQ (ws:List (Int×β×β)):β→List Int→β→Prop
 | nil (p:β):KQ ws p [] p
 | cons {n:Int} {p q s:β} {r:List Int}:(n,p,q)∈ws→KQ ws q r s→KQ ws p (n::r) s
noncomputable def mC (st:List (β×Int)) (p:β):Option Int:=(st.find? fun x=>decide (x.1=p)).map (·.2)
theorem di {st:List (β×Int)} {p:β}:mC st p=none ↔ p∉st.map (·.1):=by
 unfold mC
 rw [Option.map_eq_none_iff,List.find?_eq_none]
 simp only [List.mem_map,not_exists,not_and,decide_eq_true_eq]
theorem uG (st:List (β×Int)) (new:List β) (k:Int) (p:β):mC (st++new.map fun g=>(g,k)) p=if p∈st.map (·.1) then mC st p else if p∈new then some k else none:=by
 unfold mC
 rw [List.find?_append]
 by_cases h:p∈st.map (·.1)
 ·rw [if_pos h]
  obtain ⟨x,hx,rfl⟩:=List.mem_map.mp h
  cases e:st.find? fun y=>decide (y.1=x.1) with
  | none=>exact absurd (decide_eq_true rfl) (List.find?_eq_none.mp e x hx)
  | some y=>rfl
 ·rw [if_neg h,(Option.map_eq_none_iff.mp (di.mpr h):st.find? _=none),Option.none_or]
  induction new with
  | nil=>rfl
  | cons g new ih=>
   rw [List.map_cons,List.find?_cons]
   by_cases e:g=p
   ·subst e
    rw [decide_eq_true rfl,if_pos List.mem_cons_self]
    rfl
   ·rw [decide_eq_false e,ih]
    have:p∈g::new ↔ p∈new:=by rw [List.mem_cons]; exact ⟨fun z=>z.resolve_left fun z=>e z.symm,.inr⟩
    simp only [this]
structure Py (ws:List (Int×β×β)) (s:β) (st:List (β×Int)) (new:List β) (k:Nat):Prop where
 sound:∀p d,mC st p=some d→d≤k∧∃r,KQ ws p r s∧(r.length:Int)=d
 whole:∀p r,KQ ws p r s→r.length≤k→∃d,mC st p=some d∧d≤r.length
 last:∀p,p∈new ↔ mC st p=some (k:Int)
 nd:(st.map (·.1)).Nodup
 sub:∀p∈st.map (·.1),p=s∨p∈ws.map (·.2.1)
 low:∀p d,mC st p=some d→d + 1≤st.length
theorem Py.init (ws:List (Int×β×β)) (s:β):Py ws s [(s,0)] [s] 0 where
 sound p d h:=by
  unfold mC at h
  rw [List.find?_cons] at h
  by_cases e:s=p
  ·subst e
   rw [decide_eq_true rfl] at h
   cases h
   exact ⟨Int.le_refl _,[],.nil _,rfl⟩
  ·rw [decide_eq_false e] at h
   cases h
 whole p r h l:=by
  cases h with
  | nil=>exact ⟨0,by unfold mC; rw [List.find?_cons,decide_eq_true rfl]; rfl,Int.le_refl _⟩
  | cons _ _=>exact absurd l (Nat.not_succ_le_zero _)
 last p:=by
  unfold mC
  rw [List.find?_cons,List.mem_singleton]
  by_cases e:s=p
  ·subst e
   rw [decide_eq_true rfl]
   exact ⟨fun _=>rfl,fun _=>rfl⟩
  ·rw [decide_eq_false e]
   exact ⟨fun z=>absurd z.symm e,fun z=>nomatch z⟩
 nd:=by simp
 sub p hp:=.inl (List.mem_singleton.mp hp)
 low p d h:=by
  unfold mC at h
  rw [List.find?_cons] at h
  by_cases e:s=p
  ·rw [decide_eq_true e] at h
   cases h
   exact Int.le_refl _
  ·rw [decide_eq_false e] at h
   cases h
theorem Py.step {st:List (β×Int)} {new new':List β} {k:Nat} (B:Py ws s st new k) (hn:new'.Nodup) (hm:∀g,g∈new' ↔ ∃w∈ws,w.2.2∈new∧w.2.1∉st.map (·.1)∧w.2.1=g):Py ws s (st++new'.map fun g=>(g,(k:Int) + 1)) new' (k + 1) where
 sound p d h:=by
  rw [uG] at h
  split at h
  ·obtain ⟨h1,h2⟩:=B.sound p d h
   exact ⟨by omega,h2⟩
  ·split at h
   ·rename_i m
    cases h
    refine ⟨by omega,?_⟩
    obtain ⟨w,m1,m2,m3,rfl⟩:=(hm p).mp m
    obtain ⟨_,r,h3,h4⟩:=B.sound _ _ ((B.last _).mp m2)
    exact ⟨w.1::r,.cons (p:=w.2.1) (q:=w.2.2) m1 h3,by rw [List.length_cons]; omega⟩
   ·cases h
 whole p r h l:=by
  rw [uG]
  by_cases hp:p∈st.map (·.1)
  ·rw [if_pos hp]
   cases e:mC st p with
   | none=>exact absurd hp (di.mp e)
   | some d=>
    refine ⟨d,rfl,?_⟩
    by_cases l':r.length≤k
    ·obtain ⟨d',e',h'⟩:=B.whole p r h l'
     rw [e] at e'
     cases e'
     exact h'
    ·have:=(B.sound p d e).1
     omega
  ·rw [if_neg hp]
   cases h with
   | nil=>
    obtain ⟨d,e,_⟩:=B.whole s [] (.nil s) (Nat.zero_le _)
    rw [di.mpr hp] at e
    cases e
   | cons hw hr=>
    rename_i n q r
    rw [List.length_cons] at l ⊢
    obtain ⟨d,e,hd⟩:=B.whole q r hr (by omega)
    obtain ⟨hk,r2,hr2,l2⟩:=B.sound q d e
    by_cases hdk:d=k
    ·subst hdk
     have m:p∈new':=(hm p).mpr ⟨_,hw,(B.last q).mpr e,hp,rfl⟩
     rw [if_pos m]
     exact ⟨_,rfl,by omega⟩
    ·obtain ⟨d',e',_⟩:=B.whole p (n::r2) (.cons hw hr2) (by rw [List.length_cons]; omega)
     rw [di.mpr hp] at e'
     cases e'
 last p:=by
  rw [uG]
  constructor
  ·intro m
   obtain ⟨w,m1,m2,m3,rfl⟩:=(hm p).mp m
   rw [if_neg m3,if_pos m]
   rfl
  ·intro e
   split at e
   ·have:=(B.sound p _ e).1
    omega
   ·split at e
    ·rename_i m
     exact m
    ·cases e
 nd:=by
  rw [List.map_append,List.map_map,show ((fun x:β×Int=>x.1) ∘ fun g=>(g,(k:Int) + 1))=id from rfl,List.map_id]
  refine List.nodup_append.mpr ⟨B.nd,hn,fun a ha b hb e=>?_⟩
  subst e
  obtain ⟨w,_,_,m3,rfl⟩:=(hm a).mp hb
  exact m3 ha
 sub p hp:=by
  rw [List.map_append,List.map_map,show ((fun x:β×Int=>x.1) ∘ fun g=>(g,(k:Int) + 1))=id from rfl,List.map_id] at hp
  rcases List.mem_append.mp hp with hp | hp
  ·exact B.sub p hp
  ·obtain ⟨w,m1,_,_,rfl⟩:=(hm p).mp hp
   exact .inr (List.mem_map.mpr ⟨w,m1,rfl⟩)
 low p d h:=by
  rw [uG] at h
  rw [List.length_append,List.length_map]
  split at h
  ·have:=B.low p d h
   omega
  ·split at h
   ·rename_i m
    cases h
    obtain ⟨w,m1,m2,m3,rfl⟩:=(hm p).mp m
    have:=B.low _ _ ((B.last _).mp m2)
    have:=List.length_pos_of_mem m
    omega
   ·cases h
theorem len_sub:∀{l m:List β},l.Nodup→(∀x∈l,x∈m)→l.length≤m.length
 | [],_,_,_=>Nat.zero_le _
 | a::l,m,hn,h=>by
  have ha:=h a List.mem_cons_self
  have:=len_sub (m:=m.erase a) (List.nodup_cons.mp hn).2 fun x hx=>(List.mem_erase_of_ne (show x≠a from fun z=>(List.nodup_cons.mp hn).1 (z ▸ hx))).mpr (h x (List.mem_cons_of_mem _ hx))
  rw [List.length_erase_of_mem ha] at this
  have:=List.length_pos_of_mem ha
  rw [List.length_cons]
  omega
theorem Py.few {st:List (β×Int)} {new:List β} {k:Nat} (B:Py ws s st new k):st.length≤ws.length + 1:=by
 have h:(st.map (·.1)).length≤(s::ws.map (·.2.1)).length:=by
  refine len_sub B.nd fun p hp=>?_
  rcases B.sub p hp with rfl | h
  ·exact List.mem_cons_self
  ·exact List.mem_cons_of_mem _ h
 simpa using h
structure Sx (ws:List (Int×β×β)) (s:β) (st:List (β×Int)):Prop where
 sound:∀p d,mC st p=some d→∃r,KQ ws p r s∧(r.length:Int)=d
 whole:∀p r,KQ ws p r s→∃d,mC st p=some d∧d≤r.length
 few:∀p d,mC st p=some d→d≤ws.length
theorem Py.done {st:List (β×Int)} {k:Nat} (B:Py ws s st [] k):Sx ws s st where
 sound p d h:=(B.sound p d h).2
 few p d h:=by
  have:=B.low p d h
  have:=B.few
  omega
 whole p r h:=by
  induction h with
  | nil p=>exact B.whole p [] (.nil p) (Nat.zero_le _)
  | cons hw hr ih=>
   rename_i n p q s' r
   obtain ⟨d,e,hd⟩:=ih B
   obtain ⟨hk,r2,hr2,l2⟩:=B.sound q d e
   have:d≠k:=fun z=>by
    subst z
    exact nomatch (B.last q).mpr e
   obtain ⟨d',e',h'⟩:=B.whole p (n::r2) (.cons hw hr2) (by rw [List.length_cons]; omega)
   refine ⟨d',e',?_⟩
   rw [List.length_cons] at h' ⊢
   omega
theorem Sx.self {st:List (β×Int)} (B:Sx ws s st):mC st s=some 0:=by
 obtain ⟨d,e,h⟩:=B.whole s [] (.nil s)
 obtain ⟨r,_,l⟩:=B.sound s d e
 rw [e]
 simp only [List.length_nil] at h
 congr 1
 omega
theorem Sx.iff {st:List (β×Int)} (B:Sx ws s st) (p:β):p∈st.map (·.1) ↔ ∃r,KQ ws p r s:=by
 constructor
 ·intro h
  cases e:mC st p with
  | none=>exact absurd h (di.mp e)
  | some d=>
   obtain ⟨r,h,_⟩:=B.sound p d e
   exact ⟨r,h⟩
 ·rintro ⟨r,h⟩
  obtain ⟨d,e,_⟩:=B.whole p r h
  apply Classical.byContradiction
  intro n
  rw [di.mpr n] at e
  cases e
noncomputable def lexLe:List Int→List Int→Prop
 | [],_=>True
 | _::_,[]=>False
 | a::r,b::q=>a < b∨(a=b∧lexLe r q)
theorem wF:∀{r q:List Int},r.length=q.length→lexLe r q→lexLe q r→r=q
 | [],[],_,_,_=>rfl
 | a::r,b::q,l,h,h'=>by
  have e:a=b:=by rcases h with h | h <;> rcases h' with h' | h' <;> omega
  subst e
  rw [wF (Nat.succ.inj l) (h.resolve_left (by omega)).2 (h'.resolve_left (by omega)).2]
noncomputable def jk (ws:List (Int×β×β)) (p s:β) (r:List Int):Prop:=KQ ws p r s∧∀r',KQ ws p r' s→r.length < r'.length∨(r.length=r'.length∧lexLe r r')
theorem jk.unique {p:β} {r r':List Int} (h:jk ws p s r) (h':jk ws p s r'):r=r':=by
 rcases h.2 r' h'.1 with l | ⟨l,a⟩
 ·rcases h'.2 r h.1 with l' | ⟨l',_⟩ <;> omega
 ·rcases h'.2 r h.1 with l' | ⟨_,b⟩
  ·omega
  ·exact wF l a b
theorem jk.self (ws:List (Int×β×β)) (s:β):jk ws s s []:=⟨.nil s,fun r' _=>by
 cases r' with
 | nil=>exact .inr ⟨rfl,trivial⟩
 | cons _ _=>exact .inl (Nat.succ_pos _)⟩
theorem jk.go {p q:β} {n d:Int} {r:List Int} {st:List (β×Int)} (hU:∀w∈ws,∀w'∈ws,w.1=w'.1→w=w') (B:Sx ws s st) (hp:mC st p=some d) (hw:(n,p,q)∈ws) (hq:∃e,mC st q=some e∧e < d) (hmin:∀n' q' e,(n',p,q')∈ws→mC st q'=some e→e < d→n≤n') (hr:jk ws q s r):jk ws p s (n::r):=by
 obtain ⟨e,hq,hlt⟩:=hq
 obtain ⟨r1,hr1,l1⟩:=B.sound q e hq
 have hle:r.length≤r1.length:=by rcases hr.2 r1 hr1 with h | h <;> omega
 refine ⟨.cons hw hr.1,fun r' h'=>?_⟩
 obtain ⟨d',e',hd'⟩:=B.whole p r' h'
 rw [hp] at e'
 cases e'
 rw [List.length_cons]
 cases h' with
 | nil=>
  simp only [List.length_nil] at hd'
  omega
 | cons hw' hr'=>
  rename_i n' q' r'
  rw [List.length_cons] at hd' ⊢
  obtain ⟨e2,h2,l2⟩:=B.whole q' r' hr'
  by_cases hl:r.length < r'.length
  ·exact .inl (by omega)
  ·refine .inr ⟨by omega,?_⟩
   have hn:=hmin n' q' e2 hw' h2 (by omega)
   by_cases hnn:n < n'
   ·exact .inl hnn
   ·have:n=n':=by omega
    subst this
    have:=hU _ hw _ hw' rfl
    cases this
    refine .inr ⟨rfl,?_⟩
    rcases hr.2 r' hr' with h | h
    ·omega
    ·exact h.2
end
end L2
namespace L2
open PySem PySem.Spec PyProof.Rows PySem.W
noncomputable def GX:Option (Option Vl)→Option (List PyData)
 | some (some (.ow (.list ds)))=>some ds
 | _=>none
theorem uH {x:Option (Option Vl)} {ds:List PyData} (h:GX x=some ds):x=some (some (.ow (.list ds))):=by
 unfold GX at h
 split at h
 ·cases h; rfl
 ·cases h
noncomputable def intD:PyData→Option Int
 | .int k=>some k
 | _=>none
theorem Sy {d:PyData} {k:Int} (h:intD d=some k):d=.int k:=by
 unfold intD at h
 split at h
 ·cases h; rfl
 ·cases h
noncomputable def Pz (i j:Nat) (f:FB):FS:=fun env C=>(GX env[i]?).bind fun _=>(GX env[j]?).bind fun _=>(f env C).bind fun p=>(GX p.2.1[i]?).bind fun ds=>(GX p.2.1[j]?).bind fun es=>(intD p.1).bind fun k=>(if 0≤k∧k < LIM then es[k.toNat]? else none).bind fun y=>if ds.length < LIM∧i≠j then some (.nx,(p.2.1.set j (some (.ow (.list (es.eraseIdx k.toNat))))).set i (some (.ow (.list (ds++[y])))),p.2.2) else none
theorem yP {H:Hp}:∀{ds:List PyData} {vs:List V} (n:Nat),dU H ds vs→dU H (ds.eraseIdx n) (vs.eraseIdx n)
 | [],vs,n,r=>by
  have:vs=[]:=r
  subst this
  exact r
 | x::ds,vs,0,r=>by
  obtain ⟨v,r',rfl,_,w⟩:=r
  exact w
 | x::ds,vs,n + 1,r=>by
  obtain ⟨v,r',rfl,q,w⟩:=r
  exact ⟨v,_,rfl,q,yP n w⟩
theorem SJ {X:Cx} {pos:Pos} {i j:Nat} {o o2 e:Expr} {f:FB} {apos cpos wG o7:Pos} (ho:PE X o (rJ i)) (ho2:PE X o2 (rJ j)) (he:PE X e (lZ X.K f))
  (hs0:swapsWith (.Call (.Attribute o "append" apos) [.Call (.Attribute o2 "pop" wG) [e] [] o7] [] cpos) none pos.line X.env=pure false:=by rfl)
  (hbase:attributeBase o "append" X.env (eval o X.env)=eval o X.env:=by rfl)
  (hfew:((backTo cpos (starEach [.Call (.Attribute o2 "pop" wG) [e] [] o7] X.env)).all (fun x=>!x.1)&&(backToKw cpos (keywordEach [] X.env)).all (fun x=>x.1.isSome)
   &&decide (([.Call (.Attribute o2 "pop" wG) [e] [] o7]:List Expr).length + ([]:List Keyword).length + (if ([]:List Keyword).isEmpty then 0 else 1) < 30))=true:=by rfl)
  (hline:(apos.endLine==cpos.line)=true:=by rfl) (hs:starEach [.Call (.Attribute o2 "pop" wG) [e] [] o7] X.env=(false,eval (.Call (.Attribute o2 "pop" wG) [e] [] o7) X.env)::starEach [] X.env:=by rfl) (hplain:(backTo cpos (starEach [] X.env)).any (·.1)=false:=by rfl)
  (Wt:attributeBase o2 "pop" X.env (eval o2 X.env)=eval o2 X.env:=by rfl)
  (YD:((backTo o7 (starEach [e] X.env)).all (fun x=>!x.1)&&(backToKw o7 (keywordEach [] X.env)).all (fun x=>x.1.isSome)
   &&decide (([e]:List Expr).length + ([]:List Keyword).length + (if ([]:List Keyword).isEmpty then 0 else 1) < 30))=true:=by rfl)
  (Wu:(wG.endLine==o7.line)=true:=by rfl) (hs2:starEach [e] X.env=(false,eval e X.env)::starEach [] X.env:=by rfl) (SM:(backTo o7 (starEach [] X.env)).any (·.1)=false:=by rfl):
  PS X (.Expr (.Call (.Attribute o "append" apos) [.Call (.Attribute o2 "pop" wG) [e] [] o7] [] cpos) pos) (tS X.K (Pz i j f)):=
 (zc (Bv PySem.F.plainAttrs_list PySem.F.slot_list_append PySem.F.type_list_append (Mq.r rN) ho
  (cU (Bv PySem.F.plainAttrs_list PySem.F.slot_list_pop PySem.F.type_list_pop (Mq.r Ms) ho2 (cU he gq hs2) Wt YD Wu hs2 SM) gq hs) hbase hfew hline hs hplain) hs0).weak fun D σ H aO=>by
  obtain ⟨Z,Θ,env,C,fl,env',C',S,hf,q⟩:=aO
  obtain ⟨_,g1,hf⟩:=Option.bind_eq_some_iff.mp hf
  obtain ⟨_,g2,hf⟩:=Option.bind_eq_some_iff.mp hf
  obtain ⟨p,g3,hf⟩:=Option.bind_eq_some_iff.mp hf
  obtain ⟨ds,g4,hf⟩:=Option.bind_eq_some_iff.mp hf
  obtain ⟨es,g5,hf⟩:=Option.bind_eq_some_iff.mp hf
  obtain ⟨k,g6,hf⟩:=Option.bind_eq_some_iff.mp hf
  obtain ⟨y,g7,hf⟩:=Option.bind_eq_some_iff.mp hf
  split at hf
  case isFalse=>cases hf
  rename_i g8
  split at g7
  case isFalse=>cases g7
  rename_i g9
  cases hf
  obtain ⟨v0,Lf,a,rfl,WY,ha0,r0⟩:=S.slot i _ (uH g1)
  obtain ⟨v1,ev1,b,rfl,vs1,ha1,r1⟩:=S.slot j _ (uH g2)
  refine ⟨_,Lf,.inl ⟨rfl,WY,cM.of ha0⟩,_,ev1,.inl ⟨rfl,vs1,cM.of ha1⟩,Z,Θ,env,C,p.1,p.2.1,p.2.2,S,g3,fun v H1 kk ff S1 bb=>?_⟩
  rw [Sy g6] at bb
  have bb:v=.int k:=bb
  subst bb
  have g4:=uH g4
  have g5:=uH g5
  obtain ⟨w0,ew0,a',ea,ws0,hw0,s0⟩:=S1.slot i _ g4
  obtain ⟨w1,ew1,b',eb,YF,hw1,s1⟩:=S1.slot j _ g5
  subst ea eb
  rw [Lf] at ew0
  rw [ev1] at ew1
  cases ew0
  cases ew1
  obtain ⟨yv,hy,ry⟩:=kW s1 g7
  have hk:k.toNat < YF.length:=(List.getElem?_eq_some_iff.mp hy).1
  have g9:0≤k∧k < 1000000:=g9
  have six:seqIndex? k YF.length=some k.toNat:=by
   exact PySem.StrLaws.seqIndex_nonneg g9.1 (by omega)
  refine ⟨b,YF,k,k.toNat,yv,rfl,rfl,hw1,by omega,by omega,six,hy,?_⟩
  have w1:iW X.K Z Θ p.2.1 σ H1 Θ (p.2.1.set j (some (.ow (.list (es.eraseIdx k.toNat))))) p.2.2 σ (upd H1 b (.lst (YF.eraseIdx k.toNat))):=S1.write g5 ev1 ⟨_,aH,yP _ s1⟩
  obtain ⟨x0,ex0,a',ea,xs0,hx0,t0⟩:=w1.sm.slot i _ (show (p.2.1.set j (some (.ow (.list (es.eraseIdx k.toNat)))))[i]?=_ by rw [List.getElem?_set_ne (fun z=>g8.2 z.symm)]; exact g4)
  subst ea
  rw [Lf] at ex0
  cases ex0
  refine ⟨a,xs0,yv,rfl,rfl,hx0,by rw [bB t0,sizeLine_eq]; have:ds.length < 1000000:=g8.1; omega,?_⟩
  have ep:aK Z Θ (p.2.1.set j (some (.ow (.list (es.eraseIdx k.toNat))))) σ=aK Z Θ p.2.1 σ:=by show _++(_++_)=_; rw [vK g5]
  have mp:b∈aK Z Θ p.2.1 σ:=bz.mpr (.inr (.inr (b8.mpr ⟨j,_,g5,ev1⟩)))
  have ry':RZ (er (aK Z Θ (p.2.1.set j (some (.ow (.list (es.eraseIdx k.toNat))))) σ) (upd H1 b (.lst (YF.eraseIdx k.toNat)))) y yv:=by rw [ep,z8 mp]; exact ry
  have w2:=w1.sm.write (o:=.lst (xs0++[yv])) (d':=.list (ds++[y])) (show (p.2.1.set j (some (.ow (.list (es.eraseIdx k.toNat)))))[i]?=_ by rw [List.getElem?_set_ne (fun z=>g8.2 z.symm)]; exact g4) Lf ⟨_,aH,kY t0 ⟨yv,[],rfl,ry',rfl⟩⟩
  exact q Θ σ _ (((iW.Ep kk ff S1).trans w1).trans w2)
noncomputable def YG (i j k:Nat) (ta:TA):TS:=fun D σ H=>ta σ H fun vs H1=>vs.length=3∧(∀v w z,vs=[v,w,z]→D.nx (((σ.set i (some v)).set j (some w)).set k (some z)) H1)
section
variable {X:Cx} {pos:Pos}
theorem SN {i j k:Nat} {x y z:Str} {a b c:Expr} {ta:TA} {px py pz pt:Pos} {kt k2 Et} (hc:X.calm=true) (hN:X.N.Nodup) (hi:X.N[i]?=some x) (hj:X.N[j]?=some y) (hk:X.N[k]?=some z) (hij:i≠j) (hik:i≠k) (hjk:j≠k)
  (hx:X.env.scope.names.lookup x=some .local) (hy:X.env.scope.names.lookup y=some .local) (hz:X.env.scope.names.lookup z=some .local) (ha:PA X [a,b,c] ta)
  (hw:swappedStores [.Tuple [.Name x px,.Name y py,.Name z pz] kt pt] (.Tuple [a,b,c] k2 Et) X.env=pure (some [x,y,z]))
  (hs:swapsWithSole [.Tuple [.Name x px,.Name y py,.Name z pz] kt pt] (.Tuple [a,b,c] k2 Et) pos.line X.env=pure false:=by rfl):
  PS X (.Assign [.Tuple [.Name x px,.Name y py,.Name z pz] kt pt] (.Tuple [a,b,c] k2 Et) pos) (YG i j k ta):=by
 intro pins s σ H D I h
 rw [exec_Assign_arm]
 refine wpAny_bind (wpAny_standAt ?_)
 rw [hs]
 refine wpAny_bind (wpAny_pure ?_)
 rw [if_neg (by decide)]
 refine wpAny_bind (Tuple_ (cR (ha _ pins s σ H _ I h) fun us s1 aO=>?_))
 obtain ⟨vs,H1,I1,r1,l1,q1⟩:=aO
 cases r1 with
 | nil=>cases l1
 | cons rv r1=>
 cases r1 with
 | nil=>cases l1
 | cons rw' r1=>
 cases r1 with
 | nil=>cases l1
 | cons rz r1=>
 cases r1 with
 | cons _ _=>cases l1
 | nil=>
 rename_i v u1 w u2 zz u3
 refine wpAny_newObj_type ?_ (by show 3≤sizeLine; decide)
 have I2:Inv X pins σ H1 { s1 with heap:=s1.heap.push { cls:=.type "tuple",data:=.seq [u1,u2,u3].toArray } }:=I1.kept (t':=s1.toks) fun b o e=>Heap.get?_push_of_some _ e
 rw [hw]
 refine wpAny_bind (wpAny_pure ?_)
 show wpAny (model X.prog X.w) X.A (do rule "assign.swapped-stores"; let items ←unpackItems (.ref s1.heap.objs.size) 3 none; assignInOrder [fun v=>bindName X.env z v,fun v=>bindName X.env y v,fun v=>bindName X.env x v] items.reverse; pure Flow.next) _ _ _
 refine wpAny_bind (wpAny_rule (wpAny_bind (unpackItems_tuple (items:=#[u1,u2,u3]) (I.ok.hd hc) (IsTup.new s1.heap _) fun h' hx'=>?_)))
 have I3:=I2.kept (h':=h') (t':=s1.toks) fun b o e=>hx' b o (Nat.ne_of_lt (Heap.lt_size e)) e
 show wpAny _ _ (assignInOrder [fun v=>bindName X.env z v,fun v=>bindName X.env y v,fun v=>bindName X.env x v] [u3,u2,u1] >>= fun _=>pure Flow.next) _ _ _
 refine wpAny_bind (assignInOrder_cons (wpAny_bindName (dZ I3 hN hk (.inl hz) rz (fun s2 I4=>?_) (.inr hz))))
 refine assignInOrder_cons (wpAny_bindName (dZ I4 hN hj (.inl hy) rw' (fun s3 I5=>?_) (.inr hy)))
 refine assignInOrder_cons (wpAny_bindName (dZ I5 hN hi (.inl hx) rv (fun s4 I6=>assignInOrder_nil (wpAny_pure ?_)) (.inr hx)))
 rw [List.set_comm _ _ (Ne.symm hij),List.set_comm _ _ (Ne.symm hik),List.set_comm _ _ (Ne.symm hjk)] at I6
 exact ⟨_,H1,I6,q1 _ _ _ rfl⟩
theorem SQ {i j k:Nat} {x y z:Str} {a b c:Expr} {g:FA} {px py pz pt:Pos} {kt k2 Et} (hc:X.calm=true) (hN:X.N.Nodup) (hi:X.N[i]?=some x) (hj:X.N[j]?=some y) (hk:X.N[k]?=some z) (hij:i≠j) (hik:i≠k) (hjk:j≠k)
  (hx:X.env.scope.names.lookup x=some .local) (hy:X.env.scope.names.lookup y=some .local) (hz:X.env.scope.names.lookup z=some .local) (ha:PA X [a,b,c] (Ua X.K g))
  (hw:swappedStores [.Tuple [.Name x px,.Name y py,.Name z pz] kt pt] (.Tuple [a,b,c] k2 Et) X.env=pure (some [x,y,z]))
  (hs:swapsWithSole [.Tuple [.Name x px,.Name y py,.Name z pz] kt pt] (.Tuple [a,b,c] k2 Et) pos.line X.env=pure false:=by rfl):
  PS X (.Assign [.Tuple [.Name x px,.Name y py,.Name z pz] kt pt] (.Tuple [a,b,c] k2 Et) pos) (tS X.K (fPar [i,j,k] g)):=(SN hc hN hi hj hk hij hik hjk hx hy hz ha hw hs).weak fun D σ H aO=>by
 obtain ⟨Z,Θ,env,C,fl,env',C',S,hf,q⟩:=aO
 unfold fPar at hf
 split at hf
 case h_2=>cases hf
 rename_i xs e1 C1 h1
 split at hf
 case isFalse=>cases hf
 rename_i hl
 cases hf
 refine ⟨Z,Θ,env,C,xs,e1,C',S,h1,fun vs as H1 k1 f1 n1 S1 a1=>⟨by rw [uC a1,←hl.1]; rfl,fun v w zz e=>?_⟩⟩
 obtain ⟨S2,o2⟩:=z7 a1 hl.1 (aP.refl _) S1
 subst e
 refine q Θ _ H1 ⟨xG.refl _ _,iM k1,fun b m=>?_,S2⟩
 rcases o2 b m with m | m
 ·exact .inl (f1.own.subset m)
 ·exact .inr (n1 b m)
end
end L2
namespace K14
open PySem L2
noncomputable def top (i:Nat):Stmt:=PySem.Challenge.pw_rankseals_k14_rows_of_many_leaves.main.body.getD i (.Pass ⟨0,0,0,0⟩)
noncomputable abbrev cZ:Stmt:=top 1
theorem gH:bT (["house","part","outer","over"]:List Str) (["house","part"]:List Str) (aC cZ):=⟨rfl,rfl,rfl,by decide +kernel,rfl,by decide +kernel,by decide +kernel⟩
noncomputable abbrev j5:Stmt:=top 3
theorem KR:bT (["house","paper","holder","signer","day"]:List Str) (["house","paper","holder","signer","day"]:List Str) (aC j5):=⟨rfl,rfl,rfl,by decide +kernel,rfl,by decide +kernel,by decide +kernel⟩
noncomputable abbrev iZ:Stmt:=top 4
theorem GZ:bT (["paper","person"]:List Str) (["paper","person"]:List Str) (aC iZ):=⟨rfl,rfl,rfl,by decide +kernel,rfl,by decide +kernel,by decide +kernel⟩
noncomputable abbrev gA:Stmt:=top 5
theorem wH:bT (["house","paper","day","over"]:List Str) (["house","paper","day"]:List Str) (aC gA):=⟨rfl,rfl,rfl,by decide +kernel,rfl,by decide +kernel,by decide +kernel⟩
noncomputable abbrev fH:Stmt:=top 6
theorem gb:bT (["ways","holder","signer","steps","row","number"]:List Str) (["ways","holder","signer"]:List Str) (aC fH):=⟨rfl,rfl,rfl,by decide +kernel,rfl,by decide +kernel,by decide +kernel⟩
noncomputable abbrev dg:Stmt:=top 7
theorem xN:bT (["ways","steps","person"]:List Str) (["ways","steps","person"]:List Str) (aC dg):=⟨rfl,rfl,rfl,by decide +kernel,rfl,by decide +kernel,by decide +kernel⟩
noncomputable abbrev eZ:Stmt:=top 8
theorem dG:bT (["ways","signer","steps","newest","many","person"]:List Str) (["ways","signer"]:List Str) (aC eZ):=⟨rfl,rfl,rfl,by decide +kernel,rfl,by decide +kernel,by decide +kernel⟩
noncomputable abbrev sX:Stmt:=top 10
theorem Jo:bT (["_law_cell","_law_k","_law_m"]:List Str) (["_law_cell","_law_k"]:List Str) (aC sX):=⟨rfl,rfl,rfl,by decide +kernel,rfl,by decide +kernel,by decide +kernel⟩
noncomputable abbrev dj:Stmt:=top 11
theorem nF:bT (["_law_script","_law_k","_law_cell"]:List Str) (["_law_script","_law_k"]:List Str) (aC dj):=⟨rfl,rfl,rfl,by decide +kernel,rfl,by decide +kernel,by decide +kernel⟩
noncomputable abbrev oF:Stmt:=top 12
theorem DQ:bT (["_law_left","_law_many","_law_digit"]:List Str) (["_law_left","_law_many"]:List Str) (aC oF):=⟨rfl,rfl,rfl,by decide +kernel,rfl,by decide +kernel,by decide +kernel⟩
noncomputable abbrev jB:Stmt:=top 13
theorem PJ:bT (["_law_found","_law_due"]:List Str) (["_law_found","_law_due"]:List Str) (aC jB):=⟨rfl,rfl,rfl,by decide +kernel,rfl,by decide +kernel,by decide +kernel⟩
noncomputable abbrev bI:Stmt:=top 14
theorem aX:bT (["_law_left","_law_many","_law_letters","_law_head","_law_tail","_law_first","_law_by","_law_stem","_law_found","_law_size","_law_k","_law_value","_law_two"]:List Str) (["_law_left","_law_many"]:List Str) (aC bI):=⟨rfl,rfl,rfl,by decide +kernel,rfl,by decide +kernel,by decide +kernel⟩
noncomputable abbrev fJ:Stmt:=top 15
theorem rA:bT (["_law_left","_law_things","_law_rest","_law_found"]:List Str) (["_law_left","_law_things"]:List Str) (aC fJ):=⟨rfl,rfl,rfl,by decide +kernel,rfl,by decide +kernel,by decide +kernel⟩
noncomputable abbrev dm:Stmt:=top 16
theorem gf:bT (["_law_left","_law_names","_law_found","_law_k","_law_name"]:List Str) (["_law_left","_law_names"]:List Str) (aC dm):=⟨rfl,rfl,rfl,by decide +kernel,rfl,by decide +kernel,by decide +kernel⟩
noncomputable abbrev dw:Stmt:=top 17
theorem jl:bT (["_law_parts","_law_part","_law_found"]:List Str) (["_law_parts","_law_part"]:List Str) (aC dw):=⟨rfl,rfl,rfl,by decide +kernel,rfl,by decide +kernel,by decide +kernel⟩
noncomputable abbrev jb:Stmt:=top 18
theorem lD:bT (["_law_left","_law_many","_law_found","_law_last","_law_k"]:List Str) (["_law_left","_law_many"]:List Str) (aC jb):=⟨rfl,rfl,rfl,by decide +kernel,rfl,by decide +kernel,by decide +kernel⟩
noncomputable abbrev fK:Stmt:=top 19
theorem Ar:bT (["_law_parts","_law_leaves"]:List Str) (["_law_parts","_law_leaves"]:List Str) (aC fK):=⟨rfl,rfl,rfl,by decide +kernel,rfl,by decide +kernel,by decide +kernel⟩
noncomputable abbrev dJ:Stmt:=top 20
theorem aR:bT (["_law_left","_law_names","_law_many","_law_parts","_law_people","_law_over","_law_paper","_law_day","_law_numbers","_law_leaves","_law_gap","_law_k","_law_some","_law_leave","_law_at","_law_house","_law_turn","_law_to","_law_due"]:List Str) (["_law_left"]:List Str) (aC dJ):=⟨rfl,rfl,rfl,by decide +kernel,rfl,by decide +kernel,by decide +kernel⟩
noncomputable abbrev rB:Stmt:=top 21
theorem G3:bT (["_law_script","_law_k","_law_left"]:List Str) (["_law_script"]:List Str) (aC rB):=⟨rfl,rfl,rfl,by decide +kernel,rfl,by decide +kernel,by decide +kernel⟩
structure Txt (K:PySem.W.Frag) (mg:Str→Option Value):Prop where
 yQ:mg "abs"=none
 DR:mg "all"=none
 pY:mg "bool"=none
 gR:mg "enumerate"=none
 yR:mg "int"=none
 aW:mg "isinstance"=none
 nG:mg "len"=none
 nH:mg "list"=none
 yS:mg "min"=none
 dh:mg "range"=none
 jm:mg "sorted"=none
 wI:mg "str"=none
 gJ:mg "tuple"=none
 DW:mg "zip"=none
@[reducible] noncomputable def lV:FT:=(fTst (aF pN (aA 1) (aA 2)))
@[reducible] noncomputable def lW:FS:=(fSeq (mj 3 (fVar 1)) (fSet 1 (aF bD (aA 2) (aA 1))))
@[reducible] noncomputable def iG:FE:=(fVar 0)
@[reducible] noncomputable def iH:FE:=(fVar 1)
@[reducible] noncomputable def lF:FS:=(fSeq (fSet 2 (Yv (iB2 (au (aF bD (aA 0) (au (fCst (.int 0)))))) (.many 2) gO iG iH [])) (fSeq (fSet 3 (fLst aNil)) (fSeq (Oa lV lW) (fRetV 3))))
noncomputable def gh:FN:=fN 2 4 lF
@[reducible] noncomputable def sY:FS:=(fRet (aF pN (aA 1) (au (wX (aA 0) (tY (au (fCst (.int 2)))) (tY (au (fCst (.int 4))))))))
noncomputable def dM:FN:=fN 2 2 sY
@[reducible] noncomputable def lG:FT:=(iJ (fTst (aF pN (aA 3) (aA 7))) (iJ (fTst (Gk ur ur (aA 4) (aA 8) (aA 5))) (iJ (fTst (aF ur (au (aF bD (aA 9) (au (fCst (.int 1))))) (aA 6))) (iJ (mY (fTru (au (fCal dM (aCons (fVar 9) (aCons (fVar 1) aNil)))))) (mY (fTru (au (fCal dM (aCons (fVar 9) (aCons (fVar 2) aNil))))))))))
@[reducible] noncomputable def lH:FE:=(fTup (aCons (fVar 0) (aCons (fVar 1) (aCons (fVar 2) aNil))))
@[reducible] noncomputable def sZ:FS:=(fSeq (fSet 3 (fCal gh (aCons (fVar 0) (aCons (aF bD (aA 1) (au (fCst (.int 0)))) aNil)))) (fRet (fLC (iB2 (au (aF bD (aA 0) (au (fCst (.int 2)))))) (.many 7) lG lH [3,2,1])))
noncomputable def jc:FN:=fN 3 4 sZ
@[reducible] noncomputable def o8:FS:=(vL 2 (aA 5) (fVar 4))
@[reducible] noncomputable def o9:FT:=(iJ (fTst (aF pN (aA 2) (aA 3))) (fTst (aF qK (aA 1) (aA 4))))
@[reducible] noncomputable def pA:FE:=(fVar 1)
@[reducible] noncomputable def pB:FT:=(fTru (aA 3))
@[reducible] noncomputable def pC:FS:=(fSeq (RK 4 (au (fCst (.int 1)))) (fSeq (fSet 3 (Yx (iB2 (aA 0)) (.many 3) o9 pA [3,2])) (jN (iV (fVar 3)) (gNm 5) o8)))
@[reducible] noncomputable def pZ:FS:=(fSeq (fSet 2 (Jk (aA 1) (fCst (.int 0)))) (fSeq (fSet 3 (fLst (aCons (fVar 1) aNil))) (fSeq (fSet 4 (fCst (.int 0))) (fSeq (Oa pB pC) (fRetV 2)))))
noncomputable def jn:FN:=fN 2 6 pZ
@[reducible] noncomputable def lX:FT:=(iJ (fTst (aF kZ (aA 1) (aA 3))) (iJ (fTst (aF pN (aA 2) (aA 4))) (fTst (aF vA (au (aF bD (aA 4) (aA 2))) (au (aF bD (aA 4) (aA 3)))))))
@[reducible] noncomputable def lY:FE:=(fTup (aCons (fVar 0) (aCons (fVar 2) aNil)))
@[reducible] noncomputable def lJ:FS:=(fRet (fFun Ao (bCons (au (fLC (iB2 (aA 0)) (.many 3) lX lY [2,1])) bNil)))
noncomputable def gj:FN:=fN 3 3 lJ
@[reducible] noncomputable def nJ:FT:=(fTst (aF pM (aA 1) (aA 2)))
@[reducible] noncomputable def nM:FS:=(fSeq (fUnp (fCal gj (aCons (fVar 0) (aCons (fVar 3) (aCons (fVar 1) aNil)))) (gTp 2 (gsCons (gNm 5) (gsCons (gNm 1) gsNil)))) (mj 4 (fVar 5)))
@[reducible] noncomputable def jC:FS:=(fSeq (fSet 3 (fCal jn (aCons (fVar 0) (aCons (fVar 2) aNil)))) (fSeq (jt (fTst (aF qK (aA 1) (aA 3))) (fRet (fCst .none)) fNext) (fSeq (fSet 4 (fLst aNil)) (fSeq (Oa nJ nM) (fRetV 4)))))
noncomputable def gU:FN:=fN 3 6 jC
@[reducible] noncomputable def nO:FS:=(fSeq (jt (zX (fTru (au (fCal dM (aCons (fVar 1) (aCons (fVar 2) aNil))))) (fTru (au (fCal dM (aCons (fVar 1) (aCons (fVar 3) aNil)))))) (fRet (fCst .none)) fNext) (fRet (fCal gU (aCons (fCal jc (aCons (fVar 0) (aCons (fVar 1) (aCons (fVar 4) aNil)))) (aCons (fVar 2) (aCons (fVar 3) aNil))))))
noncomputable def gW:FN:=fN 5 5 nO
@[reducible] noncomputable def G4:FS:=(fSeq (fSet 2 (aF fB (au (aF fV (au (aF bu (au (aF bu (au (aF fB (aA 0) (au (fCst (.int 2147483629))))) (au (aF fV (au (aF fV (aA 1) (aA 1))) (au (fCst (.int 7919))))))) (au (fCst (.int 11))))) (au (fCst (.int 48271))))) (au (fCst (.int 2147483647))))) (fRet (aF fB (au (aF fV (aA 2) (aA 2))) (au (fCst (.int 1999999973))))))
noncomputable def tB:FN:=fN 2 3 G4
@[reducible] noncomputable def jO:FS:=(fSeq (fSet 2 (CG (fTst (aF vA (aA 1) (au (tW 0)))) (Oi 0 (aA 1)) (fCst (.int 0)))) (fRet (fLst (aCons (aF bD (au (fLst (aCons (fCst (.int 0)) (aCons (fFun CZ (bCons (aA 2) bNil)) aNil)))) (au (fFun IV (bCons (au (aF Rv (au (fFun CZ (bCons (aA 2) bNil))) (au (aF Ib (au (fCst (.int 10))) (au (fCst (.int 18))))))) bNil)))) (aCons (aF bu (aA 2) (au (aF fV (au (fCst (.int 1000003))) (aA 1)))) (aCons (fCst (.int 0)) aNil))))))
noncomputable def d9:FN:=fN 2 3 jO
@[reducible] noncomputable def uI:FS:=(fSeq (vL 0 (au (fCst (.int 2))) (aF bu (au (vX 0 (au (fCst (.int 2))))) (au (fCst (.int 1))))) (fSeq (jt (fTst (aF Nq (au (vX 0 (au (fCst (.int 0))))) (au (fCst (.int 0))))) (fSeq (fSet 2 (aF fB (au (vX 0 (au (fCst (.int 0))))) (aA 1))) (fSeq (vL 0 (au (fCst (.int 0))) (aF mX (au (vX 0 (au (fCst (.int 0))))) (aA 1))) (fRetV 2))) fNext) (fRet (aF fB (au (aF mX (au (fCal tB (aCons (fCal tB (aCons (vX 0 (au (fCst (.int 1)))) (aCons (vX 0 (au (fCst (.int 2)))) aNil))) (aCons (aF bu (au (vX 0 (au (fCst (.int 2))))) (au (fCst (.int 64)))) aNil)))) (au (fCst (.int 64))))) (aA 1)))))
noncomputable def aL:FN:=fN 2 3 uI
@[reducible] noncomputable def wJ (Av:FN):FE:=(fCal Av (aCons (fVar 0) (aCons (fVar 1) aNil)))
@[reducible] noncomputable def uJ (Av:FN):FS:=(fSeq (jt (fTru (au (De "list" "tuple" (aA 1)))) (fSeq (jt (zX (fTst (aF pM (au (pR "list" (aA 0))) (au (pR "list" (aA 1))))) (fTst (aF pM (au (pR "tuple" (aA 0))) (au (pR "tuple" (aA 1)))))) (fRet (fCst (.bool false))) fNext) (fRet (qM (aF kZ (au (fFun ni (bCons (aA 0) bNil))) (au (fFun ni (bCons (aA 1) bNil)))) (fFun Dc (bCons (au (fLC (Zt (bCons (aA 0) (bCons (aA 1) bNil))) (.many 2) gO (wJ Av) [])) bNil))))) fNext) (fSeq (jt (zX (fTst (aF vC (aA 1) (au (fCst .none)))) (fTru (au (pR "str" (aA 1))))) (fRet (qM (aF kZ (aA 0) (aA 1)) (aF kZ (au (pR "str" (aA 0))) (au (pR "str" (aA 1)))))) fNext) (fSeq (jt (fTru (au (pR "bool" (aA 1)))) (fRet (qM (pR "bool" (aA 0)) (aF kZ (aA 0) (aA 1)))) fNext) (fRet (qM (pR "int" (aA 0)) (qM (Il (pR "bool" (aA 0))) (aF kZ (aA 0) (aA 1))))))))
noncomputable def dz:Nat→FN
 | 0=>O4
 | n + 1=>fN 2 2 (uJ (dz n))
@[reducible] noncomputable def cB:FS:=(fSeq (fSet 11 (aF fB (au (aF bu (aA 5) (au (aF fV (aA 6) (aA 10))))) (au (fCst (.int 676))))) (fSeq (fSet 12 (aF bu (au (aF bD (aA 2) (au (aF mX (aA 11) (au (fCst (.int 26))))))) (au (aF bD (aA 2) (au (aF fB (aA 11) (au (fCst (.int 26))))))))) (mj 8 (aF bu (au (aF bu (aA 3) (aA 12))) (au (wX (aA 4) I9 (tY (au (aF fB (au (aF bu (au (aF fV (aA 10) (aA 10))) (aA 5))) (au (fCst (.int 4))))))))))))
@[reducible] noncomputable def dN:FE:=(aF bD (aA 1) (au (aF fB (au (aF bu (aA 2) (au (aF fV (aA 3) (aA 0))))) (au (fCst (.int 26))))))
@[reducible] noncomputable def gB:FE:=(wX (aA 1) (tY (aA 0)) (tY (au (aF bu (aA 0) (aA 2)))))
@[reducible] noncomputable def cC:FS:=(R8 8 (au (fLC (sJ (au (aF oV (au (fCst (.int 9))) (aA 9)))) .one gO gB [7,9])))
@[reducible] noncomputable def dO:FE:=(aF bD (aA 1) (au (aF fB (au (aF bu (aA 2) (au (aF fV (au (fCst (.int 5))) (aA 0))))) (au (fCst (.int 26))))))
@[reducible] noncomputable def gC:FE:=(aF bD (aA 1) (au (fCal aL (aCons (fVar 2) (aCons (fCst (.int 26)) aNil)))))
@[reducible] noncomputable def gF:FE:=(aF bD (aA 1) (au (fCal aL (aCons (fVar 2) (aCons (fCst (.int 26)) aNil)))))
@[reducible] noncomputable def eE:FS:=(fSeq (fSet 2 (fCst (.str (Str.ofString "abcdefghijklmnopqrstuvwxyz")))) (fSeq (fSet 3 (nC (au (fCst (.str (Str.ofString "")))) (au (fLC (sJ (au (fCal aL (aCons (fVar 0) (aCons (fCst (.int 4)) aNil))))) .one gO gF [2,0])))) (fSeq (fSet 4 (nC (au (fCst (.str (Str.ofString "")))) (au (fLC (sJ (au (fCal aL (aCons (fVar 0) (aCons (fCst (.int 4)) aNil))))) .one gO gC [2,0])))) (fSeq (fPar [5,6] (oCons (fCal aL (aCons (fVar 0) (aCons (fCst (.int 676)) aNil))) (oCons (aF bD (au (fLst (aCons (fCst (.int 1)) (aCons (fCst (.int 3)) (aCons (fCst (.int 5)) (aCons (fCst (.int 7)) (aCons (fCst (.int 25)) (aCons (fCst (.int 675)) aNil)))))))) (au (fCal aL (aCons (fVar 0) (aCons (fCst (.int 6)) aNil))))) aNil))) (fSeq (jt (fTst (aF kZ (au (fCal aL (aCons (fVar 0) (aCons (fCst (.int 4)) aNil)))) (au (fCst (.int 0))))) (fSeq (fPar [7,8] (oCons (nC (au (fCst (.str (Str.ofString "")))) (au (fLC (sJ (au (fCst (.int 8)))) .one gO dO [2,5]))) (oCons (fLst aNil) aNil))) (fSeq (jN (Pb (au (fCst (.int 1))) (au (fCst (.int 9)))) (gNm 9) cC) (fRet (wX (aA 8) I9 (tY (aA 1)))))) fNext) (fSeq (jt (iJ (fTst (aF vA (aA 1) (au (fCst (.int 27))))) (fTst (aF kZ (au (fCal aL (aCons (fVar 0) (aCons (fCst (.int 3)) aNil)))) (au (fCst (.int 0)))))) (fRet (fLC (sJ (aA 1)) .one gO dN [2,5,6])) fNext) (fSeq (fSet 8 (fLst aNil)) (fSeq (jN (sJ (aA 1)) (gNm 10) cB) (fRetV 8)))))))))
noncomputable def eF:FN:=fN 2 13 eE
@[reducible] noncomputable def nP:FT:=(fTst (aF pM (aA 2) (au (fLst aNil))))
@[reducible] noncomputable def nQ:FS:=(Pz 3 2 (au (fCal aL (aCons (fVar 0) (aCons (fFun ni (bCons (aA 2) bNil)) aNil)))))
@[reducible] noncomputable def nR:FS:=(fSeq (fPar [2,3] (oCons (fFun uE (bCons (aA 1) bNil)) (oCons (fLst aNil) aNil))) (fSeq (Oa nP nQ) (fRetV 3)))
noncomputable def gY:FN:=fN 2 4 nR
@[reducible] noncomputable def cW:FS:=(vL 2 (aA 4) (aF bD (au (aF bu (au (fLst (aCons (fCst (.str (Str.ofString ""))) aNil))) (au (wX (aA 1) I9 (tY (aA 3)))))) (au (CG (fTst (aF Nq (au (fCal aL (aCons (fVar 0) (aCons (fCst (.int 4)) aNil)))) (au (fCst (.int 0))))) (fCal aL (aCons (fVar 0) (aCons (aF bu (aA 3) (au (fCst (.int 1)))) aNil))) (fCst (.int 0))))))
@[reducible] noncomputable def jP:FS:=(fSeq (fSet 2 Gm) (fSeq (jN (Zu (fVar 1)) (gTp 2 (gsCons (gNm 3) (gsCons (gNm 4) gsNil))) cW) (fRetV 2)))
noncomputable def eG:FN:=fN 2 5 jP
@[reducible] noncomputable def j6:FT:=(fTst (aF pN (aA 1) (aA 0)))
@[reducible] noncomputable def j7:FS:=(fSeq (mj 2 (fVar 1)) (fSet 1 (aF bD (aA 0) (aA 1))))
@[reducible] noncomputable def jQ:FS:=(fSeq (fSet 2 (fLst aNil)) (fSeq (Oa j6 j7) (fRetV 2)))
noncomputable def eN:FN:=fN 2 3 jQ
@[reducible] noncomputable def lK:FS:=(fSeq (mj 2 (fVar 3)) (fSet 3 (aF bu (au (aF bu (aA 3) (au (fCst (.int 1))))) (au (aF fV (au (fCal aL (aCons (fVar 0) (aCons (fCst (.int 2)) aNil)))) (au (fCal aL (aCons (fVar 0) (aCons (fCst (.int 3)) aNil)))))))))
@[reducible] noncomputable def tD:FS:=(fSeq (fPar [2,3] (oCons (fLst aNil) (oCons (fCal aL (aCons (fVar 0) (aCons (fCst (.int 3)) aNil))) aNil))) (fSeq (jN (sJ (aA 1)) (gNm 4) lK) (fRetV 2)))
noncomputable def j8:FN:=fN 2 5 tD
@[reducible] noncomputable def nU:FS:=(fRet (fTup (aCons (fFun gG (bCons (au (An (aA 0))) bNil)) (aCons (fTup aNil) (aCons (fFun gG (bCons (aA 1) bNil)) (aCons (fTup aNil) aNil))))))
noncomputable def gZ:FN:=fN 2 2 nU
@[reducible] noncomputable def cu:FS:=(fSeq (fPar [14,17] (oCons (fCal aL (aCons (fVar 0) (aCons (fVar 2) aNil))) (oCons (fCal aL (aCons (fVar 0) (aCons (fVar 2) aNil))) aNil))) (fSeq (fSet 18 (CG (iJ (fTst (aF ur (aA 14) (aA 17))) (mY (fTst (Gk ur vA (aA 14) (aA 10) (aA 17))))) (wX (aA 8) (tY (aA 14)) (tY (aA 17))) (fCst .none))) (jt (mY (fTru (au (fCal (dz 3) (aCons (fCal gW (aCons (fVar 15) (aCons (fVar 6) (aCons (aF bD (aA 4) (aA 14)) (aCons (aF bD (aA 4) (aA 17)) (aCons (fVar 7) aNil)))))) (aCons (fVar 18) aNil)))))) (fRet (fCst (.bool false))) fNext)))
@[reducible] noncomputable def bK:FS:=(fSeq (fSet 12 (fCal eN (aCons (fVar 3) (aCons (aF bD (aA 6) (au (fCst (.int 0)))) aNil)))) (fSeq (fSet 13 (fLst (aCons (aF bD (aA 12) (au (fCal aL (aCons (fVar 0) (aCons (fFun ni (bCons (aA 12) bNil)) aNil))))) (aCons (aF oV (aA 7) (au (fCal aL (aCons (fVar 0) (aCons (fCst (.int 3)) aNil))))) (aCons (aF bu (aA 7) (au (fCal aL (aCons (fVar 0) (aCons (fCst (.int 3)) aNil))))) (aCons (fCst (.int 70)) aNil)))))) (fSeq (jt (fTst (aF kZ (aA 11) (aA 10))) (fSeq (fSet 14 (fCal aL (aCons (fVar 0) (aCons (fCst (.int 3)) aNil)))) (fSet 13 (aF bD (au (fLst (aCons (fLst (aCons (aF bD (aA 13) (au (fCst (.int 0)))) (aCons (aF bu (aA 7) (au (fCst (.int 1)))) (aCons (aF bu (aA 7) (au (fCst (.int 9)))) (aCons (fCst (.int 70)) aNil))))) (aCons (fLst (aCons (aF bD (aA 13) (au (fCst (.int 0)))) (aCons (fCst (.int 0)) (aCons (aF oV (aA 7) (au (fCst (.int 1)))) (aCons (fCst (.int 70)) aNil))))) (aCons (fLst (aCons (aF bD (aA 13) (au (fCst (.int 0)))) (aCons (fCst (.int 0)) (aCons (fCst (.int 99999)) (aCons (fCst (.int 69)) aNil))))) aNil))))) (aA 14)))) fNext) (mj 9 (aF bu (au (fTup (aCons (aF bD (aA 8) (aA 11)) (aCons (aF bD (aA 4) (aA 11)) (aCons (aF bD (aA 4) (au (aF bu (aA 11) (au (fCst (.int 1)))))) aNil))))) (au (fFun gG (bCons (aA 13) bNil))))))))
@[reducible] noncomputable def iR:FS:=(fSeq (fPar [1,2] (oCons (fCal eF (aCons (fVar 0) (aCons (fCst (.int 30)) aNil))) (oCons (aF bu (au (fCst (.int 2))) (au (fCal aL (aCons (fVar 0) (aCons (fCst (.int 16)) aNil))))) aNil))) (fSeq (fSet 3 (fCal eG (aCons (fVar 0) (aCons (wX (aA 1) I9 (tY (au (aF bu (au (fCst (.int 1))) (au (fCal aL (aCons (fVar 0) (aCons (fCst (.int 8)) aNil)))))))) aNil)))) (fSeq (fPar [4,5] (oCons (wX (aA 1) (tY (au (fCst (.int 9)))) (tY (au (aF bu (au (fCst (.int 9))) (aA 2))))) (oCons (aF bD (aA 1) (au (fCal aL (aCons (fVar 0) (aCons (fFun ni (bCons (aA 3) bNil)) aNil))))) aNil))) (fSeq (fPar [6,7] (oCons (fTup (aCons (fVar 5) (aCons (fCst (.int 70)) (aCons (aF bD (aA 1) (au (fCst (.int 27)))) (aCons (aF bD (aA 1) (au (fCst (.int 28)))) aNil))))) (oCons (aF bu (au (fCst (.int 5))) (au (fCal aL (aCons (fVar 0) (aCons (fCst (.int 5)) aNil))))) aNil))) (fSeq (fPar [8,9,10] (oCons (fCal gY (aCons (fVar 0) (aCons (fCal j8 (aCons (fVar 0) (aCons (aF oV (aA 2) (au (fCst (.int 1)))) aNil))) aNil))) (oCons (fLst aNil) (oCons (fVar 2) aNil)))) (fSeq (jt (fTst (aF kZ (au (fCal aL (aCons (fVar 0) (aCons (fCst (.int 2)) aNil)))) (au (fCst (.int 0))))) (fSet 10 (fCal aL (aCons (fVar 0) (aCons (aF oV (aA 2) (au (fCst (.int 1)))) aNil)))) fNext) (fSeq (jN (sJ (au (aF oV (aA 2) (au (fCst (.int 1)))))) (gNm 11) bK) (fSeq (fSet 15 (fCal gZ (aCons (fVar 3) (aCons (fFun uF (bCons (aA 9) bNil)) aNil)))) (fSeq (jN (sJ (au (fCst (.int 12)))) (gNm 16) cu) (fSeq (jt (mY (fTru (au (fCal (dz 3) (aCons (fCal gW (aCons (fVar 15) (aCons (fVar 6) (aCons (aF bD (aA 1) (au (fCst (.int 29)))) (aCons (aF bD (aA 1) (au (fCst (.int 29)))) (aCons (fVar 7) aNil)))))) (aCons (fLst aNil) aNil)))))) (fRet (fCst (.bool false))) fNext) (fSeq (jt (fTst (aF vD (au (fCal gW (aCons (fVar 15) (aCons (fVar 6) (aCons (aF bD (aA 1) (au (fCst (.int 29)))) (aCons (aF bD (aA 4) (au (fCst (.int 0)))) (aCons (fVar 7) aNil))))))) (au (fCst .none)))) (fRet (fCst (.bool false))) fNext) (fRet (aF vC (au (fCal gW (aCons (fVar 15) (aCons (fVar 6) (aCons (aF bD (aA 4) (au (fCst (.int 0)))) (aCons (aF bD (aA 1) (au (fCst (.int 29)))) (aCons (fVar 7) aNil))))))) (au (fCst .none)))))))))))))))
noncomputable def dR:FN:=fN 1 19 iR
@[reducible] noncomputable def wK:FS:=(fSeq (N7 2 (fCal d9 (aCons (fVar 0) (aCons (fVar 1) aNil)))) (jt (zX (mY (fTru (au (fCal dR (aCons (fVar 2) aNil))))) (mY (fTru (au (fCal dR (aCons (fVar 2) aNil)))))) (fRet (fCst (.bool false))) fNext))
@[reducible] noncomputable def PK:FS:=(fSeq (jN (sJ (au (aF bu (au (fCst (.int 1))) (au (fFun Ab (bCons (au (fCst (.int 4))) (bCons (au (tW 0)) bNil))))))) (gNm 1) wK) (fRet (fCst (.bool true))))
noncomputable def yU:FN:=fN 1 3 PK
theorem xO {P:Program} {w:World} {K:PySem.W.Frag} {mg:Str→Option Value} {base:Heap} {f:Addr} {fd:FuncData} (F:tM K "parts_over" "parts_over" cZ f fd) (T:Txt K mg):dB P w K mg base qu 1 f fd (["house","part"]:List Str) (spT K gh):=
 fY (body:=lF) F gH fun cdv A outer s H E hr=>(aD (Ow (i:=2) (T:=(.many 2)) (NT:=(["name","within"]:List Str)) (NF:=([]:List Str)) (js:=[]) (xj.ok (N0:=(["house","part","outer","over"]:List Str)) (FJ:=aC cZ) (by decide +kernel) rfl rfl) (⟨_,_,_,rfl,(.cons ⟨_,rfl⟩ (.cons ⟨_,rfl⟩ .nil)),rfl⟩) rfl hr.aN (Jc (ao (bU (bf hr.aN) bV (aj (pv 0)) (ao (aq az)) (fun _ _=>rfl)))) (fun b=>⟨lB,(aB (pv 0)),(aB (pv 1))⟩) (by rfl) gH.nd rfl rfl) (aD (bR (i:=3) gH.nd rfl (Or.inl rfl) (cV aG)) (aD (m6 PassesOwn.never (cj (sy hr.aN) yx (aj (pv 1)) (aj (pv 2)) (by with_unfolding_all rfl)) (aD (sI (pv 3) (aB (pv 1))) (aQ (bR (i:=1) gH.nd rfl (Or.inl rfl) (bU (bf hr.aN) bV (aj (pv 2)) (aj (pv 1)) (fun _ _=>rfl)))))) (aQ (iQ (pv 3))))))
theorem G5 {P:Program} {w:World} {K:PySem.W.Frag} {mg:Str→Option Value} {base:Heap} {f:Addr} {fd:FuncData} (F:tM K "is_side" "is_side" iZ f fd) (T:Txt K mg):dB P w K mg base qu 1 f fd (["paper","person"]:List Str) (spT K dM):=
 fY (body:=sY) F GZ fun cdv A outer s H E hr=>(aQ (cF (mW (sy hr.aN) yx (aj (pv 1)) (ao (tZ (aj (pv 0)) (lU (ao (aq az))) (lU (ao (aq az))))) (by with_unfolding_all rfl))))
theorem G6 {P:Program} {w:World} {K:PySem.W.Frag} {mg:Str→Option Value} {base:Heap} {f:Addr} {fd:FuncData} (F:tM K "ways_on" "ways_on" gA f fd) (T:Txt K mg) (lM:jq P w K mg base "parts_over" 1 (["house","part"]:List Str) (spT K gh)) (fL:jq P w K mg base "is_side" 1 (["paper","person"]:List Str) (spT K dM)):dB P w K mg base qu 2 f fd (["house","paper","day"]:List Str) (spT K jc):=
 fY (body:=sZ) F wH fun cdv A outer s H E hr=>(aD (bR (i:=3) wH.nd rfl (Or.inr rfl) (aY lM (hr.mono (by decide)) rfl (aa (aB (pv 0)) (aa (bU (bf hr.aN) bV (aj (pv 1)) (ao (aq az)) (fun _ _=>rfl)) aG)))) (aQ (cF (tV (T:=(.many 7)) (NT:=(["number","giver","taker","part","first","last","most"]:List Str)) (NF:=(["over","day","paper"]:List Str)) (js:=[3,2,1]) (xj.ok (N0:=(["house","paper","day","over"]:List Str)) (FJ:=aC gA) (by decide +kernel) rfl rfl) (⟨_,_,_,rfl,(.cons ⟨_,rfl⟩ (.cons ⟨_,rfl⟩ (.cons ⟨_,rfl⟩ (.cons ⟨_,rfl⟩ (.cons ⟨_,rfl⟩ (.cons ⟨_,rfl⟩ (.cons ⟨_,rfl⟩ .nil))))))),rfl⟩) rfl (Jc (ao (bU (bf hr.aN) bV (aj (pv 0)) (ao (aq az)) (fun _ _=>rfl)))) (fun b=>⟨(Aa (PW.pt (lg (cj (sy hr.aN) yx (aj (pv 3)) (aj (pv 7)) (by with_unfolding_all rfl)) (lg (NB vB Cu vB Cu (aj (pv 4)) (aj (pv 8)) (aj (pv 5))) (lg (cj vB Cu (ao (bU (bf hr.aN) bV (aj (pv 9)) (ao (aq az)) (fun _ _=>rfl))) (aj (pv 6)) (cg _)) (lg (pO (ir (ao (aY fL (hr.mono (by decide)) rfl (aa (aB (pv 9)) (aa (aB (pv 1)) aG)))))) (qL (pO (ir (ao (aY fL (hr.mono (by decide)) rfl (aa (aB (pv 9)) (aa (aB (pv 2)) aG))))))))))))),(pP (aa (aB (pv 0)) (aa (aB (pv 1)) (aa (aB (pv 2)) aG))))⟩)))))
theorem DX {P:Program} {w:World} {K:PySem.W.Frag} {mg:Str→Option Value} {base:Heap} {f:Addr} {fd:FuncData} (F:tM K "steps_to" "steps_to" eZ f fd) (T:Txt K mg):dB P w K mg base qu 1 f fd (["ways","signer"]:List Str) (spT K jn):=
 fY (body:=pZ) F dG fun cdv A outer s H E hr=>(aD (bR (i:=2) dG.nd rfl (Or.inr rfl) (Pj (aj (pv 1)) (aq az))) (aD (bR (i:=3) dG.nd rfl (Or.inr rfl) (cV (aa (aB (pv 1)) aG))) (aD (bR (i:=4) dG.nd rfl (Or.inl rfl) (aq az)) (aD (m6 PassesOwn.never (ir (aj (pv 3))) (aD (V5 (i:=4) dG.nd rfl (Or.inl rfl) (ao (aq az))) (aD (bR (i:=3) dG.nd rfl (Or.inr rfl) (Yy (T:=(.many 3)) (NT:=(["number","giver","taker"]:List Str)) (NF:=(["newest","steps"]:List Str)) (js:=[3,2]) (xj.ok (N0:=(["ways","signer","steps","newest","many","person"]:List Str)) (FJ:=aC eZ) (by decide +kernel) rfl rfl) (⟨_,_,_,rfl,(.cons ⟨_,rfl⟩ (.cons ⟨_,rfl⟩ (.cons ⟨_,rfl⟩ .nil))),rfl⟩) rfl rfl T.jm (Jc (aj (pv 0))) (fun b=>⟨(Aa (PW.pt (lg (cj (sy hr.aN) yx (aj (pv 2)) (aj (pv 3)) (by with_unfolding_all rfl)) (qL (cj (yw hr.aN) Cw (aj (pv 1)) (aj (pv 4)) (by with_unfolding_all rfl)))))),(aB (pv 1))⟩))) (aQ (m7 PassesOwn.never rfl (aaA (aB (pv 3))) (cX (i:=5) dG.nd rfl (Or.inl rfl)) fW (aQ (z9 hr.aN (pv 2) (aj (pv 5)) (aB (pv 4))))))))) (aQ (iQ (pv 2)))))))
theorem xP {P:Program} {w:World} {K:PySem.W.Frag} {mg:Str→Option Value} {base:Heap} {f:Addr} {fd:FuncData} (F:tM K "nearer_way" "nearer_way" dg f fd) (T:Txt K mg):dB P w K mg base qu 1 f fd (["ways","steps","person"]:List Str) (spT K gj):=
 fY (body:=lJ) F xN fun cdv A outer s H E hr=>(aQ (cF (dF (xM rfl hr.aN) Sv rfl T.yS (by decide +kernel) (bG (ao (tV (T:=(.many 3)) (NT:=(["number","giver","taker"]:List Str)) (NF:=(["person","steps"]:List Str)) (js:=[2,1]) (xj.ok (N0:=(["ways","steps","person"]:List Str)) (FJ:=aC dg) (by decide +kernel) rfl rfl) (⟨_,_,_,rfl,(.cons ⟨_,rfl⟩ (.cons ⟨_,rfl⟩ (.cons ⟨_,rfl⟩ .nil))),rfl⟩) rfl (Jc (aj (pv 0))) (fun b=>⟨(Aa (PW.pt (lg (cj (jM hr.units) oW (aj (pv 1)) (aj (pv 3)) (cg _)) (lg (cj (sy hr.aN) yx (aj (pv 2)) (aj (pv 4)) (by with_unfolding_all rfl)) (qL (cj (kJ hr.zu) Ig (ao (bU (bf hr.aN) bV (aj (pv 4)) (aj (pv 2)) (fun _ _=>rfl))) (ao (bU (bf hr.aN) bV (aj (pv 4)) (aj (pv 3)) (fun _ _=>rfl))) (cg _))))))),(pP (aa (aB (pv 0)) (aa (aB (pv 2)) aG)))⟩))) cz))))
theorem Aw {P:Program} {w:World} {K:PySem.W.Frag} {mg:Str→Option Value} {base:Heap} {f:Addr} {fd:FuncData} (F:tM K "first_row" "first_row" fH f fd) (T:Txt K mg) (p6:jq P w K mg base "steps_to" 1 (["ways","signer"]:List Str) (spT K jn)) (lN:jq P w K mg base "nearer_way" 1 (["ways","steps","person"]:List Str) (spT K gj)):dB P w K mg base qu 2 f fd (["ways","holder","signer"]:List Str) (spT K gU):=
 fY (body:=jC) F gb fun cdv A outer s H E hr=>(aD (bR (i:=3) gb.nd rfl (Or.inl rfl) (aY p6 (hr.mono (by decide)) rfl (aa (aB (pv 0)) (aa (aB (pv 2)) aG)))) (aD (je (cj (yw hr.aN) Cw (aj (pv 1)) (aj (pv 3)) (by with_unfolding_all rfl)) (aQ (cF (aq rK))) eV) (aD (bR (i:=4) gb.nd rfl (Or.inl rfl) (cV aG)) (aD (m6 PassesOwn.never (cj (zW hr.units) Ie (aj (pv 1)) (aj (pv 2)) (cg _)) (aD (V2 (aY lN (hr.mono (by decide)) rfl (aa (aB (pv 0)) (aa (aB (pv 3)) (aa (aB (pv 1)) aG)))) (zg rfl (gK (cX (i:=5) gb.nd rfl (Or.inl rfl)) (gK (cX (i:=1) gb.nd rfl (Or.inl rfl)) uw))) (N6 (qO fW (qO fW Ip)))) (aQ (sI (pv 4) (aB (pv 5)))))) (aQ (iQ (pv 4)))))))
theorem KY {P:Program} {w:World} {K:PySem.W.Frag} {mg:Str→Option Value} {base:Heap} {f:Addr} {fd:FuncData} (F:tM K "row_of" "row_of" j5 f fd) (T:Txt K mg) (fL:jq P w K mg base "is_side" 1 (["paper","person"]:List Str) (spT K dM)) (tG:jq P w K mg base "ways_on" 2 (["house","paper","day"]:List Str) (spT K jc)) (nW:jq P w K mg base "first_row" 2 (["ways","holder","signer"]:List Str) (spT K gU)):dB P w K mg base qu 3 f fd (["house","paper","holder","signer","day"]:List Str) (spT K gW):=
 fY (body:=nO) F KR fun cdv A outer s H E hr=>(aD (je (PW.pt (Ik (ir (ao (aY fL (hr.mono (by decide)) rfl (aa (aB (pv 1)) (aa (aB (pv 2)) aG))))) (zY (ir (ao (aY fL (hr.mono (by decide)) rfl (aa (aB (pv 1)) (aa (aB (pv 3)) aG)))))))) (aQ (cF (aq rK))) eV) (aQ (cF (aY nW (hr.mono (by decide)) rfl (aa (aY tG (hr.mono (by decide)) rfl (aa (aB (pv 0)) (aa (aB (pv 1)) (aa (aB (pv 4)) aG)))) (aa (aB (pv 2)) (aa (aB (pv 3)) aG)))))))
theorem SX {P:Program} {w:World} {K:PySem.W.Frag} {mg:Str→Option Value} {base:Heap} {f:Addr} {fd:FuncData} (F:tM K "_law_mix" "_law_mix" sX f fd) (T:Txt K mg):dB P w K mg base qu 1 f fd (["_law_cell","_law_k"]:List Str) (spT K tB):=
 fY (body:=G4) F Jo fun cdv A outer s H E hr=>(aD (bR (i:=2) Jo.nd rfl (Or.inl rfl) (aM jF jK (ao (aM jE jL (ao (aM bC bW (ao (aM bC bW (ao (aM jF jK (aj (pv 0)) (ao (aq az)))) (ao (aM jE jL (ao (aM jE jL (aj (pv 1)) (aj (pv 1)))) (ao (aq az)))))) (ao (aq az)))) (ao (aq az)))) (ao (aq az)))) (aQ (cF (aM jF jK (ao (aM jE jL (aj (pv 2)) (aj (pv 2)))) (ao (aq az))))))
theorem wL {P:Program} {w:World} {K:PySem.W.Frag} {mg:Str→Option Value} {base:Heap} {f:Addr} {fd:FuncData} (F:tM K "_law_drawn_from" "_law_drawn_from" dj f fd) (T:Txt K mg):dB P w K mg base qu 1 f fd (["_law_script","_law_k"]:List Str) (spT K d9):=
 fY (body:=jO) F nF fun cdv A outer s H E hr=>(aD (bR (i:=2) nF.nd rfl (Or.inl rfl) (NK (cj (kJ hr.zu) Ig (aj (pv 1)) (ao (IK (pv 0) rfl T.nG (by decide +kernel))) (cg _)) (Wb (pv 0) (aj (pv 1)) (fun _ _=>rfl)) (aq az))) (aQ (cF (cV (aa (bU (bf hr.aN) bV (ao (cV (aa (aq az) (aa (dF Bt Ol rfl T.yQ (by decide +kernel) (bG (aj (pv 2)) cz)) aG)))) (ao (mZ JM Wc rfl T.yR (by decide +kernel) (bG (ao (mW Xu Yh (ao (dF Bt Ol rfl T.yQ (by decide +kernel) (bG (aj (pv 2)) cz))) (ao (aM U7 VL (ao (aq az)) (ao (aq az)))) (cg _))) cz))) (fun _ _=>rfl)) (aa (aM bC bW (aj (pv 2)) (ao (aM jE jL (ao (aq az)) (aj (pv 1))))) (aa (aq az) aG)))))))
theorem PL {P:Program} {w:World} {K:PySem.W.Frag} {mg:Str→Option Value} {base:Heap} {f:Addr} {fd:FuncData} (F:tM K "_law_pick" "_law_pick" oF f fd) (T:Txt K mg) (Ax:jq P w K mg base "_law_mix" 1 (["_law_cell","_law_k"]:List Str) (spT K tB)):dB P w K mg base qu 2 f fd (["_law_left","_law_many"]:List Str) (spT K aL):=
 fY (body:=uI) F DQ fun cdv A outer s H E hr=>(aD (z9 hr.aN (pv 0) (ao (aq az)) (aM bC bW (ao (pU (pv 0) (ao (aq az)) (fun _ _=>rfl))) (ao (aq az)))) (aD (je (cj Tr T7 (ao (pU (pv 0) (ao (aq az)) (fun _ _=>rfl))) (ao (aq az)) (cg _)) (aD (bR (i:=2) DQ.nd rfl (Or.inl rfl) (aM jF jK (ao (pU (pv 0) (ao (aq az)) (fun _ _=>rfl))) (aj (pv 1)))) (aD (z9 hr.aN (pv 0) (ao (aq az)) (aM zm zV (ao (pU (pv 0) (ao (aq az)) (fun _ _=>rfl))) (aj (pv 1)))) (aQ (iQ (pv 2))))) eV) (aQ (cF (aM jF jK (ao (aM zm zV (ao (aY Ax (hr.mono (by decide)) rfl (aa (aY Ax (hr.mono (by decide)) rfl (aa (pU (pv 0) (ao (aq az)) (fun _ _=>rfl)) (aa (pU (pv 0) (ao (aq az)) (fun _ _=>rfl)) aG))) (aa (aM bC bW (ao (pU (pv 0) (ao (aq az)) (fun _ _=>rfl))) (ao (aq az))) aG)))) (ao (aq az)))) (aj (pv 1)))))))
theorem PN {P:Program} {w:World} {K:PySem.W.Frag} {mg:Str→Option Value} {base:Heap} {f:Addr} {fd:FuncData} (n:Nat) (F:tM K "_law_same" "_law_same" jB f fd) (T:Txt K mg) (oG:jq P w K mg base "_law_same" n (["_law_found","_law_due"]:List Str) (spT K (dz n))):dB P w K mg base qu (n + 1) f fd (["_law_found","_law_due"]:List Str) (spT K (dz (n + 1))):=
 fY (body:=uJ (dz n)) F PJ fun cdv A outer s H E hr=>(aD (je (ir (ao (RQ (by decide) (by decide) (aj (pv 1)) (dH (v:=.ty "list") rfl T.nH (by decide +kernel) rfl) (dH (v:=.ty "tuple") rfl T.gJ (by decide +kernel) rfl) rfl T.aW (by decide +kernel)))) (aD (je (PW.pt (Ik (cj (zW hr.units) Ie (ao (jh (by decide) (aj (pv 0)) (dH (v:=.ty "list") rfl T.nH (by decide +kernel) rfl) rfl T.aW (by decide +kernel))) (ao (jh (by decide) (aj (pv 1)) (dH (v:=.ty "list") rfl T.nH (by decide +kernel) rfl) rfl T.aW (by decide +kernel))) (cg _)) (zY (cj (zW hr.units) Ie (ao (jh (by decide) (aj (pv 0)) (dH (v:=.ty "tuple") rfl T.gJ (by decide +kernel) rfl) rfl T.aW (by decide +kernel))) (ao (jh (by decide) (aj (pv 1)) (dH (v:=.ty "tuple") rfl T.gJ (by decide +kernel) rfl) rfl T.aW (by decide +kernel))) (cg _))))) (aQ (cF (aq xZ))) eV) (aQ (cF (vH (mW (jM hr.units) oW (ao (dF j4 vO rfl T.nG (by decide +kernel) (bG (aj (pv 0)) cz))) (ao (dF j4 vO rfl T.nG (by decide +kernel) (bG (aj (pv 1)) cz))) (cg _)) (zZ (dF (MF rfl) Wd rfl T.DR (by decide +kernel) (bG (ao (tV (T:=(.many 2)) (NT:=(["_law_one","_law_other"]:List Str)) (NF:=([]:List Str)) (js:=[]) (xj.ok (N0:=(["_law_found","_law_due"]:List Str)) (FJ:=aC jB) (by decide +kernel) rfl rfl) (⟨_,_,_,rfl,(.cons ⟨_,rfl⟩ (.cons ⟨_,rfl⟩ .nil)),rfl⟩) rfl (Wf rfl T.DW (bG (aj (pv 0)) (bG (aj (pv 1)) cz))) (fun b=>⟨lB,(aY oG hr rfl (aa (aB (pv 0)) (aa (aB (pv 1)) aG)))⟩))) cz))))))) eV) (aD (je (PW.pt (Ik (cj LK Nr (aj (pv 1)) (ao (aq rK)) (cg _)) (zY (ir (ao (jh (by decide) (aj (pv 1)) (dH (v:=.ty "str") rfl T.wI (by decide +kernel) rfl) rfl T.aW (by decide +kernel))))))) (aQ (cF (vH (mW (jM hr.units) oW (aj (pv 0)) (aj (pv 1)) (cg _)) (zZ (mW (jM hr.units) oW (ao (jh (by decide) (aj (pv 0)) (dH (v:=.ty "str") rfl T.wI (by decide +kernel) rfl) rfl T.aW (by decide +kernel))) (ao (jh (by decide) (aj (pv 1)) (dH (v:=.ty "str") rfl T.wI (by decide +kernel) rfl) rfl T.aW (by decide +kernel))) (cg _)))))) eV) (aD (je (ir (ao (jh (by decide) (aj (pv 1)) (dH (v:=.ty "bool") rfl T.pY (by decide +kernel) rfl) rfl T.aW (by decide +kernel)))) (aQ (cF (vH (jh (by decide) (aj (pv 0)) (dH (v:=.ty "bool") rfl T.pY (by decide +kernel) rfl) rfl T.aW (by decide +kernel)) (zZ (mW (jM hr.units) oW (aj (pv 0)) (aj (pv 1)) (cg _)))))) eV) (aQ (cF (vH (jh (by decide) (aj (pv 0)) (dH (v:=.ty "int") rfl T.yR (by decide +kernel) rfl) rfl T.aW (by decide +kernel)) (vH (VR (jh (by decide) (aj (pv 0)) (dH (v:=.ty "bool") rfl T.pY (by decide +kernel) rfl) rfl T.aW (by decide +kernel))) (zZ (mW (jM hr.units) oW (aj (pv 0)) (aj (pv 1)) (cg _))))))))))
theorem yV {P:Program} {w:World} {K:PySem.W.Frag} {mg:Str→Option Value} {base:Heap} {f:Addr} {fd:FuncData} (hm:mg "_law_same"=some (.ref f)) (hk:PySem.W.keepIn K (.ref f)=true) (hb:Binds K fd (["_law_found","_law_due"]:List Str) []) (F:tM K "_law_same" "_law_same" jB f fd) (T:Txt K mg):
  ∀n,jq P w K mg base "_law_same" n (["_law_found","_law_due"]:List Str) (spT K (dz n))
 | 0=>⟨f,fd,hm,hk,hb,RV⟩
 | n + 1=>⟨f,fd,hm,hk,hb,PN n F T (yV hm hk hb F T n)⟩
theorem wM {P:Program} {w:World} {K:PySem.W.Frag} {mg:Str→Option Value} {base:Heap} {f:Addr} {fd:FuncData} (F:tM K "_law_some_names" "_law_some_names" bI f fd) (T:Txt K mg) (aU:jq P w K mg base "_law_pick" 2 (["_law_left","_law_many"]:List Str) (spT K aL)):dB P w K mg base qu 3 f fd (["_law_left","_law_many"]:List Str) (spT K eF):=
 fY (body:=eE) F aX fun cdv A outer s H E hr=>(aD (bR (i:=2) aX.nd rfl (Or.inr rfl) (aq uL)) (aD (bR (i:=3) aX.nd rfl (Or.inl rfl) (Ad (ao (aq uL)) (ao (tV (T:=.one) (NT:=(["_law_turn"]:List Str)) (NF:=(["_law_letters","_law_left"]:List Str)) (js:=[2,0]) (xj.ok (N0:=(["_law_left","_law_many","_law_letters","_law_head","_law_tail","_law_first","_law_by","_law_stem","_law_found","_law_size","_law_k","_law_value","_law_two"]:List Str)) (FJ:=aC bI) (by decide +kernel) rfl rfl) (⟨_,⟨_,rfl⟩,rfl⟩) rfl (d8 rfl T.dh (ao (aY aU (hr.mono (by decide)) rfl (aa (aB (pv 0)) (aa (aq az) aG))))) (fun b=>⟨lB,(bU (bf hr.aN) bV (aj (pv 1)) (ao (aY aU (hr.mono (by decide)) rfl (aa (aB (pv 2)) (aa (aq az) aG)))) (fun _ _=>rfl))⟩))))) (aD (bR (i:=4) aX.nd rfl (Or.inl rfl) (Ad (ao (aq uL)) (ao (tV (T:=.one) (NT:=(["_law_turn"]:List Str)) (NF:=(["_law_letters","_law_left"]:List Str)) (js:=[2,0]) (xj.ok (N0:=(["_law_left","_law_many","_law_letters","_law_head","_law_tail","_law_first","_law_by","_law_stem","_law_found","_law_size","_law_k","_law_value","_law_two"]:List Str)) (FJ:=aC bI) (by decide +kernel) rfl rfl) (⟨_,⟨_,rfl⟩,rfl⟩) rfl (d8 rfl T.dh (ao (aY aU (hr.mono (by decide)) rfl (aa (aB (pv 0)) (aa (aq az) aG))))) (fun b=>⟨lB,(bU (bf hr.aN) bV (aj (pv 1)) (ao (aY aU (hr.mono (by decide)) rfl (aa (aB (pv 2)) (aa (aq az) aG)))) (fun _ _=>rfl))⟩))))) (aD (Iu (is:=[5,6]) (cA (aY aU (hr.mono (by decide)) rfl (aa (aB (pv 0)) (aa (aq az) aG))) (cA (bU (bf hr.aN) bV (ao (cV (aa (aq az) (aa (aq az) (aa (aq az) (aa (aq az) (aa (aq az) (aa (aq az) aG)))))))) (ao (aY aU (hr.mono (by decide)) rfl (aa (aB (pv 0)) (aa (aq az) aG)))) (fun _ _=>rfl)) lq)) (zg rfl (gK (cX (i:=5) aX.nd rfl (Or.inr rfl)) (gK (cX (i:=6) aX.nd rfl (Or.inr rfl)) uw)))) (aD (je (cj (jM hr.units) oW (ao (aY aU (hr.mono (by decide)) rfl (aa (aB (pv 0)) (aa (aq az) aG)))) (ao (aq az)) (cg _)) (aD (Iu (is:=[7,8]) (cA (Ad (ao (aq uL)) (ao (tV (T:=.one) (NT:=(["_law_k"]:List Str)) (NF:=(["_law_letters","_law_first"]:List Str)) (js:=[2,5]) (xj.ok (N0:=(["_law_left","_law_many","_law_letters","_law_head","_law_tail","_law_first","_law_by","_law_stem","_law_found","_law_size","_law_k","_law_value","_law_two"]:List Str)) (FJ:=aC bI) (by decide +kernel) rfl rfl) (⟨_,⟨_,rfl⟩,rfl⟩) rfl (d8 rfl T.dh (ao (aq az))) (fun b=>⟨lB,(bU (bf hr.aN) bV (aj (pv 1)) (ao (aM jF jK (ao (aM bC bW (aj (pv 2)) (ao (aM jE jL (ao (aq az)) (aj (pv 0)))))) (ao (aq az)))) (fun _ _=>rfl))⟩)))) (cA (cV aG) lq)) (zg rfl (gK (cX (i:=7) aX.nd rfl (Or.inr rfl)) (gK (cX (i:=8) aX.nd rfl (Or.inl rfl)) uw)))) (aD (m7 PassesOwn.never rfl (Ky rfl T.dh (bG (ao (aq az)) (bG (ao (aq az)) cz))) (cX (i:=9) aX.nd rfl (Or.inr rfl)) fW (aQ (Wq (pv 8) (ao (tV (T:=.one) (NT:=(["_law_k"]:List Str)) (NF:=(["_law_stem","_law_size"]:List Str)) (js:=[7,9]) (xj.ok (N0:=(["_law_left","_law_many","_law_letters","_law_head","_law_tail","_law_first","_law_by","_law_stem","_law_found","_law_size","_law_k","_law_value","_law_two"]:List Str)) (FJ:=aC bI) (by decide +kernel) rfl rfl) (⟨_,⟨_,rfl⟩,rfl⟩) rfl (d8 rfl T.dh (ao (aM rM su (ao (aq az)) (aj (pv 9))))) (fun b=>⟨lB,(tZ (aj (pv 1)) (lU (aj (pv 0))) (lU (ao (aM bC bW (aj (pv 0)) (aj (pv 2))))))⟩)))))) (aQ (cF (tZ (aj (pv 8)) Ja (lU (aj (pv 1)))))))) eV) (aD (je (PW.pt (lg (cj (kJ hr.zu) Ig (aj (pv 1)) (ao (aq az)) (cg _)) (qL (cj (jM hr.units) oW (ao (aY aU (hr.mono (by decide)) rfl (aa (aB (pv 0)) (aa (aq az) aG)))) (ao (aq az)) (cg _))))) (aQ (cF (tV (T:=.one) (NT:=(["_law_k"]:List Str)) (NF:=(["_law_letters","_law_first","_law_by"]:List Str)) (js:=[2,5,6]) (xj.ok (N0:=(["_law_left","_law_many","_law_letters","_law_head","_law_tail","_law_first","_law_by","_law_stem","_law_found","_law_size","_law_k","_law_value","_law_two"]:List Str)) (FJ:=aC bI) (by decide +kernel) rfl rfl) (⟨_,⟨_,rfl⟩,rfl⟩) rfl (d8 rfl T.dh (aj (pv 1))) (fun b=>⟨lB,(bU (bf hr.aN) bV (aj (pv 1)) (ao (aM jF jK (ao (aM bC bW (aj (pv 2)) (ao (aM jE jL (aj (pv 3)) (aj (pv 0)))))) (ao (aq az)))) (fun _ _=>rfl))⟩)))) eV) (aD (bR (i:=8) aX.nd rfl (Or.inl rfl) (cV aG)) (aD (m7 PassesOwn.never rfl (d8 rfl T.dh (aj (pv 1))) (cX (i:=10) aX.nd rfl (Or.inl rfl)) fW (aD (bR (i:=11) aX.nd rfl (Or.inl rfl) (aM jF jK (ao (aM bC bW (aj (pv 5)) (ao (aM jE jL (aj (pv 6)) (aj (pv 10)))))) (ao (aq az)))) (aD (bR (i:=12) aX.nd rfl (Or.inl rfl) (aM bC bW (ao (bU (bf hr.aN) bV (aj (pv 2)) (ao (aM zm zV (aj (pv 11)) (ao (aq az)))) (fun _ _=>rfl))) (ao (bU (bf hr.aN) bV (aj (pv 2)) (ao (aM jF jK (aj (pv 11)) (ao (aq az)))) (fun _ _=>rfl))))) (aQ (sI (pv 8) (aM bC bW (ao (aM bC bW (aj (pv 3)) (aj (pv 12)))) (ao (tZ (aj (pv 4)) Ja (lU (ao (aM jF jK (ao (aM bC bW (ao (aM jE jL (aj (pv 10)) (aj (pv 10)))) (aj (pv 5)))) (ao (aq az))))))))))))) (aQ (iQ (pv 8)))))))))))
theorem Ay {P:Program} {w:World} {K:PySem.W.Frag} {mg:Str→Option Value} {base:Heap} {f:Addr} {fd:FuncData} (F:tM K "_law_shuffled" "_law_shuffled" fJ f fd) (T:Txt K mg) (aU:jq P w K mg base "_law_pick" 2 (["_law_left","_law_many"]:List Str) (spT K aL)):dB P w K mg base qu 3 f fd (["_law_left","_law_things"]:List Str) (spT K gY):=
 fY (body:=nR) F rA fun cdv A outer s H E hr=>(aD (sH (i:=2) (j:=3) rfl rA.nd rfl rfl (by decide) rfl rfl (cA (mZ (Gw rfl) Oz rfl T.nH (by decide +kernel) (bG (aj (pv 1)) cz)) (cA (cV aG) lq)) rfl) (aD (m6 PassesOwn.never (cj (zW hr.units) Ie (aj (pv 2)) (ao (cV aG)) (cg _)) (aQ (SJ (pv 3) (pv 2) (ao (aY aU (hr.mono (by decide)) rfl (aa (aB (pv 0)) (aa (dF j4 vO rfl T.nG (by decide +kernel) (bG (aj (pv 2)) cz)) aG))))))) (aQ (iQ (pv 3)))))
theorem wN {P:Program} {w:World} {K:PySem.W.Frag} {mg:Str→Option Value} {base:Heap} {f:Addr} {fd:FuncData} (F:tM K "_law_some_parts" "_law_some_parts" dm f fd) (T:Txt K mg) (aU:jq P w K mg base "_law_pick" 2 (["_law_left","_law_many"]:List Str) (spT K aL)):dB P w K mg base qu 3 f fd (["_law_left","_law_names"]:List Str) (spT K eG):=
 fY (body:=jP) F gf fun cdv A outer s H E hr=>(aD (bR (i:=2) gf.nd rfl (Or.inl rfl) NP) (aD (m7 PassesOwn.never rfl (Ss rfl T.gR (aB (pv 1))) (zg rfl (gK (cX (i:=3) gf.nd rfl (Or.inl rfl)) (gK (cX (i:=4) gf.nd rfl (Or.inl rfl)) uw))) (N6 (qO fW (qO fW Ip))) (aQ (z9 hr.aN (pv 2) (aj (pv 4)) (bU (bf hr.aN) bV (ao (aM bC bW (ao (cV (aa (aq uL) aG))) (ao (tZ (aj (pv 1)) Ja (lU (aj (pv 3))))))) (ao (NK (cj Tr T7 (ao (aY aU (hr.mono (by decide)) rfl (aa (aB (pv 0)) (aa (aq az) aG)))) (ao (aq az)) (cg _)) (aY aU (hr.mono (by decide)) rfl (aa (aB (pv 0)) (aa (aM bC bW (aj (pv 3)) (ao (aq az))) aG))) (aq az))) (fun _ _=>rfl))))) (aQ (iQ (pv 2)))))
theorem wO {P:Program} {w:World} {K:PySem.W.Frag} {mg:Str→Option Value} {base:Heap} {f:Addr} {fd:FuncData} (F:tM K "_law_parts_over" "_law_parts_over" dw f fd) (T:Txt K mg):dB P w K mg base qu 1 f fd (["_law_parts","_law_part"]:List Str) (spT K eN):=
 fY (body:=jQ) F jl fun cdv A outer s H E hr=>(aD (bR (i:=2) jl.nd rfl (Or.inl rfl) (cV aG)) (aD (m6 PassesOwn.never (cj (sy hr.aN) yx (aj (pv 1)) (aj (pv 0)) (by with_unfolding_all rfl)) (aD (sI (pv 2) (aB (pv 1))) (aQ (bR (i:=1) jl.nd rfl (Or.inl rfl) (bU (bf hr.aN) bV (aj (pv 0)) (aj (pv 1)) (fun _ _=>rfl)))))) (aQ (iQ (pv 2)))))
theorem G7 {P:Program} {w:World} {K:PySem.W.Frag} {mg:Str→Option Value} {base:Heap} {f:Addr} {fd:FuncData} (F:tM K "_law_rising" "_law_rising" jb f fd) (T:Txt K mg) (aU:jq P w K mg base "_law_pick" 2 (["_law_left","_law_many"]:List Str) (spT K aL)):dB P w K mg base qu 3 f fd (["_law_left","_law_many"]:List Str) (spT K j8):=
 fY (body:=tD) F lD fun cdv A outer s H E hr=>(aD (sH (i:=2) (j:=3) rfl lD.nd rfl rfl (by decide) rfl rfl (cA (cV aG) (cA (aY aU (hr.mono (by decide)) rfl (aa (aB (pv 0)) (aa (aq az) aG))) lq)) rfl) (aD (m7 PassesOwn.never rfl (d8 rfl T.dh (aj (pv 1))) (cX (i:=4) lD.nd rfl (Or.inl rfl)) fW (aD (sI (pv 2) (aB (pv 3))) (aQ (bR (i:=3) lD.nd rfl (Or.inl rfl) (aM bC bW (ao (aM bC bW (aj (pv 3)) (ao (aq az)))) (ao (aM jE jL (ao (aY aU (hr.mono (by decide)) rfl (aa (aB (pv 0)) (aa (aq az) aG)))) (ao (aY aU (hr.mono (by decide)) rfl (aa (aB (pv 0)) (aa (aq az) aG))))))))))) (aQ (iQ (pv 2)))))
theorem Az {P:Program} {w:World} {K:PySem.W.Frag} {mg:Str→Option Value} {base:Heap} {f:Addr} {fd:FuncData} (F:tM K "_law_house_of" "_law_house_of" fK f fd) (T:Txt K mg):dB P w K mg base qu 1 f fd (["_law_parts","_law_leaves"]:List Str) (spT K gZ):=
 fY (body:=nU) F Ar fun cdv A outer s H E hr=>(aQ (cF (pP (aa (mZ jG vP rfl T.gJ (by decide +kernel) (bG (ao (KN rfl (aj (pv 0)) rfl T.jm)) cz)) (aa (pP aG) (aa (mZ jG vP rfl T.gJ (by decide +kernel) (bG (aj (pv 1)) cz)) (aa (pP aG) aG)))))))
theorem xQ {P:Program} {w:World} {K:PySem.W.Frag} {mg:Str→Option Value} {base:Heap} {f:Addr} {fd:FuncData} (F:tM K "_law_row_right" "_law_row_right" dJ f fd) (T:Txt K mg) (j9:jq P w K mg base "row_of" 3 (["house","paper","holder","signer","day"]:List Str) (spT K gW)) (aU:jq P w K mg base "_law_pick" 2 (["_law_left","_law_many"]:List Str) (spT K aL)) (oG:jq P w K mg base "_law_same" 3 (["_law_found","_law_due"]:List Str) (spT K (dz 3))) (jR:jq P w K mg base "_law_some_names" 3 (["_law_left","_law_many"]:List Str) (spT K eF)) (nY:jq P w K mg base "_law_shuffled" 3 (["_law_left","_law_things"]:List Str) (spT K gY)) (jT:jq P w K mg base "_law_some_parts" 3 (["_law_left","_law_names"]:List Str) (spT K eG)) (jU:jq P w K mg base "_law_parts_over" 1 (["_law_parts","_law_part"]:List Str) (spT K eN)) (tH:jq P w K mg base "_law_rising" 3 (["_law_left","_law_many"]:List Str) (spT K j8)) (nZ:jq P w K mg base "_law_house_of" 1 (["_law_parts","_law_leaves"]:List Str) (spT K gZ)):dB P w K mg base qu 4 f fd (["_law_left"]:List Str) (spT K dR):=
 fY (body:=iR) F aR fun cdv A outer s H E hr=>(aD (sH (i:=1) (j:=2) rfl aR.nd rfl rfl (by decide) rfl rfl (cA (aY jR (hr.mono (by decide)) rfl (aa (aB (pv 0)) (aa (aq az) aG))) (cA (aM bC bW (ao (aq az)) (ao (aY aU (hr.mono (by decide)) rfl (aa (aB (pv 0)) (aa (aq az) aG))))) lq)) rfl) (aD (bR (i:=3) aR.nd rfl (Or.inl rfl) (aY jT (hr.mono (by decide)) rfl (aa (aB (pv 0)) (aa (tZ (aj (pv 1)) Ja (lU (ao (aM bC bW (ao (aq az)) (ao (aY aU (hr.mono (by decide)) rfl (aa (aB (pv 0)) (aa (aq az) aG)))))))) aG)))) (aD (sH (i:=4) (j:=5) rfl aR.nd rfl rfl (by decide) rfl rfl (cA (tZ (aj (pv 1)) (lU (ao (aq az))) (lU (ao (aM bC bW (ao (aq az)) (aj (pv 2)))))) (cA (bU (bf hr.aN) bV (aj (pv 1)) (ao (aY aU (hr.mono (by decide)) rfl (aa (aB (pv 0)) (aa (dF j4 vO rfl T.nG (by decide +kernel) (bG (aj (pv 3)) cz)) aG)))) (fun _ _=>rfl)) lq)) rfl) (aD (sH (i:=6) (j:=7) rfl aR.nd rfl rfl (by decide) rfl rfl (cA (pP (aa (aB (pv 5)) (aa (aq az) (aa (bU (bf hr.aN) bV (aj (pv 1)) (ao (aq az)) (fun _ _=>rfl)) (aa (bU (bf hr.aN) bV (aj (pv 1)) (ao (aq az)) (fun _ _=>rfl)) aG))))) (cA (aM bC bW (ao (aq az)) (ao (aY aU (hr.mono (by decide)) rfl (aa (aB (pv 0)) (aa (aq az) aG))))) lq)) rfl) (aD (SQ (i:=8) (j:=9) (k:=10) rfl aR.nd rfl rfl rfl (by decide) (by decide) (by decide) rfl rfl rfl (cA (aY nY (hr.mono (by decide)) rfl (aa (aB (pv 0)) (aa (aY tH (hr.mono (by decide)) rfl (aa (aB (pv 0)) (aa (aM rM su (aj (pv 2)) (ao (aq az))) aG))) aG))) (cA (cV aG) (cA (aB (pv 2)) lq))) rfl) (aD (je (cj (jM hr.units) oW (ao (aY aU (hr.mono (by decide)) rfl (aa (aB (pv 0)) (aa (aq az) aG)))) (ao (aq az)) (cg _)) (aQ (bR (i:=10) aR.nd rfl (Or.inl rfl) (aY aU (hr.mono (by decide)) rfl (aa (aB (pv 0)) (aa (aM rM su (aj (pv 2)) (ao (aq az))) aG))))) eV) (aD (m7 PassesOwn.never rfl (d8 rfl T.dh (ao (aM rM su (aj (pv 2)) (ao (aq az))))) (cX (i:=11) aR.nd rfl (Or.inl rfl)) fW (aD (bR (i:=12) aR.nd rfl (Or.inl rfl) (aY jU (hr.mono (by decide)) rfl (aa (aB (pv 3)) (aa (bU (bf hr.aN) bV (aj (pv 6)) (ao (aq az)) (fun _ _=>rfl)) aG)))) (aD (bR (i:=13) aR.nd rfl (Or.inl rfl) (cV (aa (bU (bf hr.aN) bV (aj (pv 12)) (ao (aY aU (hr.mono (by decide)) rfl (aa (aB (pv 0)) (aa (dF j4 vO rfl T.nG (by decide +kernel) (bG (aj (pv 12)) cz)) aG)))) (fun _ _=>rfl)) (aa (aM rM su (aj (pv 7)) (ao (aY aU (hr.mono (by decide)) rfl (aa (aB (pv 0)) (aa (aq az) aG))))) (aa (aM bC bW (aj (pv 7)) (ao (aY aU (hr.mono (by decide)) rfl (aa (aB (pv 0)) (aa (aq az) aG))))) (aa (aq az) aG)))))) (aD (je (cj (jM hr.units) oW (aj (pv 11)) (aj (pv 10)) (cg _)) (aD (bR (i:=14) aR.nd rfl (Or.inl rfl) (aY aU (hr.mono (by decide)) rfl (aa (aB (pv 0)) (aa (aq az) aG)))) (aQ (bR (i:=13) aR.nd rfl (Or.inl rfl) (bU (bf hr.aN) bV (ao (cV (aa (cV (aa (bU (bf hr.aN) bV (aj (pv 13)) (ao (aq az)) (fun _ _=>rfl)) (aa (aM bC bW (aj (pv 7)) (ao (aq az))) (aa (aM bC bW (aj (pv 7)) (ao (aq az))) (aa (aq az) aG))))) (aa (cV (aa (bU (bf hr.aN) bV (aj (pv 13)) (ao (aq az)) (fun _ _=>rfl)) (aa (aq az) (aa (aM rM su (aj (pv 7)) (ao (aq az))) (aa (aq az) aG))))) (aa (cV (aa (bU (bf hr.aN) bV (aj (pv 13)) (ao (aq az)) (fun _ _=>rfl)) (aa (aq az) (aa (aq az) (aa (aq az) aG))))) aG))))) (aj (pv 14)) (fun _ _=>rfl))))) eV) (aQ (sI (pv 9) (aM bC bW (ao (pP (aa (bU (bf hr.aN) bV (aj (pv 8)) (aj (pv 11)) (fun _ _=>rfl)) (aa (bU (bf hr.aN) bV (aj (pv 4)) (aj (pv 11)) (fun _ _=>rfl)) (aa (bU (bf hr.aN) bV (aj (pv 4)) (ao (aM bC bW (aj (pv 11)) (ao (aq az)))) (fun _ _=>rfl)) aG))))) (ao (mZ jG vP rfl T.gJ (by decide +kernel) (bG (aj (pv 13)) cz)))))))))) (aD (bR (i:=15) aR.nd rfl (Or.inl rfl) (aY nZ (hr.mono (by decide)) rfl (aa (aB (pv 3)) (aa (dF (Gx rfl) O3 rfl T.jm (by decide +kernel) (bG (aj (pv 9)) cz)) aG)))) (aD (m7 PassesOwn.never rfl (d8 rfl T.dh (ao (aq az))) (cX (i:=16) aR.nd rfl (Or.inl rfl)) fW (aD (sH (i:=14) (j:=17) rfl aR.nd rfl rfl (by decide) rfl rfl (cA (aY aU (hr.mono (by decide)) rfl (aa (aB (pv 0)) (aa (aB (pv 2)) aG))) (cA (aY aU (hr.mono (by decide)) rfl (aa (aB (pv 0)) (aa (aB (pv 2)) aG))) lq)) rfl) (aD (bR (i:=18) aR.nd rfl (Or.inl rfl) (NK (PW.pt (lg (cj vB Cu (aj (pv 14)) (aj (pv 17)) (cg _)) (qL (pO (NB vB Cu (kJ hr.zu) Ig (aj (pv 14)) (aj (pv 10)) (aj (pv 17))))))) (tZ (aj (pv 8)) (lU (aj (pv 14))) (lU (aj (pv 17)))) (aq rK))) (aQ (je (pO (ir (ao (aY oG (hr.mono (by decide)) rfl (aa (aY j9 (hr.mono (by decide)) rfl (aa (aB (pv 15)) (aa (aB (pv 6)) (aa (bU (bf hr.aN) bV (aj (pv 4)) (aj (pv 14)) (fun _ _=>rfl)) (aa (bU (bf hr.aN) bV (aj (pv 4)) (aj (pv 17)) (fun _ _=>rfl)) (aa (aB (pv 7)) aG)))))) (aa (aB (pv 18)) aG)))))) (aQ (cF (aq xZ))) eV))))) (aD (je (pO (ir (ao (aY oG (hr.mono (by decide)) rfl (aa (aY j9 (hr.mono (by decide)) rfl (aa (aB (pv 15)) (aa (aB (pv 6)) (aa (bU (bf hr.aN) bV (aj (pv 1)) (ao (aq az)) (fun _ _=>rfl)) (aa (bU (bf hr.aN) bV (aj (pv 1)) (ao (aq az)) (fun _ _=>rfl)) (aa (aB (pv 7)) aG)))))) (aa (cV aG) aG)))))) (aQ (cF (aq xZ))) eV) (aD (je (cj QH Rw (ao (aY j9 (hr.mono (by decide)) rfl (aa (aB (pv 15)) (aa (aB (pv 6)) (aa (bU (bf hr.aN) bV (aj (pv 1)) (ao (aq az)) (fun _ _=>rfl)) (aa (bU (bf hr.aN) bV (aj (pv 4)) (ao (aq az)) (fun _ _=>rfl)) (aa (aB (pv 7)) aG))))))) (ao (aq rK)) (cg _)) (aQ (cF (aq xZ))) eV) (aQ (cF (mW LK Nr (ao (aY j9 (hr.mono (by decide)) rfl (aa (aB (pv 15)) (aa (aB (pv 6)) (aa (bU (bf hr.aN) bV (aj (pv 4)) (ao (aq az)) (fun _ _=>rfl)) (aa (bU (bf hr.aN) bV (aj (pv 1)) (ao (aq az)) (fun _ _=>rfl)) (aa (aB (pv 7)) aG))))))) (ao (aq rK)) (cg _)))))))))))))))
theorem Wv {P:Program} {w:World} {K:PySem.W.Frag} {mg:Str→Option Value} {base:Heap} {f:Addr} {fd:FuncData} (F:tM K "law" "law" rB f fd) (T:Txt K mg) (jV:jq P w K mg base "_law_drawn_from" 1 (["_law_script","_law_k"]:List Str) (spT K d9)) (iT:jq P w K mg base "_law_row_right" 4 (["_law_left"]:List Str) (spT K dR)):dB P w K mg base qu 5 f fd (["_law_script"]:List Str) (spT K yU):=
 fY (body:=PK) F G3 fun cdv A outer s H E hr=>(aD (m7 PassesOwn.never rfl (d8 rfl T.dh (ao (aM bC bW (ao (aq az)) (ao (dF (JL rfl) RP rfl T.yS (by decide +kernel) (bG (ao (aq az)) (bG (ao (IK (pv 0) rfl T.nG (by decide +kernel))) cz))))))) (cX (i:=1) G3.nd rfl (Or.inl rfl)) fW (aD (V4 (i:=2) G3.nd rfl (Or.inl rfl) (aY jV (hr.mono (by decide)) rfl (aa (aB (pv 0)) (aa (aB (pv 1)) aG)))) (aQ (je (PW.pt (Ik (pO (ir (ao (aY iT (hr.mono (by decide)) rfl (aa (aB (pv 2)) aG))))) (zY (pO (ir (ao (aY iT (hr.mono (by decide)) rfl (aa (aB (pv 2)) aG)))))))) (aQ (cF (aq xZ))) eV)))) (aQ (cF (aq xZ))))
local macro_rules | `(tactic| simp_arith [$ts,*])=>`(tactic| simp only [e_bin,e_dat,e_bv,e_and,e_or,e_not,e_if,e_ifv,fVar,fTst,fTru,truD,fCst,dat,still,fCal,fFun,aCons,aNil,bCons,bNil,oCons,fSet,fSeq,fRet,fRetV,fNext,fNeg,fLst,fTup,allIm,iB,iV,iB2,iV2,itD,itD2,fLC,frB,fPar,setM,fUnp,gTp,gsCons,gsNil,gNm,LIM,add_int,sub_int,le_int,lt_int,ge_int,gt_int,eq_int,eq_strs,ne_strs,in_strs,ix_t,ix_l,a_t0,a_t1,a_t2,a_t3,a_t4,a_t5,a_t6,rst_same,r_ow,r_bool,r_int,r_str,r_tl,Option.bind_some,Option.map_some,List.getElem?_cons_zero,List.getElem?_cons_succ,List.set_cons_zero,List.set_cons_succ,List.map_cons,List.map_nil,List.length_cons,List.length_nil,Bool.not_true,Bool.not_false,if_true,if_false,ite_self,Bool.false_eq_true,Option.join,id_eq,Nat.reduceAdd,Nat.reduceLeDiff,Nat.reduceLT,and_true,true_and,and_self,String.reduceBEq,Bool.or_false,Bool.or_true,Bool.false_or,Bool.true_or,Bool.and_true,Bool.and_false,Bool.true_and,Bool.false_and,decide_true,decide_false,reduceCtorEq,eq_bool,ne_bool,ne_int,len_l,len_t,beq_self_eq_true,List.length_map,h_ix0,h_ix1,h_ix2,h_ix3,k_ix0,k_ix1,k_ix2,k_ix3,k_ix4,k_ix5,noLs_strs,noLs_ints,$ts,*])
theorem PX {C:Ce} {c k:Int} (k0:0≤k) (k1:k≤1000000):∃r:Int,tB [.im (.int c),.im (.int k)] C=some (.im (.int r),C)∧0≤r:=by
 obtain ⟨m,hm⟩:∃m,(c % 2147483629 + k * k * 7919 + 11) * 48271 % 2147483647=m:=⟨_,rfl⟩
 have m0:0≤m:=by rw [←hm]; exact Int.emod_nonneg _ (by decide)
 have m1:m < 2147483647:=by rw [←hm]; exact Int.emod_lt_of_pos _ (by decide)
 refine ⟨m * m % 1999999973,cI [some (.im (.int c)),some (.im (.int k)),none] rfl rfl ?_ rfl rfl,Int.emod_nonneg _ (by decide)⟩
 simp_arith [G4,mod_eq (i:=c) (j:=2147483629) (by decide),mul_eq (i:=k) (j:=k) (.inl (by omega)),mul_eq (i:=k * k) (j:=7919) (.inr (by decide)),mul_eq (i:=c % 2147483629 + k * k * 7919 + 11) (j:=48271) (.inr (by decide)),mod_eq (i:=(c % 2147483629 + k * k * 7919 + 11) * 48271) (j:=2147483647) (by decide),hm,mul_eq (i:=m) (j:=m) (.inl (by omega)),mod_eq (i:=m * m) (j:=1999999973) (by decide)]
theorem bQ {C:Ce} {b L k:Nat} {m:Int} (h:Bl L C b (k + 1)) (h0:0 < m) (h1:m < 1073741824):
  ∃t C',aL [.ce b,.im (.int m)] C=some (.im (.int t),C')∧0≤t∧t < m∧Bl L C' b k:=by
 obtain ⟨hL,x,y,z,hc,hx,hz,hz2⟩:=h
 have i0:Fg 3 0=some 0:=rfl
 have i2:Fg 3 2=some 2:=rfl
 have c2:(C.set b [x,y,z + 1])[b]?=some [x,y,z + 1]:=O5 hc
 by_cases hp:0 < x
 ·refine ⟨x % m,(C.set b [x,y,z + 1]).set b [x / m,y,z + 1],cI [some (.ce b),some (.im (.int m)),none] rfl rfl ?_ rfl (by simp),Int.emod_nonneg _ (by omega),Int.emod_lt_of_pos _ h0,⟨by simpa using hL,x / m,y,z + 1,O5 c2,Int.ediv_nonneg hx (by omega),by omega,by omega⟩⟩
  simp_arith [uI,vX,hc,c2,hp,mod_eq h0,fdiv_eq h0 h1,vL,tU,i0,i2]
 ·obtain ⟨r1,e1,p1⟩:=PX (C:=C.set b [x,y,z + 1]) (c:=y) (k:=z + 1) (by omega) (by omega)
  obtain ⟨r2,e2,p2⟩:=PX (C:=C.set b [x,y,z + 1]) (c:=r1) (k:=z + 1 + 64) (by omega) (by omega)
  refine ⟨r2 / 64 % m,C.set b [x,y,z + 1],cI [some (.ce b),some (.im (.int m)),none] rfl rfl ?_ rfl (by simp),Int.emod_nonneg _ (by omega),Int.emod_lt_of_pos _ h0,⟨by simpa using hL,x,y,z + 1,c2,hx,by omega,by omega⟩⟩
  simp_arith [uI,vX,hc,c2,hp,vL,tU,i0,i2,e1,e2,fdiv_eq (j:=64) (by omega) (by omega),mod_eq h0]
theorem P0 {C:Ce} {ns:List Int} {k:Int} (k0:0≤k) (k9:k≤100):∃x y:Int,d9 [.sc ns,.im (.int k)] C=some (.ow (.list [.int x,.int y,.int 0]),C)∧0≤x:=by
 obtain ⟨c,hc⟩:∃c:Int,CG (fTst (aF vA (aA 1) (au (tW 0)))) (Oi 0 (aA 1)) (fCst (.int 0)) [some (.sc ns),some (.im (.int k)),none] C=some (.im (.int c),[some (.sc ns),some (.im (.int k)),none],C):=by
  by_cases h:k < ns.length
  ·obtain ⟨c,hc,_⟩:=O6 (xs:=ns) k0 h
   exact ⟨c,by simp_arith [tW,Oi,h,hc]⟩
  ·exact ⟨0,by simp_arith [tW,h]⟩
 have a0:0≤(if c < 0 then -c else c):=by split <;> omega
 obtain ⟨a,hA⟩:∃a,(if c < 0 then -c else c)=a:=⟨_,rfl⟩
 rw [hA] at a0
 have pw:Ib (.int 10) (.int 18)=some (.im (.int 1000000000000000000)):=rfl
 obtain ⟨j,x,hj,hx,x0⟩:∃(j x:Int),(if decide (1000000000000000000≤a)=true then (1:Int) else 0)=j∧ju [PyData.int 0,.int a] j=some (.int x)∧0≤x:=by
  by_cases h:1000000000000000000≤a
  ·exact ⟨1,a,by rw [if_pos (decide_eq_true h)],rfl,a0⟩
  ·exact ⟨0,0,by rw [if_neg (by simpa using h)],rfl,Int.le_refl _⟩
 refine ⟨x,c + 1000003 * k,cI [some (.sc ns),some (.im (.int k)),none] rfl rfl ?_ rfl rfl,x0⟩
 simp_arith [jO,↓hc,CZ,hA,pw,IV,hj,hx,mul_eq (i:=1000003) (j:=k) (.inl (by decide))]
theorem S7 {fe:FE} (he:fe=aF bD (aA 1) (au (fCal aL (aCons (fVar 2) (aCons (fCst (.int 26)) aNil))))) {C:Ce} {b L j:Nat} {size:Int} (h:Bl L C b (j + 3)) (h0:0≤size) (h1:size≤3):
  ∃(cs:List Nat) (C':Ce),fX .one gO fe [some (.im (.str abc)),some (.ce b)] (gk 0 size.toNat) C=some ((cs.map fun c=>.str ⟨#[c]⟩),C')∧cs.length=size.toNat∧(∀c∈cs,97≤c∧c≤122)∧Bl L C' b j:=by
 subst he
 refine hide fun GG gg=>?_
 obtain ⟨ys,C',e,hB,hl,hr⟩:=yH (T:=.one) (fe:=aF bD (aA 1) (au (fCal aL (aCons (fVar 2) (aCons (fCst (.int 26)) aNil))))) (fs:=[some (.im (.str abc)),some (.ce b)]) (fun i C1=>Bl L C1 b (j + (3 - i))) (fun _ y=>∃c:Nat,y=.str ⟨#[c]⟩∧97≤c∧c≤122) (its:=gk 0 size.toNat) (C:=C) (k:=0) h (fun i d C1 hd hB=>by
  obtain ⟨rfl,hi⟩:=lC hd
  rw [Nat.zero_add] at hB ⊢
  rw [Wo j (by omega:i < 3)] at hB
  obtain ⟨k1,C2,e1,a1,b1,yW⟩:=bQ (m:=26) hB (by decide) (by decide)
  refine ⟨_,.im (.str ⟨#[97 + k1.toNat]⟩),[some (.im (.int (0 + i))),some (.im (.str abc)),some (.ce b)],C2,.str ⟨#[97 + k1.toNat]⟩,rfl,?_,rfl,⟨_,rfl,by omega,by omega⟩,yW⟩
  simp_arith [jW,List.cons_append,List.nil_append,e1,bD,letters k1 a1 b1])
 rw [qU] at hB hl
 obtain ⟨cs,rfl,hcs⟩:∃cs:List Nat,ys=cs.map (fun c=>.str ⟨#[c]⟩)∧∀c∈cs,97≤c∧c≤122:=by
  clear e hl hB gg
  induction ys with
  | nil=>exact ⟨[],rfl,fun _ m=>(nomatch m)⟩
  | cons y ys ih=>
   obtain ⟨c,rfl,c1,c2⟩:=hr 0 y rfl
   obtain ⟨cs,rfl,h2⟩:=ih fun i z hz=>hr (i + 1) z (by simpa using hz)
   exact ⟨c::cs,rfl,fun x hx=>by
    rcases List.mem_cons.mp hx with rfl | hx
    ·exact ⟨c1,c2⟩
    ·exact h2 x hx⟩
 exact gg ⟨cs,C',e,by simpa using hl,hcs,hB.mono (Nat.le_add_right _ _)⟩
theorem Jp {cs:List Nat} (h:cs.length≤100):∃z:Str,Ac (.str (Str.ofString "")) (.list (cs.map fun c=>.str ⟨#[c]⟩))=some (.im (.str z))∧z.cps.toList=cs∧z.length=cs.length:=by
 refine ⟨Txt.join (Str.ofString "") (cs.map fun c=>⟨#[c]⟩),?_,vZ cs,?_⟩
 ·simp only [Ac,qZ]
  refine if_pos ?_
  rw [List.map_map,Jd,Kz,Nat.mul_zero]
  unfold LIM
  omega
 ·have:=congrArg List.length (vZ cs)
  rw [←this]
  show _=(Txt.join (Str.ofString "") (cs.map fun c=>⟨#[c]⟩)).cps.toList.length
  simp
  rfl
theorem Ba (n:Nat):gk 0 n=(List.range n).map fun (i:Nat)=>PyData.int (i:Int):=by
 unfold gk
 refine List.map_congr_left fun i _=>?_
 rw [Int.zero_add]
theorem KZ {C:Ce} (f:Int):fX .one gO dO [some (.im (.str abc)),some (.im (.int f))] (gk 0 8) C=some ((gQ f).map (fun c=>.str ⟨#[c]⟩),C):=by
 rw [Ba]
 have:=eY (T:=.one) (ft:=gO) (fe:=dO) (fs:=[some (.im (.str abc)),some (.im (.int f))]) (C:=C) (fun (i:Nat)=>PyData.int (i:Int)) (fun _=>true) (fun (k:Nat)=>.str ⟨#[97 + ((f + 5 * (k:Int)) % 26).toNat]⟩) (l:=List.range 8) fun k _=>by
  have a1:0≤(f + 5 * (k:Int)) % 26:=Int.emod_nonneg _ (by decide)
  have a2:(f + 5 * (k:Int)) % 26 < 26:=Int.emod_lt_of_pos _ (by decide)
  refine ⟨[.int (k:Int)],rfl,rfl,fun _=>⟨.im (.str ⟨#[97 + ((f + 5 * (k:Int)) % 26).toNat]⟩),[some (.im (.int (k:Int))),some (.im (.str abc)),some (.im (.int f))],?_,rfl⟩⟩
  simp_arith [jW,List.cons_append,List.nil_append,mul_eq (i:=5) (j:=(k:Int)) (.inl (by decide)),mod_eq (i:=f + 5 * (k:Int)) (j:=26) (by decide),bD,letters _ a1 a2]
 rw [List.filter_eq_self.mpr fun _ _=>rfl] at this
 unfold gQ
 rw [List.map_map]
 exact this
theorem Qa {C:Ce} {f s:Int} (s0:0 < s) (s1:s≤675) (n:Nat):fX .one gO dN [some (.im (.str abc)),some (.im (.int f)),some (.im (.int s))] (gk 0 n) C=some (((List.range n).map (n1 f s)).map .str,C):=by
 rw [Ba]
 have:=eY (T:=.one) (ft:=gO) (fe:=dN) (fs:=[some (.im (.str abc)),some (.im (.int f)),some (.im (.int s))]) (C:=C) (fun (i:Nat)=>PyData.int (i:Int)) (fun _=>true) (fun (k:Nat)=>.str (n1 f s k)) (l:=List.range n) fun k _=>by
  have a1:0≤(f + s * (k:Int)) % 26:=Int.emod_nonneg _ (by decide)
  have a2:(f + s * (k:Int)) % 26 < 26:=Int.emod_lt_of_pos _ (by decide)
  refine ⟨[.int (k:Int)],rfl,rfl,fun _=>⟨.im (.str (n1 f s k)),[some (.im (.int (k:Int))),some (.im (.str abc)),some (.im (.int f)),some (.im (.int s))],?_,rfl⟩⟩
  simp_arith [jW,List.cons_append,List.nil_append,mul_eq (i:=s) (j:=(k:Int)) (.inl (by omega)),mod_eq (i:=f + s * (k:Int)) (j:=26) (by decide),bD,letters _ a1 a2]
  rfl
 rw [List.filter_eq_self.mpr fun _ _=>rfl] at this
 rw [List.map_map]
 exact this
theorem Qc {C:Ce} {z:Str} (hz:z.length≤8) (n:Nat):fX .one gO gB [some (.im (.str z)),some (.im (.int (1 + (n:Int))))] (gk 0 (8 - n)) C=some ((sb z n).map .str,C):=by
 rw [Ba]
 have hl:(z.length≤1000000)=True:=eq_true (by omega)
 have:=eY (T:=.one) (ft:=gO) (fe:=gB) (fs:=[some (.im (.str z)),some (.im (.int (1 + (n:Int))))]) (C:=C) (fun (i:Nat)=>PyData.int (i:Int)) (fun _=>true) (fun (k:Nat)=>.str (sl z (n + 1) k)) (l:=List.range (8 - n)) fun k _=>by
  refine ⟨[.int (k:Int)],rfl,rfl,fun _=>⟨.im (.str (sl z (n + 1) k)),[some (.im (.int (k:Int))),some (.im (.str z)),some (.im (.int (1 + (n:Int))))],?_,rfl⟩⟩
  have e:(k:Int) + (1 + (n:Int))=(k:Int) + ((n + 1:Nat):Int):=by omega
  simp_arith [jW,List.cons_append,List.nil_append,wX,tY,Ov,hl,e]
  rfl
 rw [List.filter_eq_self.mpr fun _ _=>rfl] at this
 unfold sb
 rw [List.map_map]
 exact this
theorem Qd {x y:Str} (h:x.length + y.length≤1000000):bu (.str x) (.str y)=some (.im (.str (x++y))):=if_pos h
noncomputable abbrev mD (b:Nat) (m:Int) (hd tl:Str) (f s:Int) (v7 v8 v9 v10 v11 iY:Option Vl):En:=
 [some (.ce b),some (.im (.int m)),some (.im (.str abc)),some (.im (.str hd)),some (.im (.str tl)),some (.im (.int f)),some (.im (.int s)),v7,v8,v9,v10,v11,iY]
theorem YH {C:Ce} {b:Nat} {m f s k q:Int} {hd tl:Str} {v7 v8 v9 v11 iY:Option Vl} (k0:0≤k) (k1:k < 40) (hq:(k * k + f) % 4=q):aF fB (au (aF bu (au (aF fV (aA 10) (aA 10))) (aA 5))) (au (fCst (.int 4))) (mD b m hd tl f s v7 v8 v9 (some (.im (.int k))) v11 iY) C=some (.im (.int q),mD b m hd tl f s v7 v8 v9 (some (.im (.int k))) v11 iY,C):=by
 have m1:fV (.int k) (.int k)=some (.im (.int (k * k))):=mul_eq (.inl (by omega))
 generalize k * k=kk at m1 hq
 have m2:fB (.int (kk + f)) (.int 4)=some (.im (.int ((kk + f) % 4))):=mod_eq (by omega)
 rw [hq] at m2
 simp_arith [mD,m1,m2]
theorem YJ {C:Ce} {b:Nat} {m f s k q:Int} {hd tl cut:Str} {v7 v8 v9 v11 iY:Option Vl} (k0:0≤k) (k1:k < 40) (hq:(k * k + f) % 4=q) (ht:tl.length≤3) (hc:Txt.slice tl none (some q)=cut):wX (aA 4) I9 (tY (au (aF fB (au (aF bu (au (aF fV (aA 10) (aA 10))) (aA 5))) (au (fCst (.int 4)))))) (mD b m hd tl f s v7 v8 v9 (some (.im (.int k))) v11 iY) C=some (.im (.str cut),mD b m hd tl f s v7 v8 v9 (some (.im (.int k))) v11 iY,C):=by
 have e:=YH (C:=C) (b:=b) (m:=m) (s:=s) (hd:=hd) (tl:=tl) (v7:=v7) (v8:=v8) (v9:=v9) (v11:=v11) (iY:=iY) k0 k1 hq
 have q1:(tl.length≤1000000)=True:=eq_true (by omega)
 simp only [mD] at e ⊢
 simp_arith [wX,I9,tY,↓e,Ov,q1,hc]
theorem Ww {C:Ce} {b:Nat} {m f s k q v:Int} {hd tl cut tw ht nm:Str} {acc:List PyData} {v7 v9:Option Vl} (k0:0≤k) (k1:k < 40) (hq:(k * k + f) % 4=q) (hl:tl.length≤3) (hc:Txt.slice tl none (some q)=cut) (t2:bu (.str hd) (.str tw)=some (.im (.str ht))) (t3:bu (.str ht) (.str cut)=some (.im (.str nm))) (la:(acc.length < 1000000)=True):
  mj 8 (aF bu (au (aF bu (aA 3) (aA 12))) (au (wX (aA 4) I9 (tY (au (aF fB (au (aF bu (au (aF fV (aA 10) (aA 10))) (aA 5))) (au (fCst (.int 4))))))))) (mD b m hd tl f s v7 (some (.ow (.list acc))) v9 (some (.im (.int k))) (some (.im (.int v))) (some (.im (.str tw)))) C=some (.nx,mD b m hd tl f s v7 (some (.ow (.list (acc++[.str nm])))) v9 (some (.im (.int k))) (some (.im (.int v))) (some (.im (.str tw))),C):=by
 have e:=YJ (C:=C) (b:=b) (m:=m) (s:=s) (hd:=hd) (tl:=tl) (v7:=v7) (v8:=some (.ow (.list acc))) (v9:=v9) (v11:=some (.im (.int v))) (iY:=some (.im (.str tw))) k0 k1 hq hl hc
 simp only [mD] at e ⊢
 simp_arith [mj,jz,t2,↓e,t3,la]
theorem Wx {C:Ce} {b:Nat} {m f s:Int} {hd tl z:Str} {i:Nat} {v10 v11 iY:Option Vl} (hz:z.length=8) (hi:i < 8):
  cC (mD b m hd tl f s (some (.im (.str z))) (some (.ow (.list ((subs z i).map .str)))) (some (.im (.int (1 + (i:Int))))) v10 v11 iY) C=some (.nx,mD b m hd tl f s (some (.im (.str z))) (some (.ow (.list ((subs z (i + 1)).map .str)))) (some (.im (.int (1 + (i:Int))))) v10 v11 iY,C):=by
 have e:=Qc (C:=C) (z:=z) (by omega) i
 have e1:(9 - (1 + (i:Int))).toNat=8 - i:=by omega
 have l1:(sb z i).length≤8:=by unfold sb; rw [List.length_map,List.length_range]; omega
 have l2:(subs z i).length≤64:=by
  unfold subs sb
  rw [List.length_flatMap]
  have:∀n,n≤8→((List.range n).map fun a=>((List.range (8 - a)).map (sl z (a + 1))).length).sum≤8 * n:=by
   intro n
   induction n with
   | zero=>intro _; exact Nat.le_refl _
   | succ n ih=>
    intro h
    rw [List.range_succ,List.map_append,List.sum_append]
    have:=ih (by omega)
    simp only [List.map_cons,List.map_nil,List.sum_cons,List.sum_nil,List.length_map,List.length_range] at this ⊢
    omega
  have:=this i (by omega)
  omega
 have q1:((sb z i).length≤1000000)=True:=eq_true (by omega)
 have q2:((subs z i).length + (sb z i).length≤1000000)=True:=eq_true (by omega)
 have es:subs z (i + 1)=subs z i++sb z i:=by
  unfold subs
  rw [List.range_succ,List.flatMap_append,List.flatMap_singleton]
 rw [es,List.map_append]
 simp_arith [cC,mD,R8,jz,sJ,wu (m:=9 - (1 + (i:Int))) (by omega) (by omega),e1,e,q1,q2]
theorem Wy {C:Ce} {b:Nat} {m f s:Int} {hd tl:Str} {i:Nat} {v7 v9 v11 iY:Option Vl} (f0:0≤f) (f1:f < 676) (s0:0 < s) (s1:s≤675) (hi:i < 40) (hh:hd.length≤3) (ht:tl.length≤3):
  ∃w11 w12,cB (mD b m hd tl f s v7 (some (.ow (.list (((List.range i).map (n2 hd tl f s fun k=>((k:Int) * k + f) % 4)).map .str)))) v9 (some (.im (.int (i:Int)))) v11 iY) C
   =some (.nx,mD b m hd tl f s v7 (some (.ow (.list (((List.range (i + 1)).map (n2 hd tl f s fun k=>((k:Int) * k + f) % 4)).map .str)))) v9 (some (.im (.int (i:Int)))) w11 w12,C):=by
 obtain ⟨v,hv⟩:∃v,v2 f s i=v:=⟨_,rfl⟩
 have hv':(f + s * (i:Int)) % 676=v:=hv
 have v0:0≤v:=by rw [←hv]; exact Int.emod_nonneg _ (by decide)
 have v1:v < 676:=by rw [←hv]; exact Int.emod_lt_of_pos _ (by decide)
 have a1:0≤v / 26:=Int.ediv_nonneg v0 (by decide)
 have a2:v / 26 < 26:=by omega
 have a3:0≤v % 26:=Int.emod_nonneg _ (by decide)
 have a4:v % 26 < 26:=Int.emod_lt_of_pos _ (by decide)
 have t1:bu (.str ⟨#[97 + (v / 26).toNat]⟩) (.str ⟨#[97 + (v % 26).toNat]⟩)=some (.im (.str (two v))):=Qd (by show 1 + 1≤1000000; omega)
 have lt:(two v).length=2:=by
  show ((#[97 + (v / 26).toNat]:Array Nat)++#[97 + (v % 26).toNat]).size=2
  rw [Array.size_append]
  rfl
 have t2:bu (.str hd) (.str (two v))=some (.im (.str (hd++two v))):=Qd (by rw [lt]; omega)
 have l3:=PyProof.Txt.length_slice_le tl none (some (((i:Int) * i + f) % 4))
 have l4:(hd++two v).length=hd.length + 2:=by
  show (hd.cps++(two v).cps).size=hd.cps.size + 2
  rw [Array.size_append,show (two v).cps.size=2 from lt]
 have t3:bu (.str (hd++two v)) (.str (Txt.slice tl none (some (((i:Int) * i + f) % 4))))=some (.im (.str (n2 hd tl f s (fun k=>((k:Int) * k + f) % 4) i))):=by
  unfold n2
  rw [hv]
  exact Qd (by rw [l4]; omega)
 have q1:(tl.length≤1000000)=True:=eq_true (by omega)
 have q2:(i < 1000000)=True:=eq_true (by omega)
 obtain ⟨acc,hacc⟩:∃acc,acc=((List.range i).map (n2 hd tl f s fun k=>((k:Int) * k + f) % 4)).map PyData.str:=⟨_,rfl⟩
 have la:(acc.length < 1000000)=True:=eq_true (by rw [hacc,List.length_map,List.length_map,List.length_range]; omega)
 have hn:((List.range (i + 1)).map (n2 hd tl f s fun k=>((k:Int) * k + f) % 4)).map PyData.str=acc++[.str (n2 hd tl f s (fun k=>((k:Int) * k + f) % 4) i)]:=by
  rw [List.range_succ,List.map_append,List.map_append,hacc]
  rfl
 rw [hn,←hacc]
 clear hn hacc
 generalize n2 hd tl f s (fun k=>((k:Int) * k + f) % 4) i=nm at t3 ⊢
 obtain ⟨cut,Wz⟩:∃c,Txt.slice tl none (some (((i:Int) * i + f) % 4))=c:=⟨_,rfl⟩
 rw [Wz] at t3
 have s1:fSet 11 (aF fB (au (aF bu (aA 5) (au (aF fV (aA 6) (aA 10))))) (au (fCst (.int 676)))) (mD b m hd tl f s v7 (some (.ow (.list acc))) v9 (some (.im (.int (i:Int)))) v11 iY) C=some (.nx,mD b m hd tl f s v7 (some (.ow (.list acc))) v9 (some (.im (.int (i:Int)))) (some (.im (.int v))) iY,C):=by
  simp_arith [mD,mul_eq (i:=s) (j:=(i:Int)) (.inl (by omega)),mod_eq (i:=f + s * (i:Int)) (j:=676) (by omega),hv']
 have s2:fSet 12 (aF bu (au (aF bD (aA 2) (au (aF mX (aA 11) (au (fCst (.int 26))))))) (au (aF bD (aA 2) (au (aF fB (aA 11) (au (fCst (.int 26)))))))) (mD b m hd tl f s v7 (some (.ow (.list acc))) v9 (some (.im (.int (i:Int)))) (some (.im (.int v))) iY) C=some (.nx,mD b m hd tl f s v7 (some (.ow (.list acc))) v9 (some (.im (.int (i:Int)))) (some (.im (.int v))) (some (.im (.str (two v)))),C):=by
  simp_arith [mD,fdiv_eq (i:=v) (j:=26) (by omega) (by omega),mod_eq (i:=v) (j:=26) (by omega),bD,letters _ a1 a2,letters _ a3 a4,t1]
 obtain ⟨q,hq⟩:∃q,((i:Int) * (i:Int) + f) % 4=q:=⟨_,rfl⟩
 rw [hq] at Wz
 have s3:=Ww (C:=C) (b:=b) (m:=m) (s:=s) (v:=v) (v7:=v7) (v9:=v9) (by omega) (by omega) hq ht Wz t2 t3 la
 refine ⟨some (.im (.int v)),some (.im (.str (two v))),?_⟩
 unfold cB
 simp only [fSeq,s1,s2,s3]
theorem Jq {fe:FE} (he:fe=aF bD (aA 1) (au (fCal aL (aCons (fVar 2) (aCons (fCst (.int 26)) aNil))))) {C:Ce} {b L j:Nat} {v1 v3 v4 v5 v6 v7 v8 v9 v10 v11 iY:Option Vl} (h:Bl L C b (j + 4)):
  ∃(z:Str) (C':Ce),nC (au (fCst (.str (Str.ofString "")))) (au (fLC (sJ (au (fCal aL (aCons (fVar 0) (aCons (fCst (.int 4)) aNil))))) .one gO fe [2,0])) [some (.ce b),v1,some (.im (.str abc)),v3,v4,v5,v6,v7,v8,v9,v10,v11,iY] C=some (.im (.str z),[some (.ce b),v1,some (.im (.str abc)),v3,v4,v5,v6,v7,v8,v9,v10,v11,iY],C')∧z.length≤3∧(∀c∈z.cps.toList,97≤c∧c≤122)∧Bl L C' b j:=by
 refine hide fun GG gg=>?_
 obtain ⟨k1,C1,e1,a1,b1,yW⟩:=bQ (m:=4) h (by decide) (by decide)
 obtain ⟨cs,C2,e2,l2,hc,hB2⟩:=S7 he (j:=j) (size:=k1) yW a1 (by omega)
 obtain ⟨z,e3,e4,e5⟩:=Jp (cs:=cs) (by omega)
 have g5:(k1.toNat≤1000000)=True:=eq_true (by omega)
 refine gg ⟨z,C2,?_,by omega,by rw [e4]; exact hc,hB2⟩
 simp_arith [nC,sJ,e1,wu (m:=k1) (by omega) (by omega),e2,l2,g5,pX,e3]
theorem WD {C:Ce} {b L j:Nat} {m:Int} (R:FS) (h:Bl L C b (j + 10)):
  ∃(hd tl:Str) (f s:Int) (C':Ce),(fSeq (fSet 2 (fCst (.str (Str.ofString "abcdefghijklmnopqrstuvwxyz")))) (fSeq (fSet 3 (nC (au (fCst (.str (Str.ofString "")))) (au (fLC (sJ (au (fCal aL (aCons (fVar 0) (aCons (fCst (.int 4)) aNil))))) .one gO gF [2,0])))) (fSeq (fSet 4 (nC (au (fCst (.str (Str.ofString "")))) (au (fLC (sJ (au (fCal aL (aCons (fVar 0) (aCons (fCst (.int 4)) aNil))))) .one gO gC [2,0])))) (fSeq (fPar [5,6] (oCons (fCal aL (aCons (fVar 0) (aCons (fCst (.int 676)) aNil))) (oCons (aF bD (au (fLst (aCons (fCst (.int 1)) (aCons (fCst (.int 3)) (aCons (fCst (.int 5)) (aCons (fCst (.int 7)) (aCons (fCst (.int 25)) (aCons (fCst (.int 675)) aNil)))))))) (au (fCal aL (aCons (fVar 0) (aCons (fCst (.int 6)) aNil))))) aNil))) R)))) [some (.ce b),some (.im (.int m)),none,none,none,none,none,none,none,none,none,none,none] C
   =R (mD b m hd tl f s none none none none none none) C'∧hd.length≤3∧tl.length≤3∧(∀c∈hd.cps.toList,97≤c∧c≤122)∧(∀c∈tl.cps.toList,97≤c∧c≤122)∧0≤f∧f < 676∧DK s∧Bl L C' b j:=by
 refine hide fun GG gg=>?_
 obtain ⟨hd,C1,e1,l1,c1,yW⟩:=Jq (fe:=gF) rfl (j:=j + 6) (v1:=some (.im (.int m))) (v3:=none) (v4:=none) (v5:=none) (v6:=none) (v7:=none) (v8:=none) (v9:=none) (v10:=none) (v11:=none) (iY:=none) h
 obtain ⟨tl,C2,e2,l2,c2,hB2⟩:=Jq (fe:=gC) rfl (j:=j + 2) (v1:=some (.im (.int m))) (v3:=some (.im (.str hd))) (v4:=none) (v5:=none) (v6:=none) (v7:=none) (v8:=none) (v9:=none) (v10:=none) (v11:=none) (iY:=none) yW
 obtain ⟨f,C3,e3,f0,f1,hB3⟩:=bQ (m:=676) hB2 (by decide) (by decide)
 obtain ⟨k,C4,e4,k0,k1,S8⟩:=bQ (m:=6) hB3 (by decide) (by decide)
 obtain ⟨s,e5,hs⟩:=step_at k0 k1
 refine gg ⟨hd,tl,f,s,C4,?_,l1,l2,c1,c2,f0,f1,hs,S8⟩
 simp_arith [↓e1,↓e2,e3,e4,e5]
section
variable {C:Ce} {b:Nat} {m f s:Int} {hd tl:Str}
theorem aaN {v10 v11 iY:Option Vl} (z:Str) (hz:z.length=8) (v9:Option Vl):∃w9,jg (gNm 9) cC (gk 1 8) (mD b m hd tl f s (some (.im (.str z))) (some (.ow (.list []))) v9 v10 v11 iY) C=some (.nx,mD b m hd tl f s (some (.im (.str z))) (some (.ow (.list ((subs z 8).map .str)))) w9 v10 v11 iY,C):=by
 obtain ⟨env',C',e,w9,he,hC⟩:=gw (g:=gNm 9) (body:=cC) (its:=gk 1 8) (env:=mD b m hd tl f s (some (.im (.str z))) (some (.ow (.list []))) v9 v10 v11 iY) (C:=C)
  (fun i env C1=>∃w9,env=mD b m hd tl f s (some (.im (.str z))) (some (.ow (.list ((subs z i).map .str)))) w9 v10 v11 iY∧C1=C) ⟨v9,rfl,rfl⟩ (fun i d env C1 hd hI=>by
   obtain ⟨w9,rfl,rfl⟩:=hI
   obtain ⟨rfl,hi⟩:=lC hd
   exact ⟨_,.nx,_,C1,rfl,Wx hz hi,.inl rfl,_,rfl,rfl⟩)
 rw [qU] at he
 subst he
 subst hC
 exact ⟨w9,e⟩
theorem aaO {v7 v9 v11 iY:Option Vl} {n:Nat} (hn:n≤30) (f0:0≤f) (f1:f < 676) (hs:DK s) (hh:hd.length≤3) (ht:tl.length≤3) (v10:Option Vl):
  ∃w10 w11 w12,jg (gNm 10) cB (gk 0 n) (mD b m hd tl f s v7 (some (.ow (.list []))) v9 v10 v11 iY) C=some (.nx,mD b m hd tl f s v7 (some (.ow (.list (((List.range n).map (n2 hd tl f s fun k=>((k:Int) * k + f) % 4)).map .str)))) v9 w10 w11 w12,C):=by
 obtain ⟨env',C',e,w10,w11,w12,he,hC⟩:=gw (g:=gNm 10) (body:=cB) (its:=gk 0 n) (env:=mD b m hd tl f s v7 (some (.ow (.list []))) v9 v10 v11 iY) (C:=C)
  (fun i env C1=>∃w10 w11 w12,env=mD b m hd tl f s v7 (some (.ow (.list (((List.range i).map (n2 hd tl f s fun k=>((k:Int) * k + f) % 4)).map .str)))) v9 w10 w11 w12∧C1=C) ⟨v10,v11,iY,rfl,rfl⟩ (fun i d env C1 hd' hI=>by
   obtain ⟨w10,w11,w12,rfl,rfl⟩:=hI
   obtain ⟨rfl,hi⟩:=lC hd'
   rw [Int.zero_add]
   obtain ⟨u11,u12,e⟩:=Wy (C:=C1) (b:=b) (m:=m) (v7:=v7) (v9:=v9) (v11:=w11) (iY:=w12) (i:=i) f0 f1 hs.1.1 hs.1.2 (by omega) hh ht
   exact ⟨_,.nx,_,C1,rfl,e,.inl rfl,_,u11,u12,rfl,rfl⟩)
 rw [qU] at he
 subst he
 subst hC
 exact ⟨w10,w11,w12,e⟩
end
theorem G8 {zs:List Str} {m:Int} (m0:0≤m) (m1:m≤zs.length):xK (zs.map PyData.str) none (some m)=(zs.take m.toNat).map .str:=by
 obtain ⟨k,rfl⟩:∃k:Nat,m=(k:Int):=⟨m.toNat,by omega⟩
 unfold xK
 rw [List.length_map,HT.zx,show HT.dY zs.length 0 none=0 from rfl,List.drop_zero,Nat.sub_zero,List.map_take,Int.toNat_natCast,Nat.min_eq_left (by omega)]
theorem Qe {C:Ce} {b L j:Nat} {m:Int} (h:Bl L C b (j + 12)) (m0:0≤m) (m1:m≤30):
  ∃(zs:List Str) (C':Ce),eF [.ce b,.im (.int m)] C=some (.ow (.list (zs.map .str)),C')∧Names zs∧zs.length=m.toNat∧Bl L C' b j:=by
 refine hide fun GG gg=>?_
 obtain ⟨R,hR⟩:∃R:FS,R=fSeq (jt (fTst (aF kZ (au (fCal aL (aCons (fVar 0) (aCons (fCst (.int 4)) aNil)))) (au (fCst (.int 0))))) (fSeq (fPar [7,8] (oCons (nC (au (fCst (.str (Str.ofString "")))) (au (fLC (sJ (au (fCst (.int 8)))) .one gO dO [2,5]))) (oCons (fLst aNil) aNil))) (fSeq (jN (Pb (au (fCst (.int 1))) (au (fCst (.int 9)))) (gNm 9) cC) (fRet (wX (aA 8) I9 (tY (aA 1)))))) fNext) (fSeq (jt (iJ (fTst (aF vA (aA 1) (au (fCst (.int 27))))) (fTst (aF kZ (au (fCal aL (aCons (fVar 0) (aCons (fCst (.int 3)) aNil)))) (au (fCst (.int 0)))))) (fRet (fLC (sJ (aA 1)) .one gO dN [2,5,6])) fNext) (fSeq (fSet 8 (fLst aNil)) (fSeq (jN (sJ (aA 1)) (gNm 10) cB) (fRetV 8)))):=⟨_,rfl⟩
 obtain ⟨hd,tl,f,s,C1,e1,l1,l2,c1,c2,f0,f1,hs,yW⟩:=WD (m:=m) (j:=j + 2) R h
 rw [hR] at e1
 obtain ⟨k,C2,e2,a2,b2,hB2⟩:=bQ (m:=4) yW (by decide) (by decide)
 by_cases hk:k=0
 ·subst hk
  obtain ⟨z,e3,e4,e5⟩:=Jp (cs:=gQ f) (by simp [gQ])
  have hz:z.length=8:=by rw [e5]; simp [gQ]
  have st:=KZ (C:=C2) f
  obtain ⟨w9,e6⟩:=aaN (C:=C2) (b:=b) (m:=m) (f:=f) (s:=s) (hd:=hd) (tl:=tl) (v10:=none) (v11:=none) (iY:=none) z hz none
  have ct:=G8 (zs:=subs z 8) m0 (by rw [DP]; omega)
  have nm:=GR e4
  have q:((gQ f).length≤1000000)=True:=eq_true (by simp [gQ])
  refine gg ⟨(subs z 8).take m.toNat,C2,cI [some (.ce b),some (.im (.int m)),none,none,none,none,none,none,none,none,none,none,none] rfl rfl ?_ rfl (h.eq hB2),⟨nm.1.sublist (List.take_sublist _ _),fun x hx=>nm.2 x (List.mem_of_mem_take hx)⟩,by rw [List.length_take,DP]; omega,hB2.mono (by omega)⟩
  unfold eE
  rw [e1]
  have i8:Int.toNat 8=8:=rfl
  have i9:Int.toNat (9 - 1)=8:=rfl
  have rg2:(-(2 ^ 62)≤(1:Int)∧(1:Int) < 2 ^ 62∧-(2 ^ 62)≤(9:Int)∧(9:Int) < 2 ^ 62)=True:=eq_true (by decide)
  simp only [mD] at e6
  simp_arith [mD,e2,nC,sJ,wu (m:=(8:Int)) (by decide) (by decide),i8,st,q,pX,e3,Pb,rg2,i9,jN,e6,wX,I9,tY,Ov,ct]
 ·have hk':(k==0)=false:=beq_eq_false_iff_ne.mpr hk
  have fin:∀C3,Bl L C3 b j→iJ (fTst (aF vA (aA 1) (au (fCst (.int 27))))) (fTst (aF kZ (au (fCal aL (aCons (fVar 0) (aCons (fCst (.int 3)) aNil)))) (au (fCst (.int 0))))) (mD b m hd tl f s none none none none none none) C2=some (false,C3)→GG:=fun C3 hB3 ht=>by
   obtain ⟨w10,w11,w12,e7⟩:=aaO (C:=C3) (b:=b) (m:=m) (v7:=none) (v9:=none) (v11:=none) (iY:=none) (n:=m.toNat) (by omega) f0 f1 hs l1 l2 none
   refine gg ⟨_,C3,cI [some (.ce b),some (.im (.int m)),none,none,none,none,none,none,none,none,none,none,none] rfl rfl ?_ rfl (h.eq hB3),Px (f:=f) (q:=fun k=>((k:Int) * k + f) % 4) (n:=m.toNat) hs (by omega) l1 l2 c1 c2,by rw [List.length_map,List.length_range],hB3⟩
   unfold eE
   rw [e1]
   simp only [mD] at e7 ht
   simp_arith [mD,e2,hk',↓ht,jN,sJ,wu (m:=m) (by omega) (by omega),e7]
  by_cases h27:m < 27
  ·obtain ⟨k6,C3,e3,a3,b3,hB3⟩:=bQ (m:=3) hB2 (by decide) (by decide)
   by_cases hk6:k6=0
   ·subst hk6
    have lc:=Qa (C:=C3) (f:=f) (s:=s) hs.1.1 hs.1.2 m.toNat
    have q:(m.toNat≤1000000)=True:=eq_true (by omega)
    refine gg ⟨_,C3,cI [some (.ce b),some (.im (.int m)),none,none,none,none,none,none,none,none,none,none,none] rfl rfl ?_ rfl (h.eq hB3),Pu (f:=f) (n:=m.toNat) hs (by omega),by rw [List.length_map,List.length_range],hB3⟩
    unfold eE
    rw [e1]
    simp_arith [mD,e2,hk',h27,e3,sJ,wu (m:=m) (by omega) (by omega),lc,List.length_range,q]
   ·have aaQ:(k6==0)=false:=beq_eq_false_iff_ne.mpr hk6
    exact fin C3 hB3 (by simp_arith [mD,h27,e3,aaQ])
  ·exact fin C2 hB2.dec (by simp_arith [mD,h27])
theorem K1 {C:Ce} {b L j:Nat} {zs:List Str} (h:Bl L C b (j + 16)) (h8:zs.length≤8) (hz:Names zs):
  ∃(ps:List (Str×Str)) (C':Ce),eG [.ce b,.im (.list (zs.map .str))] C=some (.ow (.dict (cD (bF ps))),C')∧bO zs ps∧ps.length=zs.length∧Bl L C' b j:=by
 refine hide fun GG gg=>?_
 obtain ⟨env',C',e,ps,v3,v4,he,hl,hP,hB⟩:=gw (g:=gTp 2 (gsCons (gNm 3) (gsCons (gNm 4) gsNil))) (body:=cW) (its:=wA (zs.map .str)) (env:=[some (.ce b),some (.im (.list (zs.map .str))),some (.ow (.dict [])),none,none]) (C:=C)
  (fun i env C2=>∃(ps:List (Str×Str)) (v3 v4:Option Vl),env=[some (.ce b),some (.im (.list (zs.map .str))),some (.ow (.dict (cD (bF ps)))),v3,v4]∧ps.length=i∧bO zs ps∧Bl L C2 b (j + 2 * (8 - i)))
  ⟨[],none,none,rfl,rfl,(fun i x e=>by simp at e),h⟩ (fun i d env C2 hd hI=>by
   obtain ⟨ps,v3,v4,rfl,hl,hP,hB⟩:=hI
   obtain ⟨x,hx,rfl⟩:=Dw hd
   obtain ⟨z,hz1,rfl⟩:=Wn hx
   refine hide fun GG gg=>?_
   have hi:i < zs.length:=(List.getElem?_eq_some_iff.mp hz1).1
   rw [Jj j 2 (by omega:i < 8)] at hB
   obtain ⟨k1,C3,e1,a1,b1,yW⟩:=bQ (m:=4) hB (by decide) (by decide)
   have ct:=G8 (zs:=zs) (m:=(i:Int)) (by omega) (by omega)
   rw [Int.toNat_natCast] at ct
   have ad:bu (.list [.str (Str.ofString "")]) (.list ((zs.take i).map .str))=some (.ow (.list (PyData.str (Str.ofString "")::(zs.take i).map .str))):=add_l (xs:=[.str (Str.ofString "")]) (by rw [List.length_map,List.length_take]; show 1 + _≤_; omega)
   have g:((cD (bF ps)).length < 1000000)=True:=eq_true (by unfold cD bF; rw [List.length_map,List.length_map]; omega)
   have fin:∀(t:Int) (C4:Ce),0≤t→t≤i→Bl L C4 b (j + 2 * (8 - (i + 1)))→(∀y:Str,ju (PyData.str (Str.ofString "")::(zs.take i).map .str) t=some (.str y)→putD (cD (bF ps)) (.str z) (.str y)=some (cD (bF (ps++[(z,y)])))→
     cW [some (.ce b),some (.im (.list (zs.map .str))),some (.ow (.dict (cD (bF ps)))),some (.im (.int (i:Int))),some (.im (.str z))] C2=some (.nx,[some (.ce b),some (.im (.list (zs.map .str))),some (.ow (.dict (cD (bF (ps++[(z,y)]))))),some (.im (.int (i:Int))),some (.im (.str z))],C4))→GG:=fun t C4 t0 t1 hB2 run=>by
    obtain ⟨y,my,hy1,iy⟩:=rm (zs:=Str.ofString ""::zs.take i) (k:=t) t0 (by rw [List.length_cons,List.length_take]; omega)
    have hy2:y=Str.ofString ""∨∃j,j < ps.length∧zs[j]?=some y:=by
     rcases List.mem_cons.mp my with rfl | my
     ·exact .inl rfl
     ·obtain ⟨jj,hj,e⟩:=List.getElem_of_mem my
      rw [List.length_take] at hj
      refine .inr ⟨jj,by omega,?_⟩
      rw [List.getElem_take] at e
      rw [←e]
      exact List.getElem?_eq_getElem (by omega)
    have pu:putD (cD (bF ps)) (.str z) (.str y)=some (cD (bF (ps++[(z,y)]))):=by
     rw [Dt (l:=bF ps) (z:=z) (d:=.str y)]
     ·unfold bF
      rw [List.map_append]
      rfl
     ·unfold bF
      rw [List.map_map]
      intro hm
      obtain ⟨q,hq,e⟩:=List.mem_map.mp hm
      obtain ⟨jj,hj,rfl⟩:=List.getElem_of_mem hq
      have g1:=(hP jj ps[jj] (List.getElem?_eq_getElem hj)).1
      have e:ps[jj].1=z:=e
      rw [e] at g1
      obtain ⟨x1,y1⟩:=List.getElem?_eq_some_iff.mp g1
      obtain ⟨x2,y2⟩:=List.getElem?_eq_some_iff.mp hz1
      exact List.pairwise_iff_getElem.mp hz.1 jj i x1 x2 (by omega) (y1.trans y2.symm)
    rw [List.map_cons] at iy
    exact gg ⟨_,.nx,_,C4,rfl,run y iy pu,.inl rfl,ps++[(z,y)],_,_,rfl,by simp [hl],hP.snoc (by rw [hl]; exact hz1) hy2,hB2⟩
   by_cases hk:0 < k1
   ·obtain ⟨t,C4,e3,t0,t1,hB2⟩:=bQ (m:=(i:Int) + 1) yW (by omega) (by omega)
    exact fin t C4 t0 (by omega) hB2 fun y iy pu=>by simp_arith [cW,wX,I9,tY,Ov,ct,ad,e1,hk,e3,iy,vL,tU,pu,g]
   ·exact fin 0 C3 (by omega) (by omega) yW.dec fun y iy pu=>by simp_arith [cW,wX,I9,tY,Ov,ct,ad,e1,hk,iy,vL,tU,pu,g])
 rw [yO,List.length_map] at hl hB
 subst he
 refine gg ⟨ps,C',cI [some (.ce b),some (.im (.list (zs.map .str))),none,none,none] rfl rfl ?_ rfl (h.eq hB),hP,hl,hB.mono (Nat.le_add_right _ _)⟩
 simp_arith [jP,Gm,jN,Zu,e]
theorem Qf {C:Ce} {ps:List (Str×Str)}:∀{z:Str} {os:List Str},Over (cO ps) z os→∀(n:Nat) (acc:List Str),os.length < n→acc.length + os.length < 1000→
  ∃z',cG j6 j7 n [some (.im (.dict (cD (bF ps)))),some (.im (.str z)),some (.ow (.list (acc.map .str)))] C=some (.nx,[some (.im (.dict (cD (bF ps)))),some (.im (.str z')),some (.ow (.list ((acc++os).map .str)))],C):=by
 have hin:∀z,pN (.str z) (.dict (cD (bF ps)))=some (.im (.bool (cO ps z).isSome)):=fun z=>by
  show ((lR (cD (bF ps)) (.str z)).map (·.isSome)).map (fun b=>Vl.im (.bool b))=_
  rw [q9]
  cases cO ps z <;> rfl
 intro z os ho
 induction ho with
 | @stop z h=>
  intro n acc hn ha
  cases n with
  | zero=>exact absurd hn (Nat.not_lt_zero _)
  | succ n=>
   refine ⟨z,?_⟩
   unfold cG
   simp_arith [hin,h,Option.isSome_none,List.append_nil]
 | @step z y r h _ ih=>
  intro n acc hn ha
  cases n with
  | zero=>exact absurd hn (Nat.not_lt_zero _)
  | succ n=>
   rw [List.length_cons] at hn ha
   obtain ⟨z',e⟩:=ih n (acc++[z]) (by omega) (by rw [List.length_append]; show acc.length + 1 + _ < _; omega)
   refine ⟨z',?_⟩
   have g:(acc.length < 1000000)=True:=eq_true (by omega)
   have i:bD (.dict (cD (bF ps))) (.str z)=some (.im (.str y)):=by
    unfold bD Ry
    simp only [q9,h,Option.map_some]
   simp only [List.map_append,List.map_cons,List.map_nil,List.append_assoc,List.cons_append,List.nil_append] at e ⊢
   unfold cG
   simp_arith [hin,h,Option.isSome_some,g,mj,jz,i,e]
theorem Qg {C:Ce} {zs:List Str} {ps:List (Str×Str)} (hN:Names zs) (hP:bO zs ps) (h8:ps.length≤8) (z:Str):
  eN [.im (.dict (cD (bF ps))),.im (.str z)] C=some (.ow (.list ((up ps z).map .str)),C):=by
 have hul:=GD ps z
 obtain ⟨z',e⟩:=Qf (C:=C) (qX hN hP z) yz [] (by show _ < 100000; omega) (by show 0 + _ < 1000; omega)
 rw [List.map_nil,List.nil_append] at e
 refine cI [some (.im (.dict (cD (bF ps)))),some (.im (.str z)),none] rfl rfl ?_ rfl rfl
 simp_arith [jQ,Oa,e]
theorem K3 {C:Ce} {b L j:Nat} {m:Int} (h:Bl L C b (j + 101)) (h0:0≤m) (h1:m≤50):
  ∃(ns:List Int) (C':Ce),j8 [.ce b,.im (.int m)] C=some (.ow (.list (ns.map .int)),C')∧ns.length=m.toNat∧(∀x∈ns,0≤x∧x≤2000)∧ns.Pairwise (· < ·)∧Bl L C' b j:=by
 refine hide fun GG gg=>?_
 obtain ⟨k0,C0,e0,a0,b0,hB0⟩:=bQ (m:=3) (k:=j + 100) h (by decide) (by decide)
 obtain ⟨env',C',e,ns,nx,v4,he,hl,hr,hp,hx0,hx1,hB⟩:=gw (g:=gNm 4) (body:=lK) (its:=gk 0 m.toNat) (env:=[some (.ce b),some (.im (.int m)),some (.ow (.list [])),some (.im (.int k0)),none]) (C:=C0)
  (fun i env C1=>∃(ns:List Int) (nx:Int) (v4:Option Vl),env=[some (.ce b),some (.im (.int m)),some (.ow (.list (ns.map .int))),some (.im (.int nx)),v4]∧ns.length=i∧(∀x∈ns,0≤x∧x < nx)∧ns.Pairwise (· < ·)∧0≤nx∧nx≤2 + 3 * i∧Bl L C1 b (j + 2 * (50 - i)))
  ⟨[],k0,none,rfl,rfl,(fun _ m=>nomatch m),List.Pairwise.nil,a0,by omega,hB0⟩ (fun i d env C1 hd hI=>by
   obtain ⟨ns,nx,v4,rfl,hl,hr,hp,hx0,hx1,hB⟩:=hI
   obtain ⟨rfl,hi⟩:=lC hd
   refine hide fun GG gg=>?_
   rw [Jj j 2 (by omega:i < 50)] at hB
   obtain ⟨k1,C2,e1,a1,b1,yW⟩:=bQ (m:=2) hB (by decide) (by decide)
   obtain ⟨k2,C3,e2,a2,b2,hB2⟩:=bQ (m:=3) yW (by decide) (by decide)
   obtain ⟨y,hy,y0,y2⟩:∃y,k1 * k2=y∧0≤y∧y≤2:=by
    have hk:k1=0∨k1=1:=by omega
    rcases hk with rfl | rfl
    ·exact ⟨0,by rw [Int.zero_mul],by decide,by decide⟩
    ·exact ⟨k2,by rw [Int.one_mul],a2,by omega⟩
   have lm:(ns.length < 1000000)=True:=eq_true (by omega)
   refine gg ⟨_,.nx,[some (.ce b),some (.im (.int m)),some (.ow (.list ((ns++[nx]).map .int))),some (.im (.int (nx + 1 + y))),some (.im (.int (0 + i)))],C3,rfl,?_,.inl rfl,ns++[nx],nx + 1 + y,_,rfl,by simp [hl],fun x hx=>?_,?_,by omega,by omega,hB2⟩
   ·simp_arith [lK,e1,e2,mul_eq (i:=k1) (j:=k2) (.inl (by omega)),hy,mj,jz,lm,List.map_append]
   ·rcases List.mem_append.mp hx with hx | hx
    ·have:=hr x hx; omega
    ·rw [List.mem_singleton.mp hx]; omega
   ·rw [List.pairwise_append]
    refine ⟨hp,by simp,fun x hx z hz=>?_⟩
    rw [List.mem_singleton.mp hz]
    exact (hr x hx).2)
 rw [qU] at hl hx1 hB
 subst he
 refine gg ⟨ns,C',cI [some (.ce b),some (.im (.int m)),none,none,none] rfl rfl ?_ rfl (h.eq hB),hl,fun x hx=>?_,hp,hB.mono (Nat.le_add_right _ _)⟩
 ·simp_arith [tD,e0,jN,sJ,wu (m:=m) (by omega) (by omega),e]
 ·have:=hr x hx
  omega
theorem DY {C:Ce}:∀(l q:List (Str×Str)),((q++l).map (·.1)).Nodup→(q++l).length≤8→t7 (.many 2) gO iG iH [] (l.map oZ) (cD (bF q)) C=some (cD (bF (q++l)),C)
 | [],q,_,_=>by rw [List.append_nil]; rfl
 | x::l,q,nd,h8=>by
  have ih:=DY (C:=C) l (q++[x]) (by rw [List.append_assoc]; exact nd) (by rw [List.append_assoc]; exact h8)
  have hx:x.1∉(bF q).map (·.1):=by
   unfold bF
   rw [List.map_map]
   show x.1∉q.map (·.1)
   rw [List.map_append,List.nodup_append] at nd
   exact fun hm=>nd.2.2 _ hm _ List.mem_cons_self rfl
  have hl:(cD (bF q)).length < LIM:=by
   unfold cD bF
   rw [List.length_append] at h8
   rw [List.length_map,List.length_map]
   show _ < 1000000
   omega
  rw [List.map_cons]
  unfold t7
  rw [show V9 (.many 2) (oZ x)=some [.str x.1,.str x.2] from rfl]
  show (if (cD (bF q)).length < LIM then t7 (.many 2) gO iG iH [] (l.map oZ) (oN cN (.inr x.1) (.str x.1) (.str x.2) (cD (bF q))) C else none)=_
  rw [if_pos hl,Ds hx]
  have e:bF q++[(x.1,.str x.2)]=bF (q++[x]):=by unfold bF; rw [List.map_append]; rfl
  rw [e,ih,List.append_assoc]
  rfl
theorem S9 {C:Ce} {hs:Option Vl} {q ps:List (Str×Str)} (hl:∀z,cO q z=cO ps z):∀{z:Str} {os:List Str},Over (cO ps) z os→∀(n:Nat) (acc:List Str),os.length < n→acc.length + os.length < 1000→
  ∃z',cG lV lW n [hs,some (.im (.str z)),some (.ow (.dict (cD (bF q)))),some (.ow (.list (acc.map .str)))] C=some (.nx,[hs,some (.im (.str z')),some (.ow (.dict (cD (bF q)))),some (.ow (.list ((acc++os).map .str)))],C):=by
 have hin:∀z,pN (.str z) (.dict (cD (bF q)))=some (.im (.bool (cO ps z).isSome)):=fun z=>by
  show ((lR (cD (bF q)) (.str z)).map (·.isSome)).map (fun b=>Vl.im (.bool b))=_
  rw [q9,hl]
  cases cO ps z <;> rfl
 intro z os ho
 induction ho with
 | @stop z h=>
  intro n acc hn ha
  cases n with
  | zero=>exact absurd hn (Nat.not_lt_zero _)
  | succ n=>
   refine ⟨z,?_⟩
   unfold cG
   simp_arith [hin,h,Option.isSome_none,List.append_nil]
 | @step z y r h _ ih=>
  intro n acc hn ha
  cases n with
  | zero=>exact absurd hn (Nat.not_lt_zero _)
  | succ n=>
   rw [List.length_cons] at hn ha
   obtain ⟨z',e⟩:=ih n (acc++[z]) (by omega) (by rw [List.length_append]; show acc.length + 1 + _ < _; omega)
   refine ⟨z',?_⟩
   have g:(acc.length < 1000000)=True:=eq_true (by omega)
   have i:bD (.dict (cD (bF q))) (.str z)=some (.im (.str y)):=by
    unfold bD Ry
    simp only [q9,hl,h,Option.map_some]
   simp only [List.map_append,List.map_cons,List.map_nil,List.append_assoc,List.cons_append,List.nil_append] at e ⊢
   unfold cG
   simp_arith [hin,h,Option.isSome_some,g,mj,jz,i,e]
theorem xR {C:Ce} {zs:List Str} {ps:List (Str×Str)} {ht:eX} (hN:Names zs) (hP:bO zs ps) (hG:fZ zs ps ht) (z:Str):
  gh [.im (cP ht),.im (.str z)] C=some (.ow (.list ((up ps z).map .str)),C):=by
 have nd:=fD hN hP
 have nd':(ht.ps.map (·.1)).Nodup:=(hG.parts.map (·.1)).nodup_iff.mpr nd
 have hL:ht.ps.length≤8:=by rw [hG.parts.length_eq]; exact hG.p8
 have t:=DY (C:=C) ht.ps [] nd' hL
 rw [show cD (bF [])=[] from rfl,List.nil_append] at t
 have hul:=GD ps z
 have h8:=hG.p8
 obtain ⟨z',e⟩:=S9 (C:=C) (hs:=some (.im (cP ht))) (Gz hG.parts nd) (qX hN hP z) yz [] (by show _ < 100000; omega) (by show 0 + _ < 1000; omega)
 rw [List.map_nil,List.nil_append] at e
 refine cI [some (.im (cP ht)),some (.im (.str z)),none,none] rfl rfl ?_ rfl rfl
 simp_arith [lF,Yv,t,Dv,Oa,e]
theorem uK {C:Ce} {z a1 b1 p:Str} {n:Int}:dM [.im (.tuple [.str z,.int n,.str a1,.str b1]),.im (.str p)] C=some (.im (.bool (decide (p=a1∨p=b1))),C):=by
 have ct:xK [PyData.str z,.int n,.str a1,.str b1] (some 2) (some 4)=[.str a1,.str b1]:=rfl
 have i1:pN (.str p) (.tuple [.str a1,.str b1])=some (.im (.bool (decide (p=a1∨p=b1)))):=by
  have:inB (.str p) (.tuple [.str a1,.str b1])=some (inD (.str p) ([a1,b1].map .str)):=if_pos (c:=(fU (.str p)&&[PyData.str a1,.str b1].all fU)=true) (e:=none) rfl
  unfold pN
  rw [this,Dm]
  simp
 refine cI [some (.im (.tuple [.str z,.int n,.str a1,.str b1])),some (.im (.str p))] rfl rfl ?_ rfl rfl
 simp_arith [sY,wX,tY,Ov,ct,i1]
noncomputable def Bb (os:List Str) (n day:Int) (a1 b1:Str) (r:cL):Bool:=decide (r.2.2.2.1∈os)&&((decide (r.2.2.2.2.1≤day)&&decide (day≤r.2.2.2.2.2.1))&&(decide (n≤r.2.2.2.2.2.2)&&(!decide (r.2.1=a1∨r.2.1=b1)&&!decide (r.2.2.1=a1∨r.2.2.1=b1))))
noncomputable def K4 (r:cL):PyData:=.tuple [.int r.1,.str r.2.1,.str r.2.2.1]
noncomputable abbrev ie (z a1 b1:Str) (n:Int):PyData:=.tuple [.str z,.int n,.str a1,.str b1]
theorem Tc {C:Ce} {zs:List Str} {ps:List (Str×Str)} {ht:eX} (hN:Names zs) (hP:bO zs ps) (hG:fZ zs ps ht) (z a1 b1:Str) (n day:Int):
  jc [.im (cP ht),.im (ie z a1 b1 n),.im (.int day)] C=some (.ow (.list ((ht.leaves.filter (Bb (up ps z) n day a1 b1)).map K4)),C):=by
 have p:=xR (C:=C) hN hP hG z
 have h16:=hG.R0
 obtain ⟨l,lE⟩:∃l,l=ht.leaves.filter (Bb (up ps z) n day a1 b1):=⟨_,rfl⟩
 have ll:l.length≤16:=by rw [lE]; exact Nat.le_trans (List.length_filter_le _ _) h16
 have t:fX (.many 7) lG lH [some (.im (.list ((up ps z).map .str))),some (.im (.int day)),some (.im (ie z a1 b1 n))] (ht.leaves.map cH) C=some (l.map K4,C):=by
  rw [lE]
  refine eY (T:=.many 7) (ft:=lG) (fe:=lH) (fs:=[some (.im (.list ((up ps z).map .str))),some (.im (.int day)),some (.im (ie z a1 b1 n))]) (C:=C) cH (Bb (up ps z) n day a1 b1) K4 (l:=ht.leaves) fun r _=>?_
  refine ⟨[.int r.1,.str r.2.1,.str r.2.2.1,.str r.2.2.2.1,.int r.2.2.2.2.1,.int r.2.2.2.2.2.1,.int r.2.2.2.2.2.2],rfl,?_,fun _=>⟨.im (K4 r),[some (.im (.int r.1)),some (.im (.str r.2.1)),some (.im (.str r.2.2.1)),some (.im (.str r.2.2.2.1)),some (.im (.int r.2.2.2.2.1)),some (.im (.int r.2.2.2.2.2.1)),some (.im (.int r.2.2.2.2.2.2)),some (.im (.list ((up ps z).map .str))),some (.im (.int day)),some (.im (ie z a1 b1 n))],by simp_arith [jW,List.cons_append,List.nil_append]; rfl,rfl⟩⟩
  have c:=Ug ur ur (aA 4) (aA 8) (aA 5) (env:=[some (.im (.int r.1)),some (.im (.str r.2.1)),some (.im (.str r.2.2.1)),some (.im (.str r.2.2.2.1)),some (.im (.int r.2.2.2.2.1)),some (.im (.int r.2.2.2.2.2.1)),some (.im (.int r.2.2.2.2.2.2)),some (.im (.list ((up ps z).map .str))),some (.im (.int day)),some (.im (ie z a1 b1 n))]) (C:=C) (a:=decide (r.2.2.2.2.1≤day)) (b:=decide (day≤r.2.2.2.2.2.1)) rfl rfl rfl rfl rfl
  have s1:=uK (C:=C) (z:=z) (a1:=a1) (b1:=b1) (n:=n) (p:=r.2.1)
  have s2:=uK (C:=C) (z:=z) (a1:=a1) (b1:=b1) (n:=n) (p:=r.2.2.1)
  simp_arith [jW,List.cons_append,List.nil_append,c,s1,s2]
  unfold Bb
  cases decide (r.2.2.2.1∈up ps z) <;> cases decide (r.2.2.2.2.1≤day) <;> cases decide (day≤r.2.2.2.2.2.1) <;> cases decide (n≤r.2.2.2.2.2.2) <;> cases decide (r.2.1=a1∨r.2.1=b1) <;> rfl
 have q:(l.length≤1000000)=True:=eq_true (by omega)
 have nl:fM (l.map K4)=true:=by
  clear t lE ll q
  induction l with
  | nil=>rfl
  | cons r l ih=>show (true&&fM (l.map K4))=true; rw [ih]; rfl
 refine cI [some (.im (cP ht)),some (.im (ie z a1 b1 n)),some (.im (.int day)),none] rfl rfl ?_ rfl rfl
 simp_arith [sZ,p,t,q,nl]
 rw [lE]
theorem Ea:∀ps:List (Str×Str),Pn (cD (bF ps))=some (ps.map fun p=>(.inr p.1,.inr p.2))
 | []=>rfl
 | p::ps=>by
  show ((some (Sum.inr p.1):Option Key).bind fun k=>(some (Sum.inr p.2):Option Key).bind fun v=>(Pn (cD (bF ps))).map fun t=>(k,v)::t)=_
  rw [Ea ps]
  rfl
theorem Eb (ps:List (Str×Str)) (h0:0 < ps.length) (h8:ps.length≤8):∃ps':List (Str×Str),ps'.Perm ps∧GJ (cD (bF ps))=some (ps'.map oZ):=by
 have em:(cD (bF ps)).map (fun p=>PyData.tuple [p.1,p.2])=ps.map oZ:=by
  unfold cD bF
  rw [List.map_map,List.map_map]
  rfl
 obtain ⟨ps',p1,p2⟩:=qW (yF (ds:=ps.map oZ) fun d hd=>by obtain ⟨p,_,rfl⟩:=List.mem_map.mp hd; rfl)
 refine ⟨ps',p1,?_⟩
 unfold GJ
 rw [Ea,em]
 cases ps with
 | nil=>cases h0
 | cons p r=>
  rw [Option.bind_some,List.map_cons,List.head?_cons,Option.bind_some,if_pos,p2]
  refine ⟨by rw [List.length_cons,List.length_map]; rw [List.length_cons] at h8; omega,fun q hq=>?_⟩
  rw [←List.map_cons (f:=fun p:Str×Str=>((Sum.inr p.1,Sum.inr p.2):Key×Key))] at hq
  obtain ⟨x,_,rfl⟩:=List.mem_map.mp hq
  exact ⟨rfl,rfl⟩
theorem Ec {C:Ce} {ps:List (Str×Str)} (h0:0 < ps.length) (h8:ps.length≤8) (lv:List cL):∃ps':List (Str×Str),ps'.Perm ps∧gZ [.im (.dict (cD (bF ps))),.im (.list (lv.map cH))] C=some (.im (cP ⟨ps',[],lv,[]⟩),C):=by
 obtain ⟨ps',p1,e⟩:=Eb ps h0 h8
 refine ⟨ps',p1,cI [some (.im (.dict (cD (bF ps)))),some (.im (.list (lv.map cH)))] rfl rfl ?_ rfl rfl⟩
 simp_arith [nU,An,Pq,e,gG]
 rfl
theorem same_none {C:Ce} (n:Nat):dz (n + 1) [.im .none,.im .none] C=some (.im (.bool true),C):=
 Ph (k:=2) (n:=2) (en:=[some (.im .none),some (.im .none)]) (e1:=[some (.im .none),some (.im .none)]) rfl rfl rfl rfl rfl
theorem same_int {C:Ce} (n:Nat) (x:Int):dz (n + 1) [.im (.int x),.im (.int x)] C=some (.im (.bool true),C):=by
 refine Ph (k:=2) (n:=2) (en:=[some (.im (.int x)),some (.im (.int x))]) (e1:=[some (.im (.int x)),some (.im (.int x))]) rfl rfl ?_ rfl rfl
 simp_arith [uJ,pR,De,Gq,vC,isNone,qM,Il]
theorem same_ints {C:Ce} (n:Nat) (xs:List Int) (hl:xs.length≤1000):dz (n + 2) [.im (.list (xs.map .int)),.im (.list (xs.map .int))] C=some (.im (.bool true),C):=by
 have t:fX (.many 2) gO (wJ (dz (n + 1))) [] (qT (xs.map .int) (xs.map .int)) C=some (List.replicate xs.length (.bool true),C):=by
  clear hl
  induction xs with
  | nil=>rfl
  | cons x xs ih=>
   rw [List.map_cons,qT]
   unfold fX
   rw [List.length_cons,List.replicate_succ]
   simp_arith [V9,gO,jW,List.append_nil,same_int n x,ih]
 have b:=GF xs.length
 have h1:(xs.length≤1000000)=True:=eq_true (by omega)
 refine Ph (k:=2) (n:=2) (en:=[some (.im (.list (xs.map .int))),some (.im (.list (xs.map .int)))]) (e1:=[some (.im (.list (xs.map .int))),some (.im (.list (xs.map .int)))]) rfl rfl ?_ rfl rfl
 simp_arith [uJ,pR,De,Gq,qM,Zt,t,b.1,b.2,List.length_replicate,h1]
noncomputable def stL (st:List (Str×Int)):List (Str×PyData):=st.map fun x=>(x.1,.int x.2)
noncomputable abbrev wD (w:Int×Str×Str):PyData:=.tuple [.int w.1,.str w.2.1,.str w.2.2]
theorem Bc (st:List (Str×Int)) (z:Str):lR (cD (stL st)) (.str z)=some ((mC st z).map .int):=by
 rw [yJ]
 unfold stL mC
 rw [List.find?_map,Option.map_map,Option.map_map]
 rfl
theorem Jr (st:List (Str×Int)) (z:Str):((mC st z).map PyData.int).isSome=decide (z∈st.map (·.1)):=by
 by_cases h:z∈st.map (·.1)
 ·cases e:mC st z with
  | none=>exact absurd h (di.mp e)
  | some d=>rw [decide_eq_true h]; rfl
 ·rw [di.mpr h,decide_eq_false h]; rfl
theorem Uh (st:List (Str×Int)) (z:Str):pN (.str z) (.dict (cD (stL st)))=some (.im (.bool (decide (z∈st.map (·.1))))):=by
 show ((lR (cD (stL st)) (.str z)).map (·.isSome)).map (fun b=>Vl.im (.bool b))=_
 rw [Bc,Option.map_some,Jr]
 rfl
theorem wQ (st:List (Str×Int)) (z:Str):qK (.str z) (.dict (cD (stL st)))=some (.im (.bool (!decide (z∈st.map (·.1))))):=by
 show ((lR (cD (stL st)) (.str z)).map (·.isSome)).map (fun b=>Vl.im (.bool (!b)))=_
 rw [Bc,Option.map_some,Jr]
 rfl
theorem Ui {st:List (Str×Int)} {z:Str} {d:Int} (h:mC st z=some d):bD (.dict (cD (stL st))) (.str z)=some (.im (.int d)):=by
 unfold bD Ry
 simp only [Bc,h,Option.map_some]
theorem Js {C:Ce} {v0 v1 nw:Option Vl} {k:Int}:∀(new:List Str) (st:List (Str×Int)) (v5:Option Vl),(st.map (·.1)++new).Nodup→st.length + new.length≤1000→
  ∃YK,jg (gNm 5) o8 (new.map .str) [v0,v1,some (.ow (.dict (cD (stL st)))),nw,some (.im (.int k)),v5] C=some (.nx,[v0,v1,some (.ow (.dict (cD (stL (st++new.map fun g=>(g,k)))))),nw,some (.im (.int k)),YK],C)
 | [],st,v5,_,_=>⟨v5,by rw [List.map_nil,List.map_nil,List.append_nil]; rfl⟩
 | g::new,st,v5,nd,hl=>by
  rw [List.length_cons] at hl
  obtain ⟨YK,e⟩:=Js (C:=C) (v0:=v0) (v1:=v1) (nw:=nw) (k:=k) new (st++[(g,k)]) (some (.im (.str g))) (by rw [List.map_append,List.append_assoc]; exact nd) (by rw [List.length_append]; show st.length + 1 + _≤_; omega)
  refine ⟨YK,?_⟩
  have hn:g∉(stL st).map (·.1):=by
   unfold stL
   rw [List.map_map]
   exact fun hm=>(List.nodup_append.mp nd).2.2 _ hm _ List.mem_cons_self rfl
  have pu:putD (cD (stL st)) (.str g) (.int k)=some (cD (stL (st++[(g,k)]))):=by
   rw [Dt hn]
   unfold stL
   rw [List.map_append]
   rfl
  have q:((cD (stL st)).length < 1000000)=True:=eq_true (by unfold cD stL; rw [List.length_map,List.length_map]; omega)
  rw [List.append_assoc] at e
  rw [List.map_cons]
  unfold jg
  simp_arith [vL,tU,pu,q]
  exact e
theorem wR {C:Ce} {ws:List (Int×Str×Str)} {s:Str} (hl:ws.length≤60):∀(n:Nat) (st:List (Str×Int)) (new:List Str) (k:Nat) (nv:Vl) (v5:Option Vl),(nv=.ow (.list (new.map .str))∨nv=.im (.list (new.map .str)))→Py ws s st new k→(new=[]→0 < n)→(new≠[]→ws.length + 2 - st.length < n)→
  ∃(st':List (Str×Int)) (e':En),cG pB pC n [some (.im (.list (ws.map wD))),some (.im (.str s)),some (.ow (.dict (cD (stL st)))),some nv,some (.im (.int k)),v5] C=some (.nx,e',C)∧e'[2]?=some (some (.ow (.dict (cD (stL st')))))∧Sx ws s st'
 | 0,st,new,k,nv,v5,hv,B,h0,h1=>by
  by_cases h:new=[]
  ·exact absurd (h0 h) (Nat.lt_irrefl _)
  ·exact absurd (h1 h) (Nat.not_lt_zero _)
 | n + 1,st,new,k,nv,v5,hv,B,h0,h1=>by
  by_cases hnew:new=[]
  ·subst hnew
   refine ⟨st,[some (.im (.list (ws.map wD))),some (.im (.str s)),some (.ow (.dict (cD (stL st)))),some nv,some (.im (.int k)),v5],?_,rfl,B.done⟩
   unfold cG
   rcases hv with rfl | rfl <;> simp_arith [] <;> rfl
  have h1:=h1 hnew
  have ht:(new.map PyData.str).isEmpty=false:=by cases new with | nil=>exact absurd rfl hnew | cons _ _=>rfl
  have c:=eY (T:=.many 3) (ft:=o9) (fe:=pA) (fs:=[some (.im (.list (new.map .str))),some (.im (.dict (cD (stL st))))]) (C:=C) wD (fun w=>decide (w.2.2∈new)&&!decide (w.2.1∈st.map (·.1))) (fun w=>.str w.2.1) (l:=ws) fun w _=>by
   refine ⟨[.int w.1,.str w.2.1,.str w.2.2],rfl,?_,fun _=>⟨.im (.str w.2.1),_,by simp_arith [jW,List.cons_append,List.nil_append]; rfl,rfl⟩⟩
   simp_arith [jW,List.cons_append,List.nil_append,wQ]
   cases decide (w.2.2∈new) <;> rfl
  obtain ⟨gs,gsE⟩:∃gs,gs=(ws.filter fun w=>decide (w.2.2∈new)&&!decide (w.2.1∈st.map (·.1))).map (·.2.1):=⟨_,rfl⟩
  have c2:(ws.filter fun w=>decide (w.2.2∈new)&&!decide (w.2.1∈st.map (·.1))).map (fun w=>PyData.str w.2.1)=gs.map .str:=by rw [gsE,List.map_map]; rfl
  rw [c2] at c
  have gl:gs.length≤60:=by rw [gsE,List.length_map]; exact Nat.le_trans (List.length_filter_le _ _) hl
  have sS:qR (gs.map .str)=some ((nj strLt (dedup gs)).map .str):=by
   unfold qR
   rw [if_pos (by rw [List.length_map]; omega),wz]
  obtain ⟨ns,nsE⟩:∃ns,ns=nj strLt (dedup gs):=⟨_,rfl⟩
  rw [←nsE] at sS
  have hm:∀g,g∈ns ↔ ∃w∈ws,w.2.2∈new∧w.2.1∉st.map (·.1)∧w.2.1=g:=fun g=>by
   rw [nsE,(ji _).mem_iff,Ka,gsE,List.mem_map]
   constructor
   ·rintro ⟨w,h1,h2⟩
    obtain ⟨h1,h3⟩:=List.mem_filter.mp h1
    rw [Bool.and_eq_true,decide_eq_true_eq,Bool.not_eq_true',decide_eq_false_iff_not] at h3
    exact ⟨w,h1,h3.1,h3.2,h2⟩
   ·rintro ⟨w,h1,h2,h3,h4⟩
    exact ⟨w,List.mem_filter.mpr ⟨h1,by rw [decide_eq_true h2,decide_eq_false h3]; rfl⟩,h4⟩
  have hn:ns.Nodup:=by rw [nsE]; exact (ji _).nodup_iff.mpr (Cd _)
  have B2:=B.step hn hm
  have f1:=B.few
  have f2:=B2.few
  have nd:=B2.nd
  rw [List.map_append,List.map_map,show ((fun x:Str×Int=>x.1) ∘ fun g=>(g,(k:Int) + 1))=id from rfl,List.map_id] at nd
  rw [List.length_append,List.length_map] at f2
  obtain ⟨YK,e1⟩:=Js (C:=C) (v0:=some (.im (.list (ws.map wD)))) (v1:=some (.im (.str s))) (nw:=some (.im (.list (ns.map .str)))) (k:=(k:Int) + 1) ns st v5 nd (by omega)
  obtain ⟨st',e',e2,e3,e4⟩:=wR (C:=C) hl n (st++ns.map fun g=>(g,(k:Int) + 1)) ns (k + 1) (.im (.list (ns.map .str))) YK (.inr rfl) B2 (fun z=>by omega) (fun z=>by
   rw [List.length_append,List.length_map]
   have:=List.length_pos_iff.mpr z
   omega)
  refine ⟨st',e',?_,e3,e4⟩
  unfold cG
  rcases hv with rfl | rfl <;> simp_arith [ht,RK,Yx,↓c,sS,jN,e1] <;> exact e2
theorem Qh {C:Ce} {ws:List (Int×Str×Str)} {s:Str} (hl:ws.length≤60):∃st:List (Str×Int),jn [.im (.list (ws.map wD)),.im (.str s)] C=some (.ow (.dict (cD (stL st))),C)∧Sx ws s st:=by
 obtain ⟨st,e',e1,e2,e3⟩:=wR (C:=C) hl yz [(s,0)] [s] 0 (.ow (.list [.str s])) none (.inl rfl) (Py.init ws s) (fun z=>nomatch z) (fun _=>by show _ + 2 - 1 < 100000; omega)
 rw [show (((0:Nat):Nat):Int)=0 from rfl] at e1
 refine ⟨st,cI [some (.im (.list (ws.map wD))),some (.im (.str s)),none,none,none,none] rfl rfl ?_ rfl rfl,e3⟩
 simp_arith [pZ,Jk,Oa,cN]
 rw [show [(PyData.str s,PyData.int 0)]=cD (stL [(s,0)]) from rfl]
 simp only [e1]
 simp_arith [e2]
noncomputable def rC (st:List (Str×Int)) (d:Int) (p:Str) (w:Int×Str×Str):Bool:=decide (w.2.1=p)&&(decide (w.2.2∈st.map (·.1))&&(mC st w.2.2).any fun e=>decide (e < d))
theorem tK {st:List (Str×Int)} {d:Int} {p:Str} {w:Int×Str×Str}:rC st d p w=true ↔ w.2.1=p∧∃e,mC st w.2.2=some e∧e < d:=by
 unfold rC
 rw [Bool.and_eq_true,Bool.and_eq_true,decide_eq_true_eq,decide_eq_true_eq]
 refine and_congr_right fun _=>⟨fun h=>?_,fun ⟨e,h1,h2⟩=>⟨?_,by rw [h1]; exact decide_eq_true h2⟩⟩
 ·cases e:mC st w.2.2 with
  | none=>exact absurd h.1 (di.mp e)
  | some x=>
   have:=h.2
   rw [e] at this
   exact ⟨x,rfl,of_decide_eq_true this⟩
 ·apply Classical.byContradiction
  intro n
  rw [di.mpr n] at h1
  cases h1
theorem Jt (bt:Nat→Nat→Bool) (val:Nat→Int) (h1:∀i j,bt i j=true→val i≤val j) (h2:∀i j,bt i j=false→val j≤val i):∀k,PySem.argBest bt k≤k∧∀i,i≤k→val (PySem.argBest bt k)≤val i
 | 0=>⟨Nat.le_refl _,fun i hi=>by rw [Nat.le_zero.mp hi]; exact Int.le_refl _⟩
 | k + 1=>by
  obtain ⟨a,b⟩:=Jt bt val h1 h2 k
  unfold PySem.argBest
  cases e:bt (k + 1) (PySem.argBest bt k) with
  | true=>
   rw [if_pos rfl]
   refine ⟨Nat.le_refl _,fun i hi=>?_⟩
   rcases Nat.lt_or_eq_of_le hi with hi | rfl
   ·exact Int.le_trans (h1 _ _ e) (b i (Nat.le_of_lt_succ hi))
   ·exact Int.le_refl _
  | false=>
   rw [if_neg Bool.false_ne_true]
   refine ⟨Nat.le_succ_of_le a,fun i hi=>?_⟩
   rcases Nat.lt_or_eq_of_le hi with hi | rfl
   ·exact b i (Nat.le_of_lt_succ hi)
   ·exact h2 _ _ e
theorem K5 (cs:List (Int×Str)) (h:cs≠[]):∃c∈cs,Ao [.list (cs.map fun c=>.tuple [.int c.1,.str c.2])]=some (.im (.tuple [.int c.1,.str c.2]))∧∀c'∈cs,c.1≤c'.1:=by
 obtain ⟨c0,hc0⟩:∃c0,cs.head?=some c0:=by
  cases cs with
  | nil=>exact absurd rfl h
  | cons c _=>exact ⟨c,rfl⟩
 have ek:(cs.map fun c=>PyData.tuple [.int c.1,.str c.2]).map tX=cs.map fun c=>[Sum.inl c.1,Sum.inr c.2]:=by
  rw [List.map_map]
  rfl
 have hd:(cs.map fun c=>([Sum.inl c.1,Sum.inr c.2]:List Key)).headD []=[Sum.inl c0.1,Sum.inr c0.2]:=by
  cases cs with
  | nil=>cases hc0
  | cons c _=>cases hc0; rfl
 have gt:∀i,(cs.map fun c=>([Sum.inl c.1,Sum.inr c.2]:List Key)).getD i [Sum.inl c0.1,Sum.inr c0.2]=[Sum.inl (cs.getD i c0).1,Sum.inr (cs.getD i c0).2]:=fun i=>by
  rw [List.getD_eq_getElem?_getD,List.getD_eq_getElem?_getD,List.getElem?_map]
  cases cs[i]? <;> rfl
 obtain ⟨b1,b2⟩:=Jt (fun i j=>gr ((cs.map fun c=>([Sum.inl c.1,Sum.inr c.2]:List Key)).getD i [Sum.inl c0.1,Sum.inr c0.2]) ((cs.map fun c=>([Sum.inl c.1,Sum.inr c.2]:List Key)).getD j [Sum.inl c0.1,Sum.inr c0.2])) (fun i=>(cs.getD i c0).1) (fun i j e=>by
   simp only [gt,gr] at e
   split at e
   ·rename_i z
    have:=Sum.inl.inj z
    omega
   ·exact Int.le_of_lt (of_decide_eq_true e)) (fun i j e=>by
   simp only [gt,gr] at e
   split at e
   ·rename_i z
    have:=Sum.inl.inj z
    omega
   ·have:=of_decide_eq_false e
    omega) (cs.length - 1)
 have pos:0 < cs.length:=List.length_pos_iff.mpr h
 obtain ⟨k,hk⟩:∃k,k=DG (cs.map fun c=>([Sum.inl c.1,Sum.inr c.2]:List Key)):=⟨_,rfl⟩
 have hk':=hk
 unfold DG at hk'
 rw [hd,List.length_map] at hk'
 rw [←hk'] at b1 b2
 have lt:k < cs.length:=by omega
 refine ⟨cs[k],List.getElem_mem lt,?_,fun c' hc'=>?_⟩
 ·show GP (cs.map fun c=>.tuple [.int c.1,.str c.2])=_
  unfold GP
  rw [List.head?_map,hc0,ek,←hk,List.getElem?_map,List.getElem?_eq_getElem lt]
  refine if_pos fun d hd=>?_
  obtain ⟨c,_,rfl⟩:=List.mem_map.mp hd
  rfl
 ·obtain ⟨i,hi,rfl⟩:=List.getElem_of_mem hc'
  have:=b2 i (by omega)
  rw [List.getD_eq_getElem?_getD,List.getD_eq_getElem?_getD,List.getElem?_eq_getElem lt,List.getElem?_eq_getElem hi] at this
  exact this
theorem K6 {C:Ce} {ws:List (Int×Str×Str)} {st:List (Str×Int)} {p:Str} {d:Int} (hl:ws.length≤60) (hp:mC st p=some d) (hne:∃w∈ws,rC st d p w=true):
  ∃(n:Int) (t:Str),gj [.im (.list (ws.map wD)),.im (.dict (cD (stL st))),.im (.str p)] C=some (.im (.tuple [.int n,.str t]),C)∧(n,p,t)∈ws∧(∃e,mC st t=some e∧e < d)∧∀n' q' e,(n',p,q')∈ws→mC st q'=some e→e < d→n≤n':=by
 have c:=eY (T:=.many 3) (ft:=lX) (fe:=lY) (fs:=[some (.im (.str p)),some (.im (.dict (cD (stL st))))]) (C:=C) wD (rC st d p) (fun w=>.tuple [.int w.1,.str w.2.2]) (l:=ws) fun w _=>by
  refine ⟨[.int w.1,.str w.2.1,.str w.2.2],rfl,?_,fun _=>⟨.im (.tuple [.int w.1,.str w.2.2]),_,by simp_arith [jW,List.cons_append,List.nil_append]; rfl,rfl⟩⟩
  have ip:=Ui hp
  unfold rC
  cases h1:decide (w.2.1=p) with
  | false=>simp_arith [jW,List.cons_append,List.nil_append,h1]
  | true=>
   cases e:mC st w.2.2 with
   | none=>
    have h2:=decide_eq_false (di.mp e)
    simp_arith [jW,List.cons_append,List.nil_append,h1,Uh,h2]
   | some x=>
    have h2:decide (w.2.2∈st.map (·.1))=true:=by rw [←Jr,e]; rfl
    have iw:=Ui e
    simp_arith [jW,List.cons_append,List.nil_append,h1,Uh,h2,ip,iw,Option.any_some]
 obtain ⟨cs,YL⟩:∃cs:List (Int×Str),cs=(ws.filter (rC st d p)).map fun w=>(w.1,w.2.2):=⟨_,rfl⟩
 have c2:(ws.filter (rC st d p)).map (fun w=>PyData.tuple [.int w.1,.str w.2.2])=cs.map fun c=>.tuple [.int c.1,.str c.2]:=by rw [YL,List.map_map]; rfl
 rw [c2] at c
 have cl:(cs.length≤1000000)=True:=eq_true (by rw [YL,List.length_map]; have:=List.length_filter_le (rC st d p) ws; omega)
 have mem:∀n t,(n,t)∈cs ↔ (n,p,t)∈ws∧∃e,mC st t=some e∧e < d:=fun n t=>by
  rw [YL,List.mem_map]
  constructor
  ·rintro ⟨w,hw,e⟩
   cases e
   obtain ⟨h1,h2⟩:=List.mem_filter.mp hw
   obtain ⟨h3,h4⟩:=tK.mp h2
   rw [←h3]
   exact ⟨h1,h4⟩
  ·rintro ⟨h1,h2⟩
   exact ⟨(n,p,t),List.mem_filter.mpr ⟨h1,tK.mpr ⟨rfl,h2⟩⟩,rfl⟩
 have ne:cs≠[]:=fun z=>by
  obtain ⟨w,hw,h⟩:=hne
  have:(w.1,w.2.2)∈cs:=by rw [YL]; exact List.mem_map.mpr ⟨w,List.mem_filter.mpr ⟨hw,h⟩,rfl⟩
  rw [z] at this
  cases this
 have nl:fM (cs.map fun c=>PyData.tuple [.int c.1,.str c.2])=true:=by
  clear c c2 YL cl mem ne
  induction cs with
  | nil=>rfl
  | cons r l ih=>show (true&&fM (l.map _))=true; rw [ih]; rfl
 obtain ⟨⟨n,t⟩,m,e,hmin⟩:=K5 cs ne
 obtain ⟨m1,m2⟩:=(mem n t).mp m
 refine ⟨n,t,cI [some (.im (.list (ws.map wD))),some (.im (.dict (cD (stL st)))),some (.im (.str p))] rfl rfl ?_ rfl rfl,m1,m2,fun n' q' e' h1 h2 h3=>hmin (n',q') ((mem n' q').mpr ⟨h1,e',h2,h3⟩)⟩
 simp_arith [lJ,c,cl,nl,e]
theorem Qi {C:Ce} {ws:List (Int×Str×Str)} {s:Str} {st:List (Str×Int)} (hl:ws.length≤60) (hU:∀w∈ws,∀w'∈ws,w.1=w'.1→w=w') (B:Sx ws s st):∀(m:Nat) (p:Str) (d:Int),mC st p=some d→d≤m→∀(n:Nat) (acc:List Int) (v5:Option Vl),m < n→acc.length + m≤100000→
  ∃(r:List Int) (e':En),cG nJ nM n [some (.im (.list (ws.map wD))),some (.im (.str p)),some (.im (.str s)),some (.ow (.dict (cD (stL st)))),some (.ow (.list (acc.map .int))),v5] C=some (.nx,e',C)∧e'[4]?=some (some (.ow (.list ((acc++r).map .int))))∧jk ws p s r:=by
 intro m
 induction m with
 | zero=>
  intro p d hp hd n acc v5 hn ha
  have:p=s:=by
   obtain ⟨r,h1,h2⟩:=B.sound p d hp
   cases h1 with
   | nil=>rfl
   | cons _ _=>rw [List.length_cons] at h2; omega
  subst this
  cases n with
  | zero=>exact absurd hn (Nat.lt_irrefl _)
  | succ n=>
   refine ⟨[],[some (.im (.list (ws.map wD))),some (.im (.str p)),some (.im (.str p)),some (.ow (.dict (cD (stL st)))),some (.ow (.list (acc.map .int))),v5],?_,by rw [List.append_nil]; rfl,jk.self ws p⟩
   unfold cG
   simp_arith [ne_strs]
 | succ m ih=>
  intro p d hp hd n acc v5 hn ha
  cases n with
  | zero=>exact absurd hn (Nat.not_lt_zero _)
  | succ n=>
   by_cases hs:p=s
   ·subst hs
    refine ⟨[],[some (.im (.list (ws.map wD))),some (.im (.str p)),some (.im (.str p)),some (.ow (.dict (cD (stL st)))),some (.ow (.list (acc.map .int))),v5],?_,by rw [List.append_nil]; rfl,jk.self ws p⟩
    unfold cG
    simp_arith [ne_strs]
   ·have hne:∃w∈ws,rC st d p w=true:=by
     obtain ⟨r,h1,h2⟩:=B.sound p d hp
     cases h1 with
     | nil=>exact absurd rfl hs
     | cons hw hr=>
      rename_i n q r
      obtain ⟨e,h3,h4⟩:=B.whole q r hr
      rw [List.length_cons] at h2
      exact ⟨_,hw,tK.mpr ⟨rfl,e,h3,by omega⟩⟩
    obtain ⟨n1,t,e1,m1,⟨e,m2,m3⟩,hmin⟩:=K6 (C:=C) hl hp hne
    obtain ⟨r,e',e2,e3,e4⟩:=ih t e m2 (by omega) n (acc++[n1]) (some (.im (.int n1))) (by omega) (by rw [List.length_append]; show acc.length + 1 + _≤_; omega)
    have R:=jk.go hU B hp m1 ⟨e,m2,m3⟩ hmin e4
    rw [List.append_assoc] at e3
    refine ⟨n1::r,e',?_,e3,R⟩
    have g:(acc.length < 1000000)=True:=eq_true (by omega)
    have q:(p=s)=False:=eq_false hs
    rw [List.map_append] at e2
    unfold cG
    have rp:∀e e',rst (.im (.tuple [.int n1,.str t])) e e'=e:=fun _ _=>rfl
    simp_arith [ne_strs,q,e1,mj,jz,g,rp]
    exact e2
noncomputable def Ed:Option (List Int)→Vl
 | none=>.im .none
 | some r=>.ow (.list (r.map .int))
noncomputable def uc (ws:List (Int×Str×Str)) (h s:Str):Option (List Int)→Prop
 | none=>∀r,¬KQ ws h r s
 | some r=>jk ws h s r
theorem Qj {C:Ce} {ws:List (Int×Str×Str)} {h s:Str} (hl:ws.length≤60) (hU:∀w∈ws,∀w'∈ws,w.1=w'.1→w=w'):∃o,gU [.im (.list (ws.map wD)),.im (.str h),.im (.str s)] C=some (Ed o,C)∧uc ws h s o:=by
 obtain ⟨st,e1,B⟩:=Qh (C:=C) (s:=s) hl
 cases e:mC st h with
 | none=>
  have hn:=di.mp e
  refine ⟨none,cI [some (.im (.list (ws.map wD))),some (.im (.str h)),some (.im (.str s)),none,none,none] rfl rfl ?_ rfl rfl,fun r p=>hn ((B.iff h).mpr ⟨r,p⟩)⟩
  have q:=decide_eq_false hn
  simp_arith [jC,e1,wQ,q]
  rfl
 | some d=>
  obtain ⟨r0,h1,h2⟩:=B.sound h d e
  have q:decide (h∈st.map (·.1))=true:=by rw [←Jr,e]; rfl
  obtain ⟨r,e',e2,e3,e4⟩:=Qi (C:=C) hl hU B d.toNat h d e (by omega) yz [] none (by have:=B.few h d e; show _ < 100000; omega) (by have:=B.few h d e; show 0 + _≤_; omega)
  refine ⟨some r,cI [some (.im (.list (ws.map wD))),some (.im (.str h)),some (.im (.str s)),none,none,none] rfl rfl ?_ rfl rfl,e4⟩
  rw [List.map_nil] at e2
  rw [List.nil_append] at e3
  simp_arith [jC,e1,wQ,q,Oa,e2,e3]
  rfl
noncomputable def aaS (r:cL):Int×Str×Str:=(r.1,r.2.1,r.2.2.1)
theorem Ju:∀{l:List cL},(l.map (·.1)).Nodup→∀r∈l,∀r'∈l,r.1=r'.1→r=r'
 | [],_,_,h,_,_,_=>nomatch h
 | a::l,hp,r,h,r',h',e=>by
  rw [List.map_cons,List.nodup_cons] at hp
  rcases List.mem_cons.mp h with h1 | h1 <;> rcases List.mem_cons.mp h' with h2 | h2
  ·rw [h1,h2]
  ·exact absurd (List.mem_map.mpr ⟨r',h2,by rw [←h1,e]⟩) hp.1
  ·exact absurd (List.mem_map.mpr ⟨r,h1,by rw [←h2,e]⟩) hp.1
  ·exact Ju hp.2 r h1 r' h2 e
theorem uc.unique {ws:List (Int×Str×Str)} {h s:Str}:∀{o o':Option (List Int)},uc ws h s o→uc ws h s o'→o=o'
 | none,none,_,_=>rfl
 | none,some r,a,b=>absurd b.1 (a r)
 | some r,none,a,b=>absurd a.1 (b r)
 | some r,some r',a,b=>congrArg some (jk.unique a b)
noncomputable def pD (ht:eX) (os:List Str) (n day:Int) (a1 b1:Str):List (Int×Str×Str):=(ht.leaves.filter (Bb os n day a1 b1)).map aaS
theorem Qk {zs:List Str} {ps:List (Str×Str)} {ht:eX} (hG:fZ zs ps ht) (os:List Str) (n day:Int) (a1 b1:Str):(pD ht os n day a1 b1).length≤60:=by
 unfold pD
 rw [List.length_map]
 have:=List.length_filter_le (Bb os n day a1 b1) ht.leaves
 have:=hG.R0
 omega
theorem Ef {zs:List Str} {ps:List (Str×Str)} {ht:eX} (hG:fZ zs ps ht) (os:List Str) (n day:Int) (a1 b1:Str):∀w∈pD ht os n day a1 b1,∀w'∈pD ht os n day a1 b1,w.1=w'.1→w=w':=fun w h w' h' e=>by
 obtain ⟨r,m,rfl⟩:=List.mem_map.mp h
 obtain ⟨r',m',rfl⟩:=List.mem_map.mp h'
 rw [Ju hG.lnd r (List.mem_filter.mp m).1 r' (List.mem_filter.mp m').1 e]
theorem WK {C:Ce} {zs:List Str} {ps:List (Str×Str)} {ht:eX} (hN:Names zs) (hP:bO zs ps) (hG:fZ zs ps ht) (z a1 b1:Str) (n day:Int):
  jc [.im (cP ht),.im (ie z a1 b1 n),.im (.int day)] C=some (.ow (.list ((pD ht (up ps z) n day a1 b1).map wD)),C):=by
 rw [Tc hN hP hG]
 unfold pD
 rw [List.map_map]
 rfl
theorem rD {C:Ce} {zs:List Str} {ps:List (Str×Str)} {ht:eX} (hN:Names zs) (hP:bO zs ps) (hG:fZ zs ps ht) (z a1 b1:Str) (n day:Int) (h s:Str):
  ∃o,gW [.im (cP ht),.im (ie z a1 b1 n),.im (.str h),.im (.str s),.im (.int day)] C=some (Ed o,C)∧(((h=a1∨h=b1)∨(s=a1∨s=b1))→o=none)∧(¬((h=a1∨h=b1)∨(s=a1∨s=b1))→uc (pD ht (up ps z) n day a1 b1) h s o):=by
 have s1:=uK (C:=C) (z:=z) (a1:=a1) (b1:=b1) (n:=n) (p:=h)
 have s2:=uK (C:=C) (z:=z) (a1:=a1) (b1:=b1) (n:=n) (p:=s)
 have w:=WK (C:=C) hN hP hG z a1 b1 n day
 obtain ⟨o,e,ho⟩:=Qj (C:=C) (h:=h) (s:=s) (Qk hG (up ps z) n day a1 b1) (Ef hG (up ps z) n day a1 b1)
 have ok:yC C.length (Ed o)=true:=by cases o <;> rfl
 by_cases h1:h=a1∨h=b1
 ·refine ⟨none,cI [some (.im (cP ht)),some (.im (ie z a1 b1 n)),some (.im (.str h)),some (.im (.str s)),some (.im (.int day))] rfl rfl ?_ rfl rfl,fun _=>rfl,fun z=>absurd (.inl h1) z⟩
  rw [decide_eq_true h1] at s1
  simp_arith [nO,s1]
  rfl
 ·rw [decide_eq_false h1] at s1
  by_cases h2:s=a1∨s=b1
  ·refine ⟨none,cI [some (.im (cP ht)),some (.im (ie z a1 b1 n)),some (.im (.str h)),some (.im (.str s)),some (.im (.int day))] rfl rfl ?_ rfl rfl,fun _=>rfl,fun z=>absurd (.inr h2) z⟩
   rw [decide_eq_true h2] at s2
   simp_arith [nO,s1,s2]
   rfl
  ·rw [decide_eq_false h2] at s2
   refine ⟨o,cI [some (.im (cP ht)),some (.im (ie z a1 b1 n)),some (.im (.str h)),some (.im (.str s)),some (.im (.int day))] rfl rfl ?_ ok rfl,fun z=>absurd z fun z=>z.elim h1 h2,fun _=>ho⟩
   simp_arith [nO,s1,s2,w,e]
theorem Eg {C:Ce} (n:Nat) (o:Option (List Int)) (hl:∀r,o=some r→r.length≤1000):dz (n + 2) [still (Ed o),still (Ed o)] C=some (.im (.bool true),C):=by
 cases o with
 | none=>exact same_none (n + 1)
 | some r=>exact same_ints n r (hl r rfl)
theorem Bd {α:Type} {f:α→PyData} (h:∀a,xF (f a)=true):∀l:List α,fM (l.map f)=true
 | []=>rfl
 | a::l=>by
  show (xF (f a)&&fM (l.map f))=true
  rw [h a,Bd h l]
  rfl
theorem Jv (h:eX) (e f:En):rst (.im (cP h)) e f=e:=by
 refine if_pos ?_
 show (fM (h.ps.map oZ)&&(fM (h.t8.map oY)&&(fM (h.leaves.map cH)&&(fM (h.rules.map Dq)&&true))))=true
 rw [Bd (fun _=>rfl),Bd (fun _=>rfl),Bd (fun _=>rfl),yM]
 rfl
theorem K7 (ps:List (Str×Str)):ni [.dict (cD (bF ps))]=some (.im (.int ps.length)):=by
 have:Oj (.dict (cD (bF ps)))=some ps.length:=by
  show (if (b7 cN (cD (bF ps))).isSome then some (cD (bF ps)).length else none)=_
  rw [qY]
  unfold cD bF
  rw [List.length_map,List.length_map]
  rfl
 unfold ni
 simp only [this]
 rfl
theorem oH {zs:List Str} {k:Nat} (h:k < zs.length):∃z,z∈zs∧zs[k]?=some z∧ju (zs.map PyData.str) (k:Int)=some (.str z):=by
 obtain ⟨z,h1,h2,h3⟩:=rm (zs:=zs) (k:=(k:Int)) (by omega) (by omega)
 exact ⟨z,h1,by rw [Int.toNat_natCast] at h2; exact h2,h3⟩
theorem G9 {zs:List Str} {m:Nat} {ps:List (Str×Str)} (h:bO (zs.take m) ps):bO zs ps:=fun i x e=>by
 have up:∀j z,(zs.take m)[j]?=some z→zs[j]?=some z:=fun j z e=>by
  rw [List.getElem?_take] at e
  split at e
  ·exact e
  ·cases e
 obtain ⟨h1,h2⟩:=h i x e
 exact ⟨up i _ h1,h2.imp_right fun ⟨j,a,b⟩=>⟨j,a,up j _ b⟩⟩
theorem Td {zs:List Str} {ps:List (Str×Str)} (hP:bO zs ps) {k:Int} (h0:0≤k) (h1:k < ps.length):∃z,z∈ps.map (·.1)∧z∈zs∧ju (zs.map PyData.str) k=some (.str z):=by
 have hk:=pW hP
 have hl:ps.length≤zs.length:=by
  have:=congrArg List.length hk
  rw [List.length_map,List.length_take] at this
  omega
 obtain ⟨z,m,e,a⟩:=rm (zs:=zs) (k:=k) h0 (by omega)
 refine ⟨z,?_,m,a⟩
 rw [hk]
 refine List.mem_of_getElem? (i:=k.toNat) ?_
 rw [List.getElem?_take,if_pos (by omega)]
 exact e
theorem Ql {f:Str→Option Str} {z:Str} {os:List Str} (h:Over f z os):∀y∈os,∃w,f y=some w:=by
 induction h with
 | stop _=>exact fun y hy=>absurd hy List.not_mem_nil
 | step h _ ih=>
  intro y hy
  rcases List.mem_cons.mp hy with rfl | hy
  ·exact ⟨_,h⟩
  ·exact ih y hy
theorem WL {zs:List Str} {ps:List (Str×Str)} (hN:Names zs) (hP:bO zs ps) {z y:Str} (h:y∈up ps z):y∈ps.map (·.1):=by
 obtain ⟨w,e⟩:=Ql (qX hN hP z) y h
 exact List.mem_map.mpr ⟨(y,w),(cQ (fD hN hP)).mp e,rfl⟩
theorem WM {zs:List Str} {ps ps':List (Str×Str)} {lv:List cL} (p1:ps'.Perm ps) (p8:ps.length≤8) (R0:lv.length≤16) (hl:∀r∈lv,Ai zs (ps.map (·.1)) r) (up:(lv.map (·.1)).Nodup):fZ zs ps ⟨ps',[],lv,[]⟩ where
 parts:=p1
 p8:=p8
 r20:=Nat.zero_le _
 R0:=R0
 u10:=Nat.zero_le _
 t8:=fun r h=>absurd h List.not_mem_nil
 rup:=List.Pairwise.nil
 leaves:=hl
 lnd:=up
 rules:=fun r h=>absurd h List.not_mem_nil
 unlike:=List.nodup_nil
theorem lay_ints:∀ns:List Int,PyData.canLayAll0 (ns.map PyData.int)=true∧PyData.depthAll (ns.map PyData.int)=0∧Cr (ns.map PyData.int)=true
 | []=>⟨by simp [PyData.canLayAll0],by simp [PyData.depthAll],rfl⟩
 | z::zs=>by
  obtain ⟨h1,h2,h3⟩:=lay_ints zs
  refine ⟨by simp [PyData.canLayAll0,PyData.canLay0]; simpa using h1,by simp only [List.map_cons,PyData.depthAll,PyData.depth,h2]; rfl,?_⟩
  show (true&&Cr (zs.map PyData.int))=true
  rw [h3]
  rfl
theorem shaped_ints (ns:List Int):PySem.SeqAt.shaped (.list (ns.map PyData.int))=true:=by
 obtain ⟨h1,h2,_⟩:=lay_ints ns
 unfold PySem.SeqAt.shaped
 simp only [PyData.canLay0,h1,PyData.depth,h2]
 decide
theorem Te (x:Int) (l:List Int):pM (.list ((x::l).map .int)) (.list [])=some (.im (.bool true)):=by
 have e:VM (.list ((x::l).map .int)) (.list [])=some false:=by
  show (if Nk (.list ((x::l).map PyData.int))&&Nk (.list [])&&(PySem.SeqAt.shaped (.list ((x::l).map PyData.int))&&PySem.SeqAt.shaped (.list [])) then some (PyData.eqv (.list ((x::l).map .int)) (.list [])) else none)=_
  rw [shaped_ints,show Nk (.list ((x::l).map PyData.int))=true from (lay_ints (x::l)).2.2]
  rfl
 simp only [pM,e,Option.map_some]
 rfl
theorem Qm (l:List Int):pM (.list (l.map .int)) (.list [])=some (.im (.bool (!l.isEmpty))):=by
 cases l with
 | nil=>rfl
 | cons x l=>exact Te x l
theorem p7 {α:Type} {zs:List α} (h:zs.Nodup) {i j:Nat} {x:α} (hi:zs[i]?=some x) (hj:zs[j]?=some x):i=j:=by
 obtain ⟨x1,y1⟩:=List.getElem?_eq_some_iff.mp hi
 obtain ⟨x2,y2⟩:=List.getElem?_eq_some_iff.mp hj
 have hp:=List.pairwise_iff_getElem.mp h
 rcases Nat.lt_trichotomy i j with l | l | l
 ·exact absurd (y1.trans y2.symm) (hp i j x1 x2 l)
 ·exact l
 ·exact absurd (y2.trans y1.symm) (hp j i x2 x1 l)
theorem Jw {α:Type} (D:α→PyData) {xs:List α} {a b:Nat} (h:a≤b) (hb:b≤xs.length):xK (xs.map D) (some (a:Int)) (some (b:Int))=((xs.drop a).take (b - a)).map D:=by
 unfold xK
 rw [List.length_map,HT.zx,HT.zx,Nat.min_eq_left (show a≤xs.length by omega),Nat.min_eq_left hb,List.map_take,List.map_drop]
theorem yX {α:Type} (D:α→PyData):∀(l:List α) (n:Nat),(l.map D).eraseIdx n=(l.eraseIdx n).map D
 | [],_=>rfl
 | _::_,0=>rfl
 | x::l,n + 1=>congrArg (D x::·) (yX D l n)
theorem wU {α:Type}:∀{l:List α} {n:Nat} {x:α},l[n]?=some x→(x::l.eraseIdx n).Perm l
 | [],_,_,h=>by cases h
 | y::l,0,x,h=>by cases h; exact .refl _
 | y::l,n + 1,x,h=>(List.Perm.swap y x _).trans ((wU (l:=l) (n:=n) h).cons y)
theorem yZ {α:Type} {D:α→PyData} (hne:∀l:List α,pM (.list (l.map D)) (.list [])=some (.im (.bool (!l.isEmpty)))) {b L j:Nat} {v1:Option Vl}:∀(n:Nat) (rest found:List α) (C:Ce),rest.length < n→found.length + rest.length≤100→Bl L C b (j + rest.length)→
  ∃(ys:List α) (C':Ce),cG nP nQ n [some (.ce b),v1,some (.ow (.list (rest.map D))),some (.ow (.list (found.map D)))] C=some (.nx,[some (.ce b),v1,some (.ow (.list [])),some (.ow (.list ((found++ys).map D)))],C')∧ys.Perm rest∧Bl L C' b j
 | 0,rest,found,C,h,_,_=>absurd h (Nat.not_lt_zero _)
 | n + 1,rest,found,C,hn,hl,hB=>by
  have e0:=hne rest
  by_cases hr:rest=[]
  ·subst hr
   refine ⟨[],C,?_,.refl _,hB⟩
   unfold cG
   rw [List.append_nil]
   simp only [List.map_nil,List.isEmpty_nil] at e0
   simp_arith [e0]
  ·have hp:0 < rest.length:=List.length_pos_iff.mpr hr
   have e0:pM (.list (rest.map D)) (.list [])=some (.im (.bool true)):=by
    rw [e0]
    cases rest with
    | nil=>exact absurd rfl hr
    | cons _ _=>rfl
   obtain ⟨t,C1,e1,t0,t1,yW⟩:=bQ (m:=(rest.length:Int)) (k:=j + (rest.length - 1)) (by rw [show j + (rest.length - 1) + 1=j + rest.length by omega]; exact hB) (by omega) (by omega)
   have hk:t.toNat < rest.length:=by omega
   have q1:(rest.map D)[t.toNat]?=some (D rest[t.toNat]):=by rw [List.getElem?_map,List.getElem?_eq_getElem hk]; rfl
   have q2:(rest.map D).eraseIdx t.toNat=(rest.eraseIdx t.toNat).map D:=yX D _ _
   have pm:(rest[t.toNat]::rest.eraseIdx t.toNat).Perm rest:=wU (List.getElem?_eq_getElem hk)
   have ll:(rest.eraseIdx t.toNat).length=rest.length - 1:=List.length_eraseIdx_of_lt hk
   obtain ⟨ys,C',e2,p2,hB2⟩:=yZ hne n (rest.eraseIdx t.toNat) (found++[rest[t.toNat]]) C1 (by omega) (by rw [List.length_append]; show found.length + 1 + _≤_; omega) (by rw [ll]; exact yW)
   refine ⟨rest[t.toNat]::ys,C',?_,(p2.cons _).trans pm,hB2⟩
   have g1:(0≤t∧t < ((1000000:Nat):Int))=True:=eq_true ⟨t0,by omega⟩
   have g2:(found.length < 1000000)=True:=eq_true (by omega)
   rw [List.append_assoc,List.map_append (l₁:=found)] at e2
   unfold cG
   simp_arith [e0,Pz,GX,intD,e1,g1,q1,g2,q2,ne_eq,not_false_eq_true,Nat.reduceEqDiff]
   exact e2
theorem Tf {α:Type} {D:α→PyData} (hne:∀l:List α,pM (.list (l.map D)) (.list [])=some (.im (.bool (!l.isEmpty)))) {C:Ce} {b L j:Nat} {xs:List α} (hl:xs.length≤100) (hB:Bl L C b (j + xs.length)):
  ∃(ys:List α) (C':Ce),gY [.ce b,.im (.list (xs.map D))] C=some (.ow (.list (ys.map D)),C')∧ys.Perm xs∧Bl L C' b j:=by
 obtain ⟨ys,C',e,p,hB'⟩:=yZ hne (v1:=some (.im (.list (xs.map D)))) yz xs [] C (by show _ < 100000; omega) (by show 0 + _≤_; omega) hB
 rw [List.map_nil,List.nil_append] at e
 refine ⟨ys,C',cI [some (.ce b),some (.im (.list (xs.map D))),none,none] rfl rfl ?_ rfl (hB.eq hB'),p,hB'⟩
 simp_arith [nR,uE,Oa,e]
section
variable {ws:List (Int×Str×Str)} {pe:Nat→Str} {nu:Nat→Int} {m gap:Nat}
noncomputable def seg (nu:Nat→Int) (i n:Nat):List Int:=(List.range n).map fun t=>nu (i + t)
theorem Eh (nu:Nat→Int) (i n:Nat):seg nu i (n + 1)=nu i::seg nu (i + 1) n:=by
 unfold seg
 rw [List.range_succ_eq_map,List.map_cons,List.map_map]
 refine congrArg _ (List.map_congr_left fun t _=>?_)
 show nu (i + (t + 1))=nu (i + 1 + t)
 rw [Nat.add_assoc,Nat.add_comm 1 t]
noncomputable def WN (ws:List (Int×Str×Str)) (pe:Nat→Str) (nu:Nat→Int) (m gap:Nat):Prop:=∀n p q,(n,p,q)∈ws ↔ ∃k,k + 1 < m∧k≠gap∧n=nu k∧p=pe k∧q=pe (k + 1)
theorem wV (hw:WN ws pe nu m gap) (hi:∀i j,i < m→j < m→pe i=pe j→i=j) {p s:Str} {r:List Int} (h:KQ ws p r s):∀i,i < m→p=pe i→∃n,i + n < m∧s=pe (i + n)∧r=seg nu i n∧¬(i≤gap∧gap < i + n):=by
 induction h with
 | nil p=>exact fun i hi e=>⟨0,hi,e,rfl,by omega⟩
 | cons hm _ ih=>
  intro i him e
  obtain ⟨k,h1,h2,rfl,h4,h5⟩:=(hw _ _ _).mp hm
  have:k=i:=hi k i (by omega) him (h4.symm.trans e)
  subst this
  obtain ⟨n,a,b,c,d⟩:=ih (k + 1) h1 h5
  exact ⟨n + 1,by omega,by rw [b]; congr 1; omega,by rw [Eh,c],by omega⟩
theorem za (hw:WN ws pe nu m gap):∀(n i:Nat),i + n < m→¬(i≤gap∧gap < i + n)→KQ ws (pe i) (seg nu i n) (pe (i + n))
 | 0,i,_,_=>.nil _
 | n + 1,i,h,g=>by
  rw [Eh]
  have:=za hw n (i + 1) (by omega) (by omega)
  rw [show i + 1 + n=i + (n + 1) by omega] at this
  exact .cons ((hw _ _ _).mpr ⟨i,by omega,by omega,rfl,rfl,rfl⟩) this
theorem wW:∀r:List Int,lexLe r r
 | []=>trivial
 | a::r=>.inr ⟨rfl,wW r⟩
theorem K8 (hw:WN ws pe nu m gap) (hi:∀i j,i < m→j < m→pe i=pe j→i=j) {i j:Nat} (h1:i < m) (h2:j < m):uc ws (pe i) (pe j) (if i≤j∧¬(i≤gap∧gap < j) then some (seg nu i (j - i)) else none):=by
 by_cases h:i≤j∧¬(i≤gap∧gap < j)
 ·rw [if_pos h]
  have e:i + (j - i)=j:=by omega
  refine ⟨by have:=za hw (j - i) i (by omega) (by rw [e]; exact h.2); rw [e] at this; exact this,fun r' h'=>?_⟩
  obtain ⟨n,a,b,c,_⟩:=wV hw hi h' i h1 rfl
  have:n=j - i:=by have:=hi j (i + n) h2 a b; omega
  subst this
  rw [c]
  exact .inr ⟨rfl,wW _⟩
 ·rw [if_neg h]
  intro r h'
  obtain ⟨n,a,b,c,d⟩:=wV hw hi h' i h1 rfl
  have:=hi j (i + n) h2 a b
  exact h ⟨by omega,by rw [this]; exact d⟩
theorem Ei (hw:WN ws pe nu m gap) {x y:Str} (hx:∀i,i < m→x≠pe i) (hn:x≠y):uc ws x y none:=fun r h=>by
 cases h with
 | nil=>exact hn rfl
 | cons hm _=>
  obtain ⟨k,h1,_,_,h4,_⟩:=(hw _ _ _).mp hm
  exact hx k (by omega) h4
theorem Ej (hw:WN ws pe nu m gap) (hi:∀i j,i < m→j < m→pe i=pe j→i=j) {i:Nat} {y:Str} (hx:∀i,i < m→y≠pe i) (h1:i < m):uc ws (pe i) y none:=fun r h=>by
 obtain ⟨n,a,b,_⟩:=wV hw hi h i h1 rfl
 exact hx _ a b
end
noncomputable abbrev uv (b:Nat) (zs:List Str) (many:Int) (pv:Vl) (pe:List Str) (ov pap:PyData) (day:Int) (nu:List Int) (lv:List cL) (gap:Int) (v11 iY Lg Pg Er yK Bo Am:Option Vl):En:=
 [some (.ce b),some (.ow (.list (zs.map .str))),some (.im (.int many)),some pv,some (.ow (.list (pe.map .str))),some (.im ov),some (.im pap),some (.im (.int day)),some (.ow (.list (nu.map .int))),some (.ow (.list (lv.map cH))),some (.im (.int gap)),v11,iY,Lg,Pg,Er,yK,Bo,Am]
structure Tg (zs own os:List Str) (day:Int) (a1 b1:Str) (k:Nat) (gap num:Int) (g t:Str) (r:cL):Prop where
 num:r.1=num
 giver:r.2.1=g
 taker:r.2.2.1=t
 ok:Ai zs own r
 lets:Bb os 70 day a1 b1 r=!decide ((k:Int)=gap)
theorem Th {os:List Str} {n day:Int} {a1 b1:Str} {r:cL} {v:Bool} (h1:r.2.2.2.1∈os) (h2:(decide (r.2.2.2.2.1≤day)&&decide (day≤r.2.2.2.2.2.1)&&decide (n≤r.2.2.2.2.2.2))=v) (h3:¬(r.2.1=a1∨r.2.1=b1)) (h4:¬(r.2.2.1=a1∨r.2.2.1=b1)):Bb os n day a1 b1 r=v:=by
 unfold Bb
 rw [decide_eq_true h1,decide_eq_false h3,decide_eq_false h4,←h2]
 cases decide (r.2.2.2.2.1≤day) <;> cases decide (day≤r.2.2.2.2.2.1) <;> cases decide (n≤r.2.2.2.2.2.2) <;> rfl
theorem Qn {C:Ce} {b L j k:Nat} {zs pe:List Str} {ps:List (Str×Str)} {z a1 b1 g t:Str} {day gap num many:Int} {nu:List Int} {lv:List cL} {pv:Vl} (hpv:pv=.ow (.dict (cD (bF ps)))∨pv=.im (.dict (cD (bF ps)))) (hB:Bl L C b (j + 4)) (hN:Names zs) (hP:bO zs ps) (p8:ps.length≤8) (hz:z∈ps.map (·.1)) (d1:5≤day) (d2:day≤9) (n0:0≤num∧num≤2000) (hn:nu[k]?=some num) (hg:pe[k]?=some g) (ht:pe[k + 1]?=some t) (mg:g∈zs) (mt:t∈zs) (hne:g≠t) (s1:¬(g=a1∨g=b1)) (s2:¬(t=a1∨t=b1)) (ll:lv.length≤16) (iY Lg Pg Er yK Bo Am:Option Vl):
  ∃(r:cL) (C':Ce) (w12 w13 w14:Option Vl),bK (uv b zs many pv pe (.str z) (ie z a1 b1 70) day nu lv gap (some (.im (.int (k:Int)))) iY Lg Pg Er yK Bo Am) C=some (.nx,uv b zs many (.im (.dict (cD (bF ps)))) pe (.str z) (ie z a1 b1 70) day nu (lv++[r]) gap (some (.im (.int (k:Int)))) w12 w13 w14 Er yK Bo Am,C')∧Tg zs (ps.map (·.1)) (up ps z) day a1 b1 k gap num g t r∧Bl L C' b j:=by
 refine hide fun GG gg=>?_
 have o1:=Qg (C:=C) hN hP p8 z
 have hup:∃w,cO ps z=some w:=by
  obtain ⟨x,hx,rfl⟩:=List.mem_map.mp hz
  exact ⟨x.2,(cQ (fD hN hP)).mpr hx⟩
 obtain ⟨w,hw⟩:=hup
 have ue:=R4 hN hP hw
 have ul:=GD ps z
 have u0:0 < (up ps z).length:=by rw [ue]; exact Nat.succ_pos _
 obtain ⟨t1,C1,e1,a0,a1',yW⟩:=bQ (m:=((up ps z).length:Int)) (k:=j + 3) hB (by omega) (by omega)
 obtain ⟨y,my,_,iy⟩:=rm (zs:=up ps z) a0 a1'
 obtain ⟨t2,C2,e2,b0,b1',hB2⟩:=bQ (m:=3) (k:=j + 2) yW (by decide) (by decide)
 obtain ⟨t3,C3,e3,c0,c1',hB3⟩:=bQ (m:=3) (k:=j + 1) hB2 (by decide) (by decide)
 have own:y∈ps.map (·.1):=WL hN hP my
 have xn:ju (nu.map PyData.int) (k:Int)=some (.int num):=fO (by rw [List.getElem?_map,hn]; rfl)
 have xg:ju (pe.map PyData.str) (k:Int)=some (.str g):=fO (by rw [List.getElem?_map,hg]; rfl)
 have xt:ju (pe.map PyData.str) ((k:Int) + 1)=some (.str t):=fO (j:=k + 1) (by rw [List.getElem?_map,ht]; rfl)
 have q:(lv.length < 1000000)=True:=eq_true (by omega)
 have Zv:∀a b c d e f g:PyData,bu (.tuple [a,b,c]) (.tuple [d,e,f,g])=some (.im (.tuple [a,b,c,d,e,f,g])):=fun _ _ _ _ _ _ _=>Yz (Nat.le_of_ble_eq_true rfl)
 have fin:∀(f l m:Int) (C4:Ce) (w13 w14:Option Vl),(0≤f∧f≤l∧l≤99999)→(0≤m∧m≤1000000000)→(decide (f≤day)&&decide (day≤l)&&decide (70≤m))=(!decide ((k:Int)=gap))→Bl L C4 b j→(bK (uv b zs many pv pe (.str z) (ie z a1 b1 70) day nu lv gap (some (.im (.int (k:Int)))) iY Lg Pg Er yK Bo Am) C=some (.nx,uv b zs many (.im (.dict (cD (bF ps)))) pe (.str z) (ie z a1 b1 70) day nu (lv++[(num,g,t,y,f,l,m)]) gap (some (.im (.int (k:Int)))) (some (.ow (.list ((up ps z).map .str)))) w13 w14 Er yK Bo Am,C4))→GG:=fun f l m C4 w13 w14 hd hm hv S8 run=>gg ⟨(num,g,t,y,f,l,m),C4,_,w13,w14,run,⟨rfl,rfl,rfl,⟨n0,mg,mt,hne,own,hd,hm⟩,Th my hv s1 s2⟩,S8⟩
 by_cases hk:(k:Int)=gap
 ·have hb:((k:Int)==gap)=true:=beq_iff_eq.mpr hk
  have hd:=decide_eq_true hk
  obtain ⟨t4,C4,e4,f0,f1',S8⟩:=bQ (m:=3) (k:=j) hB3 (by decide) (by decide)
  have h3:t4=0∨t4=1∨t4=2:=by omega
  rcases h3 with rfl | rfl | rfl
  ·refine fin (day + 1) (day + 9) 70 C4 (some (.im (.list [.str y,.int (day + 1),.int (day + 9),.int 70]))) (some (.im (.int 0))) (by omega) (by omega) (by rw [hd,decide_eq_false (by omega)]; rfl) S8 ?_
   rcases hpv with rfl | rfl <;> simp_arith [bK,o1,e1,iy,e2,e3,hb,e4,gG,xn,xg,xt,Zv,mj,jz,q] <;> simp only [uv,List.map_append,List.map_cons,List.map_nil,cH]
  ·refine fin 0 (day - 1) 70 C4 (some (.im (.list [.str y,.int 0,.int (day - 1),.int 70]))) (some (.im (.int 1))) (by omega) (by omega) (by rw [hd,decide_eq_false (show ¬day≤day - 1 by omega),Bool.and_false]; rfl) S8 ?_
   rcases hpv with rfl | rfl <;> simp_arith [bK,o1,e1,iy,e2,e3,hb,e4,gG,xn,xg,xt,Zv,mj,jz,q] <;> simp only [uv,List.map_append,List.map_cons,List.map_nil,cH]
  ·refine fin 0 99999 69 C4 (some (.im (.list [.str y,.int 0,.int 99999,.int 69]))) (some (.im (.int 2))) (by omega) (by omega) (by rw [hd,decide_eq_false (show ¬(70:Int)≤69 by omega),Bool.and_false]; rfl) S8 ?_
   rcases hpv with rfl | rfl <;> simp_arith [bK,o1,e1,iy,e2,e3,hb,e4,gG,xn,xg,xt,Zv,mj,jz,q] <;> simp only [uv,List.map_append,List.map_cons,List.map_nil,cH]
 ·have hb:((k:Int)==gap)=false:=beq_eq_false_iff_ne.mpr hk
  have hd:=decide_eq_false hk
  refine fin (day - t2) (day + t3) 70 C3 (some (.ow (.list [.str y,.int (day - t2),.int (day + t3),.int 70]))) Pg (by omega) (by omega) (by rw [hd,decide_eq_true (show day - t2≤day by omega),decide_eq_true (show day≤day + t3 by omega)]; rfl) hB3.dec ?_
  rcases hpv with rfl | rfl <;> simp_arith [bK,o1,e1,iy,e2,e3,hb,gG,xn,xg,xt,Zv,mj,jz,q] <;> simp only [uv,List.map_append,List.map_cons,List.map_nil,cH]
theorem Ti {nu:List Int} {a n:Nat} (h:a + n≤nu.length):seg (fun k=>nu.getD k 0) a n=(nu.drop a).take n:=by
 unfold seg
 refine List.ext_getElem (by rw [List.length_map,List.length_range,List.length_take,List.length_drop]; omega) fun i h1 h2=>?_
 rw [List.length_map,List.length_range] at h1
 rw [List.getElem_map,List.getElem_range,List.getElem_take,List.getElem_drop]
 show nu.getD (a + i) 0=_
 rw [List.getD_eq_getElem?_getD,List.getElem?_eq_getElem (by omega)]
 rfl
theorem K9 {C:Ce} {b L j m:Nat} {zs pe:List Str} {ps:List (Str×Str)} {z a1 b1:Str} {day gap many:Int} {nu:List Int} (hB:Bl L C b (j + 4 * m)) (hm:m≤16) (hN:Names zs) (hP:bO zs ps) (p8:ps.length≤8) (hz:z∈ps.map (·.1)) (d1:5≤day) (d2:day≤9) (hn:∀x∈nu,0≤x∧x≤2000) (nl:nu.length=m) (pl:pe.length=m + 1) (pz:∀x∈pe,x∈zs∧¬(x=a1∨x=b1)) (pn:pe.Nodup) (Er yK Bo Am:Option Vl):
  ∃(lv:List cL) (C':Ce) (pv:Vl) (w11 w12 w13 w14:Option Vl),jg (gNm 11) bK (gk 0 m) (uv b zs many (.ow (.dict (cD (bF ps)))) pe (.str z) (ie z a1 b1 70) day nu [] gap none none none none Er yK Bo Am) C=some (.nx,uv b zs many pv pe (.str z) (ie z a1 b1 70) day nu lv gap w11 w12 w13 w14 Er yK Bo Am,C')∧(pv=.ow (.dict (cD (bF ps)))∨pv=.im (.dict (cD (bF ps))))∧lv.length=m∧(∀k r,lv[k]?=some r→∃num g t,nu[k]?=some num∧pe[k]?=some g∧pe[k + 1]?=some t∧Tg zs (ps.map (·.1)) (up ps z) day a1 b1 k gap num g t r)∧Bl L C' b j:=by
 refine hide fun GG gg=>?_
 obtain ⟨env',C',e,lv,pv,w11,w12,w13,w14,he,hpv,hl,hr,hB'⟩:=gw (g:=gNm 11) (body:=bK) (its:=gk 0 m) (env:=uv b zs many (.ow (.dict (cD (bF ps)))) pe (.str z) (ie z a1 b1 70) day nu [] gap none none none none Er yK Bo Am) (C:=C)
  (fun i env C2=>∃(lv:List cL) (pv:Vl) (w11 w12 w13 w14:Option Vl),env=uv b zs many pv pe (.str z) (ie z a1 b1 70) day nu lv gap w11 w12 w13 w14 Er yK Bo Am∧(pv=.ow (.dict (cD (bF ps)))∨pv=.im (.dict (cD (bF ps))))∧lv.length=i∧(∀k r,lv[k]?=some r→∃num g t,nu[k]?=some num∧pe[k]?=some g∧pe[k + 1]?=some t∧Tg zs (ps.map (·.1)) (up ps z) day a1 b1 k gap num g t r)∧Bl L C2 b (j + 4 * (m - i)))
  ⟨[],_,none,none,none,none,rfl,.inl rfl,rfl,(fun k r h=>by cases h),hB⟩ (fun i d env C2 hd hI=>by
   obtain ⟨lv,pv,w11,w12,w13,w14,rfl,hpv,hl,hr,hB⟩:=hI
   obtain ⟨rfl,hi⟩:=lC hd
   rw [Jj j 4 hi] at hB
   have k1:i < nu.length:=by omega
   have k2:i < pe.length:=by omega
   have k3:i + 1 < pe.length:=by omega
   have g1:=List.getElem?_eq_getElem k1
   have g2:=List.getElem?_eq_getElem k2
   have g3:=List.getElem?_eq_getElem k3
   obtain ⟨y1,y2⟩:=pz _ (List.getElem_mem k2)
   obtain ⟨y3,y4⟩:=pz _ (List.getElem_mem k3)
   obtain ⟨r,C3,w12,w13,w14,e,h1,hB3⟩:=Qn (many:=many) (gap:=gap) (lv:=lv) hpv hB hN hP p8 hz d1 d2 (hn _ (List.getElem_mem k1)) g1 g2 g3 y1 y3 (List.pairwise_iff_getElem.mp pn i (i + 1) k2 k3 (Nat.lt_succ_self i)) y2 y4 (by omega) w12 w13 w14 Er yK Bo Am
   rw [Int.zero_add]
   refine ⟨_,.nx,_,C3,rfl,e,.inl rfl,lv++[r],_,_,_,_,_,rfl,.inr rfl,by rw [List.length_append,hl]; rfl,fun k q hq=>?_,hB3⟩
   rcases Nat.lt_or_ge k lv.length with lt | ge
   ·rw [List.getElem?_append_left lt] at hq
    exact hr k q hq
   ·rw [List.getElem?_append_right ge] at hq
    have:k=i:=by
     have:=(List.getElem?_eq_some_iff.mp hq).1
     simp only [List.length_singleton] at this
     omega
    subst this
    rw [hl,Nat.sub_self] at hq
    cases hq
    exact ⟨_,_,_,g1,g2,g3,h1⟩)
 rw [show (gk 0 m).length=m by unfold gk; rw [List.length_map,List.length_range]] at hl hB'
 subst he
 exact gg ⟨lv,C',pv,w11,w12,w13,w14,e,hpv,hl,hr,hB'.mono (Nat.le_add_right _ _)⟩
theorem Tj:∀(lv:List cL),0 < lv.length→lv.length≤16→∃lv':List cL,lv'.Perm lv∧uF [.list (lv.map cH)]=some (.ow (.list (lv'.map cH))):=by
 intro lv h0 h8
 have hall:∀p∈lv.map cH,sO p=some [true,false,false,false,true,true,true]:=fun p hp=>by
  obtain ⟨q,_,rfl⟩:=List.mem_map.mp hp
  rfl
 have hs:Dg (lv.map cH)=some (sV (lv.map cH)):=by
  cases lv with
  | nil=>cases h0
  | cons r rs=>
   unfold Dg
   rw [if_pos (by rw [List.length_map]; omega),show intsOf ((r::rs).map cH)=none from rfl,show strsOf ((r::rs).map cH)=none from rfl]
   show (if (((r::rs).map cH).all fun p=>decide (sO p=some [true,false,false,false,true,true,true]))=true then some (sV ((r::rs).map cH)) else none)=_
   exact if_pos (List.all_eq_true.mpr fun p hp=>decide_eq_true (hall p hp))
 obtain ⟨lv',p1,p2⟩:=qW (yF (ds:=lv.map cH) fun d hd=>by obtain ⟨p,_,rfl⟩:=List.mem_map.mp hd; rfl)
 refine ⟨lv',p1,?_⟩
 unfold uF qP
 simp only [hs,p2,Option.map_some]
theorem Tn {C:Ce} {b L j m gap:Nat} {zs pe:List Str} {ps:List (Str×Str)} {ht:eX} (hB:Bl L C b (j + 2)) (hN:Names zs) (hP:bO zs ps) (hG:fZ zs ps ht) {z a1 b1:Str} {day:Int} {nu:List Int} {lv:List cL} {pv:Vl} (hm:m≤16) (nl:nu.length=m) (pl:pe.length=m + 1) (hw:WN (pD ht (up ps z) 70 day a1 b1) (fun k=>pe.getD k (Str.ofString "")) (fun k=>nu.getD k 0) (m + 1) gap) (pn:pe.Nodup) (pz:∀x∈pe,x∈zs∧¬(x=a1∨x=b1)) (v11 iY Lg Pg yK Bo Am:Option Vl):
  ∃(C':Ce) (w14 w17 w18:Option Vl),cu (uv b zs ((m:Int) + 1) pv pe (.str z) (ie z a1 b1 70) day nu lv gap v11 iY Lg Pg (some (.im (cP ht))) yK Bo Am) C=some (.nx,uv b zs ((m:Int) + 1) pv pe (.str z) (ie z a1 b1 70) day nu lv gap v11 iY Lg w14 (some (.im (cP ht))) yK w17 w18,C')∧Bl L C' b j:=by
 refine hide fun GG gg=>?_
 obtain ⟨t1,C1,e1,a0,a1',yW⟩:=bQ (m:=(m:Int) + 1) (k:=j + 1) hB (by omega) (by omega)
 obtain ⟨t2,C2,e2,b0,b1',hB2⟩:=bQ (m:=(m:Int) + 1) (k:=j) yW (by omega) (by omega)
 obtain ⟨i,rfl⟩:∃i:Nat,t1=(i:Int):=⟨t1.toNat,by omega⟩
 obtain ⟨k,rfl⟩:∃k:Nat,t2=(k:Int):=⟨t2.toNat,by omega⟩
 have hi:i < m + 1:=by omega
 have hk:k < m + 1:=by omega
 obtain ⟨pi,m1,i1,x1⟩:=oH (zs:=pe) (k:=i) (by omega)
 obtain ⟨pk,m2,i2,x2⟩:=oH (zs:=pe) (k:=k) (by omega)
 have y1:pe.getD i (Str.ofString "")=pi:=by rw [List.getD_eq_getElem?_getD,i1]; rfl
 have y2:pe.getD k (Str.ofString "")=pk:=by rw [List.getD_eq_getElem?_getD,i2]; rfl
 have inj:∀x y,x < m + 1→y < m + 1→pe.getD x (Str.ofString "")=pe.getD y (Str.ofString "")→x=y:=fun x y hx hy e=>by
  rw [List.getD_eq_getElem?_getD,List.getD_eq_getElem?_getD,List.getElem?_eq_getElem (show x < pe.length by omega),List.getElem?_eq_getElem (show y < pe.length by omega)] at e
  exact p7 pn (List.getElem?_eq_getElem (show x < pe.length by omega)) ((List.getElem?_eq_getElem (show y < pe.length by omega)).trans (congrArg some e.symm))
 have R:=K8 hw inj hi hk
 simp only [y1,y2] at R
 obtain ⟨o,e3,_,ho⟩:=rD (C:=C2) hN hP hG z a1 b1 70 day pi pk
 have eo:=(ho fun z=>z.elim (pz _ m1).2 (pz _ m2).2).unique R
 have s1:=Eg (C:=C2) 1 o (fun r e=>by
  rw [eo] at e
  split at e
  ·cases e
   unfold seg
   rw [List.length_map,List.length_range]
   omega
  ·cases e)
 have l1:ur (.int (i:Int)) (.int (k:Int))=some (.im (.bool (decide ((i:Int)≤k)))):=rfl
 have c:=Ug ur vA (aA 14) (aA 10) (aA 17) (env:=uv b zs ((m:Int) + 1) pv pe (.str z) (ie z a1 b1 70) day nu lv gap v11 iY Lg (some (.im (.int i))) (some (.im (cP ht))) yK (some (.im (.int k))) Am) (C:=C2) (a:=decide ((i:Int)≤gap)) (b:=decide ((gap:Int) < k)) rfl rfl rfl rfl rfl
 simp only [uv] at c
 by_cases h:i≤k∧¬(i≤gap∧gap < k)
 ·rw [if_pos h] at eo
  subst eo
  have h1:decide ((i:Int)≤k)=true:=decide_eq_true (by omega)
  have h2:(decide ((i:Int)≤gap)&&decide ((gap:Int) < k))=false:=by
   rw [Bool.and_eq_false_iff,decide_eq_false_iff_not,decide_eq_false_iff_not]
   omega
  have ct:=Jw PyData.int (xs:=nu) (a:=i) (b:=k) h.1 (by omega)
  rw [←Ti (by omega)] at ct
  simp only [Ed,still] at e3 s1
  refine gg ⟨C2,some (.im (.int i)),some (.im (.int k)),some (.ow (.list ((seg (fun k=>nu.getD k 0) i (k - i)).map .int))),?_,hB2⟩
  simp only [uv]
  simp_arith [cu,e1,e2,h1,↓c,h2,wX,tY,Ov,ct,x1,x2,e3,s1]
 ·rw [if_neg h] at eo
  subst eo
  simp only [Ed,still] at e3 s1
  refine gg ⟨C2,some (.im (.int i)),some (.im (.int k)),some (.im .none),?_,hB2⟩
  simp only [uv]
  by_cases h1:i≤k
  ·have h2:(decide ((i:Int)≤gap)&&decide ((gap:Int) < k))=true:=by
    rw [Bool.and_eq_true,decide_eq_true_eq,decide_eq_true_eq]
    omega
   have h1:decide ((i:Int)≤k)=true:=decide_eq_true (by omega)
   simp_arith [cu,e1,e2,h1,↓c,h2,x1,x2,e3,s1]
  ·have h1:decide ((i:Int)≤k)=false:=decide_eq_false (by omega)
   simp_arith [cu,e1,e2,h1,x1,x2,e3,s1]
theorem WQ {zs pe own os:List Str} {ps':List (Str×Str)} {lv lv':List cL} {day:Int} {a1 b1:Str} {gap m:Nat} {nu:List Int} (pm:lv'.Perm lv) (hl:lv.length=m) (nl:nu.length=m) (pl:pe.length=m + 1) (hr:∀k r,lv[k]?=some r→∃num g t,nu[k]?=some num∧pe[k]?=some g∧pe[k + 1]?=some t∧Tg zs own os day a1 b1 k (gap:Int) num g t r):
  WN (pD ⟨ps',[],lv',[]⟩ os 70 day a1 b1) (fun k=>pe.getD k (Str.ofString "")) (fun k=>nu.getD k 0) (m + 1) gap:=fun n p q=>by
 have gd:∀{α:Type} {l:List α} {k:Nat} {x d:α},l[k]?=some x→l.getD k d=x:=fun {α l k x d} h=>by rw [List.getD_eq_getElem?_getD,h]; rfl
 unfold pD
 rw [List.mem_map]
 constructor
 ·rintro ⟨r,hm,e⟩
  obtain ⟨h1,h2⟩:=List.mem_filter.mp hm
  obtain ⟨k,hk,rfl⟩:=List.getElem_of_mem (pm.mem_iff.mp h1)
  obtain ⟨num,g,t,e1,e2,e3,A⟩:=hr k _ (List.getElem?_eq_getElem hk)
  rw [A.lets,Bool.not_eq_true',decide_eq_false_iff_not] at h2
  injection e with f1 f2
  injection f2 with f2 f3
  refine ⟨k,by omega,by omega,?_,?_,?_⟩
  ·show n=nu.getD k 0
   rw [gd e1,←f1,A.num]
  ·show p=pe.getD k _
   rw [gd e2,←f2,A.giver]
  ·show q=pe.getD (k + 1) _
   rw [gd e3,←f3,A.taker]
 ·rintro ⟨k,h1,h2,rfl,rfl,rfl⟩
  have hk:k < lv.length:=by omega
  obtain ⟨num,g,t,e1,e2,e3,A⟩:=hr k _ (List.getElem?_eq_getElem hk)
  refine ⟨lv[k],List.mem_filter.mpr ⟨pm.mem_iff.mpr (List.getElem_mem hk),?_⟩,?_⟩
  ·rw [A.lets,decide_eq_false (by omega)]
   rfl
  ·show (lv[k].1,lv[k].2.1,lv[k].2.2.1)=(nu.getD k 0,pe.getD k _,pe.getD (k + 1) _)
   rw [A.num,A.giver,A.taker,gd e1,gd e2,gd e3]
theorem Ek {C:Ce} {b L j:Nat} (hB:Bl L C b (j + 300)):∃C',dR [.ce b] C=some (.im (.bool true),C')∧Bl L C' b j:=by
 refine hide fun GG gg=>?_
 obtain ⟨zs,C1,e1,hN,h30,yW⟩:=Qe (m:=30) (j:=j + 288) hB (by decide) (by decide)
 have h30:zs.length=30:=h30
 obtain ⟨t1,C2,e2,a0,a1,hB2⟩:=bQ (m:=16) (k:=j + 287) yW (by decide) (by decide)
 obtain ⟨m,hm⟩:∃m:Nat,2 + t1=(m:Int) + 1:=⟨t1.toNat + 1,by omega⟩
 have m1:1≤m:=by omega
 have m2:m≤16:=by omega
 have hm2:(m:Int) + 1 - 1=m:=by omega
 obtain ⟨t2,C3,e3,b0,b1,hB3⟩:=bQ (m:=8) (k:=j + 286) hB2 (by decide) (by decide)
 have ct:=G8 (zs:=zs) (m:=1 + t2) (by omega) (by omega)
 have tl:(zs.take (1 + t2).toNat).length=(1 + t2).toNat:=by rw [List.length_take]; omega
 obtain ⟨ps,C4,e4,hP,pl,S8⟩:=K1 (j:=j + 270) (zs:=zs.take (1 + t2).toNat) hB3 (by omega) ⟨hN.1.sublist (List.take_sublist _ _),fun z hz=>hN.2 z (List.mem_of_mem_take hz)⟩
 have hP:=G9 hP
 have p0:0 < ps.length:=by omega
 have p8:ps.length≤8:=by omega
 have ln:=K7 ps
 have Uj:=Jw PyData.str (xs:=zs) (a:=9) (b:=9 + (m + 1)) (by omega) (by omega)
 rw [show 9 + (m + 1) - 9=m + 1 by omega,show ((9 + (m + 1):Nat):Int)=9 + ((m:Int) + 1) by omega] at Uj
 have Uj:xK (zs.map PyData.str) (some 9) (some (9 + ((m:Int) + 1)))=_:=Uj
 obtain ⟨pe,hpe⟩:∃pe,pe=(zs.drop 9).take (m + 1):=⟨_,rfl⟩
 rw [←hpe] at Uj
 have pl1:pe.length=m + 1:=by rw [hpe,List.length_take,List.length_drop]; omega
 have pat:∀k x,pe[k]?=some x→zs[9 + k]?=some x∧k < m + 1:=fun k x h=>by
  rw [hpe,List.getElem?_take] at h
  split at h
  ·rw [List.getElem?_drop] at h
   exact ⟨h,by assumption⟩
  ·cases h
 obtain ⟨t3,C5,e5,c0,c1,hB5⟩:=bQ (m:=(ps.length:Int)) (k:=j + 269) S8 (by omega) (by omega)
 obtain ⟨z,hz,mz,xz⟩:=Td hP c0 c1
 obtain ⟨u,mu,iu,xu⟩:=oH (zs:=zs) (k:=27) (by omega)
 obtain ⟨v,mv,iv,xv⟩:=oH (zs:=zs) (k:=28) (by omega)
 obtain ⟨x9,m9,i9,y9⟩:=oH (zs:=zs) (k:=29) (by omega)
 obtain ⟨t4,C6,e6,f0,f1,hB6⟩:=bQ (m:=5) (k:=j + 268) hB5 (by decide) (by decide)
 obtain ⟨ns,C7,e7,nl,hn,rise,hB7⟩:=K3 (j:=j + 167) (m:=(m:Int)) hB6 (by omega) (by omega)
 rw [Int.toNat_natCast] at nl
 obtain ⟨nu,C8,e8,pn,hB8⟩:=Tf (D:=PyData.int) Qm (xs:=ns) (j:=j + 151) (by omega) (hB7.mono (by omega))
 have Zw:nu.length=m:=by rw [pn.length_eq,nl]
 have pz:∀x∈pe,x∈zs∧¬(x=u∨x=v):=fun x hx=>by
  obtain ⟨k,hk,rfl⟩:=List.getElem_of_mem hx
  obtain ⟨h1,h2⟩:=pat k _ (List.getElem?_eq_getElem hk)
  refine ⟨List.mem_of_getElem? h1,fun z=>?_⟩
  rcases z with z | z
  ·rw [z] at h1
   have:=p7 hN.1 h1 iu
   omega
  ·rw [z] at h1
   have:=p7 hN.1 h1 iv
   omega
 have px:∀i,i < m + 1→x9≠pe.getD i (Str.ofString ""):=fun i hi e=>by
  rw [List.getD_eq_getElem?_getD,List.getElem?_eq_getElem (show i < pe.length by omega)] at e
  obtain ⟨h1,h2⟩:=pat i _ (List.getElem?_eq_getElem (show i < pe.length by omega))
  have e:x9=pe[i]:=e
  rw [←e] at h1
  have:=p7 hN.1 h1 i9
  omega
 have pnd:pe.Nodup:=by rw [hpe]; exact hN.1.sublist ((List.take_sublist _ _).trans (List.drop_sublist _ _))
 have Zx:¬(x9=u∨x9=v):=fun z=>by
  rcases z with z | z
  ·have:=p7 hN.1 i9 (by rw [z]; exact iu)
   omega
  ·have:=p7 hN.1 i9 (by rw [z]; exact iv)
   omega
 have fin:∀(gap:Nat) (C9:Ce),Bl L C9 b (j + 149)→(jt (fTst (aF kZ (au (fCal aL (aCons (fVar 0) (aCons (fCst (.int 2)) aNil)))) (au (fCst (.int 0))))) (fSet 10 (fCal aL (aCons (fVar 0) (aCons (aF oV (aA 2) (au (fCst (.int 1)))) aNil)))) fNext (uv b zs ((m:Int) + 1) (.ow (.dict (cD (bF ps)))) pe (.str z) (ie z u v 70) (5 + t4) nu [] ((m:Int) + 1) none none none none none none none none) C8=some (.nx,uv b zs ((m:Int) + 1) (.ow (.dict (cD (bF ps)))) pe (.str z) (ie z u v 70) (5 + t4) nu [] (gap:Int) none none none none none none none none,C9))→GG:=fun gap C9 hB9 e9=>by
  obtain ⟨lv,C10,pv,w11,w12,w13,w14,e10,hpv,hl,hr,WR⟩:=K9 (a1:=u) (b1:=v) (many:=(m:Int) + 1) (gap:=(gap:Int)) (day:=5 + t4) (j:=j + 85) (m:=m) (hB9.mono (by omega)) m2 hN hP p8 hz (by omega) (by omega) (fun x hx=>hn x (pn.mem_iff.mp hx)) Zw pl1 pz pnd none none none none
  obtain ⟨lv',pm,e11⟩:=Tj lv (by omega) (by omega)
  obtain ⟨ps',p1,e12⟩:=Ec (C:=C10) p0 p8 lv'
  have lm:lv'.map (·.1)=lv'.map (·.1):=rfl
  have nums:lv.map (·.1)=nu:=by
   refine List.ext_getElem (by rw [List.length_map,hl,Zw]) fun i h1 h2=>?_
   rw [List.getElem_map]
   rw [List.length_map] at h1
   obtain ⟨num,g,t,q1,_,_,A⟩:=hr i _ (List.getElem?_eq_getElem h1)
   rw [A.num]
   rw [List.getElem?_eq_getElem h2] at q1
   exact (Option.some.inj q1).symm
  have hG:fZ zs ps ⟨ps',[],lv',[]⟩:=WM p1 p8 (by rw [pm.length_eq]; omega) (fun r h=>by
    obtain ⟨k,hk,rfl⟩:=List.getElem_of_mem (pm.mem_iff.mp h)
    obtain ⟨_,_,_,_,_,_,A⟩:=hr k _ (List.getElem?_eq_getElem hk)
    exact A.ok) ((pm.map (·.1)).nodup_iff.mpr (by rw [nums]; exact pn.nodup_iff.mpr (rise.imp fun h=>Int.ne_of_lt h)))
  have hw:=WQ (ps':=ps') pm hl Zw pl1 hr
  obtain ⟨env',C11,YM,ad7,w16,w17,w18,he,aaV⟩:=gw (g:=gNm 16) (body:=cu) (its:=gk 0 12) (env:=uv b zs ((m:Int) + 1) pv pe (.str z) (ie z u v 70) (5 + t4) nu lv gap w11 w12 w13 w14 (some (.im (cP ⟨ps',[],lv',[]⟩))) none none none) (C:=C10)
   (fun i env C2=>∃w14 w16 w17 w18,env=uv b zs ((m:Int) + 1) pv pe (.str z) (ie z u v 70) (5 + t4) nu lv gap w11 w12 w13 w14 (some (.im (cP ⟨ps',[],lv',[]⟩))) w16 w17 w18∧Bl L C2 b (j + 61 + 2 * (12 - i)))
   ⟨w14,none,none,none,rfl,WR⟩ (fun i d env C2 hd hI=>by
    obtain ⟨x14,x16,x17,x18,rfl,hB⟩:=hI
    obtain ⟨rfl,hi⟩:=lC hd
    rw [Jj (j + 61) 2 hi] at hB
    obtain ⟨C3,y14,y17,y18,e,hB3⟩:=Tn (pv:=pv) (lv:=lv) hB hN hP hG m2 Zw pl1 hw pnd pz w11 w12 w13 x14 (some (.im (.int (0 + (i:Int))))) x17 x18
    exact ⟨_,.nx,_,C3,rfl,e,.inl rfl,_,_,_,_,rfl,hB3⟩)
  have YQ:Bl L C11 b (j + 61):=aaV
  subst he
  obtain ⟨q0,mq,iq,xq⟩:=oH (zs:=pe) (k:=0) (by omega)
  have yq:pe.getD 0 (Str.ofString "")=q0:=by rw [List.getD_eq_getElem?_getD,iq]; rfl
  have inj:∀x y,x < m + 1→y < m + 1→pe.getD x (Str.ofString "")=pe.getD y (Str.ofString "")→x=y:=fun x y hx hy e=>by
   rw [List.getD_eq_getElem?_getD,List.getD_eq_getElem?_getD,List.getElem?_eq_getElem (show x < pe.length by omega),List.getElem?_eq_getElem (show y < pe.length by omega)] at e
   exact p7 pnd (List.getElem?_eq_getElem (show x < pe.length by omega)) ((List.getElem?_eq_getElem (show y < pe.length by omega)).trans (congrArg some e.symm))
  obtain ⟨o1,r1,_,g1⟩:=rD (C:=C11) hN hP hG z u v 70 (5 + t4) x9 x9
  have g1:o1=some []:=(g1 fun z=>z.elim Zx Zx).unique (jk.self _ x9)
  obtain ⟨o2,r2,_,g2⟩:=rD (C:=C11) hN hP hG z u v 70 (5 + t4) x9 q0
  have g2:o2=none:=(g2 fun z=>z.elim Zx (pz _ mq).2).unique (Ei hw px (by rw [←yq]; exact px 0 (by omega)))
  obtain ⟨o3,r3,_,g3⟩:=rD (C:=C11) hN hP hG z u v 70 (5 + t4) q0 x9
  have g3:o3=none:=(g3 fun z=>z.elim (pz _ mq).2 Zx).unique (by have:=Ej hw inj (i:=0) px (by omega); rw [yq] at this; exact this)
  subst g1 g2 g3
  have s1:=Eg (C:=C11) 1 (some []) (fun r e=>by cases e; exact Nat.zero_le _)
  simp only [Ed,still,List.map_nil] at r1 r2 r3 s1
  have hl:=hB.eq YQ
  refine gg ⟨C11,cI [some (.ce b),none,none,none,none,none,none,none,none,none,none,none,none,none,none,none,none,none,none] rfl rfl ?_ rfl hl,YQ.mono (by omega)⟩
  have xu:ju (zs.map PyData.str) 27=some (.str u):=xu
  have xv:ju (zs.map PyData.str) 28=some (.str v):=xv
  have y9:ju (zs.map PyData.str) 29=some (.str x9):=y9
  have xq:ju (pe.map PyData.str) 0=some (.str q0):=xq
  simp only [uv,List.map_nil] at e9 e10 YM
  have z1:-1000000≤(m:Int):=by omega
  have z2:(m:Int)≤1000000:=by omega
  have YM:jg (gNm 16) cu (gk 0 (Int.toNat 12)) _ _=_:=YM
  rcases hpv with rfl | rfl
  ·simp_arith [iR,e1,e2,hm,e3,wX,tY,I9,Ov,ct,e4,Uj,ln,e5,xz,xu,xv,e6,hm2,e7,e8,↓e9,jN,sJ,wu (m:=(m:Int)) z1 z2,Int.toNat_natCast,e10,e11,e12,Jv,wu (m:=12) (by omega) (by omega),YM,y9,r1,s1,xq,r2,r3,vD,vC,isNone]
  ·simp_arith [iR,e1,e2,hm,e3,wX,tY,I9,Ov,ct,e4,Uj,ln,e5,xz,xu,xv,e6,hm2,e7,e8,↓e9,jN,sJ,wu (m:=(m:Int)) z1 z2,Int.toNat_natCast,e10,e11,e12,Jv,wu (m:=12) (by omega) (by omega),YM,y9,r1,s1,xq,r2,r3,vD,vC,isNone]
 obtain ⟨t5,C9,e9,g0,g1,hB9⟩:=bQ (m:=2) (k:=j + 150) hB8 (by decide) (by decide)
 by_cases ht:t5=0
 ·have hd:(t5==0)=true:=beq_iff_eq.mpr ht
  obtain ⟨t6,C10,e10,h0,h1,WR⟩:=bQ (m:=(m:Int)) (k:=j + 149) hB9 (by omega) (by omega)
  obtain ⟨gap,rfl⟩:∃gap:Nat,t6=(gap:Int):=⟨t6.toNat,by omega⟩
  exact fin gap C10 WR (by simp only [uv]; simp_arith [e9,hd,hm2,e10])
 ·have hd:(t5==0)=false:=beq_eq_false_iff_ne.mpr ht
  have hc:(((m + 1:Nat)):Int)=(m:Int) + 1:=rfl
  exact fin (m + 1) C9 hB9.dec (by simp only [uv,hc]; simp_arith [e9,hd])
theorem Qo (ns:List Int) (h:ns.length≤63):∃C',yU [.sc ns] []=some (.im (.bool true),C'):=by
 obtain ⟨m,hm,m1,m2⟩:∃m:Int,(1 + if (ns.length:Int) < 4 then (ns.length:Int) else 4)=m∧0≤m∧m≤7:=⟨_,rfl,by split <;> omega,by split <;> omega⟩
 obtain ⟨env',C',e,he⟩:=gw (g:=gNm 1) (body:=wK) (its:=gk 0 m.toNat) (env:=[some (.sc ns),none,none]) (C:=[])
  (fun i env C1=>∃v1 v2,env=[some (.sc ns),v1,v2]) ⟨_,_,rfl⟩ (fun i d env C1 hd hI=>by
   obtain ⟨v1,v2,rfl⟩:=hI
   obtain ⟨rfl,hi⟩:=lC hd
   obtain ⟨x,y,hb,x0⟩:=P0 (C:=C1) (ns:=ns) (k:=0 + (i:Int)) (by omega) (by omega)
   have hB:=Ws (y:=y) C1 x0
   obtain ⟨C2,e2,hB2⟩:=Ek (j:=799700) hB
   obtain ⟨C3,e3,hB3⟩:=Ek (j:=799400) hB2
   refine ⟨_,.nx,[some (.sc ns),some (.im (.int (0 + (i:Int)))),some (.ce C1.length)],C3,rfl,?_,.inl rfl,_,_,rfl⟩
   simp_arith [wK,N7,hb,intsOf,e2,e3])
 refine ⟨C'.take 0,?_⟩
 unfold yU fN
 rw [if_pos (show [Vl.sc ns].length=1 from rfl),show ([Vl.sc ns].map some++List.replicate (3 - [Vl.sc ns].length) none)=[some (.sc ns),none,none] from rfl]
 simp_arith [PK,jN,sJ,tW,Ab,hm,wu (m:=m) (by omega) (by omega),e,yC]
theorem all_mk {l:PySem.W.OpenLaw} {w:World} {K:PySem.W.Frag} {h:Heap} {mg:Str→Option Value} {fa:Addr} (X:K.In h) (G:h.Ns mainGlobals mg) (hfa:mg "law"=some (.ref fa))
  {f0 f1 f2 f3 f4 f5 f6 f7 f8 f9 f10 f11 Zy Zz ZC ZD ZF ZG f18:Addr} {od0 an0 od1 an1 od2 an2 od3 an3 od4 an4 od5 an5 od6 an6 od7 an7 od8 an8 od9 an9 aaY aaZ aa0 aa1 aa2 aa3 aa4 aa5 aa6 aa7 aa8 aa9 aba abb abd abe abf YS:Option Addr} {sl0 sl1 sl2 sl3 sl4 sl5 sl6 sl7 sl8 sl9 abg abh abi abj abk abl abm abn abo:Array (Option Value)} {oc0 kV0 dc0 pm0 cd0 ct0 oc1 kV1 dc1 pm1 cd1 ct1 oc2 kV2 dc2 pm2 cd2 Uj oc3 kV3 dc3 pm3 cd3 ct3 oc4 kV4 dc4 pm4 cd4 ct4 oc5 kV5 dc5 pm5 cd5 ct5 oc6 kV6 dc6 pm6 cd6 ct6 oc7 kV7 dc7 pm7 cd7 ct7 oc8 kV8 dc8 pm8 cd8 ct8 oc9 kV9 dc9 pm9 cd9 ct9 abp abq abr abt YT abu abv abw abx aby YW abz abA abB abC abD YX abE abF abG abH abI YZ abJ abK abL abM abN Y0 abO abP abQ abR abS Y4 abT abU abV abW abX Y5 abY abZ ab0 ab1 ab2 Y6 ab3 ab4 Y7 Y8 Y9 WT Za:Value}
  (a0:PySem.W.nsIn K mainGlobals "parts_over"=some (some (.ref f0))) (l0:K.lookup f0=some ⟨oc0,od0,.func (PySem.W.fnOf "parts_over" "parts_over" (bN cZ) (bH cZ) (aC cZ) .none kV0 dc0 pm0 an0 cd0 ct0),sl0⟩) (c0:PySem.W.codeIn K cd0 "parts_over"=true) (k0:PySem.W.keepIn K (.ref f0)=true)
  (a1:PySem.W.nsIn K mainGlobals "row_of"=some (some (.ref f1))) (l1:K.lookup f1=some ⟨oc1,od1,.func (PySem.W.fnOf "row_of" "row_of" (bN j5) (bH j5) (aC j5) .none kV1 dc1 pm1 an1 cd1 ct1),sl1⟩) (c1:PySem.W.codeIn K cd1 "row_of"=true) (k1:PySem.W.keepIn K (.ref f1)=true)
  (a2:PySem.W.nsIn K mainGlobals "is_side"=some (some (.ref f2))) (l2:K.lookup f2=some ⟨oc2,od2,.func (PySem.W.fnOf "is_side" "is_side" (bN iZ) (bH iZ) (aC iZ) .none kV2 dc2 pm2 an2 cd2 Uj),sl2⟩) (c2:PySem.W.codeIn K cd2 "is_side"=true) (k2:PySem.W.keepIn K (.ref f2)=true)
  (a3:PySem.W.nsIn K mainGlobals "ways_on"=some (some (.ref f3))) (l3:K.lookup f3=some ⟨oc3,od3,.func (PySem.W.fnOf "ways_on" "ways_on" (bN gA) (bH gA) (aC gA) .none kV3 dc3 pm3 an3 cd3 ct3),sl3⟩) (c3:PySem.W.codeIn K cd3 "ways_on"=true) (k3:PySem.W.keepIn K (.ref f3)=true)
  (a4:PySem.W.nsIn K mainGlobals "first_row"=some (some (.ref f4))) (l4:K.lookup f4=some ⟨oc4,od4,.func (PySem.W.fnOf "first_row" "first_row" (bN fH) (bH fH) (aC fH) .none kV4 dc4 pm4 an4 cd4 ct4),sl4⟩) (c4:PySem.W.codeIn K cd4 "first_row"=true) (k4:PySem.W.keepIn K (.ref f4)=true)
  (a5:PySem.W.nsIn K mainGlobals "nearer_way"=some (some (.ref f5))) (l5:K.lookup f5=some ⟨oc5,od5,.func (PySem.W.fnOf "nearer_way" "nearer_way" (bN dg) (bH dg) (aC dg) .none kV5 dc5 pm5 an5 cd5 ct5),sl5⟩) (c5:PySem.W.codeIn K cd5 "nearer_way"=true) (k5:PySem.W.keepIn K (.ref f5)=true)
  (a6:PySem.W.nsIn K mainGlobals "steps_to"=some (some (.ref f6))) (l6:K.lookup f6=some ⟨oc6,od6,.func (PySem.W.fnOf "steps_to" "steps_to" (bN eZ) (bH eZ) (aC eZ) .none kV6 dc6 pm6 an6 cd6 ct6),sl6⟩) (c6:PySem.W.codeIn K cd6 "steps_to"=true) (k6:PySem.W.keepIn K (.ref f6)=true)
  (a7:PySem.W.nsIn K mainGlobals "_law_mix"=some (some (.ref f7))) (l7:K.lookup f7=some ⟨oc7,od7,.func (PySem.W.fnOf "_law_mix" "_law_mix" (bN sX) (bH sX) (aC sX) .none kV7 dc7 pm7 an7 cd7 ct7),sl7⟩) (c7:PySem.W.codeIn K cd7 "_law_mix"=true) (k7:PySem.W.keepIn K (.ref f7)=true)
  (a8:PySem.W.nsIn K mainGlobals "_law_drawn_from"=some (some (.ref f8))) (l8:K.lookup f8=some ⟨oc8,od8,.func (PySem.W.fnOf "_law_drawn_from" "_law_drawn_from" (bN dj) (bH dj) (aC dj) .none kV8 dc8 pm8 an8 cd8 ct8),sl8⟩) (c8:PySem.W.codeIn K cd8 "_law_drawn_from"=true) (k8:PySem.W.keepIn K (.ref f8)=true)
  (a9:PySem.W.nsIn K mainGlobals "_law_pick"=some (some (.ref f9))) (l9:K.lookup f9=some ⟨oc9,od9,.func (PySem.W.fnOf "_law_pick" "_law_pick" (bN oF) (bH oF) (aC oF) .none kV9 dc9 pm9 an9 cd9 ct9),sl9⟩) (c9:PySem.W.codeIn K cd9 "_law_pick"=true) (k9:PySem.W.keepIn K (.ref f9)=true)
  (a10:PySem.W.nsIn K mainGlobals "_law_same"=some (some (.ref f10))) (l10:K.lookup f10=some ⟨abp,aaY,.func (PySem.W.fnOf "_law_same" "_law_same" (bN jB) (bH jB) (aC jB) .none abq abr abt aaZ YT abu),abg⟩) (c10:PySem.W.codeIn K YT "_law_same"=true) (k10:PySem.W.keepIn K (.ref f10)=true)
  (a11:PySem.W.nsIn K mainGlobals "_law_some_names"=some (some (.ref f11))) (l11:K.lookup f11=some ⟨abv,aa0,.func (PySem.W.fnOf "_law_some_names" "_law_some_names" (bN bI) (bH bI) (aC bI) .none abw abx aby aa1 YW abz),abh⟩) (c11:PySem.W.codeIn K YW "_law_some_names"=true) (k11:PySem.W.keepIn K (.ref f11)=true)
  (a12:PySem.W.nsIn K mainGlobals "_law_shuffled"=some (some (.ref Zy))) (l12:K.lookup Zy=some ⟨abA,aa2,.func (PySem.W.fnOf "_law_shuffled" "_law_shuffled" (bN fJ) (bH fJ) (aC fJ) .none abB abC abD aa3 YX abE),abi⟩) (c12:PySem.W.codeIn K YX "_law_shuffled"=true) (k12:PySem.W.keepIn K (.ref Zy)=true)
  (a13:PySem.W.nsIn K mainGlobals "_law_some_parts"=some (some (.ref Zz))) (l13:K.lookup Zz=some ⟨abF,aa4,.func (PySem.W.fnOf "_law_some_parts" "_law_some_parts" (bN dm) (bH dm) (aC dm) .none abG abH abI aa5 YZ abJ),abj⟩) (c13:PySem.W.codeIn K YZ "_law_some_parts"=true) (k13:PySem.W.keepIn K (.ref Zz)=true)
  (a14:PySem.W.nsIn K mainGlobals "_law_parts_over"=some (some (.ref ZC))) (l14:K.lookup ZC=some ⟨abK,aa6,.func (PySem.W.fnOf "_law_parts_over" "_law_parts_over" (bN dw) (bH dw) (aC dw) .none abL abM abN aa7 Y0 abO),abk⟩) (c14:PySem.W.codeIn K Y0 "_law_parts_over"=true) (k14:PySem.W.keepIn K (.ref ZC)=true)
  (a15:PySem.W.nsIn K mainGlobals "_law_rising"=some (some (.ref ZD))) (l15:K.lookup ZD=some ⟨abP,aa8,.func (PySem.W.fnOf "_law_rising" "_law_rising" (bN jb) (bH jb) (aC jb) .none abQ abR abS aa9 Y4 abT),abl⟩) (c15:PySem.W.codeIn K Y4 "_law_rising"=true) (ZJ:PySem.W.keepIn K (.ref ZD)=true)
  (a16:PySem.W.nsIn K mainGlobals "_law_house_of"=some (some (.ref ZF))) (R0:K.lookup ZF=some ⟨abU,aba,.func (PySem.W.fnOf "_law_house_of" "_law_house_of" (bN fK) (bH fK) (aC fK) .none abV abW abX abb Y5 abY),abm⟩) (c16:PySem.W.codeIn K Y5 "_law_house_of"=true) (ZK:PySem.W.keepIn K (.ref ZF)=true)
  (a17:PySem.W.nsIn K mainGlobals "_law_row_right"=some (some (.ref ZG))) (l17:K.lookup ZG=some ⟨abZ,abd,.func (PySem.W.fnOf "_law_row_right" "_law_row_right" (bN dJ) (bH dJ) (aC dJ) .none ab0 ab1 ab2 abe Y6 ab3),abn⟩) (c17:PySem.W.codeIn K Y6 "_law_row_right"=true) (ZL:PySem.W.keepIn K (.ref ZG)=true)
  (a18:PySem.W.nsIn K mainGlobals "law"=some (some (.ref f18))) (l18:K.lookup f18=some ⟨ab4,abf,.func (PySem.W.fnOf "law" "law" (bN rB) (bH rB) (aC rB) .none Y7 Y8 Y9 YS WT Za),abo⟩) (c18:PySem.W.codeIn K WT "law"=true) (k18:PySem.W.keepIn K (.ref f18)=true)
  (yQ:PySem.W.nsIn K mainGlobals "abs"=some none)
  (DR:PySem.W.nsIn K mainGlobals "all"=some none)
  (pY:PySem.W.nsIn K mainGlobals "bool"=some none)
  (gR:PySem.W.nsIn K mainGlobals "enumerate"=some none)
  (yR:PySem.W.nsIn K mainGlobals "int"=some none)
  (aW:PySem.W.nsIn K mainGlobals "isinstance"=some none)
  (nG:PySem.W.nsIn K mainGlobals "len"=some none)
  (nH:PySem.W.nsIn K mainGlobals "list"=some none)
  (yS:PySem.W.nsIn K mainGlobals "min"=some none)
  (dh:PySem.W.nsIn K mainGlobals "range"=some none)
  (jm:PySem.W.nsIn K mainGlobals "sorted"=some none)
  (wI:PySem.W.nsIn K mainGlobals "str"=some none)
  (gJ:PySem.W.nsIn K mainGlobals "tuple"=some none)
  (DW:PySem.W.nsIn K mainGlobals "zip"=some none)
  :∃fd:FuncData,(∀(s:Shared) (v:Value),BindsTo s fd ⟨[v],[]⟩ [("_law_script",v)])∧∀base:Heap,K.In base→base.Ns mainGlobals mg→dB l.prog w K mg base qu 5 fa fd ["_law_script"] (spT K yU):=by
 have e:=hfa.symm.trans (PySem.W.mg_of X G a18)
 cases e
 have T:Txt K mg:=⟨PySem.W.mg_none_of X G yQ,PySem.W.mg_none_of X G DR,PySem.W.mg_none_of X G pY,PySem.W.mg_none_of X G gR,PySem.W.mg_none_of X G yR,PySem.W.mg_none_of X G aW,PySem.W.mg_none_of X G nG,PySem.W.mg_none_of X G nH,PySem.W.mg_none_of X G yS,PySem.W.mg_none_of X G dh,PySem.W.mg_none_of X G jm,PySem.W.mg_none_of X G wI,PySem.W.mg_none_of X G gJ,PySem.W.mg_none_of X G DW⟩
 have F0:=cY (st:=cZ) l0 c0 k0
 have F1:=cY (st:=j5) l1 c1 k1
 have F2:=cY (st:=iZ) l2 c2 k2
 have F3:=cY (st:=gA) l3 c3 k3
 have F4:=cY (st:=fH) l4 c4 k4
 have F5:=cY (st:=dg) l5 c5 k5
 have F6:=cY (st:=eZ) l6 c6 k6
 have F7:=cY (st:=sX) l7 c7 k7
 have F8:=cY (st:=dj) l8 c8 k8
 have F9:=cY (st:=oF) l9 c9 k9
 have F10:=cY (st:=jB) l10 c10 k10
 have F11:=cY (st:=bI) l11 c11 k11
 have F12:=cY (st:=fJ) l12 c12 k12
 have F13:=cY (st:=dm) l13 c13 k13
 have F14:=cY (st:=dw) l14 c14 k14
 have F15:=cY (st:=jb) l15 c15 ZJ
 have F16:=cY (st:=fK) R0 c16 ZK
 have F17:=cY (st:=dJ) l17 c17 ZL
 have F18:=cY (st:=rB) l18 c18 k18
 refine ⟨PySem.W.fnOf "law" "law" (bN rB) (bH rB) (aC rB) .none Y7 Y8 Y9 YS WT Za,fun s v=>.of_eq rfl,fun base _ _=>?_⟩
 have Be:=xO (P:=l.prog) (w:=w) (mg:=mg) (base:=base) F0 T
 have lM:jq l.prog w K mg base "parts_over" 1 (["house","part"]:List Str) (spT K gh):=⟨f0,_,PySem.W.mg_of X G a0,k0,(F0.binds (ps:=(["house","part"]:List Str)) (fun _ _ _ _ _ _ us hl=>match us,hl with | [_,_],_=>rfl)),Be⟩
 have La:=G5 (P:=l.prog) (w:=w) (mg:=mg) (base:=base) F2 T
 have fL:jq l.prog w K mg base "is_side" 1 (["paper","person"]:List Str) (spT K dM):=⟨f2,_,PySem.W.mg_of X G a2,k2,(F2.binds (ps:=(["paper","person"]:List Str)) (fun _ _ _ _ _ _ us hl=>match us,hl with | [_,_],_=>rfl)),La⟩
 have Lb:=G6 (P:=l.prog) (w:=w) (mg:=mg) (base:=base) F3 T lM fL
 have tG:jq l.prog w K mg base "ways_on" 2 (["house","paper","day"]:List Str) (spT K jc):=⟨f3,_,PySem.W.mg_of X G a3,k3,(F3.binds (ps:=(["house","paper","day"]:List Str)) (fun _ _ _ _ _ _ us hl=>match us,hl with | [_,_,_],_=>rfl)),Lb⟩
 have Hf:=DX (P:=l.prog) (w:=w) (mg:=mg) (base:=base) F6 T
 have p6:jq l.prog w K mg base "steps_to" 1 (["ways","signer"]:List Str) (spT K jn):=⟨f6,_,PySem.W.mg_of X G a6,k6,(F6.binds (ps:=(["ways","signer"]:List Str)) (fun _ _ _ _ _ _ us hl=>match us,hl with | [_,_],_=>rfl)),Hf⟩
 have Bg:=xP (P:=l.prog) (w:=w) (mg:=mg) (base:=base) F5 T
 have lN:jq l.prog w K mg base "nearer_way" 1 (["ways","steps","person"]:List Str) (spT K gj):=⟨f5,_,PySem.W.mg_of X G a5,k5,(F5.binds (ps:=(["ways","steps","person"]:List Str)) (fun _ _ _ _ _ _ us hl=>match us,hl with | [_,_,_],_=>rfl)),Bg⟩
 have El:=Aw (P:=l.prog) (w:=w) (mg:=mg) (base:=base) F4 T p6 lN
 have nW:jq l.prog w K mg base "first_row" 2 (["ways","holder","signer"]:List Str) (spT K gU):=⟨f4,_,PySem.W.mg_of X G a4,k4,(F4.binds (ps:=(["ways","holder","signer"]:List Str)) (fun _ _ _ _ _ _ us hl=>match us,hl with | [_,_,_],_=>rfl)),El⟩
 have Qp:=KY (P:=l.prog) (w:=w) (mg:=mg) (base:=base) F1 T fL tG nW
 have j9:jq l.prog w K mg base "row_of" 3 (["house","paper","holder","signer","day"]:List Str) (spT K gW):=⟨f1,_,PySem.W.mg_of X G a1,k1,(F1.binds (ps:=(["house","paper","holder","signer","day"]:List Str)) (fun _ _ _ _ _ _ us hl=>match us,hl with | [_,_,_,_,_],_=>rfl)),Qp⟩
 have WW:=SX (P:=l.prog) (w:=w) (mg:=mg) (base:=base) F7 T
 have Ax:jq l.prog w K mg base "_law_mix" 1 (["_law_cell","_law_k"]:List Str) (spT K tB):=⟨f7,_,PySem.W.mg_of X G a7,k7,(F7.binds (ps:=(["_law_cell","_law_k"]:List Str)) (fun _ _ _ _ _ _ us hl=>match us,hl with | [_,_],_=>rfl)),WW⟩
 have xT:=wL (P:=l.prog) (w:=w) (mg:=mg) (base:=base) F8 T
 have jV:jq l.prog w K mg base "_law_drawn_from" 1 (["_law_script","_law_k"]:List Str) (spT K d9):=⟨f8,_,PySem.W.mg_of X G a8,k8,(F8.binds (ps:=(["_law_script","_law_k"]:List Str)) (fun _ _ _ _ _ _ us hl=>match us,hl with | [_,_],_=>rfl)),xT⟩
 have Tp:=PL (P:=l.prog) (w:=w) (mg:=mg) (base:=base) F9 T Ax
 have aU:jq l.prog w K mg base "_law_pick" 2 (["_law_left","_law_many"]:List Str) (spT K aL):=⟨f9,_,PySem.W.mg_of X G a9,k9,(F9.binds (ps:=(["_law_left","_law_many"]:List Str)) (fun _ _ _ _ _ _ us hl=>match us,hl with | [_,_],_=>rfl)),Tp⟩
 have oG:jq l.prog w K mg base "_law_same" 3 (["_law_found","_law_due"]:List Str) (spT K (dz 3)):=yV (PySem.W.mg_of X G a10) k10 (F10.binds (ps:=(["_law_found","_law_due"]:List Str)) (fun _ _ _ _ _ _ us hl=>match us,hl with | [_,_],_=>rfl)) F10 T 3
 have xU:=wM (P:=l.prog) (w:=w) (mg:=mg) (base:=base) F11 T aU
 have jR:jq l.prog w K mg base "_law_some_names" 3 (["_law_left","_law_many"]:List Str) (spT K eF):=⟨f11,_,PySem.W.mg_of X G a11,k11,(F11.binds (ps:=(["_law_left","_law_many"]:List Str)) (fun _ _ _ _ _ _ us hl=>match us,hl with | [_,_],_=>rfl)),xU⟩
 have Em:=Ay (P:=l.prog) (w:=w) (mg:=mg) (base:=base) F12 T aU
 have nY:jq l.prog w K mg base "_law_shuffled" 3 (["_law_left","_law_things"]:List Str) (spT K gY):=⟨Zy,_,PySem.W.mg_of X G a12,k12,(F12.binds (ps:=(["_law_left","_law_things"]:List Str)) (fun _ _ _ _ _ _ us hl=>match us,hl with | [_,_],_=>rfl)),Em⟩
 have xV:=wN (P:=l.prog) (w:=w) (mg:=mg) (base:=base) F13 T aU
 have jT:jq l.prog w K mg base "_law_some_parts" 3 (["_law_left","_law_names"]:List Str) (spT K eG):=⟨Zz,_,PySem.W.mg_of X G a13,k13,(F13.binds (ps:=(["_law_left","_law_names"]:List Str)) (fun _ _ _ _ _ _ us hl=>match us,hl with | [_,_],_=>rfl)),xV⟩
 have xW:=wO (P:=l.prog) (w:=w) (mg:=mg) (base:=base) F14 T
 have jU:jq l.prog w K mg base "_law_parts_over" 1 (["_law_parts","_law_part"]:List Str) (spT K eN):=⟨ZC,_,PySem.W.mg_of X G a14,k14,(F14.binds (ps:=(["_law_parts","_law_part"]:List Str)) (fun _ _ _ _ _ _ us hl=>match us,hl with | [_,_],_=>rfl)),xW⟩
 have Ld:=G7 (P:=l.prog) (w:=w) (mg:=mg) (base:=base) F15 T aU
 have tH:jq l.prog w K mg base "_law_rising" 3 (["_law_left","_law_many"]:List Str) (spT K j8):=⟨ZD,_,PySem.W.mg_of X G a15,ZJ,(F15.binds (ps:=(["_law_left","_law_many"]:List Str)) (fun _ _ _ _ _ _ us hl=>match us,hl with | [_,_],_=>rfl)),Ld⟩
 have Eo:=Az (P:=l.prog) (w:=w) (mg:=mg) (base:=base) F16 T
 have nZ:jq l.prog w K mg base "_law_house_of" 1 (["_law_parts","_law_leaves"]:List Str) (spT K gZ):=⟨ZF,_,PySem.W.mg_of X G a16,ZK,(F16.binds (ps:=(["_law_parts","_law_leaves"]:List Str)) (fun _ _ _ _ _ _ us hl=>match us,hl with | [_,_],_=>rfl)),Eo⟩
 have Bh:=xQ (P:=l.prog) (w:=w) (mg:=mg) (base:=base) F17 T j9 aU oG jR nY jT jU tH nZ
 have iT:jq l.prog w K mg base "_law_row_right" 4 (["_law_left"]:List Str) (spT K dR):=⟨ZG,_,PySem.W.mg_of X G a17,ZL,(F17.binds (ps:=(["_law_left"]:List Str)) (fun _ _ _ _ _ _ us hl=>match us,hl with | [_],_=>rfl)),Bh⟩
 have o_law:=Wv (P:=l.prog) (w:=w) (mg:=mg) (base:=base) F18 T jV iT
 exact o_law
theorem walk {l:PySem.W.OpenLaw} {q:Program} {loose:List Str} {XP:(Str→Option Value)→Heap→Prop} {YP:World→Heap→Prop} {d:DefRec} {K:Params→PySem.W.Frag} (hn:l.most=some 63) (hdf:d.params.defaults=[])
  (hY:∀(w:World) (h:Heap),YP w h→(K w.params).In h)
  (F:∀(w:World) (mg:Str→Option Value) (fa:Addr) (h:Heap),(K w.params).In h→h.Ns mainGlobals mg→mg d.name=some (.ref fa)→
   ∃fd:FuncData,(∀(s:Shared) (u:Value),BindsTo s fd ⟨[u],[]⟩ [("_law_script",u)])∧∀base:Heap,(K w.params).In base→base.Ns mainGlobals mg→dB l.prog w (K w.params) mg base qu 5 fa fd ["_law_script"] (spT (K w.params) yU)):
  PySem.W.WalkO q loose XP YP l.row.toRowW d [] (fun f vs=>PySem.call f vs):=
 L2.Q7 (n:=63) (k:=5) (x:="_law_script") (CX:=fun _=>qu) (sp:=fun w=>spT (K w.params) yU) hn (by decide) hdf ⟨rfl,by decide,by decide,rfl⟩ hY F (fun _ _ a ns hl _ hS=>let ⟨_,h⟩:=Qo ns hl; Wa hS h) fun _ _ _ _ _ z=>z
end K14
noncomputable def PySem.W.Fast.tw1019359435016736021:Nat:=0
noncomputable def PySem.W.Fast.tw11134856460558794530:Nat:=0
noncomputable def PySem.W.Fast.tw11565006239075054812:Nat:=0
noncomputable def PySem.W.Fast.tw12097975274895067779:Nat:=0
noncomputable def PySem.W.Fast.tw12691023671358442010:Nat:=0
noncomputable def PySem.W.Fast.tw12747154135893168976:Nat:=0
noncomputable def PySem.W.Fast.tw12932916193162060801:Nat:=0
noncomputable def PySem.W.Fast.tw13673836177495953640:Nat:=0
noncomputable def PySem.W.Fast.tw14279339751505103397:Nat:=0
noncomputable def PySem.W.Fast.tw14359278794098690551:Nat:=0
noncomputable def PySem.W.Fast.tw14629291621907589513:Nat:=0
noncomputable def PySem.W.Fast.tw14636337522553941631:Nat:=0
noncomputable def PySem.W.Fast.tw14930759931027284977:Nat:=0
noncomputable def PySem.W.Fast.tw15036277293417011291:Nat:=0
noncomputable def PySem.W.Fast.tw15615805888044096729:Nat:=0
noncomputable def PySem.W.Fast.tw16124931604253511077:Nat:=0
noncomputable def PySem.W.Fast.tw16674504434742635348:Nat:=0
noncomputable def PySem.W.Fast.tw17132132207157594788:Nat:=0
noncomputable def PySem.W.Fast.tw17353513109042920942:Nat:=0
noncomputable def PySem.W.Fast.tw1749054743336008919:Nat:=0
noncomputable def PySem.W.Fast.tw17802479758525479653:Nat:=0
noncomputable def PySem.W.Fast.tw18159817083944505915:Nat:=0
noncomputable def PySem.W.Fast.tw18435144856240617231:Nat:=0
noncomputable def PySem.W.Fast.tw2333749291984871296:Nat:=0
noncomputable def PySem.W.Fast.tw2578897603072174473:Nat:=0
noncomputable def PySem.W.Fast.tw2795175093853804553:Nat:=0
noncomputable def PySem.W.Fast.tw3378948846685613827:Nat:=0
noncomputable def PySem.W.Fast.tw3542004863469254823:Nat:=0
noncomputable def PySem.W.Fast.tw4128465183091393756:Nat:=0
noncomputable def PySem.W.Fast.tw4538430453495226974:Nat:=0
noncomputable def PySem.W.Fast.tw4595071120297773991:Nat:=0
noncomputable def PySem.W.Fast.tw4800525221080515920:Nat:=0
noncomputable def PySem.W.Fast.tw5134271649111634455:Nat:=0
noncomputable def PySem.W.Fast.tw5353414062274449587:Nat:=0
noncomputable def PySem.W.Fast.tw6197321139729798013:Nat:=0
noncomputable def PySem.W.Fast.tw6865206367468317196:Nat:=0
noncomputable def PySem.W.Fast.tw7041231729843099213:Nat:=0
noncomputable def PySem.W.Fast.tw771928034362848561:Nat:=0
noncomputable def PySem.W.Fast.tw798035359552634381:Nat:=0
noncomputable def PySem.W.Fast.tw8353889748062188289:Nat:=0
noncomputable def PySem.W.Fast.tw8649531829843167288:Nat:=0
noncomputable def PySem.W.Fast.tw8796791397677842407:Nat:=0
noncomputable def PySem.W.Fast.tw9010242621616298008:Nat:=0
noncomputable def PySem.W.Fast.tw903695705182797304:Nat:=0
noncomputable def PySem.W.Fast.tw9087020911242433828:Nat:=0
noncomputable def PySem.W.Fast.tw9481371167879356543:Nat:=0
noncomputable def PySem.W.Fast.tw9703704415208682039:Nat:=0
open PySem PySem.W PyProof.Rows
set_option maxRecDepth 100000 in
set_option maxHeartbeats 0 in
theorem PySem.Challenge.cw_rankseals_k14_rows_of_many_leaves_holds : PySem.Challenge.rw_rankseals_k14_rows_of_many_leaves.Holds := by
 w_on; o_law; k_head; (case hw=>w_witness2)
 k_fill
 refine K14.walk (l:=PySem.Challenge.rw_rankseals_k14_rows_of_many_leaves) rfl rfl (fun w h Y=>PySem.W.kIn_of Y) ?F
 case F=>
  intro w mg fa h KX G hmg
  refine' K14.all_mk KX G hmg ?a0 ?l0 ?c0 ?k0 ?a1 ?l1 ?c1 ?k1 ?a2 ?l2 ?c2 ?k2 ?a3 ?l3 ?c3 ?k3 ?a4 ?l4 ?c4 ?k4 ?a5 ?l5 ?c5 ?k5 ?a6 ?l6 ?c6 ?k6 ?a7 ?l7 ?c7 ?k7 ?a8 ?l8 ?c8 ?k8 ?a9 ?l9 ?c9 ?k9 ?a10 ?l10 ?c10 ?k10 ?a11 ?l11 ?c11 ?k11 ?a12 ?l12 ?c12 ?k12 ?a13 ?l13 ?c13 ?k13 ?a14 ?l14 ?c14 ?k14 ?a15 ?l15 ?c15 ?ZJ ?a16 ?R0 ?c16 ?ZK ?a17 ?l17 ?c17 ?ZL ?a18 ?l18 ?c18 ?k18 ?yQ ?DR ?pY ?gR ?yR ?aW ?nG ?nH ?yS ?dh ?jm ?wI ?gJ ?DW
  (case a0=>k_is)
  (case l0=>k_is)
  (case c0=>k_is)
  (case k0=>k_is)
  (case a1=>k_is)
  (case l1=>k_is)
  (case c1=>k_is)
  (case k1=>k_is)
  (case a2=>k_is)
  (case l2=>k_is)
  (case c2=>k_is)
  (case k2=>k_is)
  (case a3=>k_is)
  (case l3=>k_is)
  (case c3=>k_is)
  (case k3=>k_is)
  (case a4=>k_is)
  (case l4=>k_is)
  (case c4=>k_is)
  (case k4=>k_is)
  (case a5=>k_is)
  (case l5=>k_is)
  (case c5=>k_is)
  (case k5=>k_is)
  (case a6=>k_is)
  (case l6=>k_is)
  (case c6=>k_is)
  (case k6=>k_is)
  (case a7=>k_is)
  (case l7=>k_is)
  (case c7=>k_is)
  (case k7=>k_is)
  (case a8=>k_is)
  (case l8=>k_is)
  (case c8=>k_is)
  (case k8=>k_is)
  (case a9=>k_is)
  (case l9=>k_is)
  (case c9=>k_is)
  (case k9=>k_is)
  (case a10=>k_is)
  (case l10=>k_is)
  (case c10=>k_is)
  (case k10=>k_is)
  (case a11=>k_is)
  (case l11=>k_is)
  (case c11=>k_is)
  (case k11=>k_is)
  (case a12=>k_is)
  (case l12=>k_is)
  (case c12=>k_is)
  (case k12=>k_is)
  (case a13=>k_is)
  (case l13=>k_is)
  (case c13=>k_is)
  (case k13=>k_is)
  (case a14=>k_is)
  (case l14=>k_is)
  (case c14=>k_is)
  (case k14=>k_is)
  (case a15=>k_is)
  (case l15=>k_is)
  (case c15=>k_is)
  (case ZJ=>k_is)
  (case a16=>k_is)
  (case R0=>k_is)
  (case c16=>k_is)
  (case ZK=>k_is)
  (case a17=>k_is)
  (case l17=>k_is)
  (case c17=>k_is)
  (case ZL=>k_is)
  (case a18=>k_is)
  (case l18=>k_is)
  (case c18=>k_is)
  (case k18=>k_is)
  (case yQ=>k_is)
  (case DR=>k_is)
  (case pY=>k_is)
  (case gR=>k_is)
  (case yR=>k_is)
  (case aW=>k_is)
  (case nG=>k_is)
  (case nH=>k_is)
  (case yS=>k_is)
  (case dh=>k_is)
  (case jm=>k_is)
  (case wI=>k_is)
  (case gJ=>k_is)
  (case DW=>k_is)
